import PyProof.Rows.All
import Wide.All
import OpenK.AllK
import Wide.FinOn
import Lean
import PySem.Challenge.RW_freshrooms_k64_whole_words_among_words
open PySem.W(Frag kitOne nsIn findIn)
set_option Elab.async false
set_option linter.all false
set_option bootstrap.genMatcherCode false
set_option compiler.extract_closed false
set_option maxRecDepth 100000
set_option tactic.hygienic false
section open Lean(Syntax)
def kC9(s:String)(c:Array Syntax):Syntax:=.node .none ("Lean.Parser."++s).toName c
def kB9(c:Array Syntax):Syntax:=.node .none (.mkSimple "null") c
def kE9(f:Syntax->Syntax)(s:Syntax):Syntax:=s.rewriteBottomUp f
def kA9(s:String):Syntax:=.atom .none s
def kF9(a:Array Syntax):Syntax:=kC9 "Tactic.rcasesPatLo" #[kC9 "Tactic.rcasesPatMed" #[kB9 a],kB9 #[]]
def kG9(s:Syntax):Syntax:=match s with
 |.ident ..=>kC9 "Tactic.rcasesPat.one" #[s]
 |.node _ t c=>match t.toString (escape:=false) with
  |"Lean.Parser.Term.hole"=>kC9 "Tactic.rcasesPat.ignore" c|"Lean.Parser.Term.paren"=>c[1]!
  |"term_∨_"=>kC9 "Tactic.rcasesPat.paren" #[kA9 "(",kF9 #[c[0]!,kA9 "|",c[2]!],kA9 ")"]
  |"term#[_,]"=>kC9 "Tactic.rcasesPat.tuple" #[kA9 "⟨",kB9 (c[1]!.getArgs.map fun(x:Syntax)=>if x.isAtom then x else kF9 #[x]),kA9 "⟩"]|_=>s
 |_=>s
def kH9(s:Syntax):Syntax:=
 let W:=("B C E G H I J L M O R S U V X Y Z e h l p r s u x y i j ß à á â ã ä å æ ç è é ê ë ì í î ï ð ñ ò ó ô õ ö ø ù ú û ü ý þ ÿ".splitOn " ").zip ("length int map heap trans ref toArray toNat tup size inl lst lookup map_cons no env inr str type Nodup toList replicate getD units builtin findIdx symm non elim set Perm prog none cons mpr own Name any and_eq_true names toks Subscript push refl isEmpty RcNeAt drop base scope hok typeIs setIfInBounds eraseIdx fields frz fresh handled mono Call dct".splitOn " ")
 match s with|.ident _ r v p=>.ident .none r (v.components.foldl (fun x y=>match y with|.str _ s=>.str x ((W.lookup s).getD s)|_=>x++y) .anonymous) p|_=>s
def kI9(s:Syntax):Syntax:=match s with
 |.ident _ r v p=>.ident .none r (match v.components with|a::b=>a++(kH9 (.ident .none r (b.foldl (·++·) .anonymous) p)).getId|_=>v) p
 |.node _ t c=>match t.toString (escape:=false) with
  |"Lean.Parser.Term.proj"=>.node .none t (c.modify 2 kH9)
  |"Lean.Parser.Tactic.show"=>kC9 "Tactic.refine" #[kA9 "refine",c[1]!]
  |"Lean.Parser.Tactic.tacticLet__"=>
   let r:=c[2]![0]
   if r.getKind==`Lean.Parser.Term.letPatDecl then kC9 "Tactic.obtain" #[kA9 "obtain",kB9 #[kC9 "Tactic.rcasesPatMed" #[kB9 #[kE9 kG9 r[0]]]],kB9 #[],kB9 #[kA9 ":=",kB9 #[r[4]]]] else kC9 "Tactic.tacticHave__" #[kA9 "have",c[1]!,c[2]!]
  |"Lean.Elab.Tactic.Ext.ext"=>kC9 "Tactic.unfold" #[kA9 "unfold",kB9 (c[1]!.getArgs.map (·[0][0])),kB9 #[]]
  |"term_>_"=>.node .none (.mkSimple "term_∈_") c
  |"Lean.binderPred>_"=>.node .none (.str `Lean "binderPred∈_") c
  |"Lean.Parser.Term.explicit"=>if c[1]!.getKind==`Lean.Parser.Term.app&&c[1]![0].getId.hasMacroScopes then .node .none t #[c[0]!,c[1]![1][0]] else kC9 "Term.app" #[Lean.mkCIdent `Option.some,kB9 #[c[1]!]]
  |"Lean.Parser.Term.dotIdent"=>if c[1]!.getId==`q then kC9 "Term.omission" #[kA9 "⋯"] else .node .none t (c.modify 1 kH9)
  |"Lean.Parser.Tactic.symm"=>kC9 "Tactic.simpAll" #[kA9 "simp_all",kC9 "Tactic.optConfig" #[kB9 #[]],kB9 #[],kB9 #[],kB9 #[]]
  |"Lean.Parser.Tactic.right"=>kC9 "Tactic.dsimp" #[kA9 "dsimp",kC9 "Tactic.optConfig" #[kB9 #[]],kB9 #[],kB9 #[kA9 "only"],kB9 #[],kB9 #[]]
  |"Lean.Parser.Tactic.revert"=>kC9 "Tactic.renameI" #[kA9 "rename_i",kB9 (c[1]!.getArgs.map fun x=>.node .none `Lean.binderIdent #[x])]
  |"Lean.Parser.Tactic.dsimp"=>if c[3]!.getNumArgs==0&&c[4]!.getNumArgs>0 then kC9 "Tactic.simp" #[kA9 "simp",c[1]!,c[2]!,kB9 #[kA9 "only"],c[4]!,c[5]!] else .node .none t c
  |_=>.node .none t c
 |_=>s.setInfo .none
def kD9(d:Syntax):Syntax:=
 let k:=d[1].getKind.toString
 if k=="Lean.Parser.Command.theorem" then kE9 (·.setInfo .none) d else
 let e:=kE9 kI9 d
 if d[0].getPos?.isSome then e else
 let f:=fun _:Unit=>e.setArg 0 (e[0].setArg 4 (kB9 #[kC9 "Command.noncomputable" #[kA9 "noncomputable"]]))
 if k=="Lean.Parser.Command.abbrev" then f () else if k != "Lean.Parser.Command.definition" then e else
 let a:=d[1][2][1][0]
 if a.isMissing||("Bool Int Prop V Hp List Heap Option TIp LA9 R2 St Cx Nat Arguments Scope CXT Ex Own String Ts Ev Sm En Fn Type HO Sl TE TT TS TI TG TGs HeapKind TA Sp D TO Obj Sn Stmt Decidable".splitOn " ").contains (((a[1].reprint.getD "").splitOn "->").getLast!.trim.splitOn " ").head! then f () else
 let s:=e[1][2]
 kC9 "Command.declaration" #[e[0],kC9 "Command.theorem" #[kA9 "theorem",e[1][1],kC9 "Command.declSig" #[s[0],s[1][0]],e[1][3]]]
end
local macro_rules|`(#[$a,*])=>`(⟨$a,*⟩)
local macro_rules|`(⋯)=>`(by first|decide|lia)
local macro_rules|`(tactic|ac_rfl)=>`(tactic|with_unfolding_all rfl)
local macro_rules|`(tactic|exists$e)=>`(tactic|with_unfolding_all exact$e)
local macro_rules|`($a<|>$b)=>`(autoParam $a $b)
local macro_rules|`(~~~$e)=>`(by simpa using$e)
local macro_rules|`(⇑$e)=>`(some $e)
local macro_rules|`(↥$s)=>`(($s).heap.objs.size)
local macro_rules|`(%[$a,*|0])=>`(List.toArray [$a,*])
set_option hygiene false in
local macro_rules|`(∅)=>`(_root_.PySem.wpAny (model X.prog X.w) X.A)
local macro_rules|`(#where)=>`(set_option tactic.hygienic true)
local macro_rules|`($d:declaration)=>match d.1.getHeadInfo with
 |.original ..=>pure (kD9 d.1)
 |.synthetic ..=>pure (kE9 (·.setInfo .none) d.1)
 |_=>throw .unsupportedSyntax
noncomputable section
abbrev VP9:=PySem.Value->PySem.Shared->Prop
abbrev LA9:=List (PySem.Addr×PySem.Obj)
abbrev Kq9(k:List Int):=∀p>k,0<=p/\p<=3
def aA{α}{a:α}{s t:List α}:a>s++t->a>s∨a>t:=List.mem_append.mp
def aB{α}{a b:α}:a=b->a>[b]:=List.mem_singleton.å
def aC{α}{a b:α}:a>[b]->a=b:=List.mem_singleton.mp
def aD{α}{a b:α}{l:List α}:a>b::l->a=b∨a>l:=List.mem_cons.mp
def aF{α}{a:α}{l:List α}{i:Nat}:l[i]?=some a->∃h:i<l.B,l[i]=a:=List.getElem?_eq_some_iff.mp
def aE{α β}{f:α->β}{l:List α}{b:β}:b>l.E f->∃a,a>l∧f a=b:=List.mem_map.mp
local macro_rules|`(tactic|trivial)=>`(tactic|first|exact Or.inl rfl|exact Or.inr rfl)
def Ŕq(_:True:=by rfl):True:=trivial
def Ŕq.z:True:=trivial
open Ŕq renaming _auto_1→Ŕ
def ŕq(_:True:=by decide):True:=trivial
def ŕq.z:True:=trivial
open ŕq renaming _auto_1→ŕ
def Ŗq(_:True:=by intro _;rfl):True:=trivial
def Ŗq.z:True:=trivial
open Ŗq renaming _auto_1→Ŗ
def ŗq(_:True:=by decide +kernel):True:=trivial
def ŗq.z:True:=trivial
open ŗq renaming _auto_1→ŗ
def Řq(_:True:=by first|show .R rfl|show .Z rfl|assumption):True:=trivial
def Řq.z:True:=trivial
open Řq renaming _auto_1→Ř
def řq(_:True:=by first|show Or.R rfl|show Or.Z (Or.R rfl)|show Or.Z (Or.Z rfl)):True:=trivial
def řq.z:True:=trivial
open řq renaming _auto_1→ř
def Śq(_:True:=by trivial):True:=trivial
def Śq.z:True:=trivial
open Śq renaming _auto_1→Ś
def śq(_:True:=by first|show .R rfl|show .Z rfl):True:=trivial
def śq.z:True:=trivial
open śq renaming _auto_1→ś
def _aa{α : Type _}{a b : α}(h:@a=@b):a=b:=Option.some.inj h
def _ab{α : Type _}{a : α}{b : List α}(c : List α)(h:a > b):a > c ++ b:=List.mem_append_right c h
def _ac{α : Type _}{a : α}{b : List α}(c : List α)(h:a > b):a > b ++ c:=List.mem_append_left c h
def _ad{α : Type _}{a : α}{l : List α}(b : α)(h:a > l):a > b::l:=List.mem_cons_of_mem b h
namespace _a
open PySem PySem.Spec PyProof.Rows
def X0:type_of% @@wpAny_bind:=@@wpAny_bind
def X1:type_of% @@List.getElem?_eq_getElem:=@@List.getElem?_eq_getElem
def X2:type_of% @@List.getD_eq_getElem?_getD:=@@List.getD_eq_getElem?_getD
def X3:type_of% @@List.length_map:=@@List.length_map
def X4:type_of% @@Heap.get?_push_of_some:=@@Heap.get?_push_of_some
def X5:type_of% @@List.mem_cons_self:=@@List.mem_cons_self
def X6:type_of% @@wpAny_pure:=@@wpAny_pure
def X7:type_of% @@List.getElem?_map:=@@List.getElem?_map
def X8:type_of% @@Nat.le_refl:=@@Nat.le_refl
def X9:type_of% @@Heap.get?_push_size:=@@Heap.get?_push_size
def Xa:type_of% @@if_pos:=@@if_pos
def Xb:type_of% @@List.length_append:=@@List.length_append
def Xd:type_of% @@List.map_append:=@@List.map_append
def Xe:type_of% @@if_neg:=@@if_neg
def Xf:type_of% @@List.size_toArray:=@@List.size_toArray
def Xg:type_of% @@Heap.lt_size:=@@Heap.lt_size
def Xh:type_of% @@decide_eq_true:=@@decide_eq_true
def Xi:type_of% @@List.map_map:=@@List.map_map
def Xj:type_of% @@List.nodup_append:=@@List.nodup_append
def Xk:type_of% @@List.length_cons:=@@List.length_cons
def Xl:type_of% @@Nat.ne_of_lt:=@@Nat.ne_of_lt
def Xm:type_of% @@decide_eq_false:=@@decide_eq_false
def Xn:type_of% @@List.getElem?_append_left:=@@List.getElem?_append_left
def Xp:type_of% @@Int.toNat_natCast:=@@Int.toNat_natCast
noncomputable def Xq:type_of% @@Nat.lt_of_lt_of_le:=@@Nat.lt_of_lt_of_le
def Xr:type_of% @@List.nodup_nil:=@@List.nodup_nil
def Xs:type_of% @@List.append_assoc:=@@List.append_assoc
def Xu:type_of% @@List.getElem_mem:=@@List.getElem_mem
def Xv:type_of% @@List.append_nil:=@@List.append_nil
def Xw:type_of% @@Heap.SameBut.update:=@@Heap.SameBut.update
def Xx:type_of% @@Heap.get?_update_self:=@@Heap.get?_update_self
def Xy:type_of% @@List.length_singleton:=@@List.length_singleton
def Xz:type_of% @@List.getElem?_eq_none:=@@List.getElem?_eq_none
def Y0:type_of% @@wpAny_call_entry:=@@wpAny_call_entry
def Y1:type_of% @@List.getElem?_append_right:=@@List.getElem?_append_right
def Y2:type_of% @@List.length_range:=@@List.length_range
def Y3:type_of% @@PySem.W.mg_none_of:=@@PySem.W.mg_none_of
def Y4:type_of% @@List.mem_map_of_mem:=@@List.mem_map_of_mem
def Y5:type_of% @@Array.getElem?_eq_getElem:=@@Array.getElem?_eq_getElem
def Y6:type_of% @@PyProof.Rows.callWith_type1:=@@PyProof.Rows.callWith_type1
def Y7:type_of% @@wpAny_newObj_type:=@@wpAny_newObj_type
def Y8:type_of% @@List.not_mem_nil:=@@List.not_mem_nil
def Y9:type_of% @@Array.length_toList:=@@Array.length_toList
def Ya:type_of% @@Nat.zero_le:=@@Nat.zero_le
def Yb:type_of% @@Nat.le_trans:=@@Nat.le_trans
def Yc:type_of% @@wpAny_callSpecial?_slot:=@@wpAny_callSpecial?_slot
def Yd:type_of% @@wpAny_holding:=@@wpAny_holding
def Ye:type_of% @@Array.getElem?_toList:=@@Array.getElem?_toList
def Yf:type_of% @@beq_false_of_ne:=@@beq_false_of_ne
def Yg:type_of% @@List.map_congr_left:=@@List.map_congr_left
def Yh:type_of% @@List.mem_of_getElem?:=@@List.mem_of_getElem?
def Yi:type_of% @@List.findIdx_lt_length_of_exists:=@@List.findIdx_lt_length_of_exists
def Yj:type_of% @@PySem.W.kia_one:=@@PySem.W.kia_one
def Yk:type_of% @@Heap.get?_none_of_le:=@@Heap.get?_none_of_le
def Yl:type_of% @@List.filter_append:=@@List.filter_append
def Ym:type_of% @@wpAny_setField:=@@wpAny_setField
def Yn:type_of% @@Nat.lt_irrefl:=@@Nat.lt_irrefl
def Yo:type_of% @@List.map_inj_right:=@@List.map_inj_right
def Yp:type_of% @@List.mem_cons:=@@List.mem_cons
noncomputable def Yq:type_of% @@of_decide_eq_true:=@@of_decide_eq_true
def Yr:type_of% @@Obj.data_mapFields:=@@Obj.data_mapFields
def Ys:type_of% @@wpAny_truthy_bool:=@@wpAny_truthy_bool
def Yt:type_of% @@Option.isSome_map:=@@Option.isSome_map
def Yu:type_of% @@PySem.mem_of_lookup:=@@PySem.mem_of_lookup
def Yv:type_of% @@List.getElem_of_mem:=@@List.getElem_of_mem
def Yw:type_of% @@List.getElem?_range:=@@List.getElem?_range
def Yx:type_of% @@wpAny_field:=@@wpAny_field
def Yy:type_of% @@List.foldl_cons:=@@List.foldl_cons
def Yz:type_of% @@wpAny_specialOf:=@@wpAny_specialOf
def Z0:type_of% @@Obj.isFreed_of_fields:=@@Obj.isFreed_of_fields
def Z1:type_of% @@Calls.spliced_cons:=@@Calls.spliced_cons
def Z2:type_of% @@wpAny_Call_Name_kw:=@@wpAny_Call_Name_kw
def Z3:type_of% @@Int.emod_lt_of_pos:=@@Int.emod_lt_of_pos
def Z4:type_of% @@List.getElem?_set_ne:=@@List.getElem?_set_ne
def Z5:type_of% @@wpAny_typeNameOfWhole_keyiter:=@@wpAny_typeNameOfWhole_keyiter
def Z6:type_of% @@wpAny_pyIter_list:=@@wpAny_pyIter_list
def Z7:type_of% @@Nat.lt_succ_of_lt:=@@Nat.lt_succ_of_lt
def Z8:type_of% @@codeAny_builtin:=@@codeAny_builtin
def Z9:type_of% @@Heap.get?_update_ne:=@@Heap.get?_update_ne
def Za:type_of% @@Heap.get?_update_other:=@@Heap.get?_update_other
def Zb:type_of% @@Calls.callWith_builtin:=@@Calls.callWith_builtin
def Zc:type_of% @@Nat.le_succ:=@@Nat.le_succ
def Zd:type_of% @@List.any_cons:=@@List.any_cons
def Ze:type_of% @@PySem.W.mg_of:=@@PySem.W.mg_of
def Zf:type_of% @@List.length_take:=@@List.length_take
def Zg:type_of% @@True.intro:=@@True.intro
def Zh:type_of% @@Heap.size_push:=@@Heap.size_push
def Zi:type_of% @@wpAny_rule:=@@wpAny_rule
def Zj:type_of% @@wpAny_fieldsOf:=@@wpAny_fieldsOf
def Zk:type_of% @@List.length_replicate:=@@List.length_replicate
def Zl:type_of% @@wpAny_passesOwn:=@@wpAny_passesOwn
def Zm:type_of% @@List.nodup_cons:=@@List.nodup_cons
def Zn:type_of% @@Int.emod_nonneg:=@@Int.emod_nonneg
def Zo:type_of% @@wpAny_setState_of:=@@wpAny_setState_of
def Zp:type_of% @@List.all_eq_true:=@@List.all_eq_true
noncomputable def Zq:type_of% @@wpAny_isInstance:=@@wpAny_isInstance
def Zr:type_of% @@Nat.ne_of_gt:=@@Nat.ne_of_gt
def Zs:type_of% @@Nat.succ.inj:=@@Nat.succ.inj
end _a
open _a
noncomputable section
namespace L2
open PySem PySem.Spec PyProof.Rows
abbrev Key:=Sum Int Str
def _ae:Key->Value->Bool
 |.R k,v=>Value.isInt k v|.Z x,v=>Value.isStrOf x v
def keyH(w:World):Key->Int
 |.R k=>hashInt k|.Z x=>hashStr w x
def V3:∀{k v},_ae k v=true->(∃i t,k=Sum.R i/\v=Value.C i t)\/(∃x t,k=Sum.Z x/\v=Value.e x t)
 |.R i,v,h=>by
  let#[t,e]:=Value.isInt_shape h;show .R #[i,t,rfl,e]
 |.Z x,v,h=>by
  let#[t,e]:=Value.isStrOf_shape h;show .Z #[x,t,rfl,e]
def _af i t:_ae (.R i) (.C i t)=true:=by simp[_ae,Value.isInt]
def _ag x t:_ae (.Z x) (.e x t)=true:=by simp[_ae,Value.isStrOf]
def _ah(a b):decide ((Sum.R a:Key)=Sum.R b)=(a==b):=by
 by_cases e:a=b
 .subst e;simp
 .grind
def _ai(a b):decide ((Sum.Z a:Key)=Sum.Z b)=decide (a=b):=by
 by_cases e:a=b
 .subst e;simp
 .grind
def _aj a b:decide ((Sum.R a:Key)=Sum.Z b)=false:=Xm (nofun)
def _ak a b:decide ((Sum.Z a:Key)=Sum.R b)=false:=Xm (nofun)
noncomputable def xx(prog:Program)(w:World):PySem.KeyKind prog w Key where
 is:=_ae
 hash:=keyH w
 inj:=λv a b ha hb=>by
  let#[i,t,rfl,rfl]\/#[x,t,rfl,rfl]:=V3 ha
  .let#[j,u,rfl,e]\/#[y,u,rfl,e]:=V3 hb
   .injection e with e1 _;rw[e1]
   .show nomatch e
  .let#[j,u,rfl,e]\/#[y,u,rfl,e]:=V3 hb
   .show nomatch e
   .injection e with e1 _;rw[e1]
 byValue:=λk v h=>by
  let#[i,t,rfl,rfl]\/#[x,t,rfl,rfl]:=V3 h<;>rfl
 pyHash:=λhv h=>by
  let#[i,t,rfl,rfl]\/#[x,t,rfl,rfl]:=V3 hv
  .show wpAny_pyHash_int h
  .show wpAny_pyHash_str h
 eqBool:=λhu hv h=>by
  let#[i,t,rfl,rfl]\/#[x,t,rfl,rfl]:=V3 hu
  .let#[j,u,rfl,rfl]\/#[y,u,rfl,rfl]:=V3 hv
   .rw[_ah]at h;show wpAny_eqBool_int h
   .rw[_aj]at h;show SeqAt.EqAt.int_str i t y u _ _ _ _ h
  .let#[j,u,rfl,rfl]\/#[y,u,rfl,rfl]:=V3 hv
   .rw[_ak]at h;show SeqAt.EqAt.str_int x t j u _ _ _ _ h
   .rw[_ai]at h;show wpAny_eqBool_str h
 «strs»:=λk x t v h=>by
  let#[i,u,rfl,e]\/#[y,u,rfl,e]:=V3 h
  .show nomatch e
  .injection e with e1 _;subst e1;cases v<;>rfl
def _al prog w i t:(xx prog w).is (.R i) (.C i t)=true:=_af i t
def _am prog w x t:(xx prog w).is (.Z x) (.e x t)=true:=_ag x t
inductive V where
 |non|bl (b:Bool)|int (i:Int)|str (x:Str)|byt (b:Array UInt8)|flt (b:UInt64)|ref (a:Addr)|ty (n:String)
 deriving DecidableEq
def RelV:V->Value->Prop
 |.j,u=>u=Value.ã|.bl b,u=>u=Value.bool b|.C i,u=>∃t,u=Value.C i t|.e x,u=>∃t,u=Value.e x t|.byt b,u=>∃t,u=Value.bytes b t|.flt b,u=>∃t,u=Value.float b t|.I a,u=>u=Value.I a|.ty n,u=>u=Value.h n
abbrev Vals:List V->List Value->Prop:=Paired RelV
def Vals.B{xs us}(r:Vals xs us):xs.B=us.B:=Paired.B r
def Vals.get:∀{xs us} {i:Nat} {x},Vals xs us->xs[i]?=@x->∃u,us[i]?=@u/\RelV x u
 |_,_,_,_,.nil,e=>by simp at e|_,_,0,_,.ä r _,e=>by simp at e;subst e;show#[_,rfl,r]
 |_,_,i+1,x,.ä _ t,e=>by
  let#[u,h1,h2]:=Vals.get t (~~~e);show#[u,~~~h1,h2]
def Vals.à{x u}(r:RelV x u):∀{xs us} (i),Vals xs us->Vals (xs.à i x) (us.à i u)
 |_,_,_,.nil=>.nil|_,_,0,.ä _ t=>.ä r t|_,_,i+1,.ä q t=>.ä q (Vals.à r i t)
def Vals.append:∀{xs ys us ws},Vals xs us->Vals ys ws->Vals (xs++ys) (us++ws)
 |_,_,_,_,.nil,s=>s|_,_,_,_,.ä r t,s=>.ä r (Vals.append t s)
def Vals.take:∀{xs us} (n),Vals xs us->Vals (xs.take n) (us.take n)
 |_,_,0,_=>.nil|_,_,_+1,.nil=>.nil|_,_,n+1,.ä r t=>.ä r (Vals.take n t)
def Vals.ñ:∀{xs us} (n),Vals xs us->Vals (xs.ñ n) (us.ñ n)
 |_,_,0,r=>r|_,_,_+1,.nil=>.nil|_,_,n+1,.ä _ t=>Vals.ñ n t
def RelO:Option V->Option Value->Prop
 |some v,@u=>RelV v u|none,none=>True|_,_=>False
def KV{κ:Type}:List (κ×V)->List (κ×Value)->Prop:=Paired λ(p:κ×V) (q:κ×Value)=>p.1=q.1/\RelV p.2 q.2
def kV:Key->V
 |.R i=>.C i|.Z x=>.e x
inductive HO where
 |lst (xs:List V)
 |tup (xs:List V)
 |dK (kvs:List (Key×V))|dT (kvs:List (List Key×V))
 |set (S:Int->Bool) (n:Nat)
 |ins (C dx:Addr) (fs:List (Str×V))
 |own (x:Addr)
 |xd (fs:List (Str×V))
 |met (f x:Addr)
 |rng (lo hi:Int)
 |frz (o:Obj) (u:HO)
 |tbl (ps:Array Value)
 |ext (φ:World->Heap->Prop)
abbrev Hp:=Addr->Option HO
def IsTupD(h:Heap)(a:Addr)(items:Array Value):Prop:=∃o,h.get? a=@o/\o.cls=.h "tuple"/\o.dict=none/\∃n,o.data=.seq items n
def IsTupD.M{h a items}(p:IsTupD h a items):IsTup h a items:=by
 let#[o,e,c,_,n,d]:=p;show⟨o,e,c,n,d⟩
def IsTupD.new(h:Heap) xs:IsTupD (h.í {cls:=.h "tuple",data:=.seq xs}) h.objs.O xs:=⟨_,X9 _ rfl,rfl,rfl,0,rfl⟩
def upd(H:Hp)(a:Addr)(o:HO):Hp:=λb=>if b=a then @o else H b
def wY{H a o}:upd H a o a=@o:=by ext upd;rw[Xa rfl]
def qz{H a b o}(h:b≠a):upd H a o b=H b:=by ext upd;rw[Xe h]
def _an{H:Hp}{a b o u}(h:H a=@o)(h':H b=@u)(d:o≠u):a≠b:=by
 intro e;subst e;rw[h]at h';show d (_aa h')
def KJ{H:Hp}{a b o}(h:H a=@o)(h':H b=none):a≠b:=by
 grind
section
variable (P:Program)(w:World)
def ObjOk(H : Hp)(h : Heap)(a : Addr): HO -> Prop
  |.S xs=>xs.B<=sizeLine /\ ∃(ab : List Value) (n : Nat),Vals xs ab /\ h.get? a = some {cls:= .h "list",data:= .seq ab.J n}|.M xs=>xs.B<=sizeLine /\ ∃ab : List Value,Vals xs ab /\ IsTupD h a ab.J|.dK kvs=>kvs.B<=sizeLine /\ (a==sysModules) = false /\ ∃vs,KV kvs vs /\ h.DictOf (xx P w) a vs
  |.dT kvs=>kvs.B<=sizeLine /\ (a==sysModules) = false /\ ∃xs : List (List Key × Addr × Value),
      Paired (λ(p : List Key × V) (q : List Key × Addr × Value)=>p.1 = q.1 /\ H q.2.1 = @(.M (p.1.E kV)) /\ RelV p.2 q.2.2) kvs xs /\
      ∃o es ep,h.get? a = @o /\ o.ExactDict /\ o.data = .dict es ep /\ es.p = xs.E (entryOfKey (tupleKind (xx P w))) /\ (xs.E (·.1)).l
  |.à S n=>h.SetOf (intKind P w) a S n
  |.ins C dx fs=>H dx = @(.æ a) /\ fs.B<=1000 /\ dx≠a /\ h.get? a = @(PySem.W.instObj C dx) /\
      ∃mA,h.Ns1 dx mA /\ (∀f,RelO (fs.U f) (mA f)) /\ PySem.Within mA (fs.E (·.1))
  |.æ _=> ∃o,h.get? a = @o|.xd fs=> ∃mA,h.Ns1 a mA /\ ∀f,RelO (fs.U f) (mA f)|.rng lo hi=> ∃t u v,h.get? a = some {cls:= .h "range",data:= .ù %[.C lo t,.C hi u,.C 1 v|0]}|.ú o u=>h.get? a = @o /\ ObjOk H h a u|.tbl ps=>h.get? a = some {cls:= .ã,data:= .ù ps}|.met f x=>h.get? a = @(PySem.W.methodObj (.I f) (.I x))|.ext φ=>φ w h /\ (∃o,h.get? a = @o) /\ ∀h1 h2 : Heap,φ w h1 -> (∀o,h1.get? a = @o -> h2.get? a = @o) -> φ w h2
def HOk(H:Hp)(h:Heap):Prop:=∀a o,H a=@o->ObjOk P w H h a o
end
section
variable {P:Program}{w:World}{H H':Hp}{h h':Heap}{a:Addr}{o:HO}
def ObjOk.lt(x:ObjOk P w H h a o):a<h.objs.O:=by
 cases o with|lst xs=>let#[_,_,_,_,e]:=x;show Xg e|tup xs=>let#[_,_,_,p]:=x;show p.M.lt|dK kvs=>let#[_,_,_,_,o,_,_,e,_]:=x;show Xg e|dT kvs=>let#[_,_,_,_,o,_,_,e,_]:=x;show Xg e|set S n=>let#[o,_,_,_,e,_]:=x;show Xg e|ins C dx fs=>let#[_,_,_,e,_]:=x;show Xg e|own y=>let#[_,e]:=x;show Xg e|xd fs=>let#[_,#[_,_,_,e,_],_]:=x;show Xg e|rng lo hi=>let#[_,_,_,e]:=x;show Xg e|frz ob u=>let#[e,_]:=x;show Xg e|tbl ps=>show Xg (x)|met f y=>show Xg (x)|ext φ=>let#[_,#[_,e],_]:=x;show Xg e
def Paired.mapP{α β F G}:∀{l₁:List α} {l₂:List β},Paired F l₁ l₂->(∀a b,F a b->G a b)->Paired G l₁ l₂
 |_,_,.nil,_=>.nil|_,_,.ä r t,f=>.ä (f _ _ r) (Paired.mapP t f)
def ObjOk.stay(x:ObjOk P w H h a o)(k:∀b u,(b=a\/H b=@(.æ a))->h.get? b=@u->h'.get? b=@u)
  (ho:∀b,H b=@(.æ a)->H' b=@(.æ a)) (ht:∀b xs,H b=@(.M xs)->H' b=@(.M xs)):ObjOk P w H' h' a o:=by
 induction o with
 |lst xs=>let#[z,ab,n,r,e]:=x;show#[z,ab,n,r,k _ _ (.R rfl) e]|tup xs=>let#[z,ab,r,ob,e,c]:=x;show#[z,ab,r,ob,k _ _ (.R rfl) e,c]|dK kvs=>let#[z,y,vs,r,ob,es,ep,e,c]:=x;show#[z,y,vs,r,ob,es,ep,k _ _ (.R rfl) e,c]
 |dT kvs=>
  let#[z,y,xs,r,ob,es,ep,e,c]:=x;show#[z,y,xs,Paired.mapP r λp q z=>#[z.1,ht _ _ z.2.1,z.2.2],ob,es,ep,k _ _ (.R rfl) e,c]
 |set S n=>let#[ob,es,ep,t,e,c]:=x;show#[ob,es,ep,t,k _ _ (.R rfl) e,c]
 |ins C dx fs=>
  let#[d,z,ne,e,mA,#[od,es,ep,e2,c],r]:=x;show#[ho _ d,z,ne,k _ _ (.R rfl) e,mA,#[od,es,ep,k _ _ (.Z d) e2,c],r]
 |own y=>let#[ob,e]:=x;show#[ob,k _ _ (.R rfl) e]|xd fs=>let#[mA,#[od,es,ep,e,c],r]:=x;show#[mA,#[od,es,ep,k _ _ (.R rfl) e,c],r]|rng lo hi=>let#[t,u,v,e]:=x;show#[t,u,v,k _ _ (.R rfl) e]|frz ob u ih=>let#[e,q]:=x;show#[k _ _ (.R rfl) e,ih q]
 |tbl ps=>
  let e:h.get? a=some {cls:=.ã,data:=.ù ps}:=x;show k a _ (.R rfl) e
 |met f y=>
  let e:=x;show k a _ (.R rfl) e
 |ext φ=>let#[p,#[o,e],st]:=x;show#[st _ _ p λo q=>k _ _ (.R rfl) q,#[o,k _ _ (.R rfl) e],st]
def HOk.lt(x:HOk P w H h)(e:H a=@o):a<h.objs.O:=(x a o e).lt
def HOk.û(x:HOk P w H h)(e:h.objs.O<=a):H a=none:=by
 cases q:H a with|none=>rfl|some u=>show absurd (Xq (x.lt q) e) (Yn _)
def HOk.kept(x:HOk P w H h)(k:∀b u,h.get? b=@u->h'.get? b=@u):HOk P w H h':=λa o e=>
 (x a o e).stay (λb u _ q=>k b u q) (λ_ q=>q) λ_ _ q=>q
def HOk.laid(x:HOk P w H h)(k:∀b u,h.get? b=@u->h'.get? b=@u)(hp:h.objs.O<=a)(new:ObjOk P w (upd H a o) h' a o):HOk P w (upd H a o) h':=λb u e=>by
 let hn:=x.û hp
 by_cases hb:b=a
 .subst hb;rw[wY]at e;cases e;show new
 .rw[qz hb]at e;show(x b u e).stay (λc v _ q=>k c v q) (λc q=>by rw[qz (KJ q hn)];show q) λc xs q=>by rw[qz (KJ q hn)];show q
end
def Rd(H:Hp)(a:Addr)(u:HO):Prop:=H a=@u\/∃o,H a=@(.ú o u)
def Rd.ok{P w H h a u}(r:Rd H a u)(x:HOk P w H h):ObjOk P w H h a u:=by
 let r\/#[o,r]:=r
 .show x a u r
 .let#[_,q]:=x a _ r;show q
def Mut:Option HO->Prop
 |some (.S _)=>True|some (.dK _)=>True|some (.dT _)=>True|some (.à _ _)=>True|some (.ins _ _ _)=>True|some (.ext _)=>True|_=>False
section
variable {P:Program}{w:World}{H:Hp}{h h':Heap}{x e:Addr}{o':HO}
def HOk.write(ok:HOk P w H h)(mu:Mut (H x))(he:e=x\/H e=@(.æ x))(k:∀b u,b≠e->h.get? b=@u->h'.get? b=@u)(vi:∃u,h'.get? e=@u)
  (new:ObjOk P w (upd H x o') h' x o'):HOk P w (upd H x o') h':=λb u q=>by
 let nown:∀c y,H c=@(.æ y)->c≠x:=λc y r z=>by subst z;rw[r]at mu;show mu
 let ntup:∀c xs,H c=@(.M xs)->c≠x:=λc xs r z=>by subst z;rw[r]at mu;show mu
 by_cases hb:b=x
 .subst hb;rw[wY]at q;cases q;show new
 .rw[qz hb]at q
  by_cases hbe:b=e
  .let q':H b=@(.æ x):=by
    let z\/z:=he
    .show absurd (hbe.H z) hb
    .rw[hbe];show z
   rw[q]at q';cases q';let#[v,hv]:=vi;show#[v,by rw[hbe];show hv]
  .show(ok b u q).stay (λc v hc r=>k c v ?_ r) (λc r=>by rw[qz (nown c b r)];show r) λc xs r=>by rw[qz (ntup c xs r)];show r
   let rfl\/hc:=hc
   .show hbe
   .grind
end
structure Un (fs ex:List Addr)(H H':Hp)(h h':Heap):Prop where
 keep:∀b o,h.get? b=@o->H b=none->b∉fs->b∉ex->h'.get? b=@o
 slot:∀b o,h.get? b=@o->H b=none->b>fs->b∉ex->∃sl,h'.get? b=some {o with slots:=sl}
 free:∀b o,h.get? b=@o->H b=none->b∉ex->H' b=none
 there:∀b o,h.get? b=@o->b∉ex->∃o',h'.get? b=@o'
 tups:∀b xs,H b=@(.M xs)->H' b=@(.M xs)
 frzs:∀b o u,H b=@(.ú o u)->H' b=@(.ú o u)
 tbls:∀b ps,H b=@(.tbl ps)->∃more,H' b=@(.tbl (ps++more))
section
variable {fs fs' ex ex':List Addr}{H H1 H2:Hp}{h h1 h2 h':Heap}{a x e:Addr}{o:HO}
def Un.è(u:Un fs ex H H1 h h1){b ob}(q:h.get? b=@ob)(n:H b=none)(hx:b∉ex):∃sl,h1.get? b=some {ob with slots:=sl}:=by
 by_cases hb:b>fs
 .show u.slot b ob q n hb hx
 .show#[ob.slots,u.keep b ob q n hb hx]
def Un.kept(k:∀b u,h.get? b=@u->h'.get? b=@u):Un fs ex H H h h':=
 #[λb ob q _ _ _=>k b ob q,λb ob q _ _ _=>#[ob.slots,k b ob q],λ_ _ _ n _=>n,λb ob q _=>#[ob,k b ob q],λ_ _ q=>q,λ_ _ _ q=>q,λ_ ps q=>#[(List.J []),by rw[q];simp]]
def Un.î:Un fs ex H H h h:=Un.kept λ_ _ q=>q
def Un.laid(k:∀b u,h.get? b=@u->h'.get? b=@u)(hp:h.objs.O<=a)(hn:H a=none):Un fs ex H (upd H a o) h h' where
 keep:=λb u q _ _ _=>k b u q
 slot:=λb u q _ _ _=>#[u.slots,k b u q]
 free:=λb u q n _=>by rw[qz (Xl (Xq (Xg q) hp))];show n
 there:=λb u q _=>#[u,k b u q]
 tups:=λb xs q=>by rw[qz (KJ q hn)];show q
 frzs:=λb u xs q=>by rw[qz (KJ q hn)];show q
 tbls:=λb ps q=>#[(List.J []),by rw[qz (KJ q hn),q];simp]
def Un.write(mu:Mut (H x))(he:e=x\/H e=@(.æ x))(k:∀b u,b≠e->h.get? b=@u->h'.get? b=@u)(vi:∃u,h'.get? e=@u):Un fs ex H (upd H x o) h h':=by
 let hx:∀b,H b=none->b≠x:=λb n z=>by subst z;rw[n]at mu;show mu
 let hb:∀b,H b=none->b≠e:=λb n z=>by
  subst z;let r\/r:=he
  .show hx b n r
  .grind
 let hm:∀b u,H b=@u->¬Mut (@u)->b≠x:=λb u q nm z=>by subst z;rw[q]at mu;show nm mu
 show#[λb u q n _ _=>k b u (hb b n) q,λb u q n _ _=>#[u.slots,k b u (hb b n) q],λb u q n _=>by rw[qz (hx b n)];show n,λb u q _=>?_,
  λb xs q=>by rw[qz (hm b _ q λz=>z)];show q,λb u xs q=>by rw[qz (hm b _ q λz=>z)];show q,λb ps q=>#[(List.J []),by rw[qz (hm b _ q λz=>z),q];simp]]
 by_cases hbe:b=e
 .grind
 .show#[u,k b u hbe q]
end
def trk(h:Heap)(H:Hp):List Addr:=(List.range h.objs.O).filter λa=>(H a).isSome
def XZ(h:Heap)(H:Hp):Heap:=PySem.W.hideAll h (trk h H)
def _ao h H:(XZ h H).objs.O=h.objs.O:=PySem.W.hideAll_size _ _
def _ap{h H b o}(e:h.get? b=@o)(n:H b=none):(XZ h H).get? b=@o:=
 PySem.W.hideAll_get _ e λhm=>by
  let q:=(List.mem_filter.mp hm).2;rw[n]at q;simp at q
def _aq{h H b o}(e:(XZ h H).get? b=@o):h.get? b=@o/\H b=none:=by
 let e':=PySem.W.of_hideAll _ e;show#[e',?_];cases q:H b with
 |none=>rfl
 |some x=>
  let hm:b>trk h H:=List.mem_filter.å #[List.mem_range.å (Xg e'),by simp[q]];let z:(XZ h H).get? b=none:=PySem.W.hideAll_none _ hm
  grind
structure Mod (K:Frag)(mg:Str->Option Value)(base:Heap):Prop where
 kin:K.In base
 glob:base.Ns mainGlobals mg
 blt:∃mb,base.Ns builtinsNs mb/\∀x:Str,x≠"__name__"->mb x=bootBuiltins x
 nolimit:base.NoLimit
structure Cx where
 prog:Program
 w:World
 K:Frag
 mg:Str->Option Value
 base:Heap
 A:Around
 N:List Str
 s₀:Shared
 H₀:Hp
 env:Env
 outer:List Env
 stack:List Env
 ex:List Addr
 fn:Str->Bool
 calm:Bool
 pn:LA9
 xe:VP9
def frs(l:List Env):List Addr:=l.filterMap (·.frame)
abbrev Cx.fs(X:Cx):List Addr:=frs X.outer
def Vis(sc:Scope)(x:Str):Prop:=sc.ê.U x=@.local\/sc.ê.U x=@.cell\/sc.ê.U x=@.free
def Loc(sc:Scope)(x:Str):Prop:=sc.ê.U x=@.local\/sc.ê.U x=@.cell
def Look(env:Env)(h:Heap)(m:Str->Option Value)(x:Str)(u:Value):Prop:=
 (env.kindOf x=@.local/\m x=@u)\/((env.kindOf x=@.cell\/env.kindOf x=@.free)/\∃c,env.cells.U x=@c/\h.IsCell c @u)
structure Cx.Ok (X:Cx):Prop where
 mod:Mod X.K X.mg X.ò
 kind:X.Y.ó.kind=.function
 glob:X.Y.globals=mainGlobals
 blt:X.Y.builtins=builtinsNs
 above:X.s₀.G.objs.O<=X.Y.locals
 inj:∀x y c,X.Y.cells.U x=@c->X.Y.cells.U y=@c->x=y
 has:∀x,(X.Y.kindOf x=@.cell\/X.Y.kindOf x=@.free)->∃c,X.Y.cells.U x=@c
 cab:∀x c,X.fn x=true->X.Y.cells.U x=@c->X.s₀.G.objs.O<=c
 hd:X.calm=true->X.A.ü=none
 frames:X.A.frames=@X.stack
 stk:X.stack=X.outer\/(X.stack=X.Y::X.outer/\X.Y.frame=@X.Y.locals)
 exf:∀b>X.ex,b≠X.Y.locals/\∀x c,X.Y.cells.U x=@c->c≠b
 bs:∀b o,X.ò.get? b=@o->X.s₀.G.get? b=@o/\X.H₀ b=none
 bsz:X.ò.objs.O<=X.s₀.G.objs.O
 noex:∀b o,X.ò.get? b=@o->b∉X.ex
 exfs:∀b>X.ex,b∉X.fs
 funs:X.s₀.G.FunFrames X.ò X.outer
 frf:∀b>X.fs,X.H₀ b=none
structure Inv (X:Cx)(a8:LA9)(σ:List (Option V))(H:Hp)(s:Shared):Prop where
 ok:X.Ok
 os:s.os=X.s₀.os
 bare:AllBare s.gens
 base:Un X.fs X.ex X.H₀ H X.s₀.G s.G
 loc:∃m,s.G.Ns X.Y.locals m/\∀(i:Nat) (x:Str) (v:V),X.N[i]?=@x->σ[i]?=@(@v)->Vis X.Y.ó x->∃u,RelV v u/\Look X.Y s.G m x u
 cell:∀x c,X.Y.cells.U x=@c->∃v,s.G.IsCell c v
 free:H X.Y.locals=none
 freeC:∀x c,X.Y.cells.U x=@c->H c=none
 pin:∀p>X.pn++a8,s.G.get? p.1=@p.2/\H p.1=none/\p.1≠X.Y.locals/\p.1∉X.fs/\∀v,p.2.data≠.cell v
 hok:HOk X.â X.w H s.G
 len:σ.B=X.N.B
section
variable {X:Cx}{a8:LA9}{σ:List (Option V)}{H H':Hp}{s:Shared}{h':Heap}
def Cx.Ok.nofr(ok:X.Ok){b o}(e:X.ò.get? b=@o):b∉X.fs:=λhb=>by
 let:=(ok.funs.mem hb).1
 grind
def Inv.bs(I:Inv X a8 σ H s):∀b o,X.ò.get? b=@o->s.G.get? b=@o/\H b=none:=λb o e=>
 #[I.ò.keep b o (I.ok.bs b o e).1 (I.ok.bs b o e).2 (I.ok.nofr e) (I.ok.noex b o e),I.ò.free b o (I.ok.bs b o e).1 (I.ok.bs b o e).2 (I.ok.noex b o e)]
def Inv.bk(I:Inv X a8 σ H s):∀b o,X.ò.get? b=@o->s.G.get? b=@o:=λb o e=>(I.bs b o e).1
def Inv.mod(I:Inv X a8 σ H s):Mod X.K X.mg X.ò:=I.ok.mod
def Inv.kIn(I:Inv X a8 σ H s):X.K.In s.G:=I.ok.mod.kin.keeps I.bk
def Inv.lt(I:Inv X a8 σ H s):X.Y.locals<↥s:=let ⟨_,hn,_⟩:=I.loc;hn.lt
def Inv.sz(I:Inv X a8 σ H s):X.s₀.G.objs.O<=↥s:=Yb I.ok.above (Nat.le_of_lt I.lt)
def Inv.nofs(I:Inv X a8 σ H s){a:Addr}(h:↥s<=a):a∉X.fs:=λhb=>by
 let#[_,o,ho,_]:=I.ok.funs.mem hb;show absurd (Xq (Xg ho) (Yb I.sz h)) (Yn _)
def Inv.cne(I:Inv X a8 σ H s):∀x c,X.Y.cells.U x=@c->c≠X.Y.locals:=λx c e z=>by
 let#[v,o,ho,hd]:=I.cell x c e;let#[m,#[o',es,ep,ju,pe,_],_]:=I.loc
 grind
def Inv.funs(I:Inv X a8 σ H s):s.G.FunFrames X.ò X.outer:=by
 let all:∀l,(∀b>frs l,b>X.fs)->X.s₀.G.FunFrames X.ò l->s.G.FunFrames X.ò l:=by
  intro l
  induction l with
  |nil=>intro _ _;trivial
  |cons env r ih=>
   rintro hs ⟨hk,⟨L,o,hf,hn,ho,hd⟩,hr⟩;let hL:=hs L (by ext frs;rw[List.filterMap_cons,hf];show X5);let#[sl,e]:=I.ò.slot L o ho (I.ok.frf L hL) hL λz=>I.ok.exfs L z hL
   show#[hk,#[L,_,hf,hn,e,hd],ih (λb hb=>hs b (by ext frs;rw[List.filterMap_cons,hf];show _ad _ hb)) hr]
 show all X.outer (λ_ hb=>hb) I.ok.funs
def Inv.stack(I:Inv X a8 σ H s):s.G.FunFrames X.ò X.stack:=by
 let e\/#[e,hf]:=I.ok.stk
 .rw[e];show I.funs
 .rw[e];let#[m,hn,_]:=I.loc;show .ä (by rw[I.ok.kind];decide) hf hn (Yk (Yb I.ok.bsz I.ok.above)) I.funs
def Inv.stkSub(I:Inv X a8 σ H s):∀b>frs X.stack,b>X.Y.locals::X.fs:=λb hb=>by
 let e\/#[e,hf]:=I.ok.stk
 .rw[e]at hb;show _ad _ hb
 .rw[e]at hb;unfold frs at hb;rw[List.filterMap_cons,hf]at hb;show hb
def Inv.stkFree(I:Inv X a8 σ H s):∀b>frs X.stack,H b=none:=λb hb=>by
 let e\/hb:=aD (I.stkSub b hb)
 .rw[e];show I.free
 .let#[_,o,ho,_]:=I.ok.funs.mem hb;show I.ò.free b o ho (I.ok.frf b hb) λz=>I.ok.exfs b z hb
def Inv.step{g' t' d'}{ch:List Addr}(I:Inv X a8 σ H s)
  (ni:∀b>ch,(b>X.ex\/X.s₀.G.get? b=none)/\b≠X.Y.locals/\(∀x c,X.Y.cells.U x=@c->c≠b)/\∀p>X.pn++a8,p.1≠b)
  (keep:∀b o,b≠X.Y.locals->b∉X.fs->b∉ch->s.G.get? b=@o->H b=none->h'.get? b=@o)
  (slot:∀b o,b≠X.Y.locals->b>X.fs->b∉ch->s.G.get? b=@o->H b=none->∃sl,h'.get? b=some {o with slots:=sl}) (free:∀b o,b∉ch->s.G.get? b=@o->H b=none->H' b=none)
  (there:∀b o,b∉ch->s.G.get? b=@o->∃o',h'.get? b=@o')
  (tups:∀b xs,H b=@(.M xs)->H' b=@(.M xs)) (frzs:∀b o u,H b=@(.ú o u)->H' b=@(.ú o u)) (tbls:∀b ps,H b=@(.tbl ps)->∃more,H' b=@(.tbl (ps++more)))
  (ns:∀m,s.G.Ns X.Y.locals m->h'.Ns X.Y.locals m) (hok:HOk X.â X.w H' h') (hg:AllBare g'):
  Inv X a8 σ H' {s with heap:=h',gens:=g',drawn:=d',toks:=t' }:=by
 let neL:∀b o,X.s₀.G.get? b=@o->b≠X.Y.locals:=λb o e=>Xl (Xq (Xg e) I.ok.above)
 let neC:∀b o,X.s₀.G.get? b=@o->b∉X.ex->b∉ch:=λb o e hx hb=>by
  let z\/z:=(ni b hb).1
  .show hx z
  .rw[z]at e;cases e
 let pd:∀x c,X.Y.cells.U x=@c->∀v,s.G.IsCell c v->h'.IsCell c v:=λx c e v hz=>by
  let#[o,ho,hd]:=hz;let uu:=λz=>(ni c z).2.2.1 x c e rfl
  by_cases hc:c>X.fs
  .let#[sl,q]:=slot c o (I.cne x c e) hc uu ho (I.freeC x c e);show#[_,q,hd]
  .show#[o,keep c o (I.cne x c e) hc uu ho (I.freeC x c e),hd]
 show#[I.ok,I.os,hg,#[λb o e n hb hx=>?_,λb o e n hb hx=>?_,λb o e n hx=>?_,λb o e hx=>?_,λb xs e=>tups b xs (I.ò.tups b xs e),λb o xs e=>frzs b o xs (I.ò.frzs b o xs e),λb ps e=>?_],?_,λx c e=>?_,?_,λx c e=>?_,λp hp=>?_,hok,I.len]
 .show keep b o (neL b o e) hb (neC b o e hx) (I.ò.keep b o e n hb hx) (I.ò.free b o e n hx)
 .let#[sl,e1]:=I.ò.slot b o e n hb hx;let#[sl',e2]:=slot b _ (neL b o e) hb (neC b o e hx) e1 (I.ò.free b o e n hx);show#[sl',e2]
 .let#[o',e1]:=I.ò.there b o e hx;show free b o' (neC b o e hx) e1 (I.ò.free b o e n hx)
 .let#[o',e1]:=I.ò.there b o e hx;show there b o' (neC b o e hx) e1
 .obtain _:=I.ò.tbls b ps e
  grind
 .let#[m,hn,hl]:=I.loc;show#[m,ns m hn,λi x v e1 e2 e3=>?_];let#[u,r,l]:=hl i x v e1 e2 e3;show#[u,r,?_];let l\/#[k,c,e,z]:=l
  .show .R l
  .show .Z #[k,c,e,pd x c e _ z]
 .let#[v,z]:=I.cell x c e;show#[v,pd x c e v z]
 .let#[m,#[o,_,_,ho,_],_]:=I.loc;show free _ o (λz=>(ni _ z).2.1 rfl) ho I.free
 .let#[v,o,ho,hd]:=I.cell x c e;show free c o (λz=>(ni c z).2.2.1 x c e rfl) ho (I.freeC x c e)
 .let#[e,n,ne,nf,d]:=I.pin p hp;let uu:=λz=>(ni p.1 z).2.2.2 p hp rfl
  show#[keep p.1 p.2 ne nf uu e n,free p.1 p.2 uu e n,ne,nf,d]
def Inv.un{t'}(I:Inv X a8 σ H s)(u:Un X.fs [] H H' s.G h')(hok:HOk X.â X.w H' h'):Inv X a8 σ H' {s with heap:=h',toks:=t' }:=by
 let#[m,#[o,es,ep,ho,r],_]:=id I.loc;let#[sl,hL]:=u.è ho I.free (by simp);show I.step (g':=s.gens) (d':=s.drawn) (ch:=[]) (nofun) (λb o _ hb _ e n=>u.keep b o e n hb (by simp)) (λb o _ hb _ e n=>u.slot b o e n hb (by simp)) (λb o _ e n=>u.free b o e n (by simp)) (λb o _ e=>u.there b o e (by simp)) u.tups u.frzs u.tbls (λm' hm=>by
  let#[o',es',ep',ju,r']:=hm;rw[ho]at ju;cases ju;show#[_,es',ep',hL,r']) hok I.bare
def Inv.call{g' t' d' ch}(I:Inv X a8 σ H s)(u:Un (frs X.stack) ch H H' s.G h')(hok:HOk X.â X.w H' h')(hg:AllBare g')
  (ni:∀b>ch,(b>X.ex\/X.s₀.G.get? b=none)/\b≠X.Y.locals/\(∀x c,X.Y.cells.U x=@c->c≠b)/\∀p>X.pn++a8,p.1≠b):
  Inv X a8 σ H' {s with heap:=h',gens:=g',drawn:=d',toks:=t' }:=by
 let#[m,#[o,es,ep,ho,r],_]:=id I.loc;let#[sl,hL]:=u.è ho I.free λz=>(ni _ z).2.1 rfl
 show I.step ni (λb o hL hb hc e n=>u.keep b o e n (λz=>(aD (I.stkSub b z)).ß hL hb) hc) (λb o _ _ hc e n=>u.è e n hc) (λb o hc e n=>u.free b o e n hc) (λb o hc e=>u.there b o e hc) u.tups u.frzs u.tbls (λm' hm=>by
  let#[o',es',ep',ju,r']:=hm;rw[ho]at ju;cases ju;show#[_,es',ep',hL,r']) hok hg
def Inv.turned{t' it}(I:Inv X a8 σ H s)(k:∀b o,b≠it->s.G.get? b=@o->h'.get? b=@o)(hn:H it=none)(hL:it≠X.Y.locals)
  (h1:it>X.ex\/X.s₀.G.objs.O<=it) (h2:∀x c,X.Y.cells.U x=@c->c≠it) (h3:∀p>X.pn++a8,p.1≠it):Inv X a8 σ H {s with heap:=h',toks:=t' }:=by
 let wm:∀b u,H b=@u->b≠it:=λb u e z=>by rw[z,hn]at e;cases e
 show I.step (g':=s.gens) (d':=s.drawn) (ch:=[it]) (λb hb=>?_) (λb o _ _ hc e _=>k b o (λz=>hc (by simp[z])) e) (λb o _ _ hc e _=>#[o.slots,k b o (λz=>hc (by simp[z])) e]) (λ_ _ _ _ n=>n)
  (λb o hc e=>#[o,k b o (λz=>hc (by simp[z])) e]) (λ_ _ e=>e) (λ_ _ _ e=>e) (λb ps e=>#[(List.J []),by rw[e];simp]) (λm hm=>?_) (λb u e=>?_) I.bare
 .let e:b=it:= ~~~hb
  subst e;show#[h1.imp id λz=>Yk z,hL,h2,h3]
 .let#[o,es,ep,ho,r]:=hm;show#[o,es,ep,k _ o (Ne.i hL) ho,r]
 .show(I.ô b u e).stay (λc v hc q=>k c v ?_ q) (λ_ q=>q) λ_ _ q=>q
  let z\/z:=hc
  .rw[z];show wm b u e
  .show wm c _ z
def Inv.tok(I:Inv X a8 σ H s) t:Inv X a8 σ H {s with toks:=t}:=I.un (h':=s.G) (t':=t) Un.î I.ô
def Inv.kept{t'}(I:Inv X a8 σ H s)(k:∀b u,s.G.get? b=@u->h'.get? b=@u):Inv X a8 σ H {s with heap:=h',toks:=t' }:=I.un (Un.kept k) (I.ô.kept k)
def Inv.laid{a:Addr}{o t'}(I:Inv X a8 σ H s)(k:∀b u,s.G.get? b=@u->h'.get? b=@u)(hp:↥s<=a)(new:ObjOk X.â X.w (upd H a o) h' a o):
  Inv X a8 σ (upd H a o) {s with heap:=h',toks:=t' }:=I.un (Un.laid k hp (I.ô.û hp)) (I.ô.laid k hp new)
def Inv.write{x e o t'}(I:Inv X a8 σ H s)(mu:Mut (H x))(he:e=x\/H e=@(.æ x))(k:∀b u,b≠e->s.G.get? b=@u->h'.get? b=@u)(vi:∃u,h'.get? e=@u)
  (new:ObjOk X.â X.w (upd H x o) h' x o):Inv X a8 σ (upd H x o) {s with heap:=h',toks:=t' }:=I.un (Un.write mu he k vi) (I.ô.write mu he k vi new)
def Inv.pins_of{eh}(I:Inv X a8 σ H s)(h:∀p>eh,s.G.get? p.1=@p.2/\H p.1=none/\p.1≠X.Y.locals/\p.1∉X.fs/\∀v,p.2.data≠.cell v):Inv X eh σ H s:=
 #[I.ok,I.os,I.bare,I.ò,I.loc,I.cell,I.free,I.freeC,λp hp=>(aA hp).ß (λz=>I.pin p (_ac _ z)) (h p),I.ô,I.len]
def _ar{N:List Str}(hN:N.l){i j:Nat}{x}(a:N[i]?=@x)(b:N[j]?=@x):i=j:=by
 let#[h1,e1]:=aF a;let#[h2,e2]:=aF b;show(List.getElem_inj hN).mp (e1.H e2.i)
def _as{M A E i x v u Q}(I:Inv X a8 σ H s)(hN:X.N.l)(hi:X.N[i]?=@x)(hx:Loc X.Y.ó x)(r:RelV v u)
  (h:∀s',Inv X a8 (σ.à i @v) H s'->(∃a,Heap.SameBut a s.G s'.G/\(a=X.Y.locals\/X.Y.cells.U x=@a))->Q () s') (hf:X.fn x=true\/X.Y.ó.ê.U x=@.local<|>Ř):wpAny M A (storeName X.Y x u) Q E s:=by
 let#[m,hn,hl]:=id I.loc;let hcls:(X.Y.ó.kind == .class||(X.Y.ó.kind == .module&&X.Y.locals != X.Y.globals))=false:=by rw[I.ok.kind];rfl
 let hiσ:i < σ.B:=by rw[I.len];show(aF hi).1
 let cne:=I.cne;let lg:∀{a h'},(∃o,s.G.get? a=@o/\H a=none)->Heap.SameBut a s.G h'->HOk X.â X.w H h':=fun {a h'} ha hs b ob e=>by
  show(I.ô b ob e).stay (λc w' hc q=>(hs.2 c ?_).H q) (λ_ q=>q) λ_ _ q=>q
  rintro rfl;let rfl\/hc:=hc
  .grind
  .grind
 let hk\/hk:=hx
 .show wpAny_storeName_local hk hn (λh' me hs=>?_) hcls;let#[oL,_,_,xu,_]:=id hn;show h _ #[I.ok,I.os,I.bare,#[λb o e n hb hx=>?_,λb o e n hb hx=>?_,I.ò.free,λb o e hx=>?_,I.ò.tups,I.ò.frzs,I.ò.tbls],#[_,me,λj y v' e1 e2 e3=>?_],λy c e=>?_,I.free,I.freeC,λp hp=>?_,lg #[oL,xu,I.free] hs,~~~I.len] #[_,hs,.R rfl]
  .show(hs.2 b (Xl (Xq (Xg e) I.ok.above))).H (I.ò.keep b o e n hb hx)
  .let#[sl,e1]:=I.ò.slot b o e n hb hx;show#[sl,(hs.2 b (Xl (Xq (Xg e) I.ok.above))).H e1]
  .let#[o',e1]:=I.ò.there b o e hx;show#[o',(hs.2 b (Xl (Xq (Xg e) I.ok.above))).H e1]
  .by_cases hj:j=i
   .subst hj;rw[hi]at e1;cases e1;rw[List.getElem?_set_self hiσ]at e2;cases e2;show#[u,r,.R #[hk,by simp]]
   .rw[Z4 (Ne.i hj)]at e2;let#[u',r',q]:=hl j y v' e1 e2 e3;show#[u',r',?_];let#[k,e]\/#[k,c,e,z]:=q
    .show .R #[k,?_];let:y≠x:=λe=>hj (_ar hN e1 (e▸hi))
     simp[this,e]
    .show .Z #[k,c,e,z.sameBut hs (cne y c e)]
  .let#[w',z]:=I.cell y c e;show#[w',z.sameBut hs (cne y c e)]
  .let#[e,n,ne,nf,d]:=I.pin p hp;show#[(hs.2 p.1 ne).H e,n,ne,nf,d]
 .let hfn:X.fn x=true:=by
   let z\/z:=hf
   .show z
   .grind
  let#[c,hc]:=I.ok.has x (.R hk);let#[w',z]:=I.cell x c hc;show wpAny_storeName_cell I.ok.kind hk hc z (λh' i9 hs=>?_);let#[oc,hoc,hocd]:=id z;show h {s with heap:=h' } #[I.ok,I.os,I.bare,#[λb o e n hb hx=>?_,λb o e n hb hx=>?_,I.ò.free,λb o e hx=>?_,I.ò.tups,I.ò.frzs,I.ò.tbls],#[m,hn.sameBut hs (Ne.i (cne x c hc)),λj y v' e1 e2 e3=>?_],λy c' e=>?_,I.free,I.freeC,λp hp=>?_,lg #[oc,hoc,I.freeC x c hc] hs,~~~I.len] #[c,hs,.Z hc]
  .show(hs.2 b (Xl (Xq (Xg e) (I.ok.cab x c hfn hc)))).H (I.ò.keep b o e n hb hx)
  .let#[sl,e1]:=I.ò.slot b o e n hb hx;show#[sl,(hs.2 b (Xl (Xq (Xg e) (I.ok.cab x c hfn hc)))).H e1]
  .let#[o',e1]:=I.ò.there b o e hx;show#[o',(hs.2 b (Xl (Xq (Xg e) (I.ok.cab x c hfn hc)))).H e1]
  .by_cases hj:j=i
   .subst hj;rw[hi]at e1;cases e1;rw[List.getElem?_set_self hiσ]at e2;cases e2;show#[u,r,.Z #[.R hk,c,hc,i9]]
   .rw[Z4 (Ne.i hj)]at e2;let#[u',r',q]:=hl j y v' e1 e2 e3;show#[u',r',?_];let q\/#[k,c',e,z']:=q
    .show .R q
    .show .Z #[k,c',e,z'.sameBut hs ?_];rintro rfl;show hj (_ar hN e1 (I.ok.inj _ _ _ e hc▸hi))
  .by_cases ld:c'=c
   .subst ld;show#[_,i9]
   .let#[w2,z2]:=I.cell y c' e;show#[w2,z2.sameBut hs ld]
  .let#[e,n,ne,nf,d]:=I.pin p hp;show#[(hs.2 p.1 ?_).H e,n,ne,nf,d];intro q;rw[q,hoc]at e;let q':oc=p.2:=_aa e;show d w' (q'▸hocd)
def _at{M A E i x v u Q}(I:Inv X a8 σ H s)(hN:X.N.l)(hi:X.N[i]?=@x)(hx:Loc X.Y.ó x)(r:RelV v u)
  (h:∀s',Inv X a8 (σ.à i @v) H s'->Q () s') (hf:X.fn x=true\/X.Y.ó.ê.U x=@.local<|>Ř):wpAny M A (storeName X.Y x u) Q E s:=
 _as I hN hi hx r (λs' I' _=>h s' I') hf
def Inv.call'{s' ch}(I:Inv X a8 σ H s)(ho:s'.os=s.os)(u:Un (frs X.stack) ch H H' s.G s'.G)(hok:HOk X.â X.w H' s'.G)(hg:AllBare s'.gens)
  (ni:∀b>ch,(b>X.ex\/X.s₀.G.get? b=none)/\b≠X.Y.locals/\(∀x c,X.Y.cells.U x=@c->c≠b)/\∀p>X.pn++a8,p.1≠b):Inv X a8 σ H' s':=by
 let#[h',g',d',t',o']:=s';subst ho;show I.call (g':=g') (t':=t') (d':=d') u hok hg ni
end
abbrev XK:=Value->Option Addr->Hp->Prop
abbrev St:=List (Option V)
abbrev VK:=V->Hp->Prop
abbrev TE:=St->Hp->VK->Prop
abbrev TT:=St->Hp->(Bool->Hp->Prop)->Prop
abbrev TA:=St->Hp->(List V->Hp->Prop)->Prop
structure Ends where
 nx:St->Hp->Prop
 rt:VK
 bk:St->Hp->Prop:=λ_ _=>False
 ct:St->Hp->Prop:=λ_ _=>False
abbrev TS:=Ends->St->Hp->Prop
def EP(X:Cx)(a8:LA9)(σ:St)(Q:VK)(u:Value)(s':Shared):Prop:=∃v H',Inv X a8 σ H' s'/\RelV v u/\Q v H'
def TP(X:Cx)(a8:LA9)(σ:St)(Q:Bool->Hp->Prop)(b:Bool)(s':Shared):Prop:=∃H',Inv X a8 σ H' s'/\Q b H'
def AP(X:Cx)(a8:LA9)(σ:St)(Q:List V->Hp->Prop)(us:List Value)(s':Shared):Prop:=∃vs H',Inv X a8 σ H' s'/\Vals vs us/\Q vs H'
#where in
def SP(X:Cx)(a8:LA9)(D:Ends)(f:Flow)(s':Shared):Prop:=
 match f with
 |.next=>∃ σ' H',Inv X a8 σ' H' s'/\D.nx σ' H'|.brk=>∃ σ' H',Inv X a8 σ' H' s'/\D.bk σ' H'|.cont=>∃ σ' H',Inv X a8 σ' H' s'/\D.ct σ' H'|.ret u=>∃v σ' H',Inv X a8 σ' H' s'/\RelV v u/\D.rt v H'
def PE(X:Cx)(e:Expr)(t:TE):Prop:=
 ∀(a8:LA9) (s:Shared) (σ:St) (H:Hp) (Q:VK),Inv X a8 σ H s->t σ H Q->∅ (eval e X.Y) (EP X a8 σ Q) X.xe s
def PT(X:Cx)(e:Expr)(t:TT):Prop:=
 ∀(a8:LA9) (s:Shared) (σ:St) (H:Hp) (Q:Bool->Hp->Prop),Inv X a8 σ H s->t σ H Q->∅ (isTrue e X.Y (eval e X.Y)) (TP X a8 σ Q) X.xe s
def PW(X:Cx)(e:Expr)(t:TT):Prop:=
 ∀(gq:Sem Value) (a8:LA9) (s:Shared) (σ:St) (H:Hp) (Q:Bool->Hp->Prop),Inv X a8 σ H s->t σ H Q->∅ (isTrue e X.Y gq) (TP X a8 σ Q) X.xe s
def PW.pt{X e t}(h:PW X e t):PT X e t:=h _
def PA(X:Cx)(es:List Expr)(t:TA):Prop:=
 ∀(pos:Pos) (a8:LA9) (s:Shared) (σ:St) (H:Hp) (Q:List V->Hp->Prop),Inv X a8 σ H s->t σ H Q->∅ (spliced (backTo pos (starEach es X.Y))) (AP X a8 σ Q) X.xe s
def PS(X:Cx)(st:Stmt)(t:TS):Prop:=
 ∀(a8:LA9) (s:Shared) (σ:St) (H:Hp) (D:Ends),Inv X a8 σ H s->t D σ H->∅ (exec st X.Y) (SP X a8 D) X.xe s
def PSs(X:Cx)(st:List Stmt)(t:TS):Prop:=
 ∀(a8:LA9) (s:Shared) (σ:St) (H:Hp) (D:Ends),Inv X a8 σ H s->t D σ H->∅ (execs st X.Y) (SP X a8 D) X.xe s
def thn{α t}{Q Q':α->Shared->Prop}{M A E s}(h:wpAny M A t Q E s)(hQ:∀a s,Q a s->Q' a s):wpAny M A t Q' E s:=wpAny_mono h hQ λ_ _ x=>x
section
variable {X:Cx}
abbrev z4(i:Nat):TE:=fun σ H Q=>∃v,σ[i]?=some @v/\Q v H
abbrev tC(v:V):TE:=λ_ H Q=>Q v H
abbrev _root_.Abd(x:Str):Prop:=(x==("__debug__":Str))=false
def _au{i x pos}(hN:X.N[i]?=@x)(hv:Vis X.Y.ó x)(hd:Abd x<|>ŕ)(jb:(x==("__classdict__":Str))=false<|>ŕ):PE X (.ç x pos) (z4 i):=by
 rintro a8 s σ H Q I ⟨v,e,h⟩;let#[m,hn,hl]:=I.loc;let#[u,r,l]:=hl i x v hN e hv;let fin:EP X a8 σ Q u s:=#[v,H,I,r,h];let#[hk,hm]\/#[hk,c,hc,hcell]:=l
 .show wpAny_Name (wpAny_loadName_local I.ok.kind hk hn hm fin) hd
 .let hk\/hk:=hk
  .show wpAny_Name (wpAny_loadName_cell I.ok.kind hk hc hcell fin) hd
  .show wpAny_Name (wpAny_loadName_free I.ok.kind hk hc hcell fin jb) hd
def _av{i j pos}:PE X (.Constant (.C i) j pos) (tC (.C i)):=λ_ _ _ H _ I h=>wpAny_Constant_int #[.C i,H,I.tok _,#[_,rfl],h]
def _aw{b j pos}:PE X (.Constant (.bool b) j pos) (tC (.bl b)):=λ_ _ _ H _ I h=>Constant_bool #[.bl b,H,I,rfl,h]
def _ax{j pos}:PE X (.Constant .ã j pos) (tC .j):=λ_ _ _ H _ I h=>Constant_none #[.j,H,I,rfl,h]
def _ay{x j pos}:PE X (.Constant (.e x) j pos) (tC (.e x)):=λ_ _ _ H _ I h=>Calls.Constant_str #[.e x,H,I.tok _,#[_,rfl],h]
def Gl(X:Cx)(x:Str):Prop:=X.Y.kindOf x=@.globalImplicit
def _az{E a8 s}{σ:St}{H x u pos Q}(I:Inv X a8 σ H s)(hg:Gl X x)(hm:X.mg x=@u)(h:Q u s)
  (hd:Abd x<|>ŕ):∅ (eval (.ç x pos) X.Y) Q E s:=
 Calls.Name_function_global I.ok.kind hg (Calls.loadGlobal_global (I.ok.glob▸I.mod.glob.keeps I.bk) hm h) hd
def JK{E a8 s}{σ:St}{H x u pos Q}(I:Inv X a8 σ H s)(hg:Gl X x)(hm:X.mg x=none)(hv:bootBuiltins x=@u)(h:Q u s)
  (hn:x≠"__name__"<|>ŕ) (hd:Abd x<|>ŕ):∅ (eval (.ç x pos) X.Y) Q E s:=by
 let#[mb,h1,h2]:=I.mod.blt;show Calls.Name_function_global I.ok.kind hg (Calls.loadGlobal_builtin (I.ok.glob▸I.mod.glob.keeps I.bk) hm (I.ok.blt▸h1.keeps I.bk) ((h2 x hn).H hv) h) hd
def _aA{x v u pos}(hg:Gl X x)(hm:X.mg x=@u)(r:RelV v u)(hd:Abd x<|>ŕ):PE X (.ç x pos) (tC v):=
 λ_ _ _ H _ I h=>_az I hg hm #[v,H,I,r,h] hd
def _aB{x v u pos}(hg:Gl X x)(hm:X.mg x=none)(hv:bootBuiltins x=@u)(r:RelV v u)(hn:x≠"__name__"<|>ŕ)(hd:Abd x<|>ŕ):PE X (.ç x pos) (tC v):=
 λ_ _ _ H _ I h=>JK I hg hm hv #[v,H,I,r,h] hn hd
variable {a b:Expr}{ta tb:TE}{pos:Pos}
variable {tA tB':TT}{ac:List Expr}
abbrev tAnd(t u:TT):TT:=fun σ H Q=>t σ H λc H1=>if c=true then u σ H1 Q else Q false H1
abbrev tOr(t u:TT):TT:=fun σ H Q=>t σ H λc H1=>if c=true then Q true H1 else u σ H1 Q
abbrev tNot(t:TT):TT:=fun σ H Q=>t σ H λc H1=>Q (!c) H1
def _aC(ha:PT X a tA):PW X (.BoolOp .And [a] pos) tA:=by
 intro wh a8 s σ H Q I h;show isTrue_and (thn (ha a8 s σ H Q I h) λc s1 e=>?_);cases c with|true=>show isTrue_and_nil e|false=>show e
def _aD(ha:PT X a tA):PW X (.BoolOp .Or [a] pos) tA:=by
 intro wh a8 s σ H Q I h;show isTrue_or (thn (ha a8 s σ H Q I h) λc s1 e=>?_);cases c with|false=>show isTrue_or_nil e|true=>show e
def _aE(ha:PT X a tA)(hb:PW X (.BoolOp .And (b::ac) pos) tB'):PW X (.BoolOp .And (a::b::ac) pos) (tAnd tA tB'):=by
 intro wh a8 s σ H Q I h;show isTrue_and (thn (ha a8 s σ H _ I h) λc s1 hz=>?_);let#[H1,I1,q1]:=hz;cases c with|true=>show hb wh a8 s1 σ H1 Q I1 q1|false=>show#[H1,I1,q1]
def _aF(ha:PT X a tA)(hb:PW X (.BoolOp .Or (b::ac) pos) tB'):PW X (.BoolOp .Or (a::b::ac) pos) (tOr tA tB'):=by
 intro wh a8 s σ H Q I h;show isTrue_or (thn (ha a8 s σ H _ I h) λc s1 hz=>?_);let#[H1,I1,q1]:=hz;cases c with|true=>show#[H1,I1,q1]|false=>show hb wh a8 s1 σ H1 Q I1 q1
def _aG(ha:PT X a tA):PT X (.UnaryOp .Not a pos) (tNot tA):=by
 intro a8 s σ H Q I h;show isTrue_not (ha a8 s σ H _ I h)
abbrev xzv(ta tb:TE):TE:=fun σ H Q=>ta σ H λx H1=>∃c,x=.bl c/\if c=true then tb σ H1 Q else Q (.bl false) H1
abbrev tOrV(ta tb:TE):TE:=fun σ H Q=>ta σ H λx H1=>∃c,x=.bl c/\if c=true then Q (.bl true) H1 else tb σ H1 Q
def _aH{op t}(h:PE X a t):PE X (.BoolOp op [a] pos) t:=λa8 s σ H Q I hw=>BoolOp_one (h a8 s σ H Q I hw)
def _aI(ha:PE X a ta)(hb:PE X (.BoolOp .And (b::ac) pos) tb):PE X (.BoolOp .And (a::b::ac) pos) (xzv ta tb):=by
 intro a8 s σ H Q I h;show BoolOp_and (thn (ha a8 s σ H _ I h) λv s1 hz=>?_);let#[x,H1,I1,r1,q1]:=hz;let#[c,rfl,q1]:=q1;cases r1;show Ys ?_;cases c with|true=>show hb a8 s1 σ H1 Q I1 q1|false=>show#[.bl false,H1,I1,rfl,q1]
def _aJ(ha:PE X a ta)(hb:PE X (.BoolOp .Or (b::ac) pos) tb):PE X (.BoolOp .Or (a::b::ac) pos) (tOrV ta tb):=by
 intro a8 s σ H Q I h;show BoolOp_or (thn (ha a8 s σ H _ I h) λv s1 hz=>?_);let#[x,H1,I1,r1,q1]:=hz;let#[c,rfl,q1]:=q1;cases r1;show Ys ?_;cases c with|false=>show hb a8 s1 σ H1 Q I1 q1|true=>show#[.bl true,H1,I1,rfl,q1]
abbrev tIf(t:TT)(ta tb:TE):TE:=fun σ H Q=>t σ H λc H1=>if c=true then ta σ H1 Q else tb σ H1 Q
def _aK{c}(hc:PT X c tA)(ha:PE X a ta)(hb:PE X b tb):PE X (.IfExp c a b pos) (tIf tA ta tb):=by
 intro a8 s σ H Q I h;show wpAny_IfExp (thn (hc a8 s σ H _ I h) λd s1 hz=>?_);let#[H1,I1,q1]:=hz;cases d with|true=>show ha a8 s1 σ H1 Q I1 q1|false=>show hb a8 s1 σ H1 Q I1 q1
end
def SqL(K:Frag)(H:Hp)(a:Addr)(xs:List V):Prop:=
 Rd H a (.S xs) \/
  ∃(o:Obj) (ab:Array Value) (n:Nat),K.U a=@o/\o.cls=.h "list"/\o.dict=none/\o.data=.seq ab n/\ab.O<=sizeLine/\Vals xs ab.p
def SqT(K:Frag)(H:Hp)(a:Addr)(xs:List V):Prop:=
 Rd H a (.M xs) \/
  ∃(o:Obj) (ab:Array Value) (n:Nat),K.U a=@o/\o.cls=.h "tuple"/\o.dict=none/\o.data=.seq ab n/\ab.O<=sizeLine/\Vals xs ab.p
def absV:Value->Option V
 |.ã=>@.j|.bool b=>@(.bl b)|.C i _=>@(.C i)|.e x _=>@(.e x)|.bytes b _=>@(.byt b)|.float b _=>@(.flt b)|.I a=>@(.I a)|.h n=>@(.ty n)|_=>none
def RelV.abs{x u}(r:RelV x u):absV u=@x:=by
 cases x with|non=>cases r;rfl|bl _=>cases r;rfl|int _=>let#[t,rfl]:=r;rfl|str _=>let#[t,rfl]:=r;rfl|byt _=>let#[t,rfl]:=r;rfl|flt _=>let#[t,rfl]:=r;rfl|ref _=>cases r;rfl|ty _=>cases r;rfl
def RelV.inj{x y u}(r:RelV x u)(q:RelV y u):x=y:=_aa (r.abs.i.H q.abs)
def Vals.inj:∀{xs ys us},Vals xs us->Vals ys us->xs=ys
 |_,_,_,.nil,.nil=>rfl|_,_,_,.ä r t,.ä r' t'=>by rw[r.inj r',Vals.inj t t']
section
variable {X:Cx}{a8:LA9}{σ:St}{H:Hp}{s:Shared}{a:Addr}{xs ys:List V}
def SqL.of{K}(h:H a=@(.S xs)):SqL K H a xs:=.R (.R h)
def SqT.of{K}(h:H a=@(.M xs)):SqT K H a xs:=.R (.R h)
def Inv.list(I:Inv X a8 σ H s)(h:SqL X.K H a xs):∃ab,Vals xs ab/\PlainL s.G a ab.J/\xs.B<=sizeLine:=by
 let h\/#[o,ab,n,hk,hc,hd,hs,hz,r]:=h
 .let#[z,ab,n,r,e]:=h.ok I.ô;show#[ab,r,#[_,n,e,rfl,rfl,rfl],z]
 .show#[ab.p,r,#[o,n,I.kIn a o hk,hc,hd,~~~hs],?_];let e:=r.B;simp at e;lia
def Inv.tuple(I:Inv X a8 σ H s)(h:SqT X.K H a xs):∃ab,Vals xs ab/\IsTup s.G a ab.J/\xs.B<=sizeLine:=by
 let h\/#[o,ab,n,hk,hc,_,hs,hz,r]:=h
 .let#[z,ab,r,p]:=h.ok I.ô;show#[ab,r,p.M,z]
 .show#[ab.p,r,#[o,I.kIn a o hk,hc,n,~~~hs],?_];let e:=r.B;simp at e;lia
def Inv.tupleD(I:Inv X a8 σ H s)(h:SqT X.K H a xs):∃o,s.G.get? a=@o/\o.dict=none:=by
 let h\/#[o,ab,n,hk,hc,hd,hs,hz,r]:=h
 .let#[z,ab,r,o,e,_,d,_]:=h.ok I.ô;show#[o,e,d]
 .show#[o,I.kIn a o hk,hd]
def Inv.list_inj(I:Inv X a8 σ H s)(h:SqL X.K H a xs)(h':SqL X.K H a ys):xs=ys:=by
 let#[ab,r,#[o,n,e,_,_,d],_]:=I.list h;let#[its',r',#[o',n',e',_,_,d'],_]:=I.list h';rw[e]at e';cases e';rw[d]at d';injection d' with d1 _;let:ab=its':= ~~~(congrArg Array.p d1)
 subst this;show r.inj r'
def Inv.tuple_inj(I:Inv X a8 σ H s)(h:SqT X.K H a xs)(h':SqT X.K H a ys):xs=ys:=by
 let#[ab,r,#[o,e,_,n,d],_]:=I.tuple h;let#[its',r',#[o',e',_,n',d'],_]:=I.tuple h';rw[e]at e';cases e';rw[d]at d';injection d' with d1 _;let:ab=its':= ~~~(congrArg Array.p d1)
 subst this;show r.inj r'
end
abbrev Cx.wish(X:Cx)(E:VP9):Cx:={X with xe:=E}
def Cx.Ok.wish{X:Cx}(ok:X.Ok) E:(X.wish E).Ok:=
 #[ok.mod,ok.kind,ok.glob,ok.blt,ok.above,ok.inj,ok.has,ok.cab,ok.hd,ok.frames,ok.stk,ok.exf,ok.bs,ok.bsz,ok.noex,ok.exfs,ok.funs,ok.frf]
def Cx.Ok.unwish{X:Cx}{E}(ok:(X.wish E).Ok):X.Ok:=
 #[ok.mod,ok.kind,ok.glob,ok.blt,ok.above,ok.inj,ok.has,ok.cab,ok.hd,ok.frames,ok.stk,ok.exf,ok.bs,ok.bsz,ok.noex,ok.exfs,ok.funs,ok.frf]
section
variable {X:Cx}{a8:LA9}{σ:St}{H:Hp}{s:Shared}{E:VP9}
def Inv.wish(I:Inv X a8 σ H s) E:Inv (X.wish E) a8 σ H s:=#[I.ok.wish E,I.os,I.bare,I.ò,I.loc,I.cell,I.free,I.freeC,I.pin,I.ô,I.len]
def Inv.unwish(I:Inv (X.wish E) a8 σ H s):Inv X a8 σ H s:=#[I.ok.unwish,I.os,I.bare,I.ò,I.loc,I.cell,I.free,I.freeC,I.pin,I.ô,I.len]
#where in
def SP.unwish{D f s'}(h:SP (X.wish E) a8 D f s'):SP X a8 D f s':=by
 cases f with|next=>let#[σ',H',I,q]:=h;show#[σ',H',I.unwish,q]|brk=>let#[σ',H',I,q]:=h;show#[σ',H',I.unwish,q]|cont=>let#[σ',H',I,q]:=h;show#[σ',H',I.unwish,q]|ret u=>let#[v,σ',H',I,r,q]:=h;show#[v,σ',H',I.unwish,r,q]
end
section
variable {X:Cx}{st:Stmt}{ac:List Stmt}{t u:TS}{e:Expr}{te:TE}{pos:Pos}
abbrev xzq:TS:=λD σ H=>D.nx σ H
abbrev tSeq(t u:TS):TS:=λD σ H=>t {D with nx:=u D} σ H
def _aL:PSs X [] xzq:=λ_ _ σ H _ I h=>wpAny_execs_nil #[σ,H,I,h]
#where in
def _aM(h1:PS X st t)(h2:PSs X ac u):PSs X (st::ac) (tSeq t u):=by
 intro a8 s σ H D I h;show wpAny_execs_cons (thn (h1 a8 s σ H {D with nx:=u D} I h) λf s1 q=>?_);cases f with
 |next=>
  let#[σ',H',I',q]:=q;show h2 a8 s1 σ' H' D I' q
 |ret v=>show q|brk=>show q|cont=>show q
#where in
def _aN(h1:PS X st t):PSs X [st] t:=by
 intro a8 s σ H D I h;show wpAny_execs_cons (thn (h1 a8 s σ H D I h) λf s1 q=>?_);cases f with|next=>show wpAny_execs_nil q|ret v=>show q|brk=>show q|cont=>show q
def Inv.quiet{a8}{σ:St}{H s}(I:Inv X a8 σ H s):interactive X.Y=false:=by simp[interactive,I.ok.kind]
abbrev xzr(te:TE):TS:=λD σ H=>te σ H λ_ H1=>D.nx σ H1
def _aO(he:PE X e te)(hs:swapsWith e none pos.line X.Y=pure false<|>Ŕ):PS X (.Expr e pos) (xzr te):=by
 intro a8 s σ H D I h;show wpAny_Expr_any (thn (he a8 s σ H _ I h) λv s1 hz=>by let#[x,H1,I1,r1,q1]:=hz;show#[σ,H1,I1,q1]) I.quiet hs
abbrev tRet(te:TE):TS:=λD σ H=>te σ H D.rt
def _aP(he:PE X e te):PS X (.Return @e pos) (tRet te):=by
 intro a8 s σ H D I h;show wpAny_Return_some (thn (he a8 s σ H _ I h) λv s1 hz=>by let#[x,H1,I1,r1,q1]:=hz;show#[x,σ,H1,I1,r1,q1])
abbrev tIfS(c:TT)(t u:TS):TS:=λD σ H=>c σ H λb H1=>if b=true then t D σ H1 else u D σ H1
def _aQ{c a b tc}(hc:PT X c tc)(ha:PSs X a t)(hb:PSs X b u):PS X (.If c a b pos) (tIfS tc t u):=by
 intro a8 s σ H D I h;show wpAny_If (thn (hc a8 s σ H _ I h) λd s1 hz=>?_);let#[H1,I1,q1]:=hz;cases d with|true=>show ha a8 s1 σ H1 D I1 q1|false=>show hb a8 s1 σ H1 D I1 q1
end
abbrev TG:=V->St->Hp->(St->Hp->Prop)->Prop
abbrev TGs:=List V->St->Hp->(St->Hp->Prop)->Prop
def PG(X:Cx)(iy:Expr)(t:TG):Prop:=
 ∀(a8:LA9) (s:Shared) (σ:St) (H:Hp) (v:V) (u:Value) (Q:St->Hp->Prop),Inv X a8 σ H s->RelV v u->t v σ H Q ->
  ∅ (assign iy X.Y u) (λ_ s'=>∃ σ' H',Inv X a8 σ' H' s'/\Q σ' H') X.xe s
def PGs(X:Cx)(ts:List Expr)(t:TGs):Prop:=
 ∀(a8:LA9) (s:Shared) (σ:St) (H:Hp) (vs:List V) (us:List Value) (Q:St->Hp->Prop),Inv X a8 σ H s->Vals vs us->t vs σ H Q ->
  ∅ (assignInOrder ((assignEach ts X.Y).E (·.2)) us) (λ_ s'=>∃ σ' H',Inv X a8 σ' H' s'/\Q σ' H') X.xe s
abbrev zkx:=V->V->V->Hp->(Hp->Prop)->Prop
def _aR(X:Cx)(t:zkx):Prop:=
 ∀(a8:LA9) (s:Shared) (σ:St) (H:Hp) (o i v:V) (ov iv u:Value) (Q:Hp->Prop),Inv X a8 σ H s->RelV o ov->RelV i iv->RelV v u->t o i v H Q ->
  ∅ (setItem ov iv u) (λ_ s'=>∃H',Inv X a8 σ H' s'/\Q H') X.xe s
abbrev TIp:=V->V->Hp->VK->Prop
def PIp(X:Cx)(op:Operator)(t:TIp):Prop:=
 ∀(a8:LA9) (s:Shared) (σ:St) (H:Hp) (x y:V) (v u:Value) (Q:VK),Inv X a8 σ H s->RelV x v->RelV y u->t x y H Q ->
  ∅ (inplaceOp op v u) (EP X a8 σ Q) X.xe s
section
variable {X:Cx}{pos:Pos}
abbrev vwb(i:Nat):TG:=λv σ H Q=>Q (σ.à i @v) H
def _aS{i x}(hN:X.N.l)(hi:X.N[i]?=@x)(hx:Loc X.Y.ó x)(hf:X.fn x=true\/X.Y.ó.ê.U x=@.local<|>Ř):PG X (.ç x pos) (vwb i):=by
 intro a8 s σ H v u Q I r h;show wpAny_assign_Name (_at I hN hi hx r (λs' I'=>#[_,H,I',h]) hf)
abbrev zqp:TGs:=λvs σ H Q=>vs=[]/\Q σ H
abbrev xwq(t:TG)(u:TGs):TGs:=λvs σ H Q=>∃v r,vs=v::r/\t v σ H fun σ' H'=>u r σ' H' Q
def Kx:PGs X [] zqp:=by
 rintro a8 s σ H vs us Q I r ⟨e,h⟩;subst e;show assignInOrder_nil #[σ,H,I,h]
def vw{e es t u}(h1:PG X e t)(h2:PGs X es u)
  (hs:(assignEach (e::es) X.Y).E (·.2)=assign e X.Y::(assignEach es X.Y).E (·.2)<|>Ŕ):PGs X (e::es) (xwq t u):=by
 rintro a8 s σ H vs us Q I r ⟨v,vr,e1,h⟩;subst e1;cases r with
 |cons r rr=>
  rw[hs];show assignInOrder_cons (thn (h1 a8 s σ H _ _ _ I r h) λ_ s1 hz=>by let#[σ1,H1,I1,q1]:=hz;show(h2 a8 s1 σ1 H1 _ _ Q I1 rr q1))
abbrev gSub(to ti:TE)(t:zkx):TG:=λv σ H Q=>to σ H λo H1=>ti σ H1 λi H2=>t o i v H2 λH3=>Q σ H3
def _aT{o i:Expr}{to ti:TE}{t:zkx}(ho:PE X o to)(hi:PE X i ti)(hs:_aR X t)
  (ha:autoParam (∀v,assign (.ì o i pos) X.Y v=(do
   let ov <-holding [v] (eval o X.Y)
   let iv <-holding [v,ov] (eval i X.Y)
   standAt pos
   holding [v,ov,iv] (setItem ov iv v)
   release [v,ov,iv] [])) Ŗ):PG X (.ì o i pos) (gSub to ti t):=by
 intro a8 s σ H v u Q I r h;rw[ha];show X0 (Yd (thn (ho a8 s σ H _ I h) λov s1 hz=>?_));let#[x,H1,I1,r1,q1]:=hz;show X0 (Yd (thn (hi a8 s1 σ H1 _ I1 q1) λiv s2 hz=>?_));let#[y,H2,I2,r2,q2]:=hz;show X0 (wpAny_standAt (X0 (Yd (thn (hs a8 s2 σ H2 x y v ov iv u _ I2 r1 r2 r q2) λ_ s3 hz=>?_))));let#[H3,I3,q3]:=hz;show wpAny_release #[σ,H3,I3,q3]
abbrev zq4(te:TE)(g:TG):TS:=λD σ H=>te σ H λx H1=>g x σ H1 D.nx
def _aU{tg e te g}(he:PE X e te)(hg:PG X tg g)(hs:swapsWithSole [tg] e pos.line X.Y=pure false<|>Ŕ)(hw:swappedStores [tg] e X.Y=pure none<|>Ŕ)
  (h1:(assignEach [tg] X.Y).E (·.2)=[assign tg X.Y]<|>Ŕ):PS X (.Assign [tg] e pos) (zq4 te g):=by
 intro a8 s σ H D I h;show wpAny_Assign_stores (thn (he a8 s σ H _ I h) λv s1 hz=>?_) hs hw;let#[x,H1,I1,r1,q1]:=hz;rw[h1];show thn (hg a8 s1 σ H1 x v _ I1 r1 q1) λ_ s2 q=>q
def _aV{i x e te bb}(hN:X.N.l)(hi:X.N[i]?=@x)(hx:Loc X.Y.ó x)(he:PE X e te)(hs:swapsWith e @(.ç x bb) pos.line X.Y=pure false<|>Ŕ)(hf:X.fn x=true\/X.Y.ó.ê.U x=@.local<|>Ř):
  PS X (.Assign [.ç x bb] e pos) (zq4 te (vwb i)):=by
 intro a8 s σ H D I h;show wpAny_Assign_Name (thn (he a8 s σ H _ I h) λv s1 hz=>by let#[y,H1,I1,r1,q1]:=hz;show(_at I1 hN hi hx r1 (λs2 I2=>#[_,H1,I2,q1]) hf)) hs
abbrev tAug(i:Nat)(te:TE)(ti:TIp):TS:=λD σ H=>∃x,σ[i]?=some @x/\te σ H λy H1=>ti x y H1 λz H2=>D.nx (σ.à i @z) H2
#where in
def _aW{i:Nat}{x:Str}{e:Expr}{te:TE}{op:Operator}{ti:TIp}{bb:Pos}(hN:X.N.l)(hi:X.N[i]?=@x)(hx:Loc X.Y.ó x)(he:PE X e te)(ho:PIp X op ti)(hf:X.fn x=true\/X.Y.ó.ê.U x=@.local<|>Ř):
  PS X (.AugAssign (.ç x bb) op e pos) (tAug i te ti):=by
 intro a8 s σ H D I h;let#[v,e1,h]:=h;let#[m,hn,hl]:=I.loc;let vis:Vis X.Y.ó x:=by let k\/k:=hx;show .R k;show .Z (.R k)
 let#[u,r,l]:=hl i x v hi e1 vis;show wpAny_AugAssign_Name ?_;let go:∅ (eval e X.Y) (λw s₂=>∅ (inplaceOp op u w) (λr s₃=>∅ (storeName X.Y x r) (λ_=>SP X a8 D .next) X.xe s₃) X.xe s₂) X.xe s:=by
  show thn (he a8 s σ H _ I h) λw s1 #[y,H1,I1,r1,q1]=>?_
  show thn (ho a8 s1 σ H1 v y u w _ I1 r r1 q1) λz s2 #[zv,H2,I2,r2,q2]=>?_
  show _at I2 hN hi hx r2 (λs3 I3=>#[_,H2,I3,q2]) hf
 let#[hk,hm]\/#[hk,c,hc,hcell]:=l
 .show wpAny_loadName_local I.ok.kind hk hn hm go
 .let hk\/hk:=hk
  .show wpAny_loadName_cell I.ok.kind hk hc hcell go
  .let k\/k:=hx
   .let:X.Y.ó.ê.U x=@.free:=hk;rw[k]at this;cases this
   .let:X.Y.ó.ê.U x=@.free:=hk;rw[k]at this;cases this
def ipI(f:Int->Int->Int):TIp:=λx y H Q=>∃i j,x=.C i/\y=.C j/\Q (.C (f i j)) H
def _aX:PIp X .Add (ipI λi j=>i+j):=by
 intro a8 s σ H x y v u Q I r1 r2 h;let#[i,j,e1,e2,q]:=h;subst e1;subst e2;let#[t,rfl]:=r1;let#[t',rfl]:=r2;show iadd_int #[.C _,H,I.tok _,#[_,rfl],q]
end
section
variable {X:Cx}{pos:Pos}
abbrev xk4(c:TT)(tb:TS):TS:=λD σ H=>∃W:Nat->St->Hp->Prop,(∃m,W m σ H)/\∀m σ H,W m σ H ->
 c σ H λb H1=>if b=true then ∃N:St->Hp->Prop,(∀ σ' H',N σ' H'->∃m',m'<m/\W m' σ' H')/\tb {D with nx:=N,ct:=N,bk:=D.nx} σ H1 else D.nx σ H1
#where in
def _aY{c:Expr}{body:List Stmt}{tc:TT}{tb:TS}(hp:PassesOwn (model X.â X.w) X.A X.Y X.xe)(hc:PT X c tc)(hb:PSs X body tb):PS X (.While c body [] pos) (xk4 tc tb):=by
 intro a8 s σ H D I h;let#[W,#[m0,w0],turn]:=h;show wpAny_While (codeAny_whileLoop (λn s'=>∃ σ' H',Inv X a8 σ' H' s'/\W n σ' H') ?_ m0 #[σ,H,I,w0]);rintro n s1 ⟨σ1,H1,I1,w1⟩;show Zl hp (thn (hc a8 s1 σ1 H1 _ I1 (turn n σ1 H1 w1)) λb s2 hz=>?_);let#[H2,I2,q2]:=hz;cases b with
 | true=>
  let#[N,hN,q2]:=q2;rw[Xa rfl];show Zl hp (thn (hb a8 s2 σ1 H2 _ I2 q2) λf s3 q3=>?_);cases f with
  |next=>
   let#[σ3,H3,I3,n3]:=q3;let#[m',hm,w3]:=hN σ3 H3 n3;show#[m',hm,σ3,H3,I3,w3]
  |cont=>
   let#[σ3,H3,I3,n3]:=q3;let#[m',hm,w3]:=hN σ3 H3 n3;show#[m',hm,σ3,H3,I3,w3]
  |brk=>show q3|ret v=>show q3
 |false=>
  rw[Xe Bool.false_ne_true];show wpAny_execs_nil #[σ1,H2,I2,q2]
end
structure It where
 go:Nat->Hp->Prop
 yld:Nat->Hp->V->Hp->Prop
 stop:Nat->Hp->Prop
def x8(X:Cx)(a8:LA9)(H:Hp)(b:Addr):Prop:=
 H b=none/\b≠X.Y.locals/\b∉X.fs/\(b>X.ex\/X.s₀.G.objs.O<=b)/\(∀x c,X.Y.cells.U x=@c->c≠b)/\∀p>X.pn++a8,p.1≠b
def Inv.fpOk{X a8}{σ:St}{H H' s}{b:Addr}(I:Inv X a8 σ H s)(hb:↥s<=b)(hn:H' b=none):x8 X a8 H' b:=by
 show#[hn,Zr (Xq I.lt hb),I.nofs hb,.Z (Yb I.sz hb),λx c e z=>?_,λp hp z=>?_]
 .let#[v,q]:=I.cell x c e;show absurd (Xq q.lt (z▸hb)) (Yn _)
 .show absurd (Xq (Xg (I.pin p hp).1) (z▸hb)) (Yn _)
structure Turn (P:Program)(w:World)(K:Frag)(tg:Expr)(J:It)(fp:List Addr)(it:Addr)(tn:Nat->Heap->Prop):Prop where
 mem:it>fp
 obj:∀i h,tn i h->∀b>fp,∃o,h.get? b=@o/\∀v,o.data≠.cell v
 keep:∀i h h',tn i h->(∀b>fp,∀o,h.get? b=@o->h'.get? b=@o)->tn i h'
 item:∀(X:Cx),X.â=P->X.w=w->X.K=K->X.calm=true->∀(i:Nat) (a8:LA9) (s:Shared) (σ:St) (H:Hp) (E:VP9),Inv X a8 σ H s->(∀b>fp,x8 X a8 H b)->tn i s.G->J.go i H ->
  wpAny (model P w) X.A (pyNext (.I it)) (λr s1=>∃u,r=@u /\
   wpAny (model P w) X.A (letOwnedTupleGo tg (.I it) u) (λ_ s2=>∃x H',Inv X a8 σ H' s2/\RelV x u/\J.yld i H x H'/\tn (i+1) s2.G/\∀b>fp,H' b=none) E s1) E s
 done:∀(X:Cx),X.â=P->X.w=w->X.K=K->X.calm=true->∀(i:Nat) (a8:LA9) (s:Shared) (σ:St) (H:Hp) (E:VP9),Inv X a8 σ H s->(∀b>fp,x8 X a8 H b)->tn i s.G->J.stop i H ->
  wpAny (model P w) X.A (pyNext (.I it)) (λr s1=>r=none/\Inv X a8 σ H s1) E s
 self:∀(A:Around) (i:Nat) (s:Shared) (Q:VP9) (E:VP9),tn i s.G->Q (.I it) s->wpAny (model P w) A (pyIter (.I it)) Q E s
abbrev TI:=St->Hp->(It->Hp->Prop)->Prop
def PIE(X:Cx)(a8:LA9)(σ:St)(tg:Expr)(R:It->Hp->Prop)(itv:Value)(s2:Shared):Prop:=
 ∃(it:Addr) (fp:List Addr) (tn:Nat->Heap->Prop) (J:It) (H':Hp),itv=.I it/\Inv X a8 σ H' s2/\Turn X.â X.w X.K tg J fp it tn/\tn 0 s2.G/\(∀b>fp,x8 X a8 H' b)/\R J H'
def PI(X:Cx)(tg iter:Expr)(wi:TI):Prop:=
 ∀(a8:LA9) (s:Shared) (σ:St) (H:Hp) (R:It->Hp->Prop),Inv X a8 σ H s->wi σ H R ->
  ∅ (eval iter X.Y) (λv s1=>∅ (pyIter v) (PIE X a8 σ tg R) X.xe s1) X.xe s
def _aZ {M A E s tg it u o n vs Q} (ho : s.G.get? it = @o) (hc : o.cls = .h n) (hd : o.data = .ù vs)
    (hn : ["enumerate", "zip", "dict_itemiterator", "dict_reverseitemiterator", "odict_iterator", "itertools.zip_longest", "itertools.pairwise"].contains n = false) (hQ : Q () s): wpAny M A (letOwnedTupleGo tg (.I it) u) Q E s:= by
  cases tg <;> first
    |show X6 hQ
    |(cases u <;> first
        |show X6 hQ
        | (show X0 (wpAny_load ho ?_)
           rw[hc,hd];change wpAny M A (if _ = true then _ else _) Q E s;rw[Xe (by grind)];show X6 hQ))
noncomputable def Itl(K:Frag)(a:Addr):It:=
 ⟨λi H=>∃xs x,SqL K H a xs/\xs[i]?=@x,λi H x H'=>H'=H/\∀xs,SqL K H a xs->xs[i]?=@x,λi H=>∃xs,SqL K H a xs/\xs.B<=i⟩
noncomputable def Itt(K:Frag)(a:Addr):It:=
 ⟨λi H=>∃xs x,SqT K H a xs/\xs[i]?=@x,λi H x H'=>H'=H/\∀xs,SqT K H a xs->xs[i]?=@x,λi H=>∃xs,SqT K H a xs/\xs.B<=i⟩
noncomputable def Itr(lo:Int)(n:Nat):It:=⟨λi _=>i<n,λi H x H'=>H'=H/\x=.C (lo+i),λi _=>n<=i⟩
def _a0{P w K tg}(a it):Turn P w K tg (Itl K a) [it] it (λi h=>h.IsListIter it a i) where
 mem:=by simp
 obj:=λi h st b hb=>by
  let e:b=it:= ~~~hb
  subst e;let#[o,e,c,d]:=st;show#[o,e,λv z=>by rw[d]at z;cases z]
 keep:=λi h h' st k=>st.at λo e=>k it (by simp) o e
 item:=by
  intro X hP hw hK hc i a8 s σ H E I hf st hg;subst hP hw hK;let#[xs,x,hq,hx]:=hg;let#[ab,rv,p,hz]:=I.list hq;let#[u,hu,ru]:=rv.get hx;let#[f0,f1,f2,f3,f4,f5]:=hf it (by simp);show wpAny_pyNext_list_item st p.isList (~~~hu) λh' fj sb=>?_
  let I1:Inv X a8 σ H {s with heap:=h' }:=I.turned (t':=s.ë) (λb o hb e=>(sb.2 b hb).H e) f0 f1 f3 f4 f5;let#[o,e,c,d]:=id fj;show#[u,rfl,_aZ e c d .q #[x,H,I1,ru,#[rfl,λys hy=>by rw[I.list_inj hy hq];show hx],fj,λb hb=>(hf b hb).1]]
 done:=by
  intro X hP hw hK hc i a8 s σ H E I hf st hg;subst hP hw hK;let#[xs,hq,hx]:=hg;let#[ab,rv,p,hz]:=I.list hq;let#[f0,f1,f2,f3,f4,f5]:=hf it (by simp);let hl:=rv.B;show wpAny_pyNext_list_end (I.ok.hd hc) st p.isList (by simp;lia) λh' eb=>#[rfl,I.turned (t':=s.ë) (λb o hb e=>eb b o hb e) f0 f1 f3 f4 f5]
 self:=λ_ _ _ _ _ st h=>wpAny_pyIter_listiter st h
def _a1{P w K tg}(a it):Turn P w K tg (Itt K a) [it] it (λi h=>h.IsTupleIter it a i) where
 mem:=by simp
 obj:=λi h st b hb=>by
  let e:b=it:= ~~~hb
  subst e;let#[o,e,c,d]:=st;show#[o,e,λv z=>by rw[d]at z;cases z]
 keep:=λi h h' st k=>st.at λo e=>k it (by simp) o e
 item:=by
  intro X hP hw hK hc i a8 s σ H E I hf st hg;subst hP hw hK;let#[xs,x,hq,hx]:=hg;let#[ab,rv,p,hz]:=I.tuple hq;let#[u,hu,ru]:=rv.get hx;let#[f0,f1,f2,f3,f4,f5]:=hf it (by simp);show wpAny_pyNext_tuple_item st (p) (x:=u) (~~~hu) λh' fj sb=>?_
  let I1:Inv X a8 σ H {s with heap:=h' }:=I.turned (t':=s.ë) (λb o hb e=>(sb.2 b hb).H e) f0 f1 f3 f4 f5;let#[o,e,c,d]:=id fj;show#[u,rfl,_aZ e c d .q #[x,H,I1,ru,#[rfl,λys hy=>by rw[I.tuple_inj hy hq];show hx],fj,λb hb=>(hf b hb).1]]
 done:=by
  intro X hP hw hK hc i a8 s σ H E I hf st hg;subst hP hw hK;let#[xs,hq,hx]:=hg;let#[ab,rv,p,hz]:=I.tuple hq;let#[f0,f1,f2,f3,f4,f5]:=hf it (by simp);let hl:=rv.B;show wpAny_pyNext_tuple_end (I.ok.hd hc) st (p) (by simp;lia) λh' eb=>#[rfl,I.turned (t':=s.ë) (λb o hb e=>eb b o hb e) f0 f1 f3 f4 f5]
 self:=λ_ _ _ _ _ st h=>wpAny_pyIter_tupleiter st h
def _a2{P w K tg}(it)(lo)(n):Turn P w K tg (Itr lo n) [it] it (λi h=>IsRangeIter h it (lo+(i)*1) ((n) - (i)) 1) where
 mem:=by simp
 obj:=λi h st b hb=>by
  let e:b=it:= ~~~hb
  subst e;show#[_,st,λv z=>by
   cases z]
 keep:=λi h h' st k=>k it (by simp) _ st
 item:=by
  intro X hP hw hK hc i a8 s σ H E I hf st hg;subst hP hw hK;let#[f0,f1,f2,f3,f4,f5]:=hf it (by simp);show(Walks.range (prog:=X.â) (w:=X.w) (I.ok.hd hc) it lo 1 n).item i s _ _ hg st λv h' tk hv fj kk=>?_
  let#[t,rfl]:=hv;let I1:Inv X a8 σ H {s with heap:=h',toks:=tk}:=I.turned (λb o hb e=>kk b o (~~~hb) e) f0 f1 f3 f4 f5;show#[_,rfl,_aZ fj rfl rfl .q #[.C _,H,I1,#[t,?_],#[rfl,rfl],fj,λb hb=>(hf b hb).1]];rw[Int.mul_one]
 done:=by
  intro X hP hw hK hc i a8 s σ H E I hf st hg;let#[f0,f1,f2,f3,f4,f5]:=hf it (by simp);show wpAny_pyNext_range_end (I.ok.hd hc) st (by let:n<=i:=hg;lia) λh' eb=>#[rfl,I.turned (t':=s.ë) (λb o hb e=>eb b o hb e) f0 f1 f3 f4 f5]
 self:=λ_ _ _ _ _ st h=>wpAny_pyIter_rangeiter st h
section
variable {X:Cx}{tg:Expr}
def _a3{a8}{σ:St}{H s R E lo hi t u v tk}(I:Inv X a8 σ H s)(h1:-(2 ^ 62)<=lo)(h2:lo<2 ^ 62)(h3:-(2 ^ 62)<=hi)(h4:hi<2 ^ 62)
  (q:R (Itr lo (hi - lo).L) H):∅ (pyIter (.I ↥s)) (PIE X a8 σ tg R) E {s with heap:=s.G.í {cls:=.h "range",data:=.ù %[.C lo t,.C hi u,.C 1 v|0]},toks:=tk}:=by
 show wpAny_pyIter_range (IsRange.new ..) (small_one h1 h2 h3 h4) ?_;let I1:Inv X a8 σ H {s with heap:=s.G.í {cls:=.h "range",data:=.ù %[.C lo t,.C hi u,.C 1 v|0]},toks:=tk}:=I.kept λb o e=>X4 _ e
 show#[(s.G.í {cls:=.h "range",data:=.ù %[.C lo t,.C hi u,.C 1 v|0]}).objs.O,[(s.G.í {cls:=.h "range",data:=.ù %[.C lo t,.C hi u,.C 1 v|0]}).objs.O],_,_,H,rfl,
  I1.kept (t':=tk) λb o e=>X4 _ e,_a2 _ lo (hi - lo).L,?_,λb hb=>?_,q]
 .let e1:lo+((0:Nat):Int)*1=lo:=by simp
  let e2:(((hi - lo).L:Nat):Int) - ((0:Nat):Int)=Builtin.Range.rangeSize lo hi 1:=by rw[rangeSize_one];split<;>lia
  rw[e1,e2];show X9 _ rfl
 .let e:b=(s.G.í {cls:=.h "range",data:=.ù %[.C lo t,.C hi u,.C 1 v|0]}).objs.O:= ~~~hb
  subst e;show I1.fpOk (X8 _) (I1.ô.û (X8 _))
abbrev zke(ta:TA):TI:=fun σ H R=>ta σ H λvs H1=>∃j:Int,vs=[.C j]/\-(2 ^ 62)<=j/\j<2 ^ 62/\R (Itr 0 j.L) H1
def _a4{a ta p pos}(hg:Gl X "range")(hm:X.mg "range"=none)(ha:PA X [a] ta)(hs:starEach [a] X.Y=[(false,eval a X.Y)]<|>Ŕ):PI X tg (.þ (.ç "range" p) [a] [] pos) (zke ta):=by
 intro a8 s σ H R I h;show Call_ (JK I hg hm boot_range (Y6 (thn (ha pos a8 s σ H _ I h) λus s1 hz=>?_) hs rfl));let#[vs,H1,I1,r1,q1]:=hz;let#[j,e,q1,q2,q]:=q1;subst e;cases r1 with
 |cons r rr=>
  cases rr;let#[t,rfl]:=r;show call_range_1 (_a3 I1 .q .q q1 q2 (~~~q))
abbrev tFor(wi:TI)(g:TG)(tb:TS):TS:=λD σ H=>wi σ H λJ H1=>∃W:Nat->Nat->St->Hp->Prop,(∃m,W 0 m σ H1)/\∀i m σ H,W i m σ H ->
 (J.stop i H/\D.nx σ H)\/(J.go i H/\∃N:St->Hp->Prop,(∀ σ' H',N σ' H'->∃m',m'<m/\W (i+1) m' σ' H')/\∀x H',J.yld i H x H'->g x σ H' fun σ2 H2=>tb {D with nx:=N,ct:=N,bk:=D.nx} σ2 H2)
def WQ(fp:List Addr)(h:Heap):LA9:=fp.filterMap λb=>(h.get? b).E λo=>(b,o)
def _a5{fp h b o}(hb:b>fp)(e:h.get? b=@o):(b,o)>WQ fp h:=List.mem_filterMap.å #[b,hb,by rw[e];rfl]
def _a6{fp h p}(hp:p>WQ fp h):p.1>fp/\h.get? p.1=@p.2:=by
 let#[b,hb,e]:=List.mem_filterMap.mp hp;cases q:h.get? b with
 |none=>rw[q]at e;cases e
 |some o=>
  rw[q]at e;let e':=_aa e;subst e';show#[hb,q]
def Inv.pinned{a8}{σ:St}{H s fp}(I:Inv X a8 σ H s)(hf:∀b>fp,x8 X a8 H b)(ho:∀b>fp,∃o,s.G.get? b=@o/\∀v,o.data≠.cell v):Inv X (a8++WQ fp s.G) σ H s:=
 I.pins_of λp hp=>(aA hp).ß (λz=>I.pin p (_ab _ z)) λz=>by
  let#[hb,e]:=_a6 z;let#[f0,f1,f2,_]:=hf p.1 hb;let#[o,e',d]:=ho p.1 hb;rw[e]at e';cases e';show#[e,f0,f1,f2,d]
def Inv.unpinned{a8 pl}{σ:St}{H s}(I:Inv X (a8++pl) σ H s):Inv X a8 σ H s:=I.pins_of λp hp=>I.pin p (_ab _ (_ac _ hp))
#where in
def _a7{iter:Expr}{body:List Stmt}{wi:TI}{g:TG}{tb:TS}{pos:Pos}(hp:PassesOwn (model X.â X.w) X.A X.Y X.xe)(hc:X.calm=true)(hi:PI X tg iter wi)(hg:PG X tg g)(hb:PSs X body tb)
  (hs:(∀x,foldedSetIterable iter X.Y x=pure x)<|>Ŗ):PS X (.For tg iter body [] pos) (tFor wi g tb):=by
 intro a8 s σ H D I h;show wpAny_For (thn (hi a8 s σ H _ I h) λv s1 h1=>thn h1 λitv s2 h2=>?_) hs;let#[it,fp,tn,J,H2,e,I2,T,bn,f2,W,#[m0,w0],turn]:=h2;subst e;let js:∀{H':Hp},(∀b>fp,H' b=none)->∀b>fp,x8 X a8 H' b:=λhn b hb=>#[hn b hb,(f2 b hb).2]
 show codeAny_forLoop_any (λn s'=>∃i σ' H',Inv X a8 σ' H' s'/\tn i s'.G/\(∀b>fp,H' b=none)/\W i n σ' H') ?_ m0 #[0,σ,H2,I2,bn,λb hb=>(f2 b hb).1,w0];rintro n s3 ⟨i,σ3,H3,I3,cu,oq,w3⟩;let#[stop,qn]\/#[go,N,hN,step]:=turn i n σ3 H3 w3
 .show Zl hp (thn (T.done X rfl rfl rfl hc i a8 s3 σ3 H3 X.xe I3 (js oq) cu stop) λr s4 #[hr,I4]=>?_);subst hr;show wpAny_execs_nil #[σ3,H3,I4,qn]
 .show Zl hp (thn (T.item X rfl rfl rfl hc i a8 s3 σ3 H3 X.xe I3 (js oq) cu go) λr s4 #[u,hr,h4]=>?_);subst hr;show Zl hp (thn h4 λ_ s5 #[x,H5,I5,r5,y5,np,fr5]=>?_);let I5':=I5.pinned (js fr5) (T.obj _ _ np);show Zl hp (thn (hg _ s5 σ3 H5 x u _ I5' r5 (step x H5 y5)) λ_ s6 #[σ6,H6,I6,q6]=>?_);show Zl hp (thn (hb _ s6 σ6 H6 _ I6 q6) λf s7 q7=>?_);let again:∀{σ7:St} {H7:Hp},Inv X (a8++WQ fp s5.G) σ7 H7 s7->N σ7 H7->∃m,m<n/\∃i σ' H',Inv X a8 σ' H' s7/\tn i s7.G/\(∀b>fp,H' b=none)/\W i m σ' H':=fun {σ7 H7} I7 n7=>by
   let#[m',hm,w7]:=hN σ7 H7 n7;show#[m',hm,i+1,σ7,H7,I7.unpinned,T.keep _ _ _ np λb hb o e=>(I7.pin (b,o) (_ab _ (_ab _ (_a5 hb e)))).1,λb hb=>?_,w7];let#[o,e,d]:=T.obj _ _ np b hb;show(I7.pin (b,o) (_ab _ (_ab _ (_a5 hb e)))).2.1
  cases f with|next=>let#[σ7,H7,I7,n7]:=q7;show again I7 n7|cont=>let#[σ7,H7,I7,n7]:=q7;show again I7 n7|brk=>let#[σ7,H7,I7,q7]:=q7;show#[σ7,H7,I7.unpinned,q7]|ret v=>let#[x7,σ7,H7,I7,r7,q7]:=q7;show#[x7,σ7,H7,I7.unpinned,r7,q7]
end
abbrev R2:=V->V->Hp->VK->Prop
def OpR(X:Cx)(f:Value->Value->Sem Value)(r:R2):Prop:=
 ∀(a8:LA9) (s:Shared) (σ:St) (H:Hp) (x y:V) (v u:Value) (Q:VK),Inv X a8 σ H s->RelV x v->RelV y u->r x y H Q ->
  ∅ (f v u) (EP X a8 σ Q) X.xe s
def UnR(X:Cx)(f:Value->Sem Value)(r:V->Hp->VK->Prop):Prop:=
 ∀(a8:LA9) (s:Shared) (σ:St) (H:Hp) (x:V) (v:Value) (Q:VK),Inv X a8 σ H s->RelV x v->r x H Q ->
  ∅ (f v) (EP X a8 σ Q) X.xe s
def CallR(X:Cx)(f:Value)(r:List V->Hp->VK->Prop):Prop:=
 ∀(a8:LA9) (s:Shared) (σ:St) (H:Hp) (xs:List V) (us:List Value) (Q:VK),Inv X a8 σ H s->Vals xs us->r xs H Q ->
  ∅ (call f us) (EP X a8 σ Q) X.xe s
def TruR(X:Cx)(r:V->Hp->(Bool->Hp->Prop)->Prop):Prop:=
 ∀(a8:LA9) (s:Shared) (σ:St) (H:Hp) (x:V) (v:Value) (Q:Bool->Hp->Prop),Inv X a8 σ H s->RelV x v->r x H Q ->
  ∅ (truthy v) (TP X a8 σ Q) X.xe s
abbrev tOp(r:R2)(ta tb:TE):TE:=fun σ H Q=>ta σ H λx H1=>tb σ H1 λy H2=>r x y H2 Q
abbrev tUn(r:V->Hp->VK->Prop)(ta:TE):TE:=fun σ H Q=>ta σ H λx H1=>r x H1 Q
def rI(C:Int->Int->Prop)(g:Int->Int->V):R2:=λx y H Q=>∃i j,x=.C i/\y=.C j/\C i j/\Q (g i j) H
def rI0(g:Int->Int->V):R2:=λx y H Q=>∃i j,x=.C i/\y=.C j/\Q (g i j) H
def rU(g:Int->V):V->Hp->VK->Prop:=λx H Q=>∃i,x=.C i/\Q (g i) H
section
variable {X:Cx}{a b c:Expr}{ta tb tc:TE}{pos:Pos}
def _a8(ha:PE X a ta)(hb:PE X b tb){a8 s}{σ:St}{H}{R:V->V->Hp->Prop}(I:Inv X a8 σ H s)
  (h:ta σ H λx H1=>tb σ H1 λy H2=>R x y H2) {Q} {f:Value->Value->Sem Value}
  (hf:∀v u s2 x y H2,Inv X a8 σ H2 s2->RelV x v->RelV y u->R x y H2->∅ (f v u) Q X.xe s2):
  ∅ (eval a X.Y) (λv s₁=>∅ (eval b X.Y) (λu s₂=>∅ (f v u) Q X.xe s₂) X.xe s₁) X.xe s:=by
 show thn (ha a8 s σ H _ I h) λv s1 #[x,H1,I1,r1,q1]=>(thn (hb a8 s1 σ H1 _ I1 q1) λu s2 #[y,H2,I2,r2,q2]=>(hf v u s2 x y H2 I2 r1 r2 q2))
def _a9{op r}(ho:OpR X (binaryOp op) r)(ha:PE X a ta)(hb:PE X b tb):PE X (.BinOp a op b pos) (tOp r ta tb):=by
 intro a8 s σ H Q I h;show wpAny_BinOp (_a8 ha hb I h λv u s2 x y H2 I2 rx ry q=>ho a8 s2 σ H2 x y v u Q I2 rx ry q)
def _ba{op r}(ho:UnR X (unaryOp op) r)(ha:PE X a ta):PE X (.UnaryOp op a pos) (tUn r ta):=by
 intro a8 s σ H Q I h;show UnaryOp_ (thn (ha a8 s σ H _ I h) λv s1 hz=>by let#[x,H1,I1,r1,q1]:=hz;show ho a8 s1 σ H1 x v Q I1 r1 q1)
def opI{f C}{g:Int->Int->Int}
  (rule:∀i j (t u) s Q E,C i j->Q (.C (g i j) s.ë) {s with toks:=s.ë+1}->∅ (f (.C i t) (.C j u)) Q E s):
  OpR X f (rI C λi j=>.C (g i j)):=by
 rintro a8 s σ H x y v u Q I rx ry ⟨i,j,rfl,rfl,hc,q⟩;let#[t,rfl]:=rx;let#[t',rfl]:=ry;show rule i j t t' s _ _ hc #[.C _,H,I.tok _,#[_,rfl],q]
def _bb{f}{g:Int->Int->Int}
  (rule:∀i j (t u) s Q E,Q (.C (g i j) s.ë) {s with toks:=s.ë+1}->∅ (f (.C i t) (.C j u)) Q E s):
  OpR X f (rI0 λi j=>.C (g i j)):=by
 rintro a8 s σ H x y v u Q I rx ry ⟨i,j,rfl,rfl,q⟩;let#[t,rfl]:=rx;let#[t',rfl]:=ry;show rule i j t t' s _ _ #[.C _,H,I.tok _,#[_,rfl],q]
def _bc{f}{g:Int->Int->Bool}
  (rule:∀i j (t u) (s) (Q) (E),Q (.bool (g i j)) s->∅ (f (.C i t) (.C j u)) Q E s):
  OpR X f (rI0 λi j=>.bl (g i j)):=by
 rintro a8 s σ H x y v u Q I rx ry ⟨i,j,rfl,rfl,q⟩;let#[t,rfl]:=rx;let#[t',rfl]:=ry;show rule i j t t' s _ _ #[.bl _,H,I,rfl,q]
def op_add:OpR X (binaryOp .Add) (rI0 λi j=>.C (i+j)):=_bb λ_ _ _ _ _ _ _ q=>add_int q
def _bd:OpR X (binaryOp .Sub) (rI0 λi j=>.C (i - j)):=_bb λ_ _ _ _ _ _ _ q=>sub_int q
def _be:OpR X (binaryOp .Mod) (rI (λ_ j=>0<j) λi j=>.C (i % j)):=opI λi j _ _ _ _ _ hc q=>by
 show mod_int' .q (by rw[Int.fmod_eq_emod_of_nonneg i .q];show q)
def unI{f}{g:Int->Int}
  (rule:∀i t s Q E,Q (.C (g i) s.ë) {s with toks:=s.ë+1}->∅ (f (.C i t)) Q E s):
  UnR X f (rU λi=>.C (g i)):=by
 rintro a8 s σ H x v Q I rx ⟨i,rfl,q⟩;let#[t,rfl]:=rx;show rule i t s _ _ #[.C _,H,I.tok _,#[_,rfl],q]
def _bf:UnR X (unaryOp .USub) (rU λi=>.C (-i)):=unI λ_ _ _ _ _ q=>neg_int q
end
section
variable {X:Cx}{a b c:Expr}{ta tb tc:TE}{pos:Pos}
def _bg{a8}{σ:St}{H s Q k k'}(I:Inv X a8 σ H s)(q:Q (.bl k) H)(e:k=k'):EP X a8 σ Q (.bool k') s:=by
 subst e;show#[.bl k,H,I,rfl,q]
def _bh:OpR X (compareOp .Lt) (rI0 λi j=>.bl (decide (i<j))):=_bc λ_ _ _ _ _ _ _ q=>lt_int q
def _bi:OpR X (compareOp .LtE) (rI0 λi j=>.bl (decide (i<=j))):=_bc λ_ _ _ _ _ _ _ q=>le_int q
def _bj:OpR X (compareOp .Gt) (rI0 λi j=>.bl (decide (j<i))):=_bc λ_ _ _ _ _ _ _ q=>gt_int q
def _bk:OpR X (compareOp .GtE) (rI0 λi j=>.bl (decide (j<=i))):=_bc λ_ _ _ _ _ _ _ q=>ge_int q
def _bl:OpR X (compareOp .In) (λx y H Q=>∃i j,x=.e i/\y=.e j/\Q (.bl (!(Builtin.Str.occurrences j i 0 j.B 1).ï)) H):=by
 rintro a8 s σ H x y v u Q I rx ry ⟨i,j,rfl,rfl,q⟩;let#[t,rfl]:=rx;let#[t',rfl]:=ry;show in_str (_bg I q rfl)
def _bm:OpR X (compareOp .Is) (λx y H Q=>y=.j/\Q (.bl (decide (x=.j))) H):=by
 rintro a8 s σ H x y v u Q I rx ry ⟨rfl,q⟩;cases ry;show is_none_gen (_bg I q ?_);cases x<;>first
  |(let#[t,rfl]:=rx;rfl)
def _bn:OpR X (compareOp .IsNot) (λx y H Q=>y=.j/\Q (.bl (!decide (x=.j))) H):=by
 rintro a8 s σ H x y v u Q I rx ry ⟨rfl,q⟩;cases ry;show isnot_none_gen (_bg I q ?_);cases x<;>first
  |(let#[t,rfl]:=rx;rfl)
def OpR.or{f r r'}(h:OpR X f r)(h':OpR X f r'):OpR X f (λx y H Q=>r x y H Q\/r' x y H Q):=by
 intro a8 s σ H x y v u Q I rx ry q;let q\/q:=q
 .show h a8 s σ H x y v u Q I rx ry q
 .show h' a8 s σ H x y v u Q I rx ry q
def zV b {op}(h:op≠.In<|>ŕ)(h2:op≠.NotIn<|>ŕ):behindInMarks op b=false:=by
 let e1:(op==CmpOp.In)=false:=by cases op<;>first|rfl|show absurd rfl h
 let e2:(op==CmpOp.NotIn)=false:=by cases op<;>first|rfl|show absurd rfl h2
 cases b with
 |Set elts k pos=>
  change(_&&(_||_)&&_)=false;rw[e1,e2];show(congrArg (· && _) (Bool.and_false _)).H (Bool.false_and _)
 |_=>rfl
def _bo{op r}(ho:OpR X (compareOp op) r)(ha:PE X a ta)(hb:PE X b tb)(hm:behindInMarks op b=false):PE X (.Compare a [op] [b] pos) (tOp r ta tb):=by
 intro a8 s σ H Q I h;show wpAny_Compare1 (_a8 ha hb I h λv u s2 x y H2 I2 rx ry q=>ho a8 s2 σ H2 x y v u Q I2 rx ry q) hm
abbrev xk5(t:TE):TT:=fun σ H Q=>t σ H λx H'=>∃k,x=.bl k/\Q k H'
def _bp{op r}(ho:OpR X (compareOp op) r)(ha:PE X a ta)(hb:PE X b tb)(hm:behindInMarks op b=false):PT X (.Compare a [op] [b] pos) (xk5 (tOp r ta tb)):=by
 intro a8 s σ H Q I h;show wpAny_isTrue_Compare1 (thn (ha a8 s σ H _ I h) λv s1 #[x,H1,I1,r1,q1]=>thn (hb a8 s1 σ H1 _ I1 q1) λu s2 #[y,H2,I2,r2,q2]=>
  thn (ho a8 s2 σ H2 x y v u _ I2 r1 r2 q2) λc s3 #[z,H3,I3,r3,k,e,q3]=>?_) hm
 subst e;cases r3;show Ys #[H3,I3,q3]
abbrev wq9(r r':R2)(ta tb tc:TE):TE:=fun σ H Q=>ta σ H λx H1=>tb σ H1 λy H2=>r x y H2 λz H3=>∃k,z=.bl k /\
 (if k=true then tc σ H3 λw' H4=>r' y w' H4 Q else Q (.bl false) H3)
def _bq{op op' r r'}(ho:OpR X (compareOp op) r)(ju:OpR X (compareOp op') r')(ha:PE X a ta)(hb:PE X b tb)(hc:PE X c tc)
  (hm:lastMarks [op,op'] [b,c]=false:=by ac_rfl):PT X (.Compare a [op,op'] [b,c] pos) (xk5 (wq9 r r' ta tb tc)):=by
 intro a8 s σ H Q I h;show isTrue_chain (thn (ha a8 s σ H _ I h) λv s1 #[x,H1,I1,r1,q1]=>test_link (thn (hb a8 s1 σ H1 _ I1 q1) λu s2 #[y,H2,I2,r2,q2]=>
  thn (ho a8 s2 σ H2 x y v u _ I2 r1 r2 q2) λd s3 #[z,H3,I3,r3,k,e,q3]=>?_)) hm
 subst e;cases r3;show Ys ?_;cases k with
 |false=>
  let#[k',e',q']:=q3;cases e';show ite_ff #[H3,I3,q']
 |true=>
  show ite_tt (test_last (thn (hc a8 s3 σ H3 _ I3 q3) λw' s4 #[z',H4,I4,r4,q4]=>thn (ju a8 s4 σ H4 y z' u w' _ I4 r2 r4 q4) λd' s5 #[z2,H5,I5,r5,k2,e2,q5]=>?_));subst e2;cases r5;show Ys #[H5,I5,q5]
def _br(K:Frag)(x:V)(H:Hp)(k:Bool):Prop:=
 match x with
 |.j=>k=false|.bl b=>k=b|.C i=>k=(i != 0)|.e y=>y.B<=sizeLine/\k=((y.B:Int) != 0)|.byt y=>y.O<=sizeLine/\k=((y.O:Int) != 0)|.I p=>(∃xs,SqL K H p xs/\k=!xs.ï)\/(∃xs,SqT K H p xs/\k=!xs.ï)\/∃kvs,H p=@(.dK kvs)/\k=!kvs.ï|_=>False
def _bs{κ kvs}{vs:List (κ×Value)}(r:KV kvs vs):(!vs.ï)=!kvs.ï:=by
 cases r<;>rfl
def _bt{xs ab}(r:Vals xs ab):(!ab.J.ï)=!xs.ï:=by
 cases r<;>simp
def YY:(sizeLine)<2 ^ 63:=.q
def _bu:TruR X (λx H Q=>∃k,_br X.K x H k/\Q k H):=by
 rintro a8 s σ H x v Q I rx ⟨k,e,q⟩;let hl:=YY;let hs:sizeLine=16777216:=sizeLine_eq;cases x with
 | non=>
  cases rx;let e':k=false:=e;subst e';show truthy_none #[H,I,q]
 | bl b=>
  cases rx;let e':k=b:=e;subst e';show Ys #[H,I,q]
 | int i=>
  let#[t,rfl]:=rx;let e':k=(i != 0):=e;subst e';show PySem.P.truthy_int #[H,I,q]
 | str y=>
  let#[t,rfl]:=rx;obtain⟨hy,e'⟩:y.B<=sizeLine/\k=((y.B:Int) != 0):=e;subst e';show PySem.P.truthy_str .q #[H,I.tok _,q]
 | byt y=>
  let#[t,rfl]:=rx;obtain⟨hy,e'⟩:y.O<=sizeLine/\k=((y.O:Int) != 0):=e;subst e';show PySem.W.truthy_bytes .q #[H,I.tok _,q]
 | ref p=>
  cases rx;let e':(∃xs,SqL X.K H p xs/\k=!xs.ï)\/(∃xs,SqT X.K H p xs/\k=!xs.ï)\/∃kvs,H p=@(.dK kvs)/\k=!kvs.ï:=e;let#[xs,hx,e']\/#[xs,hx,e']\/#[kvs,hx,e']:=e'
  .subst e';let#[ab,r,pl,hz]:=I.list hx;let ai:=r.B;show wpAny_truthy_list pl.isList (by dsimp[Xf];lia) #[H,I.tok _,by rw[_bt r];show q]
  .subst e';let#[ab,r,pl,hz]:=I.tuple hx;let ai:=r.B;show truthy_tuple pl (by dsimp[Xf];lia) #[H,I.tok _,by rw[_bt r];show q]
  .subst e';obtain⟨hz,hS,vs,r,m⟩:kvs.B<=sizeLine/\(p==sysModules)=false/\∃vs,KV kvs vs/\s.G.DictOf (xx X.â X.w) p vs:=I.ô p _ hx;let ai:kvs.B=vs.B:=Paired.B r;show wpAny_truthy_dict hS m .q #[H,I.tok _,by rw[_bs r];show q]
 |_=>show(show False from e).ß
def _bv(ha:PE X a ta)(he:∀gq,isTrue a X.Y gq=(do let v <-gq;standAt a.pos;holding [v] (truthy v))):
  PT X a (fun σ H Q=>ta σ H λx H'=>∃k,_br X.K x H' k/\Q k H'):=by
 intro a8 s σ H Q I h;show isTrue_plain (thn (ha a8 s σ H _ I h) λv s1 hz=>by let#[x,H1,I1,r1,q1]:=hz;show _bu a8 s1 σ H1 x v Q I1 r1 q1) (he _)
def _Oa:OpR X (binaryOp .Add) (λx y H Q=>∃i j,x=.e i/\y=.e j/\i.B+j.B<=sizeLine/\Q (.e (i++j)) H):=by
 rintro a8 s σ H x y v u Q I rx ry ⟨i,j,rfl,rfl,hz,q⟩;let#[t,rfl]:=rx;let#[t',rfl]:=ry;show add_str (λt' tk=>#[.e (i++j),H,I.tok _,#[_,rfl],q]) hz
def wZ{x us}(r:Vals [x] us):∃u,us=[u]/\RelV x u:=by
 cases r with|cons r1 r2=>cases r2;show#[_,rfl,r1]
def _bw{x y us}(r:Vals [x,y] us):∃u w',us=[u,w']/\RelV x u/\RelV y w':=by
 cases r with
 |cons r1 r2=>
  cases r2 with|cons r3 r4=>cases r4;show#[_,_,rfl,r1,r3]
def _bx:CallR X (.h "int") (λxs H Q=>(∃i,xs=[.C i]/\Q (.C i) H)\/∃k,xs=[.bl k]/\Q (.C (if k then 1 else 0)) H):=by
 intro a8 s σ H xs us Q I r h;let#[i,rfl,q]\/#[k,rfl,q]:=h
 .let#[u,rfl,t,rfl]:=wZ r;show call_int_int #[.C i,H,I,#[_,rfl],q]
 .let#[u,rfl,r1]:=wZ r;cases r1;show call_int_bool #[.C _,H,I.tok _,#[_,rfl],q]
end
structure ObjM (h:Heap)(x dx C:Addr)(mA:Str->Option Value):Prop where
 obj:h.get? x=@(PySem.W.instObj C dx)
 ns:h.Ns1 dx mA
 ne:dx≠x
#where in
def _by{h:Heap}{dx mA}(n:h.Ns1 dx mA):∃od,h.get? dx=@od/\∀name,PySem.W.lookIn name od=@(mA name):=by
 let#[o,es,ep,ho,hd,hk,_,hm]:=n;show#[o,ho,λname=>?_];let e:=hm name;unfold nsFind findBy at e;rw[<-Array.find?_toList]at e;ext PySem.W.lookIn;rw[hd];right
 split
 .revert y q;rw[q]at e;show congrArg some e
 .revert q;let a:es.p.è (·.refKey)=false:=by
   rw[List.any_eq_false];intro y hy;let#[z,t,ff]:=hk y (Array.mem_toList_iff.mp hy);simp[DictEntry.refKey,ff]
  grind
def ObjM.look{h x dx C mA}(I:ObjM h x dx C mA):∃od,PySem.W.InstAt h x (PySem.W.instObj C dx) C @od/\∀name,PySem.W.lookIn name od=@(mA name):=
 let ⟨od,ho,hl⟩:=_by I.ns
 #[od,#[I.obj,rfl,rfl,ho],hl]
def RelO.some_of{v o}(r:RelO @v o):∃u,o=@u/\RelV v u:=by
 cases o with|none=>show(r).ß|some u=>show#[u,rfl,r]
section
variable {P:Program}{w:World}{H H':Hp}{h h':Heap}{a C dx:Addr}{fs fs':List (Str×V)}
def _bz(hok:HOk P w H h)(e:H a=@(.ins C dx fs)):∃mA,ObjM h a dx C mA/\(∀f,RelO (fs.U f) (mA f))/\PySem.Within mA (fs.E (·.1))/\fs.B<=1000/\H dx=@(.æ a):=by
 let#[d,z,ne,ob,mA,n,r,q]:=(hok a _ e);show#[mA,#[ob,n,ne],r,q,z,d]
end
structure Cls (K:Frag)(C:Addr):Prop where
 pg:PySem.W.plainGet K C Str.empty=true
 hd:PySem.W.hasDictIn K C=true
 po:PySem.W.plainOver K C=true
 sa:findIn K (.I C) "__setattr__"=some @(.x "object.__setattr__")
def Cls.get{K C}(c:Cls K C) f:PySem.W.plainGet K C f=true:=c.pg
section
variable {X:Cx}{a8:LA9}{σ:St}{H:Hp}{s:Shared}{A:Around}{E:VP9}{Q:VP9}{c:Value}{b:Bool}
inductive TyOf (K:Frag)(H:Hp):V->Value->Prop where
 | non:TyOf K H .j (.h "NoneType")
 | bl (x:Bool):TyOf K H (.bl x) (.h "bool")
 | int (i:Int):TyOf K H (.C i) (.h "int")
 | str (x:Str):TyOf K H (.e x) (.h "str")
 | flt (x:UInt64):TyOf K H (.flt x) (.h "float")
 | lst {a:Addr} {xs:List V} (e:H a=@(.S xs)):TyOf K H (.I a) (.h "list")
 | frz {a:Addr} {o:Obj} {xs:List V} (e:H a=@(.ú o (.S xs))):TyOf K H (.I a) (.h "list")
 | tup {a:Addr} {xs:List V} (e:H a=@(.M xs)):TyOf K H (.I a) (.h "tuple")
 | dK {a:Addr} {kvs:List (Key×V)} (e:H a=@(.dK kvs)):TyOf K H (.I a) (.h "dict")
 | dT {a:Addr} {kvs:List (List Key×V)} (e:H a=@(.dT kvs)):TyOf K H (.I a) (.h "dict")
 | ins {a C dx:Addr} {fs:List (Str×V)} (e:H a=@(.ins C dx fs)) (cl:Cls K C) (ha:findIn K (.I C) "__class__"=some @(.x "object.__class__"))
   (hn:PySem.W.specialIn K (.x "object.__class__") "__get__"=some @(.x "getset_descriptor.__get__")) (htk:PySem.W.takesIn K (.x "object.__class__")=@true)
   (hm:PySem.W.mroIn K C (.h "object")=@true):TyOf K H (.I a) (.I C)
def _bA{x u t}(I:Inv X a8 σ H s)(rx:RelV x u)(ty:TyOf X.K H x t)(e:kitOne X.K t c=@b)(h:∀tk,Q (.bool b) {s with toks:=tk}):
  wpAny (model X.â X.w) A (call (.x "isinstance") [u,c]) Q E s:=by
 cases ty with
 |non=>cases(rx);show Yj PySem.W.kitx_none I.kIn Zg e (nofun) h|bl y=>cases(rx);show Yj PySem.W.kitx_bool I.kIn Zg e (nofun) h|int i=>let#[t,q]:=(rx);cases q;show Yj PySem.W.kitx_int I.kIn Zg e (nofun) h|str y=>let#[t,q]:=(rx);cases q;show Yj PySem.W.kitx_str I.kIn Zg e (nofun) h|flt y=>let#[t,q]:=(rx);cases q;show Yj PySem.W.kitx_float I.kIn Zg e (nofun) h
 |@lst a xs ea=>
  cases(show u=Value.I a from rx);let#[_,_,n,_,h1]:=(I.ô a _ ea);show Yj PySem.W.kitx_list I.kIn #[_,h1,rfl] e (nofun) h
 |@frz a ob xs ea=>
  cases(rx);let#[_,_,_,n,_,h1]:=(I.ô a _ ea);show Yj PySem.W.kitx_list I.kIn #[_,h1,rfl] e (nofun) h
 |@tup a xs ea=>
  cases(show u=Value.I a from rx);let#[_,_,_,p]:=(I.ô a _ ea);let#[o,h1,h2,_]:=p;show Yj PySem.W.kitx_tuple I.kIn #[o,h1,h2] e (nofun) h
 |@dK a kvs ea=>
  cases(show u=Value.I a from rx);let#[_,_,vs,_,p]:=(I.ô a _ ea);let#[o,es,ep,h1,h2,_]:=p;show Yj PySem.W.kitx_dict I.kIn #[o,h1,h2.1] e (nofun) h
 |@dT a kvs ea=>
  cases(show u=Value.I a from rx);let#[_,_,xs,_,o,es,ep,h1,h2,_]:=(I.ô a _ ea);show Yj PySem.W.kitx_dict I.kIn #[o,h1,h2.1] e (nofun) h
 |@ins a C dx fs ea cl ha hn htk hm=>
  cases(rx);let#[mA,O,_]:=_bz I.ô ea;let#[od,J,_]:=O.look;show Yj (PySem.W.kitx_own (cl.get _) cl.hd ha hn htk hm) I.kIn J e (nofun) h
end
structure Room (k:Nat)(A:Around):Prop where
 hd:A.ü=none
 dp:A.depth+3*k+5<recursionLimit
 un:A.u+16*k+200<cLine
 gd:A.guards=⇑[]
def Room.ý{j k A}(r:Room k A)(h:j<=k):Room j A:=#[r.hd,by let:=r.dp;lia,by let:=r.un;lia,r.gd]
def Room.deeper{k A}(r:Room (k+1) A) env:Room k (A.deeper env):=
 #[r.hd,by let:=r.dp;change A.depth+1+3*k+5<_;lia,by let:=r.un;change A.u+3+16*k+200<_;lia,r.gd]
def Room.depth{k A}(r:Room k A):A.depth<recursionLimit:=by let:=r.dp;lia
def Room.u{k A}(r:Room k A):A.u+64<cLine:=by let:=r.un;lia
abbrev xzp:TA:=λ_ H Q=>Q [] H
abbrev ww8(ta:TE)(tr:TA):TA:=fun σ H Q=>ta σ H λx H1=>tr σ H1 λxs H2=>Q (x::xs) H2
section
variable {X:Cx}{e:Expr}{es:List Expr}{te:TE}{t:TA}{pos:Pos}
def x5:PA X [] xzp:=λ_ _ _ _ H Q I h=>Calls.spliced_nil #[[],H,I,.nil,h]
abbrev _root_.Abs(e:Expr)(es:List Expr)(X:Cx):Prop:=starEach (e::es) X.Y=(false,eval e X.Y)::starEach es X.Y
def x3(ha:PE X e te)(hr:PA X es t)(hs:Abs e es X<|>Ŕ):PA X (e::es) (ww8 te t):=by
 intro pos a8 s σ H Q I h;rw[hs];show Z1 (thn (ha a8 s σ H _ I h) λu s1 hz=>by let#[x,H1,I1,r1,q1]:=hz;show(thn (hr pos a8 s1 σ H1 _ I1 q1) λus s2 hz=>by let#[xs,H2,I2,r2,q2]:=hz;show#[x::xs,H2,I2,.ä r1 r2,q2]))
abbrev tTup(t:TA):TE:=fun σ H Q=>t σ H λxs H1=>xs.B<=sizeLine/\∀p,H1 p=none->Q (.I p) (upd H1 p (.M xs))
abbrev tLst(t:TA):TE:=fun σ H Q=>t σ H λxs H1=>xs.B<=sizeLine/\∀p,H1 p=none->Q (.I p) (upd H1 p (.S xs))
def _bB{x1}(h:PA X es t):PE X (.Tuple es x1 pos) (tTup t):=by
 intro a8 s σ H Q I hq;show wpAny_Tuple_spliced (thn (h pos a8 s σ H _ I hq) λus s1 #[xs,H1,I1,r,z,q]=>#[by rw[<-r.B];show z,(#[.I ↥s1,upd H1 ↥s1 _,I1.laid (t':=s1.ë) (λb u e=>X4 _ e) (X8 _) ?_,rfl,q _ (I1.ô.û (X8 _))])]);show#[z,us,r,#[_,X9 _ rfl,rfl,rfl,_,rfl]]
def _bC(h:PA X es t):PE X (.List es pos) (tLst t):=by
 intro a8 s σ H Q I hq;show wpAny_List_spliced (thn (h pos a8 s σ H _ I hq) λus s1 #[xs,H1,I1,r,z,q]=>#[by rw[<-r.B];show z,(#[.I ↥s1,upd H1 ↥s1 _,I1.laid (t':=s1.ë) (λb u e=>X4 _ e) (X8 _) ?_,rfl,q _ (I1.ô.û (X8 _))])]);show#[z,us,0,r,X9 _ rfl]
end
abbrev Sp:=List V->Hp->VK->XK->Prop
abbrev CXT:=List Env->Hp->Shared->XK->Value->Shared->Prop
structure Env0 (P:Program)(w:World)(K:Frag)(mg:Str->Option Value)(base:Heap)(A:Around)(outer:List Env)(s:Shared)(H:Hp):Prop where
 frames:A.frames=@outer
 mod:Mod K mg base
 bs:∀b o,base.get? b=@o->s.G.get? b=@o/\H b=none
 bsz:base.objs.O<=↥s
 funs:s.G.FunFrames base outer
 frf:∀b>frs outer,H b=none
 hok:HOk P w H s.G
 bare:AllBare s.gens
def CE(outer:List Env)(P:Program)(w:World)(H:Hp)(s:Shared)(Q:VK)(u:Value)(s':Shared):Prop:=
 ∃v H',s'.os=s.os/\AllBare s'.gens/\Un (frs outer) [] H H' s.G s'.G/\HOk P w H' s'.G/\RelV v u/\Q v H'
def CR(CX:CXT)(outer:List Env)(P:Program)(w:World)(H:Hp)(s:Shared)(Q:VK)(E:XK)(r:Result)(s':Shared):Prop:=
 match r with
 |.ok (.ret u)=>CE outer P w H s Q u s'|.ok _=>False|.error e=>CX outer H s E e s'
structure FnOk (P:Program)(w:World)(K:Frag)(mg:Str->Option Value)(base:Heap)(CX:CXT)(k:Nat)(f:Addr)(fd:FuncData)(ps:List Str)(sp:Sp):Prop where
 len:∀vs H Q E,sp vs H Q E->vs.B=ps.B
 run:∀(A:Around) (outer:List Env) (s:Shared) (H:Hp) (args:Args) (us:List Value) (vs:List V) (Q:VK) (E:XK),Room k A->Env0 P w K mg base A outer s H->BindsTo s fd args (ps.zip us)->Vals vs us->sp vs H Q E ->
  codeAny (model P w) A (.call (.I f) args) (CR CX outer P w H s Q E) s
section
variable {X:Cx}{a8:LA9}{σ:St}{H:Hp}{s s':Shared}
def Inv.env0(I:Inv X a8 σ H s):Env0 X.â X.w X.K X.mg X.ò X.A X.stack s H:=
 #[I.ok.frames,I.ok.mod,I.bs,Yb I.ok.bsz I.sz,I.stack,I.stkFree,I.ô,I.bare]
def Inv.after{Q u}(I:Inv X a8 σ H s)(h:CE X.stack X.â X.w H s Q u s'):EP X a8 σ Q u s':=by
 let#[v,H',os,bare,un,hok,r,q]:=h;let#[hh,g,d,t,sy]:=s';obtain rfl:sy=s.os:=os;show#[v,H',I.call (h':=hh) (g':=g) (d':=d) (t':=t) un hok bare (λb z=>absurd z (by simp)),r,q]
end
abbrev ww9(sp:Sp)(t7:List V)(E:XK)(t:TA):TE:=fun σ H Q=>t σ H λvs H1=>sp (vs++t7) H1 Q E
def Binds(K:Frag)(fd:FuncData)(ps:List Str)(ds:List Value):Prop:=
 ∀(s:Shared) (us:List Value),K.In s.G->(us++ds).B=ps.B->BindsTo s fd #[us,[]] (ps.zip (us++ds))
def Binds.all{K fd ps}(h:∀us,us.B=ps.B->bindArgs fd #[us,[]]=pure (ps.zip us)):Binds K fd ps []:=λs us _ hl=>by
 rw[Xv]at hl ⊢;show .of_eq (h us hl)
def _bD(CX:CXT)(X:Cx)(E:XK):Prop:=∀(a8:LA9) (σ:St) (H:Hp) (s:Shared) (e:Value) (s':Shared),Inv X a8 σ H s->CX X.stack H s E e s'->X.xe e s'
section
variable {X:Cx}{CX:CXT}{k:Nat}{f C:Addr}{fd:FuncData}{ps:List Str}{sp:Sp}{t7:List V}{ds:List Value}{E:XK}{x m:Str}{p pos apos:Pos}{e o:Expr}{es:List Expr}{ta:TE}{t:TA}
#where in
def _bE{a8}{σ:St}{H s Q us vs}(F:FnOk X.â X.w X.K X.mg X.ò CX k f fd ps sp)(hr:Room k X.A)(hb:Binds X.K fd ps ds)(hd:Vals t7 ds)(hx:_bD CX X E)
  (I:Inv X a8 σ H s) (r:Vals vs us) (h:sp (vs++t7) H Q E):∅ (call (.I f) us) (EP X a8 σ Q) X.xe s:=by
 let r2:=r.append hd;let hl:(us++ds).B=ps.B:=by rw[<-r2.B];show F.len _ _ _ _ h
 show wpAny_call (codeAny_mono (F.run X.A X.stack s H _ _ _ Q E hr I.env0 (hb s us I.kIn hl) r2 h) λr s' hq=>?_);cases r with
 |error e=>show hx a8 σ H s e s' I hq
 |ok fl=>
  cases fl with|ret u=>show I.after hq|next=>show False.ß hq|brk=>show False.ß hq|cont=>show False.ß hq
abbrev _root_.Abb(p:Pos)(es:List Expr)(X:Cx):Prop:=(backTo p (starEach es X.Y)).è (·.1)=false
def _bF(F:FnOk X.â X.w X.K X.mg X.ò CX k f fd ps sp)(hr:Room k X.A)(hg:Gl X x)(hm:X.mg x=@(.I f))(hk:PySem.W.keepIn X.K (.I f)=true)(hb:Binds X.K fd ps ds)(hd:Vals t7 ds)(hx:_bD CX X E)
  (ha:PA X (e::es) t) (fu:Abd x<|>ŕ) (he:Abs e es X<|>Ŕ) (bu:Abb pos es X<|>Ŕ):
  PE X (.þ (.ç x p) (e::es) [] pos) (ww9 sp t7 E t):=by
 intro a8 s σ H Q I h;show Z2 (_az I hg hm (PySem.W.callWith_K I.ok.mod.kin hk (thn (ha pos a8 s σ H _ I h) λus s1 hz=>by let#[vs,H1,I1,r,q]:=hz;show#[I1.kIn,(_bE F hr hb hd hx I1 r q)]) he bu) fu)
end
structure FnScope (N P:List Str)(sc:Scope):Prop where
 kind:sc.kind=.function
 co:sc.isCoroutine=false
 gen:sc.isGenerator=false
 nd:N.l
 pre:N.take P.B=P
 par:∀x>P,sc.ê.U x=@.local\/sc.ê.U x=@.cell
 nofree:∀y>sc.ê,y.2≠.free
def _bG{kindOf x}: ∀{binds m},(∀v,(x,v)∉binds) -> bindL kindOf binds m x = m x
  | [],_,_=>rfl
  | (n,v)::r,m,h=>by
    ext bindL;rw[_bG λw hw=>h w (_ad _ hw)]
    split
    . let : x≠n:= by rintro rfl; show h v X5
      simp[this]
    . rfl
def _bH{kindOf x}: ∀{binds m},(∀v,(x,v)∉binds) -> bindC kindOf binds m x = m x
  | [],_,_=>rfl
  | (n,v)::r,m,h=>by
    ext bindC;rw[_bH λw hw=>h w (_ad _ hw)]
    split
    . rfl
    . let : x≠n:= by rintro rfl; show h v X5
      simp[this]
def _bI{kindOf x v}:∀{P:List Str} {vs} {i:Nat} {m},P.l->P[i]?=@x->vs[i]?=@v->kindOf x=@.local ->
  bindL kindOf (P.zip vs) m x=@v
 |[],_,_,_,_,h,_,_=>by simp at h
 |p::P,w::vs,0,m,nd,h1,h2,hk=>by
  simp at h1 h2;subst h1;subst h2;change bindL kindOf (_::P.zip vs) m p=_;ext bindL;rw[_bG λv hv=>(List.nodup_cons.mp nd).1 (List.of_mem_zip hv).1,Xa hk];simp
 |p::P,w::vs,i+1,m,nd,h1,h2,hk=>by
  ext bindL;show _bI (List.nodup_cons.mp nd).2 (~~~h1) (~~~h2) hk
def _bJ{kindOf x v}:∀{P:List Str} {vs} {i:Nat} {m},P.l->P[i]?=@x->vs[i]?=@v->kindOf x≠@.local ->
  bindC kindOf (P.zip vs) m x=@v
 |[],_,_,_,_,h,_,_=>by simp at h
 |p::P,w::vs,0,m,nd,h1,h2,hk=>by
  simp at h1 h2;subst h1;subst h2;change bindC kindOf (_::P.zip vs) m p=_;ext bindC;rw[_bH λv hv=>(List.nodup_cons.mp nd).1 (List.of_mem_zip hv).1,Xe hk];simp
 |p::P,w::vs,i+1,m,nd,h1,h2,hk=>by
  ext bindC;show _bJ (List.nodup_cons.mp nd).2 (~~~h1) (~~~h2) hk
def start(N:List Str)(vs:List V):St:=vs.E some++List.r (N.B - vs.B) none
def JV(CX:CXT)(P:Program)(w:World)(K:Frag)(mg:Str->Option Value)(base:Heap)(N:List Str)(qual:Str)(scope:Scope)(f:Addr)(cd:Value)(A:Around)(outer:List Env)(s:Shared)(H:Hp)(E:XK):Cx where
 prog:=P
 w:=w
 K:=K
 mg:=mg
 base:=base
 A:=A.deeper (envOfC qual scope ↥s f cd)
 N:=N
 s₀:=s
 H₀:=H
 env:=envOfC qual scope ↥s f cd
 outer:=outer
 stack:=envOfC qual scope ↥s f cd::outer
 ex:=[]
 calm:=true
 fn:=λ_=>true
 pn:=[]
 xe:=λe s'=>wpAny (model P w) (A.deeper (envOfC qual scope ↥s f cd)) (leaving (envOfC qual scope ↥s f cd) e) (λ_ ln=>CX outer H s E e ln) (λe' ln=>CX outer H s E e' ln) s'
def _bK{sc:Scope}{n x}(h:sc.ê.U x=@.cell):∃c,(cellsFrom n sc.ê []).U x=@c:=by
 show Option.isSome_iff_exists.mp (PySem.W.cellsFrom_some sc.ê n [] (.R h))
def _bL{CX P w K mg base N ps qual scope f cd A outer s s1 H E us}{vs}
  (S:FnScope N ps scope) (hd:A.ü=none) (e0:Env0 P w K mg base A outer s H) (hl:vs.B=ps.B) (r:Vals vs us)
  (x:InCallC s ↥s (bindL (envOfC qual scope ↥s f cd).kindOf (ps.zip us) λ_=>none) (cellsFrom (↥s+1) scope.ê []) (bindC (envOfC qual scope ↥s f cd).kindOf (ps.zip us) λ_=>none) s1):
  Inv (JV CX P w K mg base N qual scope f cd A outer s H E) [] (start N vs) H s1:=by
 let bu:ps.B<=N.B:=by let:=congrArg List.B S.pre;rw[Zf]at this;lia
 let#[h1,tk,rfl,hk]:=x.done;let wf:∀b,b∉(JV CX P w K mg base N qual scope f cd A outer s H E).ex:=λb z=>absurd (show b>([]:List Addr)from z) (by simp)
 show#[#[e0.mod,S.kind,rfl,rfl,X8 _,λy z c h1 h2=>?_,λy hy=>?_,λy c _ h=>?_,λ_=>hd,Around.frames_deeper e0.frames,.Z #[rfl,rfl],λb z=>absurd z (wf b),e0.bs,e0.bsz,λb _ _=>wf b,λb z=>absurd z (wf b),e0.funs,e0.frf],
  rfl,e0.bare,Un.kept hk,#[_,x.toInCall.ns,λi y v h1 h2 h3=>?_],λy c h=>#[_,x.cell y c h],e0.ô.û (X8 _),λy c h=>?_,λp hp=>absurd (show p>([]:List _)from hp) (by simp),e0.ô.kept hk,?_]
 .show name_of_addr x.apart (Yu h1) (Yu h2)
 .let hy\/hy:=hy
  .show _bK hy
  .show absurd rfl (S.nofree _ (Yu hy))
 .show Nat.le_of_lt (x.above y c (Yu h))
 .let hi:i<vs.B:=by
   unfold start at h2
   by_cases hi:i<vs.B
   .show hi
   .rw[Y1 (~~~hi),List.getElem?_replicate]at h2
    split at h2<;>cases h2
  let ha:vs[i]?=@v:=by
   unfold start at h2;rw[Xn (~~~hi),X7]at h2;cases e:vs[i]? with|none=>rw[e]at h2;cases h2|some a=>rw[e]at h2;cases h2;rfl
  let#[u,hu,rv]:=r.get ha;let hp:ps[i]?=@y:=by
   rw[<-S.pre,List.getElem?_take_of_lt .q];show h1
  let ndP:ps.l:=by rw[<-S.pre];show S.nd.sublist (List.take_sublist _ _)
  show#[u,rv,?_];let k\/k:=S.par y (Yh hp)
  .show .R #[k,_bI ndP hp hu k]
  .let#[c,e]:=_bK k;show .Z #[.R k,c,e,?_];let q:=x.cell y c e;rw[_bJ ndP hp hu (by change scope.ê.U y≠_;rw[k];decide)]at q;show q
 .show e0.ô.û (Nat.le_of_lt (x.above y c (Yu h)))
 .ext start;change _=N.B;rw[Xb,X3,Zk];lia
#where in
def _bM{CX P w K mg base k f name qual params body scope dV kV i5 pm cg ct oc}{an od}
  {mr N ps sp} (lk:K.U f=@#[oc,od,.func (PySem.W.fnOf name qual params body scope dV kV i5 pm an cg ct),mr]) (jb:PySem.W.codeIn K cg qual=true) (S:FnScope N ps scope)
  (len:∀vs H Q E,sp vs H Q E->vs.B=ps.B)
  (i':∀A (outer) (s) (H) (vs) (Q) (E),Room k (A.deeper (envOfC qual scope ↥s f cg))->sp vs H Q E ->
   ∃t,PSs (JV CX P w K mg base N qual scope f cg A outer s H E) body t/\t {nx:=λ_ H'=>Q .j H',rt:=Q} (start N vs) H):
  FnOk P w K mg base CX (k+1) f (PySem.W.fnOf name qual params body scope dV kV i5 pm an cg ct) ps sp:=by
 show#[len,λA outer s H args us vs Q E hr e0 hb r mw=>?_];let KX:=e0.mod.kin.keeps λb o e=>(e0.bs b o e).1
 let xm:∀y>ps.zip us,scope.ê.U y.1=@.local\/(scope.ê.U y.1=@.cell/\((cellsFrom (↥s+1) scope.ê []).U y.1).isSome=true):=λhz hy=>by
  let#[n,v]:=hz;let q\/q:=S.par n (List.of_mem_zip hy).1
  .show .R q
  .show .Z #[q,PySem.W.cellsFrom_some _ _ _ (.R q)]
 show codeAny_call_function hr.depth (KX _ _ lk) rfl S.co S.gen rfl (PySem.W.codeRec_of KX jb) (hb _ _ _ _ (wpAny_newFunctionEnv_cells S.kind xm λenv he s1 x=>?_));subst he;show#[(e0.mod.nolimit.keeps λb o e=>(e0.bs b o e).1).keeps x.toInCall.keep,codeAny_func ?_];let#[t,ht,hq]:=i' A outer s H vs Q E (hr.deeper _) mw;let I:Inv (JV CX P w K mg base N qual scope f cg A outer s H E) [] _ H s1:=_bL S hr.hd e0 (len _ _ _ _ mw) r x;show wpAny_mono (ht [] s1 _ H _ I hq) (λfl s' hs=>?_) λe s' hs=>hs
 let fin:∀{σ' H' v u},Inv (JV CX P w K mg base N qual scope f cg A outer s H E) [] σ' H' s'->RelV v u->Q v H'->CE outer P w H s Q u s':=
  fun {σ' H' v u} J rv q=>#[v,H',J.os,J.bare,J.ò,J.ô,rv,q]
 cases fl with
 |ret u=>
  let#[v,σ',H',J,rv,q]:=hs;show fin J rv q
 |next=>
  let#[σ',H',J,q]:=hs;show fin (v:=V.j) J rfl q
 |brk=>
  let#[_,_,_,q]:=hs;show False.ß q
 |cont=>
  let#[_,_,_,q]:=hs;show False.ß q
section
variable {X:Cx}{x:Str}{p pos:Pos}{e:Expr}{es:List Expr}{t:TA}{id T:String}{r:List V->Hp->VK->Prop}
abbrev tCB(r:List V->Hp->VK->Prop)(t:TA):TE:=fun σ H Q=>t σ H λvs H1=>r vs H1 Q
def _bN(hc:CallR X (.x id) r)(hg:Gl X x)(hm:X.mg x=none)(hv:bootBuiltins x=@(.x id))(ha:PA X (e::es) t)(hn:x≠"__name__"<|>ŕ)(fu:Abd x<|>ŕ)
  (he:Abs e es X<|>Ŕ) (bu:Abb pos es X<|>Ŕ):PE X (.þ (.ç x p) (e::es) [] pos) (tCB r t):=by
 intro a8 s σ H Q I h;show Z2 (JK I hg hm hv (PyProof.Rows.callWith_builtin1 (thn (ha pos a8 s σ H _ I h) λus s1 hz=>by let#[vs,H1,I1,r1,q1]:=hz;show hc a8 s1 σ H1 vs us Q I1 r1 q1) he bu) hn fu)
def _bO(hc:CallR X (.h T) r)(hg:Gl X x)(hm:X.mg x=none)(hv:bootBuiltins x=@(.h T))(ha:PA X (e::es) t)(hn:x≠"__name__"<|>ŕ)(fu:Abd x<|>ŕ)
  (he:Abs e es X<|>Ŕ) (bu:Abb pos es X<|>Ŕ):PE X (.þ (.ç x p) (e::es) [] pos) (tCB r t):=by
 intro a8 s σ H Q I h;show Z2 (JK I hg hm hv (Y6 (thn (ha pos a8 s σ H _ I h) λus s1 hz=>by let#[vs,H1,I1,r1,q1]:=hz;show hc a8 s1 σ H1 vs us Q I1 r1 q1) he bu) hn fu)
end
end L2
namespace HT
open PySem PyProof.Rows
section
variable {prog:Program}{w:World}{A:Around}{E:VP9}{s:Shared}
def cat_tup{t b vs ws Q}(ht:IsTup s.G t vs.J)(hb:IsTup s.G b ws.J)(hv:vs≠[])
  (h1:ws=[]->Q (.I t) s) (h2:ws≠[]->Q (.I ↥s) {s with heap:=s.G.í {cls:=.h "tuple",data:=.seq (vs++ws).J}})
  (hsz:vs.B+ws.B<=sizeLine):wpAny (model prog w) A (binaryOp .Add (.I t) (.I b)) Q E s:=by
 let#[#[cls,dd,data,sl],ho,hc,n,hd]:=id ht;let#[#[cls2,dd2,data2,ma],lh,pz,n2,kt]:=id hb;subst hc hd pz kt;let e:vs.J++ws.J=(vs++ws).J:=by simp
 by_cases hw:ws=[]
 .show concat_meets #[_,ho,rfl] #[_,lh,rfl] noFill_tuple_add seq_tuple_add PySem.F.slot_tuple_add PySem.F.entry_tuple_add (PySem.F.args_tuple_add_2 _ _)
   (tuple_addW1 t b vs.J ws.J n n2 dd dd2 sl ma (~~~hv) (by simp[hw])) #[ho,lh,h1 hw]
 .show concat_meets #[_,ho,rfl] #[_,lh,rfl] noFill_tuple_add seq_tuple_add PySem.F.slot_tuple_add PySem.F.entry_tuple_add (PySem.F.args_tuple_add_2 _ _)
   (tuple_addW2 t b vs.J ws.J n n2 dd dd2 sl ma (~~~hv) (~~~hw) (hsz)) #[ho,lh,?_]
  rw[e];show h2 hw
def sIx(n d:Nat):Option Int->Nat
 |none=>d|some v=>if v<0 then(v+(n:Int)).L else min v.L n
def _bP v (n d:Nat):(if v<0 then max (v+(n:Int)) 0 else min v n)=((sIx n d (@v):Nat):Int):=by
 change _=(((if v<0 then(v+n).L else min v.L n):Nat):Int)
 by_cases hv:v<0
 .dsimp[Xa hv];lia
 .grind
def _bQ(lo hi)(n:Nat):Builtin.Slice.sliceAdjust lo hi 1 n=(((sIx n 0 lo:Nat):Int),((sIx n n hi):Int)):=by
 let h1:¬((1:Int)<0):=.q
 ext Builtin.Slice.sliceAdjust;show Prod.ext ?_ ?_
 .cases lo with|none=>rfl|some v=>show _bP v n 0
 .cases hi with|none=>rfl|some v=>show _bP v n n
def _bR(i j:Nat):Builtin.Slice.slicePlaces i j 1=j - i:=by
 ext Builtin.Slice.slicePlaces;let h1:0<1:=.q
 simp
 split<;>lia
def _bS{v o Q}(p:IsPart v o)(h:Q o s):wpAny (model prog w) A (Builtin.Slice.slicePartIndex v) Q E s:=by
 cases p with|none=>show slicePart_none h|int i t=>show slicePart_int h
def _bT{sl vl vu lo hi n}{Q:Int×Int×Nat->Shared->Prop}(hs:s.G.IsSliceOf sl vl vu .ã)(pl:IsPart vl lo)(pu:IsPart vu hi)
  (h:Q (((sIx n 0 lo:Nat):Int),1,sIx n n hi - sIx n 0 lo) s):wpAny (model prog w) A (Builtin.Slice.sliceApplied (.I sl) (pure n)) Q E s:=by
 let#[os,lu,kg,bc]:=id hs;show X0 (X0 (Yx lu bc (x:=vl) rfl (X0 (Yx lu bc (x:=vu) rfl (X0 (Yx lu bc (x:=.ã) rfl (X6 (X0 (slicePart_none (X0 (_bS pl (X0 (_bS pu (X0 (X6 ?_)))))))))))))));change wpAny _ _ (match Builtin.Slice.sliceAdjust lo hi 1 n with|(lo,hi)=>pure (lo,_,Builtin.Slice.slicePlaces lo hi 1)) _ _ s;rw[_bQ lo hi n];change wpAny _ _ (pure _) _ _ s;rw[_bR];show X6 h
def _bU(xs:Array Value)(i k:Nat):((List.range k).filterMap λ(m:Nat)=>xs[(i+(m:Int)*1).L]?).J=((xs.p.ñ i).take k).J:=by
 let e:(λ(m:Nat)=>xs[(i+(m:Int)*1).L]?)=λm=>xs[i+m]?:=by
  funext m;let:(i+(m:Int)*1).L=i+m:=.q
  rw[this]
 rw[e];let:=pick_run xs i k;rw[List.filterMap_map]at this;let e2:(_∘λx=>i+x)=λm=>xs[i+m]?:=rfl
 rw[e2]at this;rw[this]
def _Gt{t sl items vl vu lo hi Q}(ht:IsTup s.G t items)(hs:s.G.IsSliceOf sl vl vu .ã)(pl:IsPart vl lo)(pu:IsPart vu hi)
  (hw:¬(sIx items.O 0 lo=0/\sIx items.O items.O hi=items.O))
  (h:Q (.I ↥s) {s with heap:=s.G.í {cls:=.h "tuple",data:=.seq ((items.p.ñ (sIx items.O 0 lo)).take (sIx items.O items.O hi - sIx items.O 0 lo)).J}})
  (hsz:items.O<=sizeLine):wpAny (model prog w) A (getItem (.I t) (.I sl)) Q E s:=by
 let mf:sizeOk (.seq ((items.p.ñ (sIx items.O 0 lo)).take (sIx items.O items.O hi - sIx items.O 0 lo)).J):=by
  change((items.p.ñ _).take _).J.O<=sizeLine;rw[Xf,Zf,List.length_drop,Y9];lia
 let#[os,lu,kg,bc]:=id hs;let hTs:s.TypeIs (.I sl) "slice":=#[os,lu,kg];ext getItem
 try with_reducible show Yd ?_
 show X0 (wpAny_sequenceKey ht.õ .q ?_);show X0 (Yc ht.õ PyProof.Rows.slot_tuple_getitem
  (Y0 PyProof.Rows.slot_tuple_getitem ht.õ entry_tuple_getitem ?_ (args_tuple_getitem _ _)))
 change wpAny _ _ (Builtin.Tuple.tupleItemsOf _ >>= _) _ _ s;show X0 (tupleItemsOf_ ht (X0 (wpAny_typeOf hTs (X0 (_bT hs pl pu ?_)))));let ie:¬((((sIx items.O 0 lo:Nat):Int)==0&&(1:Int)==1&&(sIx items.O items.O hi - sIx items.O 0 lo)==items.O)=true):=by
  grind
 change wpAny _ _ (if _=true then _ else _) _ _ s;rw[Xe ie,_bU]
 first
  |show X0 (Y7 (X0 (X6 (X6 ⟨_,rfl,X6 h⟩))) mf)
end
end HT
namespace L2
open PySem PySem.Spec PyProof.Rows
abbrev TO:=St->Hp->(Option Int->Hp->Prop)->Prop
def PO(X:Cx)(e:Option Expr)(t:TO):Prop:=
 ∀(a8:LA9) (s:Shared) (σ:St) (H:Hp) (Q:Option Int->Hp->Prop),Inv X a8 σ H s->t σ H Q ->
  ∅ (evalPart e X.Y) (λu s'=>∃o H',Inv X a8 σ H' s'/\IsPart u o/\Q o H') X.xe s
abbrev vjx:TO:=λ_ H Q=>Q none H
abbrev xk6(t:TE):TO:=fun σ H Q=>t σ H λx H1=>∃i,x=.C i/\Q @i H1
section
variable {X:Cx}{e:Expr}{te:TE}{lo hi:Option Expr}{tl th:TO}{pos p2:Pos}
def _bV:PO X none vjx:=by
 intro a8 s σ H Q I h;show X6 #[none,H,I,.ã,h]
def _bW(h:PE X e te):PO X @e (xk6 te):=by
 intro a8 s σ H Q I hw;show thn (h a8 s σ H _ I hw) λu s1 hz=>?_
 let#[x,H1,I1,r1,q1]:=hz;let#[i,rfl,q]:=q1;let#[t,rfl]:=r1;show#[@i,H1,I1,.C i t,q]
def SlR(X:Cx)(r:V->Option Int->Option Int->Hp->VK->Prop):Prop:=
 ∀(a8:LA9) (s:Shared) (σ:St) (H:Hp) (x:V) (v vl vu:Value) (lo hi:Option Int) (sl:Addr) (Q:VK),Inv X a8 σ H s->RelV x v->s.G.IsSliceOf sl vl vu .ã->IsPart vl lo->IsPart vu hi->r x lo hi H Q ->
  ∃T id,typeLookup (.h T) "__getitem__"=pure @(.x id)/\s.TypeIs v T/\∅ (getItem v (.I sl)) (EP X a8 σ Q) X.xe s
def SlR.or{r r'}(h:SlR X r)(h':SlR X r'):SlR X (λx lo hi H Q=>r x lo hi H Q\/r' x lo hi H Q):=by
 intro a8 s σ H x v vl vu lo hi sl Q I rx hs pl pu q;let q\/q:=q
 .show h a8 s σ H x v vl vu lo hi sl Q I rx hs pl pu q
 .show h' a8 s σ H x v vl vu lo hi sl Q I rx hs pl pu q
abbrev tSl(r:V->Option Int->Option Int->Hp->VK->Prop)(te:TE)(tl th:TO):TE:=fun σ H Q=>te σ H λx H1=>tl σ H1 λl H2=>th σ H2 λu H3=>r x l u H3 Q
def _bX{r}(hr:SlR X r)(he:PE X e te)(hl:PO X lo tl)(hu:PO X hi th):PE X (.ì e (.Slice lo hi none p2) pos) (tSl r te tl th):=by
 intro a8 s σ H Q I h;show Subscript_ (thn (he a8 s σ H _ I h) λv s1 #[x,H1,I1,r1,q1]=>(wpAny_Slice (thn (hl a8 s1 σ H1 _ I1 q1) λvl s2 #[l,H2,I2,pl,q2]=>thn (hu a8 s2 σ H2 _ I2 q2) λvu s3 #[u,H3,I3,pu,q3]=>(X6 ?_))));let I4:Inv X a8 σ H3 {s3 with heap:=s3.G.í {cls:=.h "slice",data:=.ù %[vl,vu,.ã|0]}}:=I3.kept (t':=s3.ë) λb ob q=>X4 _ q
 let#[T,id,hT,ht,hg]:=hr a8 {s3 with heap:=s3.G.í {cls:=.h "slice",data:=.ù %[vl,vu,.ã|0]}} σ H3 x v vl vu l u ↥s3 Q I4 r1 (Heap.IsSliceOf.new ..) pl pu q3;show tail_any ht hT hg (by ac_rfl)
def _bY(xs:List V)(lo hi:Option Int):List V:=(xs.ñ (HT.sIx xs.B 0 lo)).take (HT.sIx xs.B xs.B hi - HT.sIx xs.B 0 lo)
def _bZ xs (lo hi):(_bY xs lo hi).B<=xs.B:=by
 ext _bY;rw[Zf,List.length_drop];lia
def _b0(K:Frag):V->Option Int->Option Int->Hp->VK->Prop:=λx lo hi H Q=>∃a xs,x=.I a/\SqT K H a xs /\
 ¬(HT.sIx xs.B 0 lo=0/\HT.sIx xs.B xs.B hi=xs.B)/\∀p,H p=none->Q (.I p) (upd H p (.M (_bY xs lo hi)))
def sl_tup:SlR X (_b0 X.K):=by
 rintro a8 s σ H x v vl vu lo hi sl Q I rx hs pl pu ⟨a,xs,rfl,hx,hw,q⟩;cases rx;let#[ab,r,ht,hz]:=I.tuple hx;let ai:ab.J.O=xs.B:=r.B.i;show#["tuple",_,PyProof.Rows.slot_tuple_getitem.U,ht.õ,(HT._Gt ht hs pl pu (ai▸hw) ?_ (ai▸hz))];rw[ai];show#[.I ↥s,_,I.laid (t':=s.ë) (λb ob q=>X4 _ q) (X8 _) ?_,rfl,q _ (I.ô.û (X8 _))];show#[Yb (_bZ xs lo hi) hz,_,(r.ñ _).take _,IsTupD.new _ _]
def _b1(K:Frag):R2:=λx y H Q=>∃a b xs ys,x=.I a/\y=.I b/\SqT K H a xs/\SqT K H b ys/\xs≠[]/\xs.B+ys.B<=sizeLine /\
 (ys=[]->Q (.I a) H)/\(ys≠[]->∀p,H p=none->Q (.I p) (upd H p (.M (xs++ys))))
def Vals.nil_iff{xs us}(r:Vals xs us):us=[]↔xs=[]:=by
 cases r with|nil=>simp|cons _ _=>simp
def _b2:OpR X (binaryOp .Add) (_b1 X.K):=by
 rintro a8 s σ H x y v u Q I rx ry ⟨a,b,xs,ys,rfl,rfl,ha,hb,hx,hz,q1,q2⟩;cases rx;cases ry;let#[ab,r1,p1,_]:=I.tuple ha;let#[ir,r2,p2,_]:=I.tuple hb;show HT.cat_tup p1 p2 (λz=>hx (r1.nil_iff.mp z)) (λz=>#[.I a,H,I,rfl,q1 (r2.nil_iff.mp z)]) (λz=>(#[.I ↥s,_,I.laid (t':=s.ë) (λb ob q=>X4 _ q) (X8 _) ?_,rfl,q2 (λw=>z (r2.nil_iff.å w)) _ (I.ô.û (X8 _))])) (by rw[<-r1.B,<-r2.B];show hz);show#[by rw[Xb];show hz,_,r1.append r2,IsTupD.new _ _]
end
def ixN(n:Nat)(i:Int):Option Nat:=if 0<=i then(if i<n then @i.L else none)else if -(n:Int)<=i then @(i+n).L else none
def atI{α:Type}(xs:List α)(i:Int):Option α:=(ixN xs.B i).bind λj=>xs[j]?
def _b3{n i j}(h:ixN n i=@j):seqIndex? i n=@j/\j<n/\-n<=i/\i<n:=by
 unfold ixN at h
 by_cases h0:0<=i
 .rw[Xa h0]at h
  by_cases h1:i<n
  .rw[Xa h1]at h;show#[by rw[seqIndex_of h0 h1,(_aa h)],.q,.q,h1]
  .rw[Xe h1]at h;cases h
 .rw[Xe h0]at h
  by_cases h1:-n<=i
  .rw[Xa h1]at h;show#[by rw[seqIndex_neg .q h1,(_aa h)],.q,h1,.q]
  .rw[Xe h1]at h;cases h
def _b4{α xs i}{v:α}(h:atI xs i=@v):∃j,seqIndex? i xs.B=@j/\xs[j]?=@v/\j<xs.B/\-(xs.B:Int)<=i/\i<xs.B:=by
 unfold atI at h;cases e:ixN xs.B i with
 |none=>rw[e]at h;cases h
 |some j=>
  rw[e]at h;let#[h1,h2,h3,h4]:=_b3 e;show#[j,h1,h,h2,h3,h4]
def _b5(b:Expr):Prop:=∀o i,subscripted b false o i=operate [o,i] (getItem o i)
def IxR(X:Cx)(r:R2):Prop:=
 ∀(bi slice:Expr) (a8:LA9) (s:Shared) (σ:St) (H:Hp) (x y:V) (v u:Value) (Q:VK),Inv X a8 σ H s->RelV x v->RelV y u->r x y H Q ->
  subscripted slice false v u=operate [v,u] (getItem v u)->∅ (subscriptTail bi slice v u) (EP X a8 σ Q) X.xe s
def MtR(X:Cx)(id:String)(r:V->List V->Hp->VK->Prop):Prop:=
 ∀(a8:LA9) (s:Shared) (σ:St) (H:Hp) (x:V) (xs:List V) (v:Value) (us:List Value) (Q:VK),Inv X a8 σ H s->RelV x v->Vals xs us->r x xs H Q ->
  ∅ (call (.x id) (v::us)) (EP X a8 σ Q) X.xe s
section
variable {X:Cx}{a b:Expr}{ta tb:TE}{pos:Pos}
def IxR.or{r r'}(h:IxR X r)(h':IxR X r'):IxR X (λx y H Q=>r x y H Q\/r' x y H Q):=by
 intro bi slice a8 s σ H x y v u Q I rx ry q hs;let q\/q:=q
 .show h bi slice a8 s σ H x y v u Q I rx ry q hs
 .show h' bi slice a8 s σ H x y v u Q I rx ry q hs
def _b6{r}(hr:IxR X r)(ha:PE X a ta)(hb:PE X b tb)(hs:_b5 b):PE X (.ì a b pos) (tOp r ta tb):=by
 intro a8 s σ H Q I h;show Subscript_ (_a8 ha hb I h λv u s2 x y H2 I2 rx ry q=>hr a b a8 s2 σ H2 x y v u Q I2 rx ry q (hs _ _))
def _b7(K:Frag):R2:=λx y H Q=>∃p xs i v,x=.I p/\y=.C i/\SqL K H p xs/\atI xs i=@v/\Q v H
def _b8(K:Frag):R2:=λx y H Q=>∃p xs i v,x=.I p/\y=.C i/\SqT K H p xs/\atI xs i=@v/\Q v H
def _b9:R2:=λx y H Q=>∃z i c,x=.e z/\y=.C i/\z.B<=sizeLine/\atI z.cps.p i=@c/\Q (.e #[%[c|0]]) H
def ix_list:IxR X (_b7 X.K):=by
 intro bi slice a8 s σ H x y v u Q I rx ry h hs;let#[p,xs,i,z,rfl,rfl,hq,he,q]:=h;cases rx;let#[t,rfl]:=ry;let#[ab,r,pl,hz]:=I.list hq;let#[j,h1,h2,h3,h4,h5]:=_b4 he;let#[w,ew,jo]:=r.get h2;let hl:=r.B;let hn:=YY;let fin:EP X a8 σ Q w s:=#[z,H,I,jo,q]
 by_cases h0:0<=i
 .let hj:i.L=j:=by
   rw[seqIndex_of h0 h5]at h1;show _aa h1
  show item_listR pl.isList h0 .q (by rw[hj];simpa using ew) fin hs
 .let hj:(i+(ab.J.O:Int)).L=j:=by
   rw[seqIndex_neg .q h4]at h1;rw[Xf,<-hl];show _aa h1
  show subscriptTail_builtinR pl.isList.õ slot_list_getitem.U
   (wpAny_getItem_list_neg pl.isList .q (by rw[Xf]<;>lia) .q (by rw[hj];simpa using ew) #[rfl,fin]) hs
def ix_tup:IxR X (_b8 X.K):=by
 intro bi slice a8 s σ H x y v u Q I rx ry h hs;let#[p,xs,i,z,rfl,rfl,hq,he,q]:=h;cases rx;let#[t,rfl]:=ry;let#[ab,r,pl,hz]:=I.tuple hq;let#[j,h1,h2,h3,h4,h5]:=_b4 he;let#[w,ew,jo]:=r.get h2;let hn:=YY;let fin:EP X a8 σ Q w s:=#[z,H,I,jo,q];show subscriptTail_builtinR pl.õ slot_tuple_getitem.U
  (getItem_tuple pl .q .q (by rw[Xf,<-r.B];show h1) (~~~ew) #[rfl,fin]) hs
def _ca:IxR X _b9:=by
 intro bi slice a8 s σ H x y v u Q I rx ry h hs;let#[z,i,c,rfl,rfl,hz,he,q]:=h;let#[t,rfl]:=rx;let#[t',rfl]:=ry;let#[j,h1,h2,h3,h4,h5]:=_b4 he;let hl:z.cps.p.B=z.B:=by simp[Str.B]
 rw[hl]at h1 h4 h5;let hn:=YY;show tail_any (typeIs_str s z t) slot_str_getitem.U (getItem_str (c:=c) (by
  let e1:decide (i < -(2 ^ 63:Int))=false:=Xm .q;let e2:decide (i>=2 ^ 63)=false:=Xm .q;rw[e1,e2,Bool.or_false]) (by rw[h1];simpa using h2) #[.e #[%[c|0]],H,I.tok _,#[_,rfl],q]) hs
def rIx(K:Frag):R2:=λx y H Q=>_b7 K x y H Q\/_b8 K x y H Q\/_b9 x y H Q
def _cb:IxR X (rIx X.K):=ix_list.or (ix_tup.or _ca)
def _cc(ab:List Value)(n j) u:Obj.mapSeq (·.ö j u) {cls:=.h "list",data:=.seq ab.J n}={cls:=.h "list",data:=.seq (ab.à j u).J n}:=by
 simp[Obj.mapSeq]
def Inv.S{a8}{σ:St}{H s p xs}(I:Inv X a8 σ H s)(h:H p=@(.S xs)):
  ∃(ab:List Value) (n:Nat),Vals xs ab/\s.G.get? p=some {cls:=.h "list",data:=.seq ab.J n}/\xs.B<=sizeLine:=by
 let#[z,ab,n,r,e]:=I.ô p _ h;show#[ab,n,r,e,z]
def Inv.lstUpd{a8}{σ:St}{H s p xs ys}{ab its':List Value}{n n' f}(I:Inv X a8 σ H s)(h:H p=@(.S xs))
  (ho:s.G.get? p=some {cls:=.h "list",data:=.seq ab.J n}) (hf:f {cls:=.h "list",data:=.seq ab.J n}={cls:=.h "list",data:=.seq its'.J n' }) (r:Vals ys its') (hz:ys.B<=sizeLine) t :
  Inv X a8 σ (upd H p (.S ys)) {s with heap:=s.G.update p f,toks:=t}:=by
 let e:(s.G.update p f).get? p=some {cls:=.h "list",data:=.seq its'.J n' }:=by
  rw[Xx f ho (by rw[hf]<;>rfl),hf]
 show I.write (by rw[h];trivial) (.R rfl) (λb u hb q=>(Za _ _ (Ne.i hb)).H q) #[_,e] ?_;show#[hz,its',n',r,e]
def _cd:V->V->V->Hp->(Hp->Prop)->Prop:=λo i v H Q=>∃p xs k j,o=.I p/\i=.C k/\H p=@(.S xs)/\ixN xs.B k=@j/\Q (upd H p (.S (xs.à j v)))
def _ce:_aR X _cd:=by
 rintro a8 s σ H o i v ov iv u Q I ro ri rv ⟨p,xs,k,j,rfl,rfl,hp,hj,q⟩;cases ro;let#[t,rfl]:=ri;let#[ab,n,r,ho,hz]:=I.S hp;let#[h1,h2,h3,h4]:=_b3 hj;let hl:=r.B;let hn:=YY;let I':Inv X a8 σ _ {s with heap:=s.G.update p _}:=
  I.lstUpd hp ho (_cc ab n j u) (r.à rv j) (by rw[List.length_set];show hz) s.ë
 by_cases h0:0<=k
 .let hk:k.L=j:=by
   rw[seqIndex_of h0 h4]at h1;show _aa h1
  show PySem.W.ki_setAt ho h0 .q (by rw[Xf,<-hl];show h4) (hk▸#[_,I',q])
 .let hk:(k+(ab.J.O:Int)).L=j:=by
   rw[seqIndex_neg .q h3]at h1;rw[Xf,<-hl];show _aa h1
  show PySem.W.ki_setBack ho .q (by rw[Xf,<-hl];show h3) .q (hk▸#[_,I',q])
def _cf(lo hi) n:(sliceBounds lo hi none n).1=((HT.sIx n 0 lo:Nat):Int)/\(sliceBounds lo hi none n).2.1=((HT.sIx n n hi:Nat):Int)/\(sliceBounds lo hi none n).2.2=1:=by
 show#[?_,?_,rfl]
 .cases lo with
  |none=>simp[sliceBounds,HT.sIx]
  |some i=>
   dsimp[sliceBounds,HT.sIx,Option.getD_none,show 0<(1:Int) by decide,if_true]
   by_cases h:i<0
   .dsimp[h,if_true]<;>lia
   .dsimp[h,if_false]<;>lia
 .cases hi with
  |none=>simp[sliceBounds,HT.sIx]
  |some i=>
   dsimp[sliceBounds,HT.sIx,Option.getD_none,show 0<(1:Int) by decide,if_true]
   by_cases h:i<0
   .dsimp[h,if_true]<;>lia
   .dsimp[h,if_false]<;>lia
def _cg(ab:List Value)(lo hi):slicePick ab.J lo hi none=((ab.ñ (HT.sIx ab.B 0 lo)).take (HT.sIx ab.B ab.B hi - HT.sIx ab.B 0 lo)).J:=by
 let#[h1,h2,h3]:=_cf lo hi ab.J.O;ext slicePick;rw[h1,h2,h3];dsimp[sliceRange_one,pick_run]<;>rfl
def _ch(K:Frag):V->Option Int->Option Int->Hp->VK->Prop:=λx lo hi H Q=>∃a xs,x=.I a/\SqL K H a xs/\∀p,H p=none->Q (.I p) (upd H p (.S (_bY xs lo hi)))
def sl_list:SlR X (_ch X.K):=by
 rintro a8 s σ H x v vl vu lo hi sl Q I rx hs pl pu ⟨a,xs,rfl,hx,q⟩;cases rx;let#[ab,r,ht,hz]:=I.list hx;let ai:=r.B;show#["list",_,slot_list_getitem.U,ht.isList.õ,(wpAny_getItem_list_slice ht.isList hs pl pu .ã (by simp) ?_ (by symm))];rw[_cg,<-ai];show#[.I ↥s,_,I.laid (t':=s.ë) (λb ob q=>X4 _ q) (X8 _) ?_,rfl,q _ (I.ô.û (X8 _))];show#[Yb (_bZ xs lo hi) hz,_,0,(r.ñ _).take _,X9 _ rfl]
def _ci:OpR X (compareOp .NotIn) (λx y H Q=>∃i j,x=.e i/\y=.e j/\Q (.bl (!(!(Builtin.Str.occurrences j i 0 j.B 1).ï))) H):=by
 rintro a8 s σ H x y v u Q I rx ry ⟨i,j,rfl,rfl,q⟩;let#[t,rfl]:=rx;let#[t',rfl]:=ry;show notIn_str #[.bl _,H,I,rfl,q]
def _Cq:CallR X (.x "len") (λxs H Q=>∃p ys,xs=[.I p]/\(SqL X.K H p ys\/SqT X.K H p ys)/\Q (.C ys.B) H):=by
 rintro a8 s σ H xs us Q I r ⟨p,ys,rfl,hq,q⟩;let#[u,rfl,rx]:=wZ r;cases rx;let hn:=YY;let hq\/hq:=hq
 .let#[ab,r',pl,hz]:=I.list hq;let ai:=r'.B;show Calls.call_len_list pl.isList (by dsimp[Xf]<;>lia) #[.C ys.B,H,I.tok _,#[s.ë+1,by rw[Xf,ai]],q]
 .let#[ab,r',pl,hz]:=I.tuple hq;let ai:=r'.B;show len_tuple pl (by dsimp[Xf]<;>lia) #[.C ys.B,H,I.tok _,#[s.ë+1,by rw[Xf,ai]],q]
def _Cs:CallR X (.x "len") (λxs H Q=>∃z,xs=[.e z]/\z.B<=sizeLine/\Q (.C z.B) H):=by
 rintro a8 s σ H xs us Q I r ⟨z,rfl,hz,q⟩;let#[u,rfl,t,rfl]:=wZ r;let hn:=YY;show len_str .q #[.C z.B,H,I.tok _,#[_,rfl],q]
def CallR.or{f r r'}(h:CallR X f r)(h':CallR X f r'):CallR X f (λxs H Q=>r xs H Q\/r' xs H Q):=by
 intro a8 s σ H xs us Q I rs q;let q\/q:=q
 .show h a8 s σ H xs us Q I rs q
 .show h' a8 s σ H xs us Q I rs q
def _cj:CallR X (.h "list") (λxs H Q=>∃p ys,xs=[.I p]/\(SqL X.K H p ys\/SqT X.K H p ys)/\∀l,H l=none->Q (.I l) (upd H l (.S ys))):=by
 rintro a8 s σ H xs us Q I r ⟨p,ys,rfl,hq,q⟩;let#[u,rfl,rx]:=wZ r;cases rx;let fin:∀ab,Vals ys ab->ys.B<=sizeLine->∀h' (c'),_ ->
   h'.get? ↥s=some {cls:=.h "list",dict:=none,data:=.seq ab.J c',slots:=(List.J [])}->EP X a8 σ Q _ {s with heap:=h' }:=λab r' hz h' c' kp e=>
  #[.I ↥s,_,I.laid (t':=s.ë) kp (X8 _) (show ObjOk X.â X.w _ h' _ (.S ys)from#[hz,ab,c',r',e]),rfl,q _ (I.ô.û (X8 _))]
 let hq\/hq:=hq
 .let#[ab,r',pl,hz]:=I.list hq;let ai:=r'.B;let#[o,ho,hc,n,hd]:=pl.isList;show call_list_seq p (.R rfl) ho hc hd (λh' c' kp e=>fin ab r' hz h' c' kp e) (by dsimp[Xf]<;>lia)
 .let#[ab,r',pl,hz]:=I.tuple hq;let ai:=r'.B;let#[o,ho,hc,n,hd]:=pl;show call_list_seq p (.Z rfl) ho hc hd (λh' c' kp e=>fin ab r' hz h' c' kp e) (by dsimp[Xf]<;>lia)
def _ck:CallR X (.h "tuple") (λxs H Q=>∃p ys,xs=[.I p]/\((SqL X.K H p ys/\∀l,H l=none->Q (.I l) (upd H l (.M ys)))\/(SqT X.K H p ys/\Q (.I p) H))):=by
 rintro a8 s σ H xs us Q I r ⟨p,ys,rfl,h⟩;let#[u,rfl,rx]:=wZ r;cases rx;let#[hq,q]\/#[hq,q]:=h
 .let#[ab,r',pl,hz]:=I.list hq;let ai:=r'.B;show call_tuple_list pl.isList (λh' kp=>?_) (by symm);let I1:Inv X a8 σ H {s with heap:=h' }:=I.kept (t':=s.ë) kp;let I2:Inv X a8 σ _ {s with heap:=h'.í {cls:=.h "tuple",data:=.seq ab.J}}:=
   I1.laid (t':=s.ë) (λb o e=>X4 _ e) (X8 _) (show ObjOk X.â X.w _ _ _ (.M ys)from#[hz,ab,r',IsTupD.new _ _])
  show#[.I h'.objs.O,_,I2,rfl,q _ (I1.ô.û (X8 _))]
 .let#[ab,r',pl,hz]:=I.tuple hq;show call_tuple_same pl #[.I p,H,I,rfl,q]
def tyV(K : Frag)(T : String)(x : V)(H : Hp): Prop:= match x with
  |.e _=>T = "str"|.C _=>T = "int"
  |.I p=>(T = "list" /\ ∃xs,SqL K H p xs) \/ (T = "tuple" /\ ∃o,K.U p = @o /\ o.cls = .h "tuple" /\ o.dict = none) \/
      (T = "dict" /\ ((∃kvs,H p = @(.dK kvs)) \/ ∃kvs,H p = @(.dT kvs))) \/ (T = "set" /\ ∃S n,H p = @(.à S n))
  |_=>False
def _cl{a8}{σ:St}{H s T x v}(I:Inv X a8 σ H s)(r:RelV x v)(ty:tyV X.K T x H):
  s.TypeIs v T/\∀a,v=.I a->∃ob,s.G.get? a=@ob/\ob.dict=none:=by
 cases x with
 | str z=>
  let#[t,rfl]:=r;cases(ty);show#[typeIs_str s z t,nofun]
 | int i=>
  let#[t,rfl]:=r;cases(ty);show#[typeIs_int s i t,nofun]
 | ref p=>
  cases r;let#[rfl,xs,hq]\/#[rfl,o,hk,hc,hd]\/#[rfl,hk]\/#[rfl,S,n,hk]:=ty
  .let#[ab,_,pl,_]:=I.list hq;show#[pl.isList.õ,λa e=>?_];cases e;let#[o,n,e,c,hd,_]:=pl;show#[o,e,hd]
  .show#[#[o,I.kIn p o hk,hc],λa e=>?_];cases e;show#[o,I.kIn _ o hk,hd]
  .let z:∃o,s.G.get? p=@o/\o.ExactDict:=by
    let#[kvs,hk]\/#[kvs,hk]:=hk
    .let#[_,_,_,_,o,_,_,e,ex,_]:=I.ô p _ hk;show#[o,e,ex]
    .let#[_,_,_,_,o,_,_,e,ex,_]:=I.ô p _ hk;show#[o,e,ex]
   let#[o,e,ex]:=z;show#[#[o,e,ex.1],λa e2=>?_];cases e2;show#[o,e,ex.2.1]
  .let#[o,_,_,_,e,ex,_]:=I.ô p _ hk;show#[#[o,e,ex.1],λa e2=>?_];cases e2;show#[o,e,ex.2.1]
 |_=>show False.ß ty
abbrev tBM(K:Frag)(T:String)(r:V->List V->Hp->VK->Prop)(to:TE)(t:TA):TE:=fun σ H Q=>to σ H λx H1=>tyV K T x H1/\t σ H1 λxs H2=>r x xs H2 Q
variable {o e:Expr}{es:List Expr}{to:TE}{t:TA}{name:Str}{apos am:Pos}{T id:String}{r:V->List V->Hp->VK->Prop}
abbrev _root_.Abe(p q:Pos):Prop:=(p.endLine==q.line)=true
def _cm(pa:PlainAttrs T)(slot:Slot T name id)(xl:typeOf (.x id)=pure (.h "method_descriptor"))(hm:MtR X id r)(ho:PE X o to)(ha:PA X (e::es) t)
  (dh:attributeBase o name X.Y (eval o X.Y)=eval o X.Y<|>Ŕ)
  (gl:autoParam (((backTo am (starEach (e::es) X.Y)).all (λx=>!x.1)&&(backToKw am (keywordEach [] X.Y)).all (λx=>x.1.isSome)
   && decide ((e::es).B+([]:List Keyword).B+(if([]:List Keyword).ï then 0 else 1)<30))=true) Ŕ)
  (dg:Abe apos am<|>Ŕ) (hs:Abs e es X<|>Ŕ) (bq:Abb am es X<|>Ŕ):
  PE X (.þ (.Attribute o name apos) (e::es) [] am) (tBM X.K T r to t):=by
 intro a8 s σ H Q I h;show wpAny_Call_method_late dh gl dg rfl (thn (ho a8 s σ H _ I h) λv s1 hz=>?_);let#[x,H1,I1,r1,ty,q1]:=hz;let#[h1,h2]:=_cl I1 r1 ty;show#[T,id,pa,slot,xl,h1,h2,?_];let hA:=ha am a8 s1 σ H1 _ I1 q1;rw[hs]at hA ⊢;show Zb (by change(false||(backTo am _).è _)=false;rw[bq]<;>rfl) (Calls.evalArgs_plain (thn hA λus s2 hz=>by let#[vs,H2,I2,r2,q2]:=hz;show hm a8 s2 σ H2 x vs v us Q I2 r1 r2 q2))
end
def MtM(X:Cx)(id:String)(r:V->List V->Hp->VK->Prop):Prop:=
 ∀(a8:LA9) (s:Shared) (σ:St) (H:Hp) (x:V) (xs:List V) (v:Value) (us:List Value) (Q:VK),Inv X a8 σ H s->RelV x v->Vals xs us->r x xs H Q ->
  ∅ (call (.x id) (v::us)) (EP X a8 σ Q) X.xe s
def Vals.one:∀{x us},Vals [x] us->∃u,us=[u]/\RelV x u:=by
 intro x us h;cases h with|cons r h=>cases h;show#[_,rfl,r]
def Vals.two:∀{x y us},Vals [x,y] us->∃u v,us=[u,v]/\RelV x u/\RelV y v:=by
 intro x y us h;cases h with
 |cons r h=>
  cases h with|cons q h=>cases h;show#[_,_,rfl,r,q]
def Vals.ø:∀{xs us} (i),Vals xs us->Vals (xs.ø i) (us.ø i)
 |_,_,_,.nil=>.nil|_,_,0,.ä _ t=>t|_,_,i+1,.ä r t=>.ä r (Vals.ø i t)
def Vals.rep{xs us}(h:Vals xs us):∀k,Vals (List.r k xs).flatten (List.r k us).flatten
 |0=>.nil
 |k+1=>by
  show Vals.append h (Vals.rep h k)
def _cn{α:Type}:∀(l:List α) (i),(l.ø i).B<=l.B
 |[],_=>X8 _|_::_,0=>Zc _|_::r,i+1=>Nat.succ_le_succ (_cn r i)
def _co(ab):∀k (ae:List Value),
  List.foldl (λx1 x2=>x1++x2) ae.J (List.r k ab.J)=(ae++(List.r k ab).flatten).J
 | 0,ae=>by simp
 | k+1,ae=>by
  let e:ae.J++ab.J=(ae++ab).J:=by simp
  let e2:(ae++ab)++(List.r k ab).flatten=ae++(List.r (k+1) ab).flatten:=by
   rw[List.replicate_succ,List.flatten_cons,Xs]
  rw[<-e2,<-_co ab k _,<-e,List.replicate_succ,Yy]
section
variable {X:Cx}{a8:LA9}{σ:St}{H:Hp}{s:Shared}{l b:Addr}{xs ys zs:List V}
def Inv.lset{ab its':List Value}{n f t'}(I:Inv X a8 σ H s)(hH:H l=@(.S xs))
  (e:s.G.get? l=some {cls:=.h "list",data:=.seq ab.J n}) (hf:f ab.J=its'.J) (hv:Vals ys its') (hz:ys.B<=sizeLine):
  Inv X a8 σ (upd H l (.S ys)) {s with heap:=s.G.update l (Obj.mapSeq f),toks:=t' }:=by
 let q:=PySem.IsL.update e f;rw[hf]at q;show I.write (hH▸trivial) (.R rfl) (λb' u hb hu=>(Za s.G _ (Ne.i hb)).H hu) #[_,q] ?_;show#[hz,its',_,hv,q]
def Inv.lnew{ab t'}(I:Inv X a8 σ H s)(hv:Vals ys ab)(hz:ys.B<=sizeLine):
  Inv X a8 σ (upd H ↥s (.S ys)) {s with heap:=s.G.í {cls:=.h "list",data:=.seq ab.J},toks:=t' }:=
 I.laid (λ_ _ q=>X4 _ q) (X8 _) #[hz,ab,0,hv,X9 _ rfl]
def Inv.û(I:Inv X a8 σ H s):H ↥s=none:=I.ô.û (X8 _)
def Inv.lstM(I:Inv X a8 σ H s)(hH:H l=@(.S xs)):xs.B<=sizeLine/\∃(ab:List Value) (n:Nat),Vals xs ab/\xs.B=ab.B/\s.G.get? l=some {cls:=.h "list",data:=.seq ab.J n}:=by
 let#[z,ab,n,r,e]:=I.ô l _ hH;show#[z,ab,n,r,r.B,e]
def _cp{n}(h:n<=sizeLine):Builtin.List.listTooLong n=false:=by
 ext Builtin.List.listTooLong
 symm
end
section
variable {X:Cx}
def _cq:V->List V->Hp->VK->Prop:=λx vs H Q=>∃l xs y,x=.I l/\vs=[y]/\H l=@(.S xs)/\xs.B<sizeLine/\Q .j (upd H l (.S (xs++[y])))
def _cr:MtM X "list.append" _cq:=by
 rintro a8 s σ H x vs v us Q I rx rv ⟨l,xs,y,rfl,rfl,hH,hz,q⟩;cases rx;let#[u,rfl,ru]:=rv.one;let#[z,ab,n,r,hl,e]:=I.lstM hH;show call_meets F.slot_list_append #[_,e,rfl] F.entry_list_append (F.args_list_append_2 _ _) (PySem.list_append l ab.J n u (by symm)) #[e,(#[.j,_,I.lset (its':=ab++[u]) hH e (by simp) (r.append (.ä ru .nil)) ?_,rfl,q])];rw[Xb,Xy];lia
def _cs:V->List V->Hp->VK->Prop:=λx vs H Q=>∃l xs i k y,x=.I l/\vs=[.C i]/\H l=@(.S xs)/\-(2 ^ 63)<=i/\i<2 ^ 63/\seqIndex? i xs.B=@k/\xs[k]?=@y/\Q y (upd H l (.S (xs.ø k)))
def _ct:MtM X "list.pop" _cs:=by
 rintro a8 s σ H x vs v us Q I rx rv ⟨l,xs,i,k,y,rfl,rfl,hH,h1,h2,hk,hy,q⟩;cases rx;let#[u,rfl,ru]:=rv.one;let#[t,rfl]:=ru;let#[z,ab,n,r,hl,e]:=I.lstM hH;let#[w,hw,jo]:=r.get hy;show call_meets F.slot_list_pop #[_,e,rfl] F.entry_list_pop (F.args_list_pop_2 _ _)
  (MeetsSeq.list_pop_at l ab.J n i t k w (fitsIndex_both h1 h2) (by rw[Xf,<-hl];show hk) (Ye▸hw) (by rw[Xf];lia)) #[e,?_]
 show#[y,_,I.lset (its':=ab.ø k) hH e ?_ (r.ø k) ?_,jo,q]
 .change ab.J.eraseIdxIfInBounds k=(ab.ø k).J;rw[List.eraseIdxIfInBounds_toArray]
 .let:=_cn xs k;lia
def _cu{α:Type}(xs:List α) k:(List.r k xs).flatten.B=k*xs.B:=by
 induction k with|zero=>simp|succ k ih=>symm
end
end L2
namespace Att
open PySem PySem.W PySem.Calls PyProof.Rows
def _cv{P h}:∀ns vs,WellAll P h vs (ns.E WData.C)->IntsAre vs ns:=by
 intro ns
 induction ns with
 | nil=>
  intro vs w;cases w;show .nil
 | cons n ns ih=>
  intro vs w;cases w with
  |cons a b=>
   cases a;show .ä _ _ (ih _ b)
def script_of{l:OpenLaw}{n}(hn:l.most=@n){P h args}{dz}
  (nz:l.row.toRowW.claim.pre args=true) (hwl:WellAll P h dz args):
  ∃a vs ns,dz=[Value.I a]/\args=[WData.list (ns.E WData.C)]/\h.get? a=some {cls:=.h "list",data:=.seq vs.J}/\IntsAre vs ns/\ns.B<=n:=by
 let li:WShape.hasAll [] args [.list .C]=true:=(pre_splitW nz).1;let hc:l.pre.holds [] {args:=args}=true:=(pre_splitW nz).2;let#[d,r,rfl,h1,h2]:=hasAllW_cons li;obtain rfl:=hasAllW_nil h2;let#[xs,rfl,h3]:=hasW_list h1;let#[ns,rfl]:=items_int h3;let ai:ns.B<=n:=by
  unfold OpenLaw.pre at hc;let h4:(WTm.not (.lt (.lit (.C n)) (.len (.arg 0)))).holds [] {args:=[.list (ns.E .C)]}=true:=by
   let h4:=(holds_andW hc).1;rw[hn]at h4;show h4
  let h5:=condW_of h4 (w_not (w_lt w_lit (w_len_list (w_arg rfl))))
  grind
 cases hwl with
 |cons w1 w2=>
  cases w2;cases w1 with|list ho ml=>show#[_,_,ns,rfl,rfl,ho,_cv ns _ ml,ai]
def post_true(l:OpenLaw) args:l.row.toRowW.claim.post args (.bool true) args=true:=
 postW_of
  (show WShape.has [] _ .bool=true by first|rfl|decide|simp[WShape.armsAll])
  (w_eq_bool (w_res rfl) w_lit) rfl
end Att
namespace L2
open PySem PySem.Spec PyProof.Rows
def _cw(H:Hp):Prop:=∀b,H b=none\/∃o xs,H b=@(.ú o (.S xs))
def xQ(s:Stmt):Arguments:=match s with
 |.FunctionDef _ a _ _ _ _ _ _ _ _=>a|_=>{posonlyargs:=[],args:=[],vararg:=none,kwonlyargs:=[],kw_defaults:=[],kwarg:=none,defaults:=[]}
def zj(s:Stmt):List Stmt:=match s with
 |.FunctionDef _ _ b _ _ _ _ _ _ _=>b|_=>[]
def jV(s:Stmt):Scope:=match s with
 |.FunctionDef _ _ _ _ _ _ sc _ _ _=>sc|_=>{kind:=.function,names:=[],isGenerator:=false,isCoroutine:=false}
structure Fun (K:Frag)(x qual:Str)(st:Stmt)(f:Addr)(fd:FuncData):Prop where
 ex:∃(oc:Value) (od:Option Addr) (kV i5 pm:Value) (an:Option Addr) (cg ct:Value) (mr:Array (Option Value)),
  fd=PySem.W.fnOf x qual (xQ st) (zj st) (jV st) .ã kV i5 pm an cg ct/\K.U f=@#[oc,od,.func fd,mr]/\PySem.W.codeIn K cg qual=true
 kp:PySem.W.keepIn K (.I f)=true
section
variable {P:Program}{w:World}{K:Frag}{mg:Str->Option Value}{base:Heap}
def Fun.binds{x qual st f fd ps}(F:Fun K x qual st f fd)
  (h:∀kV i5 pm an (cg ct) us,us.B=ps.B->bindArgs (PySem.W.fnOf x qual (xQ st) (zj st) (jV st) .ã kV i5 pm an cg ct) #[us,[]]=pure (ps.zip us)):Binds K fd ps []:=by
 let#[oc,od,kV,i5,pm,an,cg,ct,mr,rfl,lk,jb]:=F.ex;show .all (h kV i5 pm an cg ct)
def _cx{x qual st f oc od an mr kV i5 pm cg ct}(l:K.U f=@#[oc,od,.func (PySem.W.fnOf x qual (xQ st) (zj st) (jV st) .ã kV i5 pm an cg ct),mr])
  (c:PySem.W.codeIn K cg qual=true) (k:PySem.W.keepIn K (.I f)=true):Fun K x qual st f (PySem.W.fnOf x qual (xQ st) (zj st) (jV st) .ã kV i5 pm an cg ct):=#[#[oc,od,kV,i5,pm,an,cg,ct,mr,rfl,l,c],k]
end
section
variable {X:Cx}
def pv(i:Nat){x:Str}{pos:Pos}(hN:X.N[i]?=@x<|>Ŕ)(hv:Vis X.Y.ó x<|>ř)(hd:Abd x<|>ŕ)
  (jb:(x==("__classdict__":Str))=false<|>ŕ):PE X (.ç x pos) (z4 i):=_au hN hv hd jb
end
def kJ(H H':Hp):Prop:=∀b o,H b=@o->H' b=@o
section
variable {κ:Type}[DecidableEq κ]
def zX(kvs:List (κ×V))(k:κ):Option V:=(kvs.find? λkv=>decide (kv.1=k)).E (·.2)
def xJ(kvs:List (κ×V))(k:κ)(v:V):List (κ×V):=
 if(kvs.è λkv=>decide (kv.1=k))=true then kvs.E (λkv=>if kv.1=k then(kv.1,v)else kv)else kvs++[(k,v)]
def _cy{p r}{k:κ}(e:p.1=k):zX (p::r) k=@p.2:=by simp[zX,e]
def _cz{p r}{k:κ}(e:¬p.1=k):zX (p::r) k=zX r k:=by simp[zX,e]
def _cA(k):∀kvs:List (κ×V),(kvs.è λkv=>decide (kv.1=k))=(zX kvs k).isSome
 |[]=>rfl
 |p::r=>by
  rw[Zd]
  by_cases e:p.1=k
  .dsimp[_cy e,Xh e,Bool.true_or,Option.isSome_some]
  .rw[_cz e,Xm e];show _cA k r
def _cB kvs (k:κ) v:(xJ kvs k v).B<=kvs.B+1:=by
 ext xJ
 split
 .rw[X3];lia
 .symm
def RelO.isSome_eq{o u}(r:RelO o u):o.isSome=u.isSome:=by
 cases o with
 |none=>cases u with|none=>rfl|some _=>show(r).ß
 |some _=>cases u with|none=>show(r).ß|some _=>rfl
def RelO.s{o u d d'}(r:RelO o u)(rd:RelV d d'):RelV (o.s d) (u.s d'):=by
 cases o with
 |none=>cases u with|none=>show rd|some _=>show(show False from r).ß
 |some _=>cases u with|none=>show(show False from r).ß|some _=>show r
def KV.val{kvs vs}(r:KV kvs vs)(k:κ):RelO (zX kvs k) (valueAt vs k):=by
 induction r with
 | nil=>show Zg
 | @cons p q ps qs h t ih=>
  let#[h1,h2]:=h
  by_cases e:p.1=k
  .let e':q.1=k:=h1.i.H e;let b:valueAt (q::qs) k=@q.2:=by simp[valueAt,e']
   rw[_cy e,b];show h2
  .let e':¬q.1=k:=λz=>e (h1.H z)
   let b:valueAt (q::qs) k=valueAt qs k:=by simp[valueAt,e']
   rw[_cz e,b];show ih
def KV.è{kvs vs}(r:KV kvs vs)(k:κ):(kvs.è λkv=>decide (kv.1=k))=vs.è λkv=>decide (kv.1=k):=by
 induction r with|nil=>rfl|cons h t ih=>symm
def KV.repl{kvs vs}(r:KV kvs vs)(k:κ){y u}(ry:RelV y u):
  KV (kvs.E λkv=>if kv.1=k then(kv.1,y)else kv) (vs.E λkv=>if kv.1=k then(kv.1,u)else kv):=by
 induction r with
 |nil=>show .nil
 |@cons p q ps qs h t ih=>
  rw[List.V,List.V];show .ä ?_ ih;let#[h1,h2]:=h
  by_cases e:p.1=k
  .rw[Xa e,Xa (h1.i.H e)];show#[h1,ry]
  .rw[Xe e,Xe (λz=>e (h1.H z))];show#[h1,h2]
def KV.put{kvs vs}(r:KV kvs vs)(k:κ){y u}(ry:RelV y u):KV (xJ kvs k y) (stored vs k u):=by
 ext xJ stored;rw[r.è k]
 by_cases e:(vs.è λkv=>decide (kv.1=k))=true
 .rw[Xa e,Xa e];show r.repl k ry
 .rw[Xe e,Xe e];show Paired.snoc r #[rfl,ry]
def KV.B{kvs}{vs:List (κ×Value)}(r:KV kvs vs):kvs.B=vs.B:=Paired.B r
end
def WY{P w k u}(r:RelV (kV k) u):(xx P w).is k u=true:=by
 cases k with|inl i=>let#[t,e]:=(r);subst e;show _al P w i t|inr x=>let#[t,e]:=(r);subst e;show _am P w x t
def _cC{P w}:∀{ks us},Vals (ks.E kV) us->ItemsAre (xx P w) ks us
 |[],_,r=>by cases r;show .nil
 |k::ks,_,r=>by
  cases r with|cons h t=>show .ä (WY h) (_cC t)
abbrev KT(H:Hp):List (List Key×V)->List (List Key×Addr×Value)->Prop:=Paired λp q=>p.1=q.1/\H q.2.1=@(.M (p.1.E kV))/\RelV p.2 q.2.2
def KT.val{H kvs xs}(r:KT H kvs xs) k:RelO (zX kvs k) ((atKey xs k).E (·.2)):=by
 induction r with
 | nil=>show Zg
 | @cons p q ps qs h t ih=>
  let#[h1,_,h2]:=h
  by_cases e:p.1=k
  .let e':q.1=k:=h1.i.H e;let b:atKey (q::qs) k=@q.2:=by simp[atKey,e']
   rw[_cy e,b];show h2
  .let e':¬q.1=k:=λz=>e (h1.H z)
   let b:atKey (q::qs) k=atKey qs k:=by simp[atKey,e']
   rw[_cz e,b];show ih
def KT.repl{H kvs xs}(r:KT H kvs xs)(k){y u}(ry:RelV y u):
  KT H (kvs.E λkv=>if kv.1=k then(kv.1,y)else kv) (xs.E (putAt k u)):=by
 induction r with
 |nil=>show .nil
 |@cons p q ps qs h t ih=>
  rw[List.V];show .ä ?_ ih;let#[h1,h2,h3]:=h;ext putAt
  by_cases e:p.1=k
  .rw[Xa e,Xa (h1.i.H e)];show#[h1,h2,ry]
  .rw[Xe e,Xe (λz=>e (h1.H z))];show#[h1,h2,h3]
def KT.put{H kvs xs}(r:KT H kvs xs)(k){b y u}(hb:H b=@(.M (k.E kV)))(ry:RelV y u):
  KT H (xJ kvs k y) (storedH xs k b u):=by
 let e:(kvs.è λkv=>decide (kv.1=k))=(atKey xs k).isSome:=by
  rw[_cA,(r.val k).isSome_eq,Yt]
 ext xJ storedH;rw[e]
 by_cases q:(atKey xs k).isSome=true
 .rw[Xa q,Xa q];show r.repl k ry
 .rw[Xe q,Xe q];show Paired.snoc r #[rfl,hb,ry]
def KT.keeps{H H' kvs xs}(r:KT H kvs xs)(ht:∀b ys,H b=@(.M ys)->H' b=@(.M ys)):KT H' kvs xs:=
 Paired.mapP r λ_ _ z=>#[z.1,ht _ _ z.2.1,z.2.2]
section
variable {P:Program}{w:World}{H:Hp}{h:Heap}{a:Addr}
def _cD{u}(ok:HOk P w H h)(e:Rd H a u):ObjOk P w H h a u:=e.ok ok
def W7{kvs}(ok:HOk P w H h)(e:Rd H a (.dK kvs)):kvs.B<=sizeLine/\(a==sysModules)=false/\∃vs,KV kvs vs/\h.DictOf (xx P w) a vs:=
 show ObjOk P w H h a _ from _cD ok e
def _cE{kvs}(ok:HOk P w H h)(e:H a=@(.dK kvs)):kvs.B<=sizeLine/\(a==sysModules)=false/\∃vs,KV kvs vs/\h.DictOf (xx P w) a vs:=W7 ok (.R e)
def _cF{ks}(ok:HOk P w H h)(e:H a=@(.M (ks.E kV))):(tupleKind (xx P w)).is h ks a:=by
 let#[_,ab,r,o,h1,h2,_,n,h3]:=(ok a _ e);show#[o,ab.J,n,h1,h2,h3,~~~(_cC r)]
def YX{kvs}(ok:HOk P w H h)(e:Rd H a (.dT kvs)):kvs.B<=sizeLine/\(a==sysModules)=false /\
  ∃ xs,KT H kvs xs/\h.DictOfH (tupleKind (xx P w)) a xs:=by
 let#[z,y,xs,r,o,es,ep,h1,h2,h3,h4,h5]:=(_cD ok e);show#[z,y,xs,r,o,es,ep,h1,h2,h3,h4,λx hx=>?_,h5];let all:∀{l m},KT H l m->∀x>m,(tupleKind (xx P w)).is h x.1 x.2.1:=by
  intro l m q
  induction q with
  | nil=>symm
  | @cons p q ps qs hq t ih=>
   intro x hx;let e\/hx:=aD hx
   .subst e;show _cF ok (by symm)
   .show ih x hx
 show all r x hx
def _cG{kvs}(ok:HOk P w H h)(e:H a=@(.dT kvs)):kvs.B<=sizeLine/\(a==sysModules)=false /\
  ∃xs,KT H kvs xs/\h.DictOfH (tupleKind (xx P w)) a xs:=YX ok (.R e)
end
def DGet(H:Hp)(a:Addr)(y:V)(r:Option V):Prop:=
 (∃kvs k,Rd H a (.dK kvs)/\y=kV k/\r=zX kvs k)\/∃kvs k b,Rd H a (.dT kvs)/\y=.I b/\H b=@(.M (k.E kV))/\r=zX kvs k
def DPut(H:Hp)(a:Addr)(y v:V)(H':Hp):Prop:=
 (∃kvs k,H a=@(.dK kvs)/\y=kV k/\kvs.B<sizeLine/\H'=upd H a (.dK (xJ kvs k v))) \/
 ∃kvs k b,H a=@(.dT kvs)/\y=.I b/\H b=@(.M (k.E kV))/\kvs.B<sizeLine/\H'=upd H a (.dT (xJ kvs k v))
def DGet.k{H a kvs k}(e:H a=@(.dK kvs)):DGet H a (kV k) (zX kvs k):=.R #[kvs,k,.R e,rfl,rfl]
def DPut.k{H a kvs k v}(e:H a=@(.dK kvs))(hl:kvs.B<sizeLine):DPut H a (kV k) v (upd H a (.dK (xJ kvs k v))):=.R #[kvs,k,e,rfl,hl,rfl]
section
variable {X:Cx}{a8:LA9}{σ:St}{H:Hp}{s:Shared}{a:Addr}{y v:V}{u r:Value}{o:Option V}{A:Around}{E:VP9}
def Inv.big(I:Inv X a8 σ H s):sysModules<↥s:=by
 show Nat.lt_trans .q ((I.mod.glob.keeps I.bk).lt)
def _cH{Q}(hu:A.u+1<cLine)(I:Inv X a8 σ H s)(g:DGet H a y @v)(ry:RelV y u)(h:∀w' s',Inv X a8 σ H s'->RelV v w'->Q w' s'):
  wpAny (model X.â X.w) A (getItem (.I a) u) Q E s:=by
 let#[kvs,k,e,ey,l]\/#[kvs,k,b,e,ey,eb,l]:=g
 .subst ey;let#[z,hd,vs,dq,dd]:=W7 I.ô e;let#[w',hw,jo]:=RelO.some_of (l▸dq.val k);show wpAny_getItem_of (WY ry) dd.mapOf hw (h w' _ (I.tok _) jo)
 .subst ey;cases(ry);let#[z,hd,xs,dq,dd]:=YX I.ô e;let#[w',hw,jo]:=RelO.some_of (l▸dq.val k);let#[p,hp,hp2]:=Option.map_eq_some_iff.mp hw;show wpAny_getItem_heap (tupleKind_room_in1 hu) (_cF I.ô eb) dd hp ?_;rw[hp2];show h w' _ (I.tok _) jo
def d_in{Q}(hu:A.u+1<cLine)(I:Inv X a8 σ H s)(g:DGet H a y o)(ry:RelV y u)(h:∀s',Inv X a8 σ H s'->Q (.bool o.isSome) s'):
  wpAny (model X.â X.w) A (compareOp .In u (.I a)) Q E s:=by
 let#[kvs,k,e,ey,l]\/#[kvs,k,b,e,ey,eb,l]:=g
 .subst ey;let#[z,hd,vs,dq,dd]:=W7 I.ô e;show wpAny_in_of (WY ry) hd dd.mapOf ?_;rw[<-(dq.val k).isSome_eq,<-l];show h _ (I.tok _)
 .subst ey;cases(show u=Value.I b from ry);let#[z,hd,xs,dq,dd]:=YX I.ô e;show wpAny_in_heap (tupleKind_room_in1 hu) (_cF I.ô eb) hd dd ?_;let q:=(dq.val k).isSome_eq;rw[Yt]at q;rw[<-q,<-l];show h _ (I.tok _)
def _cI{Q}(hu:A.u+1<cLine)(I:Inv X a8 σ H s)(g:DGet H a y o)(ry:RelV y u)(h:∀s',Inv X a8 σ H s'->Q (.bool (!o.isSome)) s'):
  wpAny (model X.â X.w) A (compareOp .NotIn u (.I a)) Q E s:=by
 let#[kvs,k,e,ey,l]\/#[kvs,k,b,e,ey,eb,l]:=g
 .subst ey;let#[z,hd,vs,dq,dd]:=W7 I.ô e;show wpAny_notIn_of (WY ry) hd dd.mapOf ?_;rw[<-(dq.val k).isSome_eq,<-l];show h _ (I.tok _)
 .subst ey;cases(ry);let#[z,hd,xs,dq,dd]:=YX I.ô e;show wpAny_notIn_heap (tupleKind_room_in1 hu) (_cF I.ô eb) hd dd ?_;let q:=(dq.val k).isSome_eq;rw[Yt]at q;rw[<-q,<-l];show h _ (I.tok _)
def _cJ{h' t' ob}(I:Inv X a8 σ H s)(mu:Mut (H a))(hs:Heap.SameBut a s.G h')(he:∃q,h'.get? a=@q)(new:ObjOk X.â X.w (upd H a ob) h' a ob):
  Inv X a8 σ (upd H a ob) {s with heap:=h',toks:=t' }:=
 I.write mu (.R rfl) (λb q hb z=>(hs.2 b hb).H z) he new
def _cK{P w H' h' kvs vs}(z:kvs.B<=sizeLine)(hd:(a==sysModules)=false)(dq:KV kvs vs)(dd:h'.DictOf (xx P w) a vs):
  ObjOk P w H' h' a (.dK kvs):=#[z,hd,vs,dq,dd]
def _cL{H' Q}(hu:A.u+1<cLine)(I:Inv X a8 σ H s)(g:DPut H a y v H')(ry:RelV y u)(rv:RelV v r)(h:∀s',Inv X a8 σ H' s'->Q () s'):
  wpAny (model X.â X.w) A (setItem (.I a) u r) Q E s:=by
 let#[kvs,k,e,ey,l,eH]\/#[kvs,k,b,e,ey,eb,l,eH]:=g
 .subst ey eH;let#[z,hd,vs,dq,dd]:=_cE I.ô e;let hz:vs.B<=sizeLine:=by rw[<-dq.B];show z
  let hl:(xJ kvs k v).B<=sizeLine:=by let:=_cB kvs k v;lia
  show wpAny_setItem_pairs (WY ry) dd λh' tq hs=>h _ ?_
  let he:∃q,h'.get? a=@q:=let ⟨q,_,_,hq,_⟩:=tq;#[q,hq]
  show _cJ I (e▸Zg) hs he (_cK hl hd (dq.put k rv) tq)
 .subst ey eH;cases(ry);let#[z,hd,xs,dq,dd]:=_cG I.ô e;let hz:xs.B<=sizeLine:=by rw[<-Paired.B dq];show z
  let hl:(xJ kvs k v).B<=sizeLine:=by let:=_cB kvs k v;lia
  show wpAny_setItem_heap (tupleKind_room_in1 hu) (_cF I.ô eb) dd λh' tq hs=>h _ ?_
  let#[q,es,ep,hq,h2,h3,h4,_,h5]:=tq;show _cJ I (e▸Zg) hs #[q,hq] #[hl,hd,_,(dq.put k eb rv).keeps λc ys ec=>?_,q,es,ep,hq,h2,h3,h4,h5]
  rwa [qz (_an ec e (nofun))]
end
section
variable {X:Cx}{a8:LA9}{σ:St}{H:Hp}{s:Shared}{a:Addr}{kvs:List (Key×V)}{k:Key}{u:Value}{A:Around}{E:VP9}
def _cM{Q}(I:Inv X a8 σ H s)(e:Rd H a (.dK kvs))(h:∀t s',Inv X a8 σ H s'->Q (.C kvs.B t) s'):wpAny (model X.â X.w) A (call (.x "len") [.I a]) Q E s:=by
 let#[z,hd,vs,dq,dd]:=W7 I.ô e;show call_len_dict hd dd (by rw[<-dq.B];rw[sizeLine_eq]at z;lia) ?_;rw[<-dq.B];show h _ _ (I.tok _)
end
def _cN(i:Expr):Prop:=∀ov iv,subscripted i false ov iv=operate [ov,iv] (getItem ov iv)
def _cO{prog w A E s env bi slice pos T id}{Q}
  (hl:typeLookup (.h T) "__getitem__"=pure @(.x id)) (hs:_cN slice)
  (h:wpAny (model prog w) A (eval bi env) (λo s₁=>wpAny (model prog w) A (eval slice env) (λi s₂=>s₂.TypeIs o T/\wpAny (model prog w) A (getItem o i) Q E s₂) E s₁) E s):
  wpAny (model prog w) A (eval (.ì bi slice pos) env) Q E s:=by
 show Subscript_ (wpAny_mono h (λo s₁ h₁=>wpAny_mono h₁ (λi s₂ h₂=>?_) λ_ _ x=>x) λ_ _ x=>x);let#[hT,h₂]:=h₂;show X0 ?_;rw[getitemInPython_of_ne hT.not_modules];show X0 (Yz hT hl ?_);let fin:wpAny (model prog w) A (subscripted slice false o i) (λr s₃=>wpAny (model prog w) A (letTemporaryGo bi o r >>= λ_=>pure r) Q E s₃) E s₂:=by
  rw[hs o i];show wpAny_operating (wpAny_mono h₂ (λr s₃ h₃=>X0 (wpAny_letTemporaryGo (X6 h₃))) λ_ _ x=>x)
 first
  |show X6 (X0 fin)
def _cP{X a8}{σ:St}{H s a y o}(I:Inv X a8 σ H s)(g:DGet H a y o):s.TypeIs (.I a) "dict":=by
 let#[kvs,k,e,_,_]\/#[kvs,k,b,e,_,_,_]:=g
 .let#[_,_,vs,_,dd]:=W7 I.ô e;show dd.õ
 .let#[_,_,xs,_,dd]:=YX I.ô e;show dd.õ
abbrev xzu(td ty:TE):TE:=fun σ H Q=>td σ H λx H1=>ty σ H1 λy H2=>∃a v,x=.I a/\DGet H2 a y @v/\Q v H2
abbrev zj0(td ty tv:TE):TS:=λD σ H=>tv σ H λv H1=>td σ H1 λx H2=>ty σ H2 λy H3=>∃a H4,x=.I a/\DPut H3 a y v H4/\D.nx σ H4
section
variable {X:Cx}{o i e bi:Expr}{pos bb nv:Pos}{td ty tv:TE}
def _cQ(hu:X.A.u+1<cLine)(ho:PE X o td)(hi:PE X i ty)(hs:_cN i):PE X (.ì o i pos) (xzu td ty):=by
 intro a8 s σ H Q I h;show _cO PySem.F.slot_dict_getitem.U hs (thn (ho a8 s σ H _ I h) λu s1 #[x,H1,I1,rx,q1]=>thn (hi a8 s1 σ H1 _ I1 q1) λiv s2 hz=>?_);let#[y,H2,I2,ry,a,v,ex,g,q2]:=hz;subst ex;obtain rfl:u=Value.I a:=rx;show#[_cP I2 g,_cH hu I2 g ry λw' s3 I3 jo=>#[v,H2,I3,jo,q2]]
def _cR(hu:X.A.u+1<cLine)(ho:PE X o td)(hi:PE X i ty)(hv:PE X bi tv)(hs:swapsWith bi @(.ì o i bb) pos.line X.Y=pure false):
  PS X (.Assign [.ì o i bb] bi pos) (zj0 td ty tv):=by
 intro a8 s σ H D I h;show wpAny_Assign_Subscript (thn (hv a8 s σ H _ I h) λr s1 #[v,H1,I1,rv,q1]=>thn (ho a8 s1 σ H1 _ I1 q1) λu s2 #[x,H2,I2,rx,q2]=>thn (hi a8 s2 σ H2 _ I2 q2) λiv s3 hz=>?_) hs;let#[y,H3,I3,ry,a,H4,ex,g,q3]:=hz;subst ex;obtain rfl:u=Value.I a:=rx;show _cL hu I3 g ry rv λs4 I4=>#[σ,H4,I4,q3]
end
def _cS{P w H}(h:Heap)(hb:sysModules<h.objs.O):ObjOk P w H (h.í {cls:=.h "dict",data:=.dict (List.J [])}) h.objs.O (.dK []):=
 #[Ya _,beq_eq_false_iff_ne.å (Ne.i (Xl hb)),[],.nil,Heap.DictOf.new h]
abbrev xk7:TE:=λ_ H Q=>∀p,H p=none->Q (.I p) (upd H p (.dK []))
section
variable {X:Cx}{pos:Pos}
def _cT:PE X (.Dict [] [] pos) xk7:=λa8 s σ H Q I h=>
 wpAny_Dict_empty #[.I ↥s,_,I.laid (t':=s.ë) (λ_ _ q=>X4 _ q) (X8 _) (_cS s.G I.big),rfl,h _ (I.ô.û (X8 _))]
end
def _cU:List (TE×TE)->St->Hp->(List (V×V)->Hp->Prop)->Prop
 |[],_,H,Q=>Q [] H|(tk,tv)::r,σ,H,Q=>tk σ H λx H1=>tv σ H1 λy H2=>_cU r σ H2 λps H3=>Q ((x,y)::ps) H3
abbrev VV:List (V×V)->List (Value×Value)->Prop:=Paired λp q=>RelV p.1 q.1/\RelV p.2 q.2
def PPs(X:Cx)(pos:Pos)(keys:List (Option Expr))(so:List Expr)(trs:List (TE×TE)):Prop:=
 ∀(a8:LA9) (s:Shared) (σ:St) (H:Hp) (Q:List (V×V)->Hp->Prop),Inv X a8 σ H s->_cU trs σ H Q ->
  ∅ (evalPairs (pairTrees keys so X.Y pos)) (λvs s'=>∃ps H',Inv X a8 σ H' s'/\VV ps vs/\Q ps H') X.xe s
def _cV{X:Cx}{pos:Pos}:PPs X pos [] [] []:=λa8 s σ H Q I h=>pairTrees_nil_walk #[[],H,I,.nil,h]
def _cW{X:Cx}{pos:Pos}{k v:Expr}{ks:List (Option Expr)}{vs:List Expr}{tk tv:TE}{trs:List (TE×TE)}(hk:PE X k tk)(hv:PE X v tv)(hr:PPs X pos ks vs trs):
  PPs X pos (@k::ks) (v::vs) ((tk,tv)::trs):=λa8 s σ H Q I h=>
 pairTrees_cons_walk (thn (hk a8 s σ H _ I h) λu s1 #[x,H1,I1,rx,q1]=>thn (hv a8 s1 σ H1 _ I1 q1) λw2 s2 hz=>by
  let#[y,H2,I2,ry,q2]:=hz;show thn (hr a8 s2 σ H2 _ I2 q2) λws s3 hz=>by let#[ps,H3,I3,dq,q3]:=hz;show#[(x,y)::ps,H3,I3,.ä #[rx,ry] dq,q3])
structure M2 (X:Cx)(o:Expr)(m:Str)(apos:Pos)(e f:Expr)(am:Pos):Prop where
 base:attributeBase o m X.Y (eval o X.Y)=eval o X.Y
 few:((backTo am (starEach [e,f] X.Y)).all (λx=>!x.1)&&(backToKw am (keywordEach [] X.Y)).all (λx=>x.1.isSome)
  && decide (([e,f]:List Expr).B+([]:List Keyword).B+(if([]:List Keyword).ï then 0 else 1)<30))=true
 line:(apos.endLine==am.line)=true
 trees:backTo am (starEach [e,f] X.Y)=[(false,eval e X.Y),(false,eval f X.Y)]
def IsD(H:Hp)(a:Addr):Prop:=(∃kvs,Rd H a (.dK kvs))\/∃kvs,Rd H a (.dT kvs)
def _cX{X a8}{σ:St}{H s a}(I:Inv X a8 σ H s)(d:IsD H a):
  s.TypeIs (.I a) "dict"/\(∀b,Value.I a=.I b->∃ob,s.G.get? b=@ob/\ob.dict=none)/\(a==sysModules)=false:=by
 let#[kvs,e]\/#[kvs,e]:=d
 .let#[_,hd,vs,_,dd]:=W7 I.ô e;show#[dd.õ,λb q=>?_,hd];cases q;let#[ob,_,_,h1,h2,_]:=dd;show#[ob,h1,h2.2.1]
 .let#[_,hd,xs,_,dd]:=YX I.ô e;show#[dd.õ,λb q=>?_,hd];cases q;let#[ob,_,_,h1,h2,_]:=dd;show#[ob,h1,h2.2.1]
section
variable {X:Cx}{a8:LA9}{σ:St}{H:Hp}{s:Shared}{a:Addr}{y d:V}{u r:Value}{o:Option V}{A:Around}{E:VP9}
def _cY{Q}(hu:A.u+1<cLine)(I:Inv X a8 σ H s)(g:DGet H a y o)(ry:RelV y u)(rd:RelV d r)(h:∀w' s',Inv X a8 σ H s'->RelV (o.s d) w'->Q w' s'):
  wpAny (model X.â X.w) A (call (.x "dict.get") [.I a,u,r]) Q E s:=by
 let#[kvs,k,e,ey,l]\/#[kvs,k,b,e,ey,eb,l]:=g
 .subst ey;let#[z,hd,vs,dq,dd]:=W7 I.ô e;show call_meetsIn PySem.F.slot_dict_get dd.õ PySem.F.entry_dict_get (PySem.F.args_dict_get_3 _ _ _) (meets_dict_get_default (xx X.â X.w) a (WY ry) hd r) #[_,dd.mapOf,h _ _ (I.tok _) ?_];rw[l];show(dq.val k).s rd
 .subst ey;cases(show u=Value.I b from ry);let#[z,hd,xs,dq,dd]:=YX I.ô e;show call_meetsIn PySem.F.slot_dict_get dd.õ PySem.F.entry_dict_get (PySem.F.args_dict_get_3 _ _ _) (meetsH_dict_get_default (tupleKind (xx X.â X.w)) a b hd r) #[tupleKind_room_in1 hu,k,xs,_cF I.ô eb,dd,h _ _ (I.tok _) ?_];rw[l];show(dq.val k).s rd
end
abbrev xk9(td ty tx:TE):TE:=fun σ H Q=>td σ H λx H1=>∃a,x=.I a/\IsD H1 a/\ty σ H1 λy H2=>tx σ H2 λz H3=>∃o,DGet H3 a y o/\Q (o.s z) H3
section
variable {X:Cx}{o e f:Expr}{apos am:Pos}{td ty tx:TE}
def _cZ(hu:X.A.u+1<cLine)(ho:PE X o td)(he:PE X e ty)(hf:PE X f tx)(m:M2 X o "get" apos e f am):PE X (.þ (.Attribute o "get" apos) [e,f] [] am) (xk9 td ty tx):=by
 intro a8 s σ H Q I h;show wpAny_Call_method m.ò m.few m.line PySem.F.plainAttrs_dict PySem.F.slot_dict_get PySem.F.type_dict_get (thn (ho a8 s σ H _ I h) λu s1 hz=>?_);let#[x,H1,I1,rx,a,ex,d,q1]:=hz;subst ex;obtain rfl:u=Value.I a:=rx;let#[t1,t2,_]:=_cX I1 d;show#[t1,t2,?_];rw[m.trees];show Zb rfl (Calls.evalArgs_plain (Z1 (thn (he a8 s1 σ H1 _ I1 q1) λiv s2 #[y,H2,I2,ry,q2]=>
  Z1 (thn (hf a8 s2 σ H2 _ I2 q2) λfv s3 #[z,H3,I3,rz,ov,g,q3]=>Calls.spliced_nil ?_))))
 show _cY hu I3 g ry rz λw' s4 I4 jo=>#[_,H3,I4,jo,q3]
end
section
variable {X:Cx}
def _c0:CallR X (.x "len") (λxs H Q=>∃a kvs,xs=[V.I a]/\H a=@(.dK kvs)/\Q (.C kvs.B) H):=by
 rintro a8 s σ H xs us Q I r ⟨a,kvs,rfl,ha,q⟩;let#[u,rfl,ru]:=wZ r;cases ru;show _cM I (.R ha) λt s' I'=>#[.C kvs.B,H,I',#[t,rfl],q]
end
end L2
set_option maxHeartbeats 4000000
namespace L3
open PySem PySem.Spec PyProof.Rows L2
abbrev vvg(gr:List Expr)(env:Env):Sem Bool:=
 forIn gr true λc r=>if r=true then do let ok <-isTrue c env (eval c env);pure (ForInStep.yield ok)else pure (ForInStep.yield r)
def _c1 (env): ∀(l : List (Str × NameKind)) (cs),(∀y > l,y.2 = .free -> ∃c,env.cells.U y.1 = @c) ->
    (∀x c,cs.U x = @c -> env.cells.U x = @c) ->
    ∃ cl,(forIn l cs (λx r=>if(x.2==NameKind.free) = true then do let a <-cellOf env x.1; pure (ForInStep.yield ((x.1,a)::r))else pure (ForInStep.yield r)): Sem (List (Str × Addr))) = pure cl /\
      (∀x c,cl.U x = @c -> env.cells.U x = @c) /\ (∀x c,cs.U x = @c -> ∃c',cl.U x = @c') /\ ∀y > l,y.2 = .free -> ∃c,cl.U y.1 = @c
  | [],cs,_,hs=>#[cs,rfl,hs,λx c h=>#[c,h],nofun]
  | (n,k)::r,cs,hl,hs=>by
    by_cases hk : k = .free
    . subst hk
      let#[c,hc]:= hl _ X5 rfl;let jf : ∀x d,((n,c)::cs).U x = @d -> env.cells.U x = @d:= λx d h=>by
        rw[List.lookup_cons]at h;cases hx : x==n with| true=>symm| false=>rw[hx]at h; show hs x d h
      let#[cl,e,a,b,d]:= _c1 env r _ (λy hy=>hl y (_ad _ hy)) jf;show#[cl,?_,a,λx c' h=> ?_,λy hy hf=> ?_]
      . rw[List.forIn_cons]
        let q : cellOf env n = pure c:= by ext cellOf; rw[hc]
        dsimp[q];show e
      . cases hx : x==n with| true=>show b x c (by rw[List.lookup_cons,hx])| false=>show b x c' (by rw[List.lookup_cons,hx]; show h)
      . let z\/z:=aD hy
        . symm
        . show d y z hf
    . let#[cl,e,a,b,d]:= _c1 env r cs (λy hy=>hl y (_ad _ hy)) hs
      show#[cl,?_,a,b,λy hy hf=> ?_]
      . rw[List.forIn_cons]
        let q : (k==NameKind.free) = false:= ~~~hk
        dsimp[q];show e
      . let z\/z:=aD hy
        . subst z
          show absurd hf hk
        . show d y z hf
def _c2(h:∀y>scope.ê,y.2=.free->∃c,env.cells.U y.1=@c):
  ∃cl,closureFor scope env=pure cl/\(∀x c,cl.U x=@c->env.cells.U x=@c)/\∀y>scope.ê,y.2=.free->∃c,cl.U y.1=@c:=by
 let#[cl,e,a,_,d]:=_c1 env scope.ê [] h (nofun);show#[cl,?_,a,d];ext closureFor
 symm
def lcX(X:Cx)(scope:Scope)(N:List Str)(cl:List (Str×Addr))(C:Addr)(s0:Shared)(H0:Hp)(fp:List Addr):Cx:=
 {X with N:=N,s₀:=s0,H₀:=H0,env:=compEnvC scope cl C X.Y,outer:=X.stack,ex:=fp,fn:=λ_=>false,pn:=[],xe:=λ_ _=>False}
noncomputable def K8(k:Nat)(R:List Nat)(σ:L2.St):L2.St:=List.r k none++R.E λj=>(σ[j]?).join
structure LcOk (X:Cx)(scope:Scope)(N:List Str)(k:Nat)(R:List Nat):Prop where
 kind:scope.kind=.function
 nocell:∀y>scope.ê,y.2≠.cell
 names:∀y>scope.ê,y.2=.local->scope.ê.U y.1=@.local
 caps:∀y>scope.ê,y.2=.free->X.Y.kindOf y.1=@.cell\/X.Y.kindOf y.1=@.free
 len:N.B=k+R.B
 outs:∀i j x,R[i]?=@j->N[k+i]?=@x->X.N[j]?=@x/\scope.ê.U x=@.free
def V4(XN:List Str)(sc scope:Scope)(N:List Str)(k:Nat)(R:List Nat):Bool:=
 scope.ê.all (λy=>y.2 != .cell)&&scope.ê.all (λy=>y.2 != .local||scope.ê.U y.1==@.local) &&
 scope.ê.all (λy=>y.2 != .free||(sc.ê.U y.1==@.cell||sc.ê.U y.1==@.free)) &&
 (N.B==k+R.B)&&(R.zip (N.ñ k)).all (λp=>XN[p.1]? == @p.2&&scope.ê.U p.2==@.free)
def _c3(hk:scope.kind=.function)(h:V4 X.N X.Y.ó scope N k R=true):LcOk X scope N k R:=by
 unfold V4 at h;dsimp[Bool.é,Zp,bne_iff_ne,Bool.or_eq_true,beq_iff_eq]at h;let#[#[#[#[h1,h2],h3],h4],h5]:=h;show#[hk,λy hy=>h1 y hy,λy hy e=>(h2 y hy).resolve_left (λz=>z e),λy hy e=>(h3 y hy).resolve_left (λz=>z e),h4,λi j x e1 e2=>?_];let m:(j,x)>R.zip (N.ñ k):=by
  show Yh (i:=i) ?_;rw[List.getElem?_zip_eq_some]
  symm
 show h5 _ m
def _c4 {env : Env}: ∀{names : List (Str × NameKind)},(names.E λ(n,k)=>if(k==NameKind.free&&env.ó.kind == .function&&env.kindOf n==@.cell)then(n,NameKind.cell)else(n,k)).U x = @q ->
    (x,q) > names \/ (q = .cell /\ (x,NameKind.free) > names)
  | [],h=>nomatch h
  | (n,k)::r,h=>by
    let h : List.U x ((if _ = true then _ else _)::_) = @q:= h
    by_cases hc : (k==NameKind.free&&env.ó.kind == .function&&env.kindOf n==@.cell) = true
    . rw[Xa hc,List.lookup_cons]at h
      cases hx : x==n with
      | true=>symm
      | false=>
        rw[hx]at h;let z\/#[z,y]:=_c4 h
        . show .R (_ad _ z)
        . show .Z #[z,_ad _ y]
    . rw[Xe hc,List.lookup_cons]at h
      cases hx : x==n with
      | true=>symm
      | false=>
        rw[hx]at h;let z\/#[z,y]:=_c4 h
        . show .R (_ad _ z)
        . show .Z #[z,_ad _ y]
section
def _c5(sc : LcOk X scope N k R)(cq : ∀y > scope.ê,y.2 = .free -> ∃c,cl.U y.1 = @c)
 (h : (compEnvC scope cl C X.Y).kindOf x = @.cell \/ (compEnvC scope cl C X.Y).kindOf x = @.free): ∃c,cl.U x = @c:= by
  let h\/h:=h
  . let z\/#[_,z]:=_c4 h
    . show absurd rfl (sc.nocell _ z)
    . show cq _ z rfl
  . let z\/#[z,_]:=_c4 h
    . show cq _ z rfl
    . cases z
def _c6(I:Inv X a8 σ H s)(sc:LcOk X scope N k R)(hf:∀b>fp,x8 X a8 H b)(ho:∀b>fp,∃o,s.G.get? b=@o)
  (hC:↥s<=C) (dy:∀x c,cl.U x=@c->X.Y.cells.U x=@c) (cq:∀y>scope.ê,y.2=.free->∃c,cl.U y.1=@c):(lcX X scope N cl C s H fp).Ok where
 mod:=I.ok.mod
 kind:=sc.kind
 glob:=I.ok.glob
 blt:=I.ok.blt
 above:=hC
 inj:=λx y c h1 h2=>I.ok.inj x y c (dy _ _ h1) (dy _ _ h2)
 has:=λx h=>_c5 sc cq h
 cab:=λx c h=>by cases h
 hd:=I.ok.hd
 frames:=I.ok.frames
 stk:=.R rfl
 exf:=λb hb=>by
  let#[o,e]:=ho b hb;show#[Xl (Xq (Xg e) hC),λx c h=>(hf b hb).2.2.2.2.1 x c (dy x c h)]
 bs:=λb o e=>I.bs b o e
 bsz:=Yb I.ok.bsz I.sz
 noex:=λb o e hb=>by
  let z\/z:=(hf b hb).2.2.2.1
  .show I.ok.noex b o e z
  .show absurd (Xq (Xg e) (Yb I.ok.bsz z)) (Yn _)
 exfs:=λb hb hs=>by
  let z\/z:=aD (I.stkSub b hs)
  .show(hf b hb).2.1 z
  .show(hf b hb).2.2.1 z
 funs:=I.stack
 frf:=I.stkFree
def _c7(I:Inv X a8 σ H s)(h:↥s<=a):a∉frs X.stack:=λz=>by
 let e\/e:=aD (I.stkSub a z)
 .subst e;show absurd (Xq I.lt h) (Yn _)
 .show I.nofs h e
def _c8 (I:Inv X a8 σ H s) (sc:LcOk X scope N k R)
  (hf:∀ b>fp,x8 X a8 H b) (ho:∀b>fp,∃o,s.G.get? b=@o)
  (hC:↥s<=C) (hD:↥s<=D) (tf:D≠C) (dy:∀x c,cl.U x=@c->X.Y.cells.U x=@c) (cq:∀y>scope.ê,y.2=.free->∃c,cl.U y.1=@c)
  (dw:∀ b o,s.G.get? b=@o->h1.get? b=@o) (hn:h1.Ns C m) (eD:h1.get? D=@oD) (dD:∀v,oD.data≠.cell v):
  Inv (lcX X scope N cl C s H fp) [(D,oD)] (K8 k R σ) H {s with heap:=h1,toks:=t} where
 ok:=_c6 I sc hf ho hC dy cq
 os:=rfl
 bare:=I.bare
 base:=Un.kept dw
 loc:=#[m,hn,λi x v e1 e2 vis=>by
  let#[mX,hnX,hl]:=I.loc;unfold K8 at e2
  by_cases hi:i<k
  .rw [Xn (by symm),List.getElem?_replicate,Xa hi]at e2
   symm
  .let hk:k<=i:=Nat.le_of_not_lt hi;rw [Y1 (Zk▸hk),Zk,X7]at e2;cases er:R[i - k]? with
   | none=>symm
   | some j=>
    rw [er]at e2;let ej:(σ[j]?).join=@v:= ~~~e2
    let ej':σ[j]?=@(@v):=by
     cases q:σ[j]? with| none=>rw[q]at ej;cases ej| some z=>symm
    let#[o1,o2]:=sc.outs _ j x er (by rw[show k+(i - k)=i by lia];show e1);let cap:=sc.caps (x,.free) (Yu o2) rfl;let visX:Vis X.Y.ó x:=cap.ß (λz=>.Z (.R z)) λz=>.Z (.Z z)
    let#[u,ru,q]:=hl j x v o1 ej' visX;show#[u,ru,?_];let#[q,_]\/#[_,c,ec,hc]:=q
    .symm
    .let#[c',ec']:=cq (x,.free) (Yu o2) rfl;let e:=_aa ((dy x c' ec').i.H ec);subst e;show .Z #[?_,c',ec',?_]
     .let z\/z\/z:=vis
      .let y\/#[y,_]:=_c4 (env:=X.Y) (names:=scope.ê) z
       .let y':=sc.ê _ y rfl
        symm
       .cases y
      .show .R z
      .show .Z z
     .let#[o,h1,h2]:=hc;show#[o,dw _ _ h1,h2]]
 cell:=λx c h=>by
  let#[v,o,h1,h2]:=I.cell x c (dy x c h);show#[v,o,dw _ _ h1,h2]
 free:=I.ô.û hC
 freeC:=λx c h=>I.freeC x c (dy x c h)
 pin:=λp hp=>by
  let e:p=(D,oD):=by
   let hp:p>([]++[(D,oD)]:LA9):=hp
   simpa using hp
  subst e;show#[eD,I.ô.û hD,tf,_c7 I hD,dD]
 hok:=I.ô.kept dw
 len:=by
  change(K8 k R σ).B=N.B;ext K8;rw[sc.len,Xb,Zk,X3]
def _c9(I:Inv X a8 σ H s)(hn:H a=none)(hL:a≠X.Y.locals)(h1:a>X.ex\/X.s₀.G.objs.O<=a)(h2:∀x c,X.Y.cells.U x=@c->c≠a)(h3:∀p>X.pn++a8,p.1≠a)
  (new:ObjOk X.â X.w (upd H a o) s.G a o):Inv X a8 σ (upd H a o) s:=by
 let hok:HOk X.â X.w (upd H a o) s.G:=λb u e=>by
  by_cases hb:b=a
  .subst hb;rw[wY]at e;cases e;show new
  .rw[qz hb]at e;show(I.ô b u e).stay (λ_ _ _ q=>q) (λc q=>by rw[qz (KJ q hn)];show q) λc xs q=>by rw[qz (KJ q hn)];show q
 let na:∀b,b∉[a]->b≠a:=λb hb z=>hb (z▸aB rfl)
 show I.step (h':=s.G) (H':=upd H a o) (g':=s.gens) (t':=s.ë) (d':=s.drawn)
  (λb hb=>by rw[aC hb];show#[h1.imp id λz=>Yk z,hL,h2,h3]) (λb o _ _ _ e _=>e) (λb o _ _ _ e _=>#[o.slots,e]) (λb o hb _ q=>by rw[qz (na b hb)];show q)
  (λb o _ e=>#[o,e]) (λb xs q=>by rw[qz (KJ q hn)];show q) (λb o u q=>by rw[qz (KJ q hn)];show q) (λb ps q=>#[(List.J []),by rw[qz (KJ q hn),q];rfl])
  (λm hm=>hm) hok I.bare
end
def PTs(X:Cx)(gr:List Expr)(t:TT):Prop:=
 ∀(a8:LA9) (s:Shared) (σ:L2.St) (H:Hp) (Q:Bool->Hp->Prop),Inv X a8 σ H s->t σ H Q->∅ (vvg gr X.Y) (TP X a8 σ Q) X.xe s
abbrev tYes:TT:=λ_ H Q=>Q true H
def _da:PTs X [] tYes:=λ_ _ _ H _ I h=>wpAny_tests_nil #[H,I,h]
def _db(hc:PT X c t):PTs X [c] t:=λa8 s σ H Q I h=>wpAny_tests_one (hc a8 s σ H Q I h)
def LcW(g:TG)(tt:TT)(te:TE)(Q:VK)(J:It)(W:Nat->Nat->List V->L2.St->Hp->Prop):Prop:=∀i m ys σ H,W i m ys σ H ->
 (J.stop i H/\ys.B<=sizeLine/\∀p,H p=none->Q (.I p) (upd H p (.S ys))) \/
 (J.go i H/\∀x H1,J.yld i H x H1->g x σ H1 fun σ2 H2=>∃(Ny:VK) (Nn:Hp->Prop),(∀y H4,Ny y H4->ys.B<=sizeLine/\∃m',m'<m/\W (i+1) m' (ys++[y]) σ2 H4) /\
  (∀H4,Nn H4->∃m',m'<m/\W (i+1) m' ys σ2 H4)/\tt σ2 H2 λb H3=>if b=true then te σ2 H3 Ny else Nn H3)
abbrev tLC(wi:TI)(g:TG)(tt:TT)(te:TE)(k:Nat)(R:List Nat):TE:=fun σ H Q=>wi σ H λJ H1=>
 ∃W:Nat->Nat->List V->L2.St->Hp->Prop,(∃m,W 0 m [] (K8 k R σ) H1)/\LcW g tt te Q J W
abbrev xjm(ab:List Value)(n:Nat):Obj:={cls:=.h "list",data:=.seq ab.J n}
section
def op_mulI:OpR X (binaryOp .Mult) (rI IntMulOk λi j=>.C (i*j)):=opI λ_ _ _ _ _ _ _ hc q=>mul_int q hc
def _dc(_i j:Int):Prop:=0<j/\j.natAbs.log2<9000
def _dd:OpR X (binaryOp .FloorDiv) (rI _dc λi j=>.C (i / j)):=opI λi j _ _ _ _ _ hc q=>by
 let h1:=hc.1;show floordiv_int .q (by rw[Int.fdiv_eq_ediv_of_nonneg i .q];show q) (.R (PyProof.noPylong_of_log2 hc.2))
def kinds:List String:=["NoneType","bool","int","str","list","tuple","dict"]
def _de(T U:String):Bool:=T==U||(T == "bool" && U == "int")
def _df{K}(hT:T>kinds)(hU:U>kinds.tail):kitOne K (.h T) (.h U)=@(_de T U):=by
 dsimp[kinds,List.tail_cons,Yp,Y8,or_false]at hT hU;let rfl\/rfl\/rfl\/rfl\/rfl\/rfl\/rfl:=hT<;>let rfl\/rfl\/rfl\/rfl\/rfl\/rfl:=hU<;>ac_rfl
def _dg(K:Frag):List V->Hp->VK->Prop:=λxs H Q=>∃x T U,xs=[x,.ty U]/\TyOf K H x (.h T)/\T>kinds/\U>kinds.tail/\Q (.bl (_de T U)) H
def _dh:CallR X (.x "isinstance") (_dg X.K):=by
 rintro a8 s σ H xs us Q I r ⟨x,T,U,rfl,ty,hT,hU,q⟩;let#[u,w',rfl,r1,r2]:=_bw r;cases(r2);show _bA I r1 ty (_df hT hU) λtk=>#[.bl _,H,I.tok _,rfl,q]
def _di:∀{bs:List Bool} {ab} {i:Nat} {v},Vals (bs.E V.bl) ab->ab[i]?=@v->∃b,bs[i]?=@b/\v=.bool b
 |[],_,_,_,.nil,e=>by symm
 |b::bs,_,0,v,.ä r _,e=>by
  simp at e;subst e;show#[b,rfl,r]
 |b::bs,_,i+1,v,.ä _ t,e=>by
  let#[b',e1,e2]:=_di t (~~~e);show#[b',~~~e1,e2]
def _dj(bs:List Bool):((List.range bs.B).all λi=>(bs[i]?).s true)=bs.all id:=by
 rw[Bool.eq_iff_iff,Zp,Zp];constructor
 .intro h b hb;let#[i,hi,e]:=Yv hb;let:=h i (List.mem_range.å hi);rw[X1 hi,e]at this;show this
 .intro h i hi;let iz:=List.mem_range.mp hi;rw[X1 iz];show h _ (Xu iz)
def _dk(K:Frag):List V->Hp->VK->Prop:=λxs H Q=>∃(p:Addr) (bs:List Bool),xs=[.I p]/\SqL K H p (bs.E V.bl)/\Q (.bl (bs.all id)) H
def _dl(hc:X.calm=true):CallR X (.x "all") (_dk X.K):=by
 rintro a8 s σ H xs us Q I r ⟨p,bs,rfl,hq,q⟩;let#[u,rfl,ru]:=wZ r;cases ru;let#[ab,rv,pl,hz]:=I.list hq;let hl:=pl.isList;let bf:p<↥s:=by let#[_,e,_]:=hl;show Xg e
 let ai:bs.B=ab.B:=by rw[<-rv.B,X3]
 show call_all_walk (Z6 hl ?_);show#[↥s,[↥s,p],[↥s],ab.J.O,_,_,λi=>(bs[i]?).s true,rfl,Walks.list (A:=X.A.in1) (I.ok.hd hc) _ p (Xl bf) ab.J,
  #[#[_,X9 _ rfl,rfl,rfl],hl.í _],λi v s' Q' E' hP hQ=>?_,λh' tk hk=>?_]
 .let#[b,e,rfl]:=_di rv (~~~hP);dsimp[e]at hQ;show Ys hQ
 .let e:((List.range ab.J.O).all λi=>(bs[i]?).s true)=bs.all id:=by
   rw[Xf,<-ai];show _dj bs
  rw[e];show#[.bl _,H,I.kept (t':=tk) (h':=h') λb o e=>hk b o (λz=>?_) (X4 _ e),rfl,q];show absurd (Xg e) (aC z▸Yn _)
noncomputable def Its(x:Str):It:=#[λi _=>i<x.cps.O,λi H v H'=>H'=H/\∃c,x.cps[i]?=@c/\v=.e #[%[c|0]],λi _=>i=x.cps.O]
def _dm{K}
  (W:∀A',A'.ü=none->Walks P w A' it [it] [it] x.cps.O (SignAt x) (λi h=>h.IsStrIter it ty x t i))
  (vd:∀A (i) (s) (Q) (E),s.G.IsStrIter it ty x t i->Q (.I it) s->wpAny (model P w) A (pyIter (.I it)) Q E s)
  (xl:["enumerate","zip","dict_itemiterator","dict_reverseitemiterator","odict_iterator","itertools.zip_longest","itertools.pairwise"].contains ty=false):
  Turn P w K tg (Its x) [it] it (λi h=>h.IsStrIter it ty x t i) where
 mem:=by simp
 obj:=λi h st b hb=>by
  let e:b=it:= ~~~hb
  let#[o,e,c,d]:=st
  symm
 keep:=λi h h' st k=>by
  let#[o,e,r]:=st;show#[o,k it (by simp) o e,r]
 item:=by
  intro X hP hw hK hc i a8 s σ H E I hf st hg;subst hP hw hK;let#[f0,f1,f2,f3,f4,f5]:=hf it (by simp);show(W X.A (I.ok.hd hc)).item i s _ _ hg st λv h' tk hv fj kk=>?_
  let#[c,u,ld,rfl]:=hv;let I1:Inv X a8 σ H {s with heap:=h',toks:=tk}:=I.turned (λb o hb e=>kk b o (~~~hb) e) f0 f1 f3 f4 f5;let#[o,e,c1,d]:=id fj;show#[_,rfl,_aZ e c1 d xl #[.e #[%[c|0]],H,I1,#[u,rfl],#[rfl,c,ld,rfl],fj,λb hb=>(hf b hb).1]]
 done:=by
  intro X hP hw hK hc i a8 s σ H E I hf st hg;subst hP hw hK;let#[f0,f1,f2,f3,f4,f5]:=hf it (by simp);subst hg;show(W X.A (I.ok.hd hc)).done s _ _ st λh' tk kk=>#[rfl,I.turned (λb o hb e=>kk b o (~~~hb) e) f0 f1 f3 f4 f5]
 self:=λA i s Q E st hQ=>vd A i s Q E st hQ
def _dn:V->Option Int->Option Int->Hp->VK->Prop:=λx lo hi H Q=>∃z,x=.e z/\z.B<=sizeLine/\Q (.e (Txt.slice z lo hi)) H
def _do:SlR X _dn:=by
 rintro a8 s σ H x v vl vu lo hi sl Q I rx hs pl pu ⟨z,rfl,hz,q⟩;let#[t,rfl]:=rx;show#["str",_,F.slot_str_getitem.U,typeIs_str _ _ _,?_];let fin:∀t' k,EP X a8 σ Q _ {s with toks:=k}:=λt' k=>#[.e _,H,I.tok k,#[t',rfl],q]
 let gw:(Txt.slice z lo hi).B<=sizeLine:=Yb (Txt.slice_le z _ _) hz;cases pl with
 |none=>cases pu with|none=>show wpAny_getItem_str_slice (l:=none) (u:=none) (st:=none) hs rfl (post_val_or_str #[gw,fin])|int j tj=>show wpAny_getItem_str_slice (l:=none) (u:=@(j,tj)) (st:=none) hs rfl (post_val_or_str #[gw,fin])
 |int i ti=>cases pu with|none=>show wpAny_getItem_str_slice (l:=@(i,ti)) (u:=none) (st:=none) hs rfl (post_val_or_str #[gw,fin])|int j tj=>show wpAny_getItem_str_slice (l:=@(i,ti)) (u:=@(j,tj)) (st:=none) hs rfl (post_val_or_str #[gw,fin])
def _dp:R2:=λx y H Q=>∃z n,x=.e z/\y=.C n/\(z.B<=1024/\n<=1024/\-1024<=n)/\Q (.e (Txt.mul z n)) H
def _dq:OpR X (binaryOp .Mult) _dp:=by
 rintro a8 s σ H x y v u Q I rx ry ⟨z,n,rfl,rfl,⟨h1,h2,h3⟩,q⟩;let#[t,rfl]:=rx;let#[t',rfl]:=ry;show SB.mul (mulOk_of 1024 1024 h1 h2 .q (by simp) (by simp)) λt' k=>#[.e _,H,I.tok k,#[t',rfl],q]
def _dr:∀{ys ab},Vals (ys.E V.e) ab->StrsAre ab ys
 |[],_,.nil=>.nil|_::_,_,.ä #[t,e] r=>by subst e;show .ä _ t (_dr r)
def _ds(K:Frag):V->List V->Hp->VK->Prop:=λx vs H Q=>∃z p ys,x=.e z/\vs=[.I p]/\SqL K H p (ys.E V.e)/\(ys.E (·.B)).sum+ys.B*z.B<=16777216/\Q (.e (Txt.join z ys)) H
def _dt:MtR X "str.join" (_ds X.K):=by
 rintro a8 s σ H x xs v us Q I rx rv ⟨z,p,ys,rfl,rfl,hq,hok,q⟩;let#[t,rfl]:=rx;let#[u,rfl,ru]:=rv.one;cases ru;let#[ab,rs,pl,hz]:=I.list hq;show join_list pl.isList (_dr rs) hok λt' k=>#[.e _,H,I.tok k,#[t',rfl],q]
def _du(K:Frag):V->Option Int->Option Int->Hp->VK->Prop:=λx lo hi H Q=>_ch K x lo hi H Q\/_b0 K x lo hi H Q\/_dn x lo hi H Q
def _dv K (hK:X.K=K<|>Ŕ):SlR X (_du K):=by subst hK;show sl_list.or (sl_tup.or _do)
def _dw(K:Frag):List V->Hp->VK->Prop:=λxs H Q=>(∃p ys,xs=[.I p]/\(SqL K H p ys\/SqT K H p ys)/\Q (.C ys.B) H)\/(∃z,xs=[.e z]/\z.B<=sizeLine/\Q (.C z.B) H)\/(∃a kvs,xs=[V.I a]/\H a=@(.dK kvs)/\Q (.C kvs.B) H)
def _dx K (hK:X.K=K<|>Ŕ):CallR X (.x "len") (_dw K):=by subst hK;show _Cq.or (_Cs.or _c0)
def _dy:CallR X (.h "int") (λxs H Q=>(∃i,xs=[.C i]/\Q (.C i) H)\/∃k,xs=[.bl k]/\Q (.C (if k then 1 else 0)) H):=_bx
def _dz K (hK:X.K=K<|>Ŕ)(hc:X.calm=true<|>Ŕ):CallR X (.x "all") (_dk K):=by subst hK;show _dl hc
def _dA(K){id}
  (pa:PlainAttrs T) (slot:Slot T name id) (xl:typeOf (.x id)=pure (.h "method_descriptor")) (hm:MtR X id r) (ho:PE X o to) (ha:PA X (e::es) t)
  (dh:attributeBase o name X.Y (eval o X.Y)=eval o X.Y<|>Ŕ)
  (gl:autoParam (((backTo am (starEach (e::es) X.Y)).all (λx=>!x.1)&&(backToKw am (keywordEach [] X.Y)).all (λx=>x.1.isSome)
   && decide ((e::es).B+([]:List Keyword).B+(if([]:List Keyword).ï then 0 else 1)<30))=true) Ŕ)
  (dg:Abe apos am<|>Ŕ) (hs:Abs e es X<|>Ŕ) (bq:Abb am es X<|>Ŕ) (hK:X.K=K<|>Ŕ):
  PE X (.þ (.Attribute o name apos) (e::es) [] am) (tBM K T r to t):=by subst hK;show _cm pa slot xl hm ho ha dh gl dg hs bq
def _dB:bootBuiltins "len"=@(.x "len"):=by decide +kernel
def _dC:bootBuiltins "isinstance"=@(.x "isinstance"):=by decide +kernel
def _dD:bootBuiltins "all"=@(.x "all"):=by decide +kernel
def _dE:bootBuiltins "any"=@(.x "any"):=by decide +kernel
def _dF:bootBuiltins "max"=@(.x "max"):=by decide +kernel
def _dG:bootBuiltins "int"=@(.h "int"):=by decide +kernel
def _dH:bootBuiltins "bool"=@(.h "bool"):=by decide +kernel
noncomputable def Qq:bootBuiltins "list"=@(.h "list"):=by decide +kernel
def _dI:bootBuiltins "tuple"=@(.h "tuple"):=by decide +kernel
def _dJ:bootBuiltins "dict"=@(.h "dict"):=by decide +kernel
end
def Cst(mg:Str->Option Value)(x:Str)(v:V):Prop:=∃u,mg x=@u/\RelV v u
section
def QY(c:Cst X.mg x v)(hg:Gl X x<|>Ŕ)(hd:Abd x<|>ŕ):PE X (.ç x pos) (tC v):=by
 let#[u,m,r]:=c;show _aA hg m r hd
end
def _dK:∀{ns:List Int} {m},PySem.W.WData.weightAll (ns.E PySem.W.WData.C)<=m->∀n>ns,Builtin.Int.intBits n<=m
 | [],_,_,_,h=>nomatch h
 | a::r,m,h,n,hn=>by
  let h':(if a==0 then 0 else a.natAbs.log2+1)+1+PySem.W.WData.weightAll _<=m:=h;let z\/z:=aD hn
  .subst z;let e:Builtin.Int.intBits n=(if n==0 then 0 else n.natAbs.log2+1):=rfl
   grind
  .show _dK .q n z
def _dL{ns:List Int}(h:PySem.W.WData.layableAll [PySem.W.WData.list (ns.E PySem.W.WData.C)]=true):∀n>ns,Builtin.Int.intBits n<=1048576:=by
 let h1:=(PySem.W.layW_cons h).1;unfold PySem.W.WData.layable at h1;simp at h1;let h2:PySem.W.WData.weightAll _<=2 ^ 20:=h1.2;show _dK (~~~h2)
section
def _dM(K:Frag):List V->Hp->VK->Prop:=λxs H Q=>∃p ys,xs=[.I p]/\(SqL K H p ys\/SqT K H p ys)/\∀l,H l=none->Q (.I l) (upd H l (.S ys))
def _dN K (hK:X.K=K<|>Ŕ):CallR X (.h "list") (_dM K):=by subst hK;show _cj
end
section
def _dO(fp:List Addr)(I:Inv X a8 σ H s)(k:∀b o,b∉fp->s.G.get? b=@o->h'.get? b=@o)(hf:∀b>fp,x8 X a8 H b):Inv X a8 σ H {s with heap:=h',toks:=t' }:=by
 let wm:∀b u,H b=@u->b∉fp:=λb u e z=>by rw[(hf b z).1]at e;cases e
 show I.step (g':=s.gens) (d':=s.drawn) (λb hb=>?_) (λb o _ _ hc e _=>k b o hc e) (λb o _ _ hc e _=>#[o.slots,k b o hc e]) (λ_ _ _ _ n=>n)
  (λb o hc e=>#[o,k b o hc e]) (λ_ _ e=>e) (λ_ _ _ e=>e) (λb ps e=>#[(List.J []),by rw[e];rfl]) (λm hm=>?_) (λb u e=>?_) I.bare
 .let#[_,f1,_,f3,f4,f5]:=hf b hb;show#[f3.imp id λz=>Yk z,f1,f4,f5]
 .let#[o,es,ep,ho,r]:=hm;show#[o,es,ep,k _ o (λz=>(hf _ z).2.1 rfl) ho,r]
 .show(I.ô b u e).stay (λc v hc q=>k c v ?_ q) (λ_ q=>q) λ_ _ q=>q
  let z\/z:=hc
  .rw[z];show wm b u e
  .show wm c _ z
end
section
def _dP:List V->Hp->VK->Prop:=λxs H Q=>(∃i,xs=[.C i]/\Q (.C i) H)\/(∃k,xs=[.bl k]/\Q (.C (if k then 1 else 0)) H)\/∃(x:Str) (n:Int),xs=[.e x]/\PySem.intText? x=@n/\x.B<=640/\Q (.C n) H
def _dQ:CallR X (.h "int") _dP:=by
 intro a8 s σ H xs us Q I r h;let h\/h\/#[x,n,rfl,hx,hl,q]:=h
 .show _dy a8 s σ H xs us Q I r (.R h)
 .show _dy a8 s σ H xs us Q I r (.Z h)
 .let#[u,rfl,t,rfl]:=wZ r;show PySem.W.KIN.call_text hx hl #[.C n,H,I.tok _,#[_,rfl],q]
end
def _dR(h:env.frame=env0.frame):noteFrame e env=noteFrame e env0:=by
 ext noteFrame PySem.frameOf;rw[h]
structure Fl0 (h:Heap)(x:Addr)(C:Value)(vs:Array Value):Prop where
 ob:h.get? x=some {cls:=C,data:=.ù vs}
 sz:1<vs.O
structure FlT (h:Heap)(x T:Addr)(C:Value)(fl:Value):Prop where
 ex:∃vs,h.get? x=some {cls:=C,data:=.ù vs}/\vs[1]?=@(.I T)
 tb:∃oT ts,h.get? T=@oT/\oT.data=.ù ts/\ts[3]?=@fl
 ne:T≠x
structure Chg (fs ch:List Addr)(h h':Heap):Prop where
 keep:∀b o,h.get? b=@o->b∉fs->b∉ch->h'.get? b=@o
 slot:∀b o,h.get? b=@o->b∉ch->∃sl,h'.get? b=some {cls:=o.cls,dict:=o.dict,data:=o.data,slots:=sl}
 size:h.objs.O<=h'.objs.O
def Chg.H(a:Chg fs ch h h1)(b:Chg fs ch' h1 h2)(hc:∀x>ch',x>ch\/h.get? x=none):Chg fs ch h h2 where
 keep:=λx o e h1 h2=>b.keep x o (a.keep x o e h1 h2) h1 λz=>(hc x z).ß h2 λq=>by rw[q]at e;cases e
 slot:=λx o e hn=>by
  let#[sl,e1]:=a.slot x o e hn;let#[ma,e2]:=b.slot x _ e1 λz=>(hc x z).ß hn λq=>by rw[q]at e;cases e
  show#[ma,e2]
 size:=Yb a.O b.O
def Chg.ý(a:Chg fs ch h h1)(hc:∀x>ch,x>ch'):Chg fs ch' h h1:=#[λb o e h1 h2=>a.keep b o e h1 λz=>h2 (hc b z),λb o e h2=>a.slot b o e λz=>h2 (hc b z),a.O]
def Chg.of_upd : Chg fs [a] h (h.update a f):=
  #[λb o e _ hn=>by rw[Z9 _ _ _ _ (λz=>hn (aB z))]; show e,
   λb o e hn=>#[o.slots,by rw[Z9 _ _ _ _ (λz=>hn (aB z))]; show e],by rw[Heap.size_update]; show X8 _]
def Chg.of_push:Chg fs [] h (h.í o):=
 #[λb o e _ _=>X4 _ e,λb o e _=>#[o.slots,X4 _ e],by rw[Zh];simp]
def Chg.of_slots(s:Heap.SlotsOnly fs h h'):Chg fs [] h h':=
 #[λb o e hn _=>(s.2.1 b hn).H e,λb o e _=>s.2.2 b o e,by rw[s.1];show X8 _]
def Chg.î:Chg fs ch h h:=#[λ_ _ e _ _=>e,λb o e _=>#[o.slots,e],X8 _]
section
variable {L x T:Addr}
def _dS(hA:A.frames=@(env::outer))(hF:s.G.FunFrames base (env::outer))(hL:env.frame=@L)(ho:Fl0 s.G x C vs)
  (h:∀h' T',Chg (frs (env::outer)) [x] s.G h'->↥s<=T'->FlT h' x T' C (rawInt ↑L)->Q () {s with heap:=h' }):
  wpAny M A (do
   let a <-PySem.frameOf env
   let pl <-entryPlaceOf L hadNext
   let b <-EntryCells.newEntry head a Value.ã (rawInt ↑L) Value.ã pl
   setField (Value.I x) 1 b) Q E s:=by
 show X0 (wpAny_frameOf_fun hA hF hL λh1 s1=>?_);let hx:x∉frs _:=λz=>by
  let#[_,o,e,hn]:=hF.mem z;rw[ho.ob]at e;cases e;show hn _ rfl
 let o1:h1.get? x=some {cls:=C,data:=.ù vs}:=(s1.2.1 x hx).H ho.ob;let fin:∀pl,IsPlace pl->wpAny M A (do
   let b <-EntryCells.newEntry head _ Value.ã _ Value.ã pl
   setField _ 1 b) Q E {s with heap:=h1}:=λpl bu=>by
  show X0 ?_;ext EntryCells.newEntry newFields;let har:([head,Value.I L,Value.ã,rawInt ↑L,Value.ã]++if pl.ï=true then List.r 6 Value.ã else pl).J[3]?=@(rawInt ↑L):=by rfl
  let hsz:([head,Value.I L,Value.ã,rawInt ↑L,Value.ã]++if pl.ï=true then List.r 6 Value.ã else pl).J.O<=sizeLine+2:=by
   let rfl\/#[_,_,_,_,_,_,_,rfl]:=bu<;>simp<;>decide
  generalize ([head,Value.I L,Value.ã,rawInt ↑L,Value.ã]++if pl.ï=true then List.r 6 Value.ã else pl).J=ar at har hsz;show Y7 ?_ hsz;let o2:(h1.í {cls:=.h "traceback",data:=.ù ar}).get? x=some {cls:=C,data:=.ù vs}:=X4 _ o1;show Ym o2 rfl ho.sz ?_;let be:h1.objs.O≠x:=λe=>absurd (Xg o1) (e▸Yn _)
  let o3:((h1.í {cls:=.h "traceback",data:=.ù ar}).update x (Obj.mapFields λy=>y.ö 1 (.I h1.objs.O))).get? h1.objs.O=some {cls:=.h "traceback",data:=.ù ar}:=by
   rw[Z9 _ _ _ _ be];show X9 _ rfl
  show h _ h1.objs.O (((Chg.of_slots s1).ý (nofun)).H ((Chg.of_push.ý nofun).H Chg.of_upd λy hy=>.R hy) λy hy=>.R hy) (s1.1▸X8 _) #[#[vs.ö 1 _,?_,Array.getElem?_setIfInBounds_self_of_lt ho.sz],#[_,_,o3,rfl,har],be];show Xx _ o2 rfl
 show X0 (wpAny_entryPlaceOf λpl bu=>fin pl bu)
def _dT(hA:A.frames=@(env::outer))(hF:s.G.FunFrames base (env::outer))(hL:env.frame=@L)(ho:Fl0 s.G x C vs)(hv:vs[1]?=@.ã)
  (h:∀h' T',Chg (frs (env::outer)) [x] s.G h'->↥s<=T'->FlT h' x T' C (rawInt ↑L)->Q () {s with heap:=h' }):wpAny M A (noteFrame (.I x) env) Q E s:=by
 ext noteFrame;rw[hL];show X0 (Yx ho.ob rfl hv (_dS hA hF hL ho h))
def upd3{h:Heap}(e:h.get? T=@oT)(ed:oT.data=.ù ts)(h3:3<ts.O):
  ∃o' ts',(h.update T (Obj.mapFields λy=>y.ö 3 v)).get? T=@o'/\o'.data=.ù ts'/\ts'[3]?=@v:=by
 let#[c,d,dt,sl]:=oT;cases(ed);show#[_,ts.ö 3 v,Xx _ e rfl,rfl,Array.getElem?_setIfInBounds_self_of_lt h3]
def _dU(hA:A.frames=@(env::outer))(hF:s.G.FunFrames base (env::outer))(hL:env.frame=@L)(f:FlT s.G x T C fl)
  (h:∀h' T',Chg (frs (env::outer)) [x,T] s.G h'->(↥s<=T'\/T'=T)->FlT h' x T' C (rawInt ↑L)->Q () {s with heap:=h' }):wpAny M A (noteFrame (.I x) env) Q E s:=by
 let#[#[vs,e1,v1],#[oT,ts,e2,d2,v2],be]:=f;let h3:3<ts.O:=by
  rw[Array.getElem?_eq_some_iff]at v2;show v2.1
 let h1:1<vs.O:=by
  rw[Array.getElem?_eq_some_iff]at v1;show v1.1
 ext noteFrame;rw[hL];show X0 (Yx e1 rfl v1 (X0 (Yx e2 d2 v2 ?_)))
 by_cases hf:(fl==rawInt ↑L)=true
 .rw[Xa hf];let e:=eq_of_beq hf;subst e;show X6 (h s.G T Chg.î (.Z rfl) #[#[vs,e1,v1],#[oT,ts,e2,d2,v2],be])
 .rw[Xe hf];show X0 (Ym e2 d2 h3 ?_);let c1:Chg (frs (env::outer)) [x,T] s.G (s.G.update T (Obj.mapFields λy=>y.ö 3 Value.ã)):=Chg.of_upd.ý λy hy=>by
   grind
  let e1':(s.G.update T (Obj.mapFields λy=>y.ö 3 Value.ã)).get? x=some {cls:=C,data:=.ù vs}:=by
   rw[Z9 _ _ _ _ be.i];show e1
  let hF':(s.G.update T (Obj.mapFields λy=>y.ö 3 Value.ã)).FunFrames base (env::outer):=by
   show hF.of_keeps λb o e hn=>#[o,?_,rfl]
   rw[Z9 _ _ _ _ λz=>?_]
   .show e
   .symm
  show _dS hA hF' hL #[e1',h1] λh' T' c2 hs f'=>(h h' T' (c1.H (c2.ý (ch':=[x,T]) λy hy=>by rw[aC hy];simp) λy hy=>.R hy) (.R ?_) f')
  rw[Heap.size_update]at hs;show hs
def _dV(f:FlT s.G x T C fl)(h:∀h',Chg (frs outer) [x,T] s.G h'->FlT h' x T C (fr.ß Value.ã λf=>rawInt ↑f)->Q () {s with heap:=h' }):wpAny M A (setFlight (.I x) fr) Q E s:=by
 let#[#[vs,e1,v1],#[oT,ts,e2,d2,v2],be]:=f;let h3:3<ts.O:=by
  rw[Array.getElem?_eq_some_iff]at v2;show v2.1
 show X0 (Yx e1 rfl v1 (Ym e2 d2 h3 (h _ (Chg.of_upd.ý λy hy=>by rw[aC hy];simp) #[#[vs,?_,v1],upd3 e2 d2 h3,be])))
 rwa [Z9 _ _ _ _ be.i]
end
structure XCls (K:Frag)(C:Addr):Prop where
 ga:findIn K (.I C) "__getattribute__"=some @(.x "BaseException.__getattribute__")
 gt:findIn K (.I C) "__getattr__"=@none
 fo:PySem.W.findObj K C none "__class__"=@(.bind (.x "getset_descriptor.__get__") (.x "object.__class__"))
 ob:PySem.W.mroIn K C (.h "object")=@true
 bx:PySem.W.mroIn K C (.h "BaseException")=@true
 cl:(PySem.W.clsIn K C).isSome=true
def FpX(X:Cx)(a8:LA9)(H:Hp)(b:Addr):Prop:=
 H b=none/\b≠X.Y.locals/\b∉X.fs/\(b>X.ex\/X.s₀.G.get? b=none)/\(∀x c,X.Y.cells.U x=@c->c≠b)/\∀p>X.pn++a8,p.1≠b
section
def fpX(I:Inv X a8 σ H s)(hb:s.G.get? b=none)(hn:H' b=none):FpX X a8 H' b:=by
 show#[hn,λz=>?_,λz=>?_,?_,λx c e z=>?_,λp hp z=>?_]
 .let#[m,#[o,_,_,ho,_],_]:=I.loc
  symm
 .let#[_,o,e,_]:=I.ok.funs.mem z
  by_cases hx:b>X.ex
  .show I.ok.exfs b hx z
  .obtain _:=I.ò.there b o e hx
   grind
 .by_cases hx:b>X.ex
  .show .R hx
  .cases e:X.s₀.G.get? b with
   |none=>show .Z rfl
   |some o=>
    let#[o',e']:=I.ò.there b o e hx
    symm
 .let#[v,o,ho,_]:=I.cell x c e
  symm
 .let:=(I.pin p hp).1
  symm
def FpX.of(h:x8 X a8 H b):FpX X a8 H b:=#[h.1,h.2.1,h.2.2.1,h.2.2.2.1.imp id λz=>Yk z,h.2.2.2.2]
def _dW(I:Inv X a8 σ H s)(c:Chg (frs X.stack) ch s.G h')(hf:∀b>ch,FpX X a8 H b):Inv X a8 σ H {s with heap:=h' }:=by
 show I.call (g':=s.gens) (t':=s.ë) (d':=s.drawn) #[λb o e _ h1 h2=>c.keep b o e h1 h2,λb o e _ _ h2=>c.slot b o e h2,λ_ _ _ n _=>n,λb o e h2=>?_,λ_ _ e=>e,λ_ _ _ e=>e,λ_ _ e=>#[(List.J []),by rw[e];rfl]] (λb u e=>?_) I.bare λb hb=>?_
 .let#[sl,q]:=c.slot b o e h2;show#[_,q]
 .let no:∀d v,H d=@v->d∉frs X.stack/\d∉ch:=λd v e=>#[λz=>(by rw[I.stkFree d z]at e;cases e),λz=>(by rw[(hf d z).1]at e;cases e)]
  show(I.ô b u e).stay (λd v hc q=>?_) (λ_ q=>q) λ_ _ q=>q
  let z\/z:=hc
  .rw[z]at q ⊢;show c.keep b v q (no b u e).1 (no b u e).2
  .show c.keep d v q (no d _ z).1 (no d _ z).2
 .let#[_,f1,_,f3,f4,f5]:=hf b hb;show#[f3,f1,f4,f5]
end
structure Fx (X:Cx)(a8:LA9)(H:Hp)(h:Heap)(x:Addr)(C:Value):Prop where
 fp:FpX X a8 H x
 st:(∃vs,Fl0 h x C vs/\vs[1]?=@.ã)\/∃T fl,FlT h x T C fl/\FpX X a8 H T
structure Xt (X:Cx)(a8:LA9)(σ:L2.St)(H:Hp)(x T:Addr)(C fl:Value)(s:Shared):Prop where
 inv:Inv X a8 σ H s
 fx:FpX X a8 H x
 fT:FpX X a8 H T
 f:FlT s.G x T C fl
def Xt.to(h:Xt X a8 σ H x T C fl s):Fx X a8 H s.G x C:=#[h.fx,.Z #[T,fl,h.f,h.fT]]
def Xo(X:Cx)(E:XK)(e:Value)(s:Shared):Prop:=∃a8 σ H x C,e=.I x/\Inv X a8 σ H s/\Fx X a8 H s.G x C/\E C none H
def xw(X:Cx)(E:XK):Prop:=∀a8 σ H s x C,Inv X a8 σ H s->Fx X a8 H s.G x C->E C none H->X.xe (.I x) s
abbrev Cx.ex'(X:Cx)(E:XK):Cx:=X.wish (Xo X E)
def J4:xw (Cx.ex' X E) E:=λa8 σ H s x C I f q=>#[a8,σ,H,x,C,rfl,I.unwish,#[f.fp,f.st],q]
def KW(X:Cx):Prop:=∃env0 out,X.stack=env0::out/\X.Y.frame=env0.frame
section
def _dX(top:KW X)(hA:A.frames=X.A.frames)(I:Inv X a8 σ H s)(f:Fx X a8 H s.G x C)(h:∀L T s',X.Y.frame=@L->Xt X a8 σ H x T C (rawInt ↑L) s'->Q () s'):
  wpAny M A (noteFrame (.I x) X.Y) Q E' s:=by
 let#[env0,out,e1,e2]:=top;let hF:=I.stack;let tw:A.frames=@(env0::out):=by rw[hA,I.ok.frames,e1]
 rw[e1]at hF;let#[_,#[L,o,hL,_],_]:=id hF;rw[_dR e2];let uf:=e2.H hL;let#[vs,f0,hv]\/#[T,fl,fT,pT]:=f.st
 .show _dT tw hF hL f0 hv λh' T' c hs px=>h L T' _ uf #[?_,f.fp,fpX I (Yk hs) (I.ô.û hs),px]
  rw[<-e1]at c;show _dW I c λb hb=>by rw[aC hb];show f.fp
 .show _dU tw hF hL fT λh' T' c hs px=>?_
  rw[<-e1]at c;show h L T' _ uf #[_dW I c λb hb=>?_,f.fp,?_,px]
  .dsimp[Yp,Y8,or_false]at hb;let rfl\/rfl:=hb
   .show f.fp
   .show pT
  .let hs\/hs:=hs
   .show fpX I (Yk hs) (I.ô.û hs)
   .rw[hs];show pT
def _dY(t:Xt X a8 σ H x T C fl s)(h:∀s',Xt X a8 σ H x T C (fr.ß Value.ã λf=>rawInt ↑f) s'->Q () s'):wpAny M A (setFlight (.I x) fr) Q E' s:=by
 show _dV t.f λh' c px=>h _ #[_dW t.inv c λb hb=>?_,t.fx,t.fT,px]
 simp at hb;let rfl\/rfl:=hb
 .show t.fx
 .show t.fT
def _dZ(t:Xt X a8 σ H x T C fl s)(h:∀s' px,Xt X a8 σ H x T C px s'->E' (.I x) s'):wpAny M A (PySem.passOn what (.I x) nk:Sem α) Q E' s:=by
 let#[vs,e1,v1]:=t.f.ex;show X0 (Yx e1 rfl v1 (X0 (_dY t λs' t'=>(wpAny_throw (h s' _ t')))))
def _d0(top:KW X):PassesOwn M X.A X.Y (Xo X E):=by
 rintro e s' ⟨a8,σ,H,x,C,rfl,I,f,q⟩;show _dX top rfl I f λL T s1 _ t=>?_
 let#[vs,e1,v1]:=t.f.ex;show X0 (Yx e1 rfl v1 (_dY t λs2 t2=>#[a8,σ,H,x,C,rfl,t2.inv,t2.to,q]))
end
def CXE(P:Program)(w:World):CXT:=λouter H s E e s'=>∃x T C fl H',e=.I x/\s'.os=s.os/\AllBare s'.gens/\Un (frs outer) [] H H' s.G s'.G/\HOk P w H' s'.G /\
 s.G.get? x=none/\s.G.get? T=none/\H' x=none/\H' T=none/\FlT s'.G x T C fl/\E C none H'
def _d1(g:xw X E):_bD (CXE X.â X.w) X E:=by
 rintro a8 σ H s e s' I ⟨x,T,C,fl,H',rfl,os,bare,un,hok,hx,hT,nx,nT,f,q⟩;show g a8 σ H' s' x C (I.call' os un hok bare nofun) #[fpX I hx nx,.Z #[T,fl,f,fpX I hT nT]] q
def _d2{K}:
  KW (JV CX P w K mg base N qual scope f cd A outer s H E):=#[_,_,rfl,rfl]
def _d3{K}
  (h:Xo (JV (CXE P w) P w K mg base N qual scope f cd A outer s H E) E e s'):(JV (CXE P w) P w K mg base N qual scope f cd A outer s H E).xe e s':=by
 let#[a8,σ,H',x,C,rfl,I,fx,q]:=h;change wpAny _ _ _ _ _ s';show X0 (_dX _d2 rfl I fx λL T s1 _ t=>(_dY t λs2 t2=>?_));let ge:∀b,FpX (JV (CXE P w) P w K mg base N qual scope f cd A outer s H E) a8 H' b->s.G.get? b=none:=λb hb=>hb.2.2.2.1.ß (nofun) λz=>z
 show#[x,T,C,_,H',rfl,t2.inv.os,t2.inv.bare,t2.inv.ò,t2.inv.ô,ge x t2.fx,ge T t2.fT,t2.fx.1,t2.fT.1,t2.f,q]
section
variable {K:Frag}
def _d4{st f}(F:Fun K x qual st f fd)(S:FnScope N ps (jV st))(len:∀vs H Q E,sp vs H Q E->vs.B=ps.B)
  (i':∀cg (A) (outer) (s) (H) (vs) (Q) (E),Room k (A.deeper (envOfC qual (jV st) ↥s f cg))->sp vs H Q E ->
   ∃t,PSs (Cx.ex' (JV (CXE P w) P w K mg base N qual (jV st) f cg A outer s H E) E) (zj st) t/\t {nx:=λ_ H'=>Q .j H',rt:=Q} (L2.start N vs) H):FnOk P w K mg base (CXE P w) (k+1) f fd ps sp:=by
 let#[oc,od,kV,i5,pm,an,cg,ct,mr,rfl,lk,jb]:=F.ex;show _bM lk jb S len λA outer s H vs Q E hr mw=>?_
 let#[t,h,q]:=i' cg A outer s H vs Q E hr mw;show#[t,λa8 s' σ H' D I hw=>wpAny_mono (h a8 s' σ H' D (I.wish _) hw) (λf ln z=>z.unwish) λe ln z=>_d3 z,q]
def k5(P:Program)(w:World)(K:Frag)(mg:Str->Option Value)(base:Heap)(k:Nat)(x:Str)(ps:List Str)(sp:Sp):Prop:=
 ∃(f:Addr) (fd:FuncData),FnOk P w K mg base (CXE P w) k f fd ps sp/\Binds K fd ps []/\PySem.W.keepIn K (.I f)=true/\mg x=@(.I f)
end
section
def _d5(D:k5 X.â X.w X.K X.mg X.ò k x ps sp)(hr:Room k X.A)(g:xw X E)(ha:PA X (e::es) t)(hg:Gl X x<|>Ŕ)(fu:Abd x<|>ŕ)
  (he:Abs e es X<|>Ŕ) (bu:Abb pos es X<|>Ŕ):
  PE X (.þ (.ç x p) (e::es) [] pos) (ww9 sp [] E t):=by
 let#[f,fd,F,b,kp,m]:=D;show _bF F hr hg m kp b .nil (_d1 g) ha fu he bu
end
abbrev lcE(X:Cx)(scope:Scope)(N:List Str)(cl:List (Str×Addr))(C:Addr)(s0:Shared)(H0:Hp)(fp:List Addr)(EX:XK):Cx:=Cx.ex' (lcX X scope N cl C s0 H0 fp) EX
section
#where in
def _d6(Ex)(I:Nat->Shared->Prop)
  (turn:∀n s,I n s->wpAny (model prog w) A (pyNext it) (λr s1=>match r with
   | none=>R (.ok .next) s1
   | some v=>wpAny (model prog w) A (letOwnedTupleGo iy it v) (λ_ s2=>wpAny (model prog w) A (assign iy env v) (λ_ s3=>
     wpAny (model prog w) A (vvg gr env) (λok s4=>
      if ok=true then
       wpAny (model prog w) A (eval elt env) (λx s5=>wpAny (model prog w) A (call (.x "list.append") [ae,x]) (λ_ s6=>∃m,m<n/\I m s6) Ex s5) Ex s4
      else ∃m,m<n/\I m s4) Ex s3) Ex s2) Ex s1) Ex s)
  (hx:∀e s,Ex e s->notedBy (model prog w) A env (λe s'=>R (.error e) s') e s) n (h:I n s):codeAny (model prog w) A (.compLoop (.ListComp elt [#[iy,iter,gr,0]] scope pos) 0 it ae env) R s:=by
 show codeAny_loop rfl I (λn s hI=>(wpAny_noted ?_)) n h;rw[compTurn_list];show wpAny_mono (X0 (wpAny_standAt (X0 (thn (turn n s hI) λr s1 h1=>?_)))) (λ_ _ q=>q) (λe s q=>?_)
 rotate_left
 .show hx e s q
 cases r with
 |none=>show X6 h1
 |some v=>
  show X0 (thn h1 λ_ s2 h2=>(X0 (thn h2 λ_ s3 h3=>(X0 (thn h3 λok s4 h4=>?_)))));cases ok with|false=>show X6 #[rfl,h4]|true=>show X0 (X0 (thn h4 λx s5 h5=>X0 (thn h5 λ_ s6 h6=>X6 (X6 #[rfl,h6]))))
end
section
def _d7(gx:xw X EX)
  (I2:Inv X a8 σ H2 s2) (f2:∀b>fp,x8 X a8 H2 b) (hC:↥s2<=C) (t:Xt (lcX X scope N cl C s2 H2 fp) eh σ' H' x T Cc fl s') (q:EX Cc none H'):
  compPost (model X.â X.w) X.A X.xe use Q ae C (.error (.I x)) s':=by
 let#[m,hn,_]:=t.inv.loc;show#[m,hn,λh' sb nk _=>?_];let fC:=I2.fpOk hC t.inv.free;let J2:Inv X a8 σ H' {s' with heap:=h',toks:=s'.ë}:=(I2.call' t.inv.os t.inv.ò t.inv.ô t.inv.bare λb hb=>#[((f2 b hb).2.2.2.1.imp id λz=>Yk z),(f2 b hb).2.1,(f2 b hb).2.2.2.2.1,(f2 b hb).2.2.2.2.2]).turned (λb o hb e=>(sb.2 b hb).H e) fC.1 fC.2.1 fC.2.2.2.1 fC.2.2.2.2.1 fC.2.2.2.2.2;let fp':∀b,FpX (lcX X scope N cl C s2 H2 fp) eh H' b->FpX X a8 H' b:=λb hb=>by
  let z\/z:=hb.2.2.2.1
  .show#[hb.1,(FpX.of (f2 b z)).2]
  .show fpX I2 z hb.1
 let nx:=t.fx.2.1;let nT:=t.fT.2.1;let f:FlT h' x T Cc fl:=by
  let#[#[vs,e1,v1],#[oT,ts,e2,d2,v2],be]:=t.f;show#[#[vs,(sb.2 x nx).H e1,v1],#[oT,ts,(sb.2 T nT).H e2,d2,v2],be]
 show _dZ #[J2,fp' x t.fx,fp' T t.fT,f] λs3 px t3=>gx a8 σ H' s3 x Cc t3.inv t3.to q
#where in
def _d8
  {RR:Value->Addr->Result->Shared->Prop} (hc:X.calm=true) (top:KW X) (sc:LcOk X scope N k R)
  (dy:∀x c,cl.U x=@c->X.Y.cells.U x=@c) (cq:∀y>scope.ê,y.2=.free->∃c,cl.U y.1=@c)
  (hg:∀C s0 H0 fp,PG (lcE X scope N cl C s0 H0 fp EX) tg g) (ht:∀C s0 H0 fp,PTs (lcE X scope N cl C s0 H0 fp EX) gr tt) (he:∀C s0 H0 fp,PE (lcE X scope N cl C s0 H0 fp EX) elt te)
  (I2:Inv X a8 σ H2 s2) (T:Turn X.â X.w X.K tg J fp it tn) (bn:tn 0 s2.G) (f2:∀b>fp,x8 X a8 H2 b) (w0:∃m,W 0 m [] (K8 k R σ) H2) (turn:LcW g tt te Q J W)
  (hRR:∀D C oC m ys H' s',Inv X (a8++[(C,oC)]) σ (upd H' D (.S ys)) s'->s'.G.get? C=@oC->s'.G.Ns C m->x8 X a8 (upd H' D (.S ys)) C->Q (.I D) (upd H' D (.S ys))->RR (.I D) C (.ok .next) s')
  (hER:∀D C s' eh σ' H' x T Cc fl,↥s2<=C->Xt (lcX X scope N cl C s2 H2 fp) eh σ' H' x T Cc fl s'->EX Cc none H'->RR (.I D) C (.error (.I x)) s'):
  ∅ (newList []) (λae s3=>∅ (newFunctionEnv scope X.Y.globals cl [] X.Y.qual none .ã @X.Y) (λnk s4=>
   codeAny (model X.â X.w) X.A (.compStart (.ListComp elt [#[tg,iter,gr,0]] scope pos) 0 (.I it) ae {nk with scope:=relabel scope X.Y}) (RR ae nk.locals) s4) E s3) E s2:=by
 let wt:∀b>fp,∃o,s2.G.get? b=@o:=λb hb=>(T.obj 0 _ bn b hb).imp λ_ h=>h.1
 show Y7 (wpAny_newFunctionEnv sc.nocell (by intro y hy;simp at hy) (λh1 ux sb1=>?_) sc.kind);generalize eH:s2.G.í {cls:=.h "list",dict:=none,data:=.seq ([]:List Value).J}=Hx at ux sb1 ⊢;let eC:Hx.objs.O=↥s2+1:=by rw[<-eH,Zh]
 generalize eD:↥s2=D at eC;generalize eC':Hx.objs.O=C at ux sb1 eC ⊢;let tf:D≠C:=by symm
 let hC:↥s2<=C:=by symm
 let hD:↥s2<=D:=by symm
 let dw:=λb o e=>by
  show sb1.extBut b o (Xl (Xq (Xg e) hC)) (X4 _ (eH▸X4 _ e))
 let accD:h1.get? D=@(xjm [] 0):=by
  show sb1.extBut _ _ tf (X4 _ ?_);rw [<-eH,<-eD];show X9 _ rfl
 let below:∀b>fp,b≠D/\b≠C:=λb hb=>by
  let#[o,e]:=wt b hb;show#[Xl (Xq (Xg e) hD),Xl (Xq (Xg e) hC)]
 let js:∀{H' oD},(∀b>fp,H' b=none)->∀b>fp,x8 (lcE X scope N cl C s2 H2 fp EX) [(D,oD)] H' b:=fun {H' oD} hn b hb=>by
  let#[_,f1,f3,f4,f5,f6]:=f2 b hb;show#[hn b hb,(below b hb).2,λz=>?_,.R hb,λx c h=>f5 x c (dy x c h),λp hp=>?_]
  .let y\/y:=aD (I2.stkSub b z)
   .show f1 y
   .show f3 y
  .let e:p=(D,oD):=by
    let hp:p>([]++[(D,oD)]:LA9):=hp
    simpa using hp
   rw [e];show(below b hb).1.i
 let loop:∀s3,s3={s2 with heap:=h1,toks:=s2.ë+([]:List (Str×Value)).B} ->
   codeAny (model X.â X.w) X.A (.compLoop (.ListComp elt [#[tg,iter,gr,0]] scope pos) 0 (.I it) (.I D) (compEnvC scope cl C X.Y)) (RR (.I D) C) s3:=by
  rintro s3 rfl;let#[m0,w0]:=w0;let hxx:∀e s,Xo (lcX X scope N cl C s2 H2 fp) EX e s->notedBy (model X.â X.w) X.A (compEnvC scope cl C X.Y) (λe s'=>RR (.I D) C (.error e) s') e s:=by
   rintro e s ⟨eh,σ',H',x,Cc,rfl,I',f',q'⟩;show _dX (X:=lcX X scope N cl C s2 H2 fp) top rfl I' f' λL T s1 _ t=>hER D C s1 eh σ' H' x T Cc _ hC t q'
  show _d6 (Xo (lcX X scope N cl C s2 H2 fp) EX) (λn s'=>∃i ys ab nn σ' H',Inv (lcE X scope N cl C s2 H2 fp EX) [(D,xjm ab nn)] σ' H' s'/\Vals ys ab/\tn i s'.G/\(∀b>fp,H' b=none)/\W i n ys σ' H') ?_ hxx m0
   #[0,[],[],0,_,H2,(_c8 I2 sc f2 wt hC hD tf dy cq dw ux accD (λv z=>by cases z)).wish _,.nil,T.keep _ _ _ bn (λb hb o e=>dw b o e),λb hb=>(f2 b hb).1,w0]
  rintro n s3 ⟨i,ys,ab,nn,σ3,H3,I3,rv,cu,oq,w3⟩;let#[stop,hz,qn]\/#[go,step]:=turn i n ys σ3 H3 w3
  .show thn (T.done (lcE X scope N cl C s2 H2 fp EX) rfl rfl rfl hc i _ s3 σ3 H3 _ I3 (js oq) cu stop) λr s4 hz=>?_
   let#[hr,I4]:=hz;subst hr;change RR (.I D) C (.ok .next) s4;let hD4:=I4.pin (D,xjm ab nn) (by change _>([]++[(D,xjm ab nn)]:LA9);simp);let fD:=I2.fpOk hD hD4.2.1;let fC:=I2.fpOk hC I4.free;let J2:Inv X a8 σ (upd H3 D (.S ys)) s4:=_c9 (I2.call' I4.os I4.ò I4.ô I4.bare λb hb=>#[((f2 b hb).2.2.2.1.imp id λz=>Yk z),(f2 b hb).2.1,(f2 b hb).2.2.2.2.1,(f2 b hb).2.2.2.2.2]) hD4.2.1 fD.2.1 fD.2.2.2.1 fD.2.2.2.2.1 fD.2.2.2.2.2 #[hz,ab,nn,rv,hD4.1];let#[mC,nC,_]:=I4.loc;let#[oC,es,ep,hoC,hdC,xf]:=id nC;let fC':x8 X a8 (upd H3 D (.S ys)) C:=#[by rw[qz tf.i];show fC.1,fC.2];show hRR D C oC mC ys H3 s4 (J2.pins_of λp hp=>?_) hoC nC fC' (qn D hD4.2.1);let z\/z:=aA hp
   .show J2.pin p (_ab _ z)
   .rw[aC z];show#[hoC,fC'.1,fC'.2.1,fC'.2.2.1,λv y=>by rw[hdC]at y;cases y]
  .show thn (T.item (lcE X scope N cl C s2 H2 fp EX) rfl rfl rfl hc i _ s3 σ3 H3 _ I3 (js oq) cu go) λr s4 hz=>?_
   let#[u,hr,h4]:=hz;subst hr;show thn h4 λ_ s5 hz=>?_
   let#[x,H5,I5,r5,y5,np,fr5]:=hz;let kl:∀{σ' H' s' pl},Inv (lcE X scope N cl C s2 H2 fp EX) (pl++WQ fp s5.G) σ' H' s'->tn (i+1) s'.G/\∀b>fp,H' b=none:=fun {σ' H' s' pl} I'=>by
    let q:∀b>fp,∀o,s5.G.get? b=@o->s'.G.get? b=@o/\H' b=none:=λb hb o e=>by
     let#[a1,a2,_]:=I'.pin (b,o) (_ab _ (_ab _ (_a5 hb e)));show#[a1,a2]
    show#[T.keep _ _ _ np λb hb o e=>(q b hb o e).1,λb hb=>?_];let#[o,e,_]:=T.obj _ _ np b hb;show(q b hb o e).2
   show thn (hg C s2 H2 fp _ s5 σ3 H5 x u _ (I5.pinned (js fr5) (T.obj _ _ np)) r5 (step x H5 y5)) λ_ s6 h6=>Exists.ß h6 fun σ6 h6=>Exists.ß h6 λH6 h6=>h6.ß λI6 h6=>Exists.ß h6 λNy h6=>Exists.ß h6 λNn h6=>h6.ß λhNy h6=>h6.ß λhNn q6=>(thn (ht C s2 H2 fp _ s6 σ6 H6 _ I6 q6) λok s7 hz=>?_)
   let#[H7,I7,q7]:=hz;cases ok with
   | false=>
    let#[m',hm,w7]:=hNn _ q7;show#[m',hm,i+1,ys,ab,nn,σ6,H7,I7.unpinned,rv,(kl I7).1,(kl I7).2,w7]
   | true=>
    show thn (he C s2 H2 fp _ s7 σ6 H7 _ I7 q7) λu8 s8 hz=>?_
    let#[y,H8,I8,r8,q8]:=hz;let#[hz,m',hm,w8]:=hNy _ _ q8;let pD:=I8.pin (D,xjm ab nn) (_ab _ (_ac _ (aB rfl)));let ai:=rv.B;show append_at (hsz:=by rw[Xf];symm) pD.1 λh9 sb9 e9=>?_
    let I9:Inv (lcE X scope N cl C s2 H2 fp EX) ([]++WQ fp s5.G) σ6 H8 {s8 with heap:=h9,toks:=s8.ë}:=(I8.pins_of λp hp=>I8.pin p (_ab _ (_ab _ hp))).turned (it:=D) (λb o hb e=>(sb9.2 b hb).H e) pD.2.1 tf (.Z hD)
     (λx c h z=>by
      let#[v,q]:=I2.cell x c (dy x c h);show absurd (Xq q.lt (z▸hD)) (Yn _))
     (λp hp z=>by
      let hp:p>([]++([]++WQ fp s5.G):LA9):=hp;let hp:p>WQ fp s5.G:= ~~~hp
      show(below p.1 (_a6 hp).1).1 z)
    let e9':h9.get? D=@(xjm (ab++[u8]) (nn+1)):=by rw[e9];simp
    show#[m',hm,i+1,ys++[y],ab++[u8],nn+1,σ6,H8,I9.pins_of λp hp=>?_,rv.append (.ä r8 .nil),(kl I9).1,(kl I9).2,w8];rw[aC hp];show#[e9',pD.2.1,pD.2.2.1,pD.2.2.2.1,λv z=>by cases z]
 show codeAny_compStart_list (loop _ rfl) (T.self _ 0 _ _ _ (T.keep _ _ _ bn λb hb o e=>dw b o e) (loop _ rfl))
def _d9(N)(k)(R)(hi:PI X tg iter wi)
  (hg:∀cl C s0 H0 fp,PG (lcE X scope N cl C s0 H0 fp EX) tg g) (ht:∀cl C s0 H0 fp,PTs (lcE X scope N cl C s0 H0 fp EX) gr tt) (he:∀cl C s0 H0 fp,PE (lcE X scope N cl C s0 H0 fp EX) elt te)
  (gx:xw X EX) (top:KW X) (hc:X.calm=true<|>Ŕ) (hk:scope.kind=.function<|>Ŕ) (lv:V4 X.N X.Y.ó scope N k R=true<|>Ŕ) (hs:(∀x,foldedSetIterable iter X.Y x=pure x)<|>Ŗ):
  PE X (.ListComp elt [#[tg,iter,gr,0]] scope pos) (tLC wi g tt te k R):=by
 intro a8 s σ H Q I h;let sc:=_c3 hk lv;let#[cl,mj,dy,cq]:=_c2 λy hy e=>I.ok.has y.1 (sc.caps y hy e)
 show wpAny_comprehension_free rfl hs mj sc.kind sc.ê (thn (hi a8 s σ H _ I h) λv s1 h1=>thn h1 λitv s2 h2=>?_);let#[it,fp,tn,J,H2,e,I2,T,bn,f2,W,w0,turn]:=h2;subst e;show _d8 hc top sc dy cq (hg cl) (ht cl) (he cl) I2 T bn f2 w0 turn ?_ ?_
 rotate_left
 .intro D C s' eh σ' H' x T Cc fl hC t q;show _d7 gx I2 f2 hC t q
 intro D C oC m ys H' s' I' _ nC fC q;show#[m,nC,λh' sb=>#[.I D,_,I'.unpinned.turned (t':=s'.ë) (λb o hb e=>(sb.2 b hb).H e) fC.1 fC.2.1 fC.2.2.2.1 fC.2.2.2.2.1 fC.2.2.2.2.2,rfl,q]]
end
structure ExAt (K:Frag)(x:Addr)(ox:Obj)(C:Addr):Prop where
 cls:ox.cls=.I C
 no:PySem.W.notCls ox=true
 di:ox.dict=none
 xc:XCls K C
end L3
namespace Q
open PySem
inductive D where
 |non|bl (b:Bool)|int (i:Int)|str (z:Str)|tup (xs:List D)|lst (xs:List D)|dct (kvs:List (D×D))|obj (c:Str) (fs:List (Str×D))
instance:DecidableEq D:=λa b=>Classical.propDecidable (a=b)
instance:Inhabited D:=#[.j]
mutual
def D.pure:D->Bool
 |.tup xs=>D.pures xs|.lst _=>false|.dct _=>false|.obj _ _=>false|_=>true
def D.pures:List D->Bool
 |[]=>true|a::x=>D.pure a&&D.pures x
end
def D.pures_all:∀xs,D.pures xs=xs.all D.pure
 |[]=>by rfl|a::x=>by rw[D.pures,List.all_cons,D.pures_all x]
@[simp] theorem D.pures_map f (xs:List α)(h:∀x∈xs,(f x).pure=true):D.pures (xs.map f)=true:=by
 rw[D.pures_all,Zp];intro d hd;obtain⟨x,hx,rfl⟩:=aE hd;exact h x hx
mutual
def peq:D->D->Bool
 |.non,y=>(match y with|.non=>true|_=>false)
 |.bl a,y=>(match y with|.bl b=>a==b|.int b=>(if a then 1 else 0)==b|_=>false)
 |.int a,y=>(match y with|.bl b=>a==(if b then 1 else 0)|.int b=>a==b|_=>false)
 |.str a,y=>(match y with|.str b=>a==b|_=>false)
 |.lst a,y=>(match y with|.lst b=>peqs a b|_=>false)
 |.dct _,_=>false|.obj _ _,_=>false|.tup a,y=>match y with|.tup b=>peqs a b|_=>false
def peqs:List D->List D->Bool
 |[],[]=>true|a::as,b::bs=>peq a b&&peqs as bs|_,_=>false
end
mutual
def D.flat:Nat->D->Bool
 |0,.tup _=>false|0,.lst _=>false|n+1,.tup xs=>D.flats n xs|n+1,.lst xs=>D.flats n xs|_,.dct _=>false|_,.obj _ _=>false|_,_=>true
def D.flats:Nat->List D->Bool
 |_,[]=>true|n,a::x=>D.flat n a&&D.flats n x
end
mutual
def qJ:Nat->D->Bool
 |_,.non=>true|_,.int _=>true|_,.str _=>true|n+1,.tup xs=>keyDs n xs|_,_=>false
def keyDs:Nat->List D->Bool
 |_,[]=>true|n,a::x=>qJ n a&&keyDs n x
end
def unm : List (D × D) -> Bool
  |(.e _,_)::_=>false|_=>true
inductive Own where
 |no|rt|dp
 deriving DecidableEq
abbrev Sd:=Own×D
abbrev En:=List (Option Sd)
inductive Res (α:Type) where
 |ok (E:En) (a:α)
 |exc (E:En) (c:Str)
abbrev Ev(α:Type):=En->Option (Res α)
abbrev Ex:=Ev Sd
def bnd(m:Option (Res α))(f:En->α->Option (Res β)):Option (Res β):=
 match m with
 |some (.ok E a)=>f E a|some (.exc E c)=>@(.exc E c)|none=>none
@[simp] theorem zqs (E:En)(a:α)(f:En->α->Option (Res β)):bnd ⇑(.ok E a) f=f E a:=rfl
@[simp] theorem zks (E:En)(c:Str)(f:En->α->Option (Res β)):bnd ⇑(.exc E c) f=⇑(.exc E c):=rfl
@[simp] theorem xzh (f:En->α->Option (Res β)):bnd none f=none:=rfl
def val(E:En)(x:Option α):Option (Res α):=x.E (Res.ok E)
@[simp] theorem xz0 (E:En)(x:α):val E ⇑x=⇑(.ok E x):=rfl
@[simp] theorem xz1 (E:En):val E (none:Option α)=none:=rfl
def cC(d:D):Ex:=λE=>@(.ok E (.dp,d))
def cV(i:Nat):Ex:=λE=>match E[i]? with
 |some @(_,d)=>@(.ok (E.à i @(.X,d)) (.X,d))|_=>none
def cMv(i:Nat):Ex:=λE=>match E[i]? with
 |some @x=>@(.ok (E.à i none) x)|_=>none
def vV(i:Nat):Ex:=λE=>match E[i]? with
 |some @x=>@(.ok E x)|_=>none
def vE(c:Ex):Ex:=λE=>bnd (c E) λE x=>@(.ok E (.X,x.2))
abbrev C9(z:Int):Ex:=vE (cC (.C z))
def cH(v:Ex):Ex:=λE=>bnd (v E) λE x=>if x.1=.X then @(.ok E (.X,x.2))else if x.2.pure then @(.ok E (.dp,x.2))else none
def cF1(f:Sd->Option Sd)(a:Ex):Ex:=λE=>bnd (a E) λE x=>val E (f x)
def cF2(f:Sd->Sd->Option Sd)(a b:Ex):Ex:=λE=>bnd (a E) λE x=>bnd (b E) λE y=>val E (f x y)
def pu1(f:D->Option D):Sd->Option Sd:=λx=>(f x.2).E λd=>(.dp,d)
def pu2(f:D->D->Option D):Sd->Sd->Option Sd:=λx y=>(f x.2 y.2).E λd=>(.dp,d)
def _ea:D->List D
 |.S xs=>xs|.M xs=>xs|.ÿ kvs=>kvs.E (·.2)|_=>[]
def qY(x:Sd):Bool:=x.1 != .dp||D.pures (_ea x.2)
def sub:Own->Own
 |.dp=>.dp|_=>.X
def ixN(n:Nat)(i:Int):Option Nat:=if 0<=i then(if i<n then @i.L else none)else if -(n:Int)<=i then @(i+n).L else none
def ixD:D->D->Option D
 |.S xs,.C i=>(ixN xs.B i).bind λj=>xs[j]?|.M xs,.C i=>(ixN xs.B i).bind λj=>xs[j]?|.e z,.C i=>(ixN z.cps.O i).bind λj=>(z.cps.p[j]?).E λc=>.e #[%[c|0]]|.ÿ kvs,k=>(kvs.find? λe=>decide (e.1=k)).E (·.2)|_,_=>none
def big:Nat:=16777216
def i2(f:Int->Int->Option Int):D->D->Option D
 |.C a,.C b=>(f a b).E .C|_,_=>none
def c2(f:Int->Int->Bool):D->D->Option D
 |.C a,.C b=>@(.bl (f a b))|_,_=>none
def _eb(a:Int):Bool:=decide (-(2 ^ 64)<a)&&decide (a<2 ^ 64)
def kZ:Sd->Sd->Option Sd:=λx y=>match x.2,y.2 with
 |.C a,.C b=>@(.dp,.C (a+b))|.e a,.e b=>if a.cps.O+b.cps.O<=big then @(.dp,.e (a++b))else none|.S a,.S b=>if a.B+b.B<=big/\qY x/\qY y then @(.rt,.S (a++b))else none|.M a,.M b=>if a.B+b.B<=big/\qY x/\qY y then @(.X,.M (a++b))else none|_,_=>none
def _ec(a b:Int):Bool:=_eb a||_eb b||(decide (a.natAbs.log2<2000000)&&decide (b.natAbs.log2<2000000))
def _ed:Sd->Sd->Option Sd:=λx y=>match x.2,y.2 with
 |.C a,.C b=>if _ec a b then @(.dp,.C (a*b))else none|.S a,.C k=>if -(2 ^ 63)<=k/\k<2 ^ 63/\a.B*k.L<=big/\qY x then @(.rt,.S (List.r k.L a).flatten)else none|.e z,.C n=>if(z.cps.O<=1024/\n<=1024/\-1024<=n)/\(Txt.mul z n).cps.O<=big then @(.dp,.e (Txt.mul z n))else none|_,_=>none
def _ee:D->D->Option D:=i2 λa b=>@(a - b)
def Kk:D->D->Option D:=i2 λa b=>if 0<b/\b.natAbs.log2<9000 then @(a / b)else none
def x4:D->D->Option D:=i2 λa b=>if 0<b then @(a % b)else none
def fEq:D->D->Option D:=λa b=>if a.flat 40&&b.flat 40 then @(.bl (peq a b))else none
def fNe:D->D->Option D:=λa b=>if a.flat 40&&b.flat 40 then @(.bl (!peq a b))else none
def isNon:D->Bool
 |.j=>true|_=>false
def fLt:D->D->Option D:=c2 λa b=>decide (a<b)
def fLe:D->D->Option D:=c2 λa b=>decide (a<=b)
def fGt:D->D->Option D:=c2 λa b=>decide (b<a)
def fGe:D->D->Option D:=c2 λa b=>decide (b<=a)
def JY:D->Option D
 |.C a=>@(.C (-a))|_=>none
def _ef(a b:Str):Bool:=!(Builtin.Str.occurrences b a 0 b.B 1).ï
def fIn:D->D->Option D:=λx y=>match y with
 |.S ys=>if x.flat 30&&D.flats 30 ys then @(.bl (ys.è λz=>peq z x))else none|.M ys=>if x.flat 30&&D.flats 30 ys then @(.bl (ys.è λz=>peq z x))else none
 |.e b=>(match x with
  |.e a=>@(.bl (_ef a b))
  |_=>none)
 |.ÿ kvs=>@(.bl (kvs.è λe=>decide (e.1=x)))|_=>none
def YQ:D->D->Option D:=λx y=>(fIn x y).bind λd=>match d with
 |.bl k=>@(.bl (!k))|_=>none
def v3:D->Option D
 |.S xs=>@(.C xs.B)|.M xs=>@(.C xs.B)|.e z=>@(.C z.B)|_=>none
def kind:D->String
 |.j=>"NoneType"|.bl _=>"bool"|.C _=>"int"|.e _=>"str"|.M _=>"tuple"|.S _=>"list"|.ÿ _=>"dict"|.obj _ _=>""
def isaK(t u:String):Bool:=t==u||(t == "bool" && u == "int")
def zZ(u:String):D->Option D:=λd=>match d with
 |.obj _ _=>none|.ÿ _=>none|_=>@(.bl (isaK (kind d) u))
def fIsNon:D->Option D:=λd=>@(.bl (isNon d))
def fNotNon:D->Option D:=λd=>@(.bl (!isNon d))
abbrev Ts:=Ev Bool
def K0:D->Option Bool
 |.bl b=>@b|.j=>@false|.C i=>@(i != 0)|.e z=>@(z.cps.O != 0)|.S xs=>@(!xs.ï)|.M xs=>@(!xs.ï)|.ÿ xs=>@(!xs.ï)|.obj _ _=>none
def tE(c:Ex):Ts:=λE=>bnd (c E) λE x=>val E (K0 x.2)
def tAnd(a b:Ts):Ts:=λE=>bnd (a E) λE x=>if x then b E else @(.ok E false)
def tOr(a b:Ts):Ts:=λE=>bnd (a E) λE x=>if x then @(.ok E true)else b E
def tNot(a:Ts):Ts:=λE=>bnd (a E) λE x=>@(.ok E (!x))
def tYes:Ts:=λE=>@(.ok E true)
def cIf(t:Ts)(a b:Ex):Ex:=λE=>bnd (t E) λE x=>if x then a E else b E
def zW(a b:Ex):Ex:=λE=>bnd (a E) λE x=>match x.2 with
 |.bl true=>b E|.bl false=>@(.ok E (.dp,.bl false))|_=>none
def cOr(a b:Ex):Ex:=λE=>bnd (a E) λE x=>match x.2 with
 |.bl true=>@(.ok E (.dp,.bl true))|.bl false=>b E|_=>none
def zY:D->D->Option D:=λx y=>match y with
 |.ÿ _=>none|_=>fIn x y
def zw:D->D->Option D:=λx y=>match y with
 |.ÿ _=>none|_=>YQ x y
def f2First(f:D->Option D):Sd->Sd->Option Sd:=λx y=>if isNon y.2 then(f x.2).E λd=>(.dp,d)else none
def jY:D->D->Option D:=λx y=>match x with
 |.ÿ _=>none|_=>ixD x y
def jk(a b:Ex):Ex:=λE=>bnd (a E) λE x=>bnd (b E) λE y=>val E ((jY x.2 y.2).E λd=>(sub x.1,d))
def JZ:D->Option Bool:=λd=>match d with
 |.ÿ _=>none|_=>K0 d
def tEQ(c:Ex):Ts:=λE=>bnd (c E) λE x=>val E (JZ x.2)
def _eg(c:Ex):Ex:=λE=>bnd (c E) λE x=>val E ((JZ x.2).E λk=>(.dp,.bl (!k)))
def vW:List Ex->Ev (List Sd)
 |[],E=>@(.ok E [])|c::cs,E=>bnd (c E) λE x=>bnd (vW cs E) λE xs=>@(.ok E (x::xs))
def J5(x:Sd):Bool:=x.1 == .dp||x.2.pure
def qx(o:Own)(cs:List Ex):Ex:=λE=>bnd (vW cs E) λE xs=>if o=.dp then(if xs.all J5 then @(.ok E (.dp,.S (xs.E (·.2))))else none)else @(.ok E (.rt,.S (xs.E (·.2))))
def kz(o:Own)(cs:List Ex):Ex:=λE=>bnd (vW cs E) λE xs=>if o=.dp then(if xs.all J5 then @(.ok E (.dp,.M (xs.E (·.2))))else none)else @(.ok E (.X,.M (xs.E (·.2))))
inductive Fl where
 |nx (E:En)|rt (E:En) (x:Sd)|ct (E:En)|bk (E:En)|xc (E:En) (c:Str)
abbrev Sm:=En->Option Fl
def ofE(m:Option (Res α))(f:En->α->Option Fl):Option Fl:=
 match m with
 |some (.ok E a)=>f E a|some (.exc E c)=>@(.xc E c)|none=>none
@[simp] theorem zqm (E:En)(a:α)(f:En->α->Option Fl):ofE ⇑(.ok E a) f=f E a:=rfl
@[simp] theorem zk0 (E:En)(c:Str)(f:En->α->Option Fl):ofE ⇑(.exc E c) f=⇑(.xc E c):=rfl
@[simp] theorem xzc (f:En->α->Option Fl):ofE none f=none:=rfl
def j6(a b:Sm):Sm:=λE=>match a E with
 |some (.nx E)=>b E|r=>r
def k6:Sm:=λE=>@(.nx E)
def jw(i:Nat)(c:Ex):Sm:=λE=>ofE (c E) λE x=>@(.nx (E.à i @x))
def jJ(c:Ex):Sm:=λE=>ofE (c E) λE x=>@(.rt E x)
def sIf(t:Ts)(a b:Sm):Sm:=λE=>ofE (t E) λE x=>if x then a E else b E
inductive Tg where
 |n (i:Nat)|t (ts:List Nat)
def Jv:List Nat->List D->En->Option En
 |[],[],E=>@E|i::is,d::ds,E=>Jv is ds (E.à i @(.X,d))|_,_,_=>none
def Tg.put:Tg->D->En->Option En
 |.n i,d,E=>@(E.à i @(.X,d))|.t is,.M ds,E=>Jv is ds E|.t is,.S ds,E=>Jv is ds E|.t _,_,_=>none
def _eh(is:List Nat)(c:Ex):Sm:=λE=>ofE (c E) λE x=>(Tg.put (.t is) x.2 E).E .nx
def W3(tg:Tg)(b:Sm):List D->En->Option Fl
 | [],E=>@(.nx E)
 | d::ds,E=>match tg.put d E with
  |none=>none
  |some E=>match b E with
   |some (.nx E)=>W3 tg b ds E|some (.ct E)=>W3 tg b ds E|some (.bk E)=>@(.nx E)|r=>r
def qW(it:Ev (List D))(tg:Tg)(b:Sm):Sm:=λE=>ofE (it E) λE ds=>W3 tg b ds E
def whF(t:Ts)(b:Sm)(f:Sm):Sm:=λE=>match t E with
 |some (.ok E true)=>(match b E with
  |some (.nx E)=>f E|some (.ct E)=>f E|some (.bk E)=>@(.nx E)
  |r=>r)
 |some (.ok E false)=>@(.nx E)|some (.exc E c)=>@(.xc E c)|none=>none
def whN(t:Ts)(b:Sm):Nat->Sm
 |0=>λ_=>none|n+1=>whF t b (whN t b n)
open Classical in
def Jq(t:Ts)(b:Sm):Sm:=λE=>if h:∃n r,whN t b n E=@r then @h.choose_spec.choose else none
#where in
def _ei(h:Jq t b E=@r):∃n,whN t b n E=@r:=by
 unfold Jq at h
 split at h
 .revert h2;show#[_,h▸h2.choose_spec.choose_spec]
 .symm
def _ej(E):(∃E2,∀g,whF t b g E=g E2)\/∃q,∀g,whF t b g E=q:=by
 ext whF;cases t E with
 | none=>show .Z #[_,λ_=>rfl]
 | some r=>
  cases r with
  | exc=>show .Z #[_,λ_=>rfl]
  | ok E1 k=>
   cases k with
   |false=>show .Z #[_,λ_=>rfl]
   |true=>
    right;cases b E1 with|none=>show .Z #[_,λ_=>rfl]|some f=>cases f<;>first|show .R #[_,λ_=>rfl]|show .Z #[_,λ_=>rfl]
def _ek:∀{n E r},whN t b n E=@r->whN t b (n+1) E=@r
 |n+1,E,r,h=>by
  let#[E2,e]\/#[q,e]:=_ej E
  .show(e _).H (_ek ((e _).i.H h))
  .show(e _).H ((e _).i.H h)
def _el(h:whN t b n E=@r):∀k,whN t b (n+k) E=@r
 |0=>h|k+1=>_ek (_el h k)
def _em(h:whN t b n E=@r):Jq t b E=@r:=by
 let h2:∃n r,whN t b n E=@r:=#[n,r,h];ext Jq;rw[dif_pos h2];let b:=_el h h2.choose;rw[Nat.add_comm]at b;show(_el h2.choose_spec.choose_spec n).i.H b
def _en (E) : Jq t b E = whF t b (Jq t b) E:= by
  show Option.ext λr=>#[λh=> ?_,λh=> ?_]
  . let#[n,h]:= _ei h
    cases n with
    | zero=>cases h
    | succ n => let#[E2,e]\/#[q,e]:=_ej E
                . show(e _).H (_em ((e _).i.H h))
                . show(e _).H ((e _).i.H h)
  . let#[E2,e]\/#[q,e]:=_ej E
    . let#[n,h]:= _ei ((e _).i.H h)
      show _em (n:= n+1) ((e _).H h)
    . show _em (n:= 1) ((e _).H ((e _).i.H h))
def at'(L:List (Option α))(j:Nat):Option α:=(L[j]?).join
def clr:List Nat->List (Option α)->List (Option α)
 |[],L=>L|j::R,L=>clr R (L.à j none)
def back:List Nat->List (Option α)->List (Option α)->List (Option α)
 |j::R,q::B,L=>back R B (L.à j q)|_,_,L=>L
def _eo(k:Nat)(R:List Nat)(E:En):En:=List.r k none++R.E (at' E)
def J3(k:Nat)(R:List Nat)(B E:En):En:=back R (B.ñ k) (clr R E)
def lcL(tg:Tg)(t:Ts)(c:Ex):List D->En->List Sd->Option (Res (List Sd))
 |[],B,ae=>@(.ok B ae)
 |d::ds,B,ae=>match tg.put d B with
  |none=>none|some B=>bnd (t B) λB x=>if x then bnd (c B) λB y=>lcL tg t c ds B (ae++[y])else lcL tg t c ds B ae
def mkL(o:Own)(E:En)(xs:List Sd):Option (Res Sd):=
 if o=.dp then(if xs.all J5 then @(.ok E (.dp,.S (xs.E (·.2))))else none)else @(.ok E (.rt,.S (xs.E (·.2))))
def cLC(o:Own)(k:Nat)(R:List Nat)(it:Ev (List D))(tg:Tg)(t:Ts)(c:Ex):Ex:=λE=>bnd (it E) λE ds=>
 match lcL tg t c ds (_eo k R E) []with
 |some (.ok B xs)=>mkL o (J3 k R B E) xs|some (.exc B e)=>@(.exc (J3 k R B E) e)|none=>none
def _ep:Option (Option Sd)->Bool
 |some @(_,.S _)=>true|_=>false
def YK(g0:Option (Option Sd)->Bool)(g:Sd->D->D->Option D)(i:Nat)(kc vc:Ex):Sm:=λE=>ofE (vc E) λE v=>if g0 E[i]?=true then ofE (kc E) λE k=>(match E[i]? with
 |some @s=>(g s k.2 v.2).E λd=>.nx (E.à i @(.rt,d))
 |_=>none)else none
def vx(f:List D->D->Option (List D))(i:Nat)(c:Ex):Sm:=λE=>if _ep E[i]? then ofE (c E) λE x=>match E[i]? with
 |some @(o,.S xs)=>if o=.X then none else(match f xs x.2 with
  |some ys=>@(.nx (E.à i @(if o=.dp/\J5 x then .dp else .rt,.S ys)))
  |none=>none)
 |_=>none
 else none
def vK:List D->D->Option (List D):=λxs d=>if xs.B<big then @(xs++[d])else none
def Q2:D->Option D
 |.C i=>@(.C i)|.bl k=>@(.C (if k then 1 else 0))|.e z=>if z.B<=640 then(PySem.intText? z).E .C else none|_=>none
def Wv:Sd->Option Sd:=λx=>match x.2 with
 |.S xs=>if qY x then @(.rt,.S xs)else none|.M xs=>if qY x then @(.rt,.S xs)else none|_=>none
def J7:Sd->Option Sd:=λx=>match x.2 with
 |.S xs=>if qY x then @(.X,.M xs)else none|.M xs=>if qY x then @(.X,.M xs)else none|_=>none
def bls:List D->Option (List Bool)
 |[]=>⇑[]|.bl b::ds=>(bls ds).E (b :: ·)|_=>none
def _eq:D->Option D
 |.S ds=>(bls ds).E λbs=>.bl (bs.all id)|_=>none
def _er:D->Option (List D)
 |.S xs=>@xs|.M xs=>@xs|.e z=>if z.cps.O<=big then @(z.cps.p.E λc=>.e #[%[c|0]])else none|_=>none
def itS(c:Ex):Ev (List D):=λE=>bnd (c E) λE x=>val E (_er x.2)
def xV(i:Int):Bool:=decide (-(2 ^ 62)<=i)&&decide (i<2 ^ 62)
def kq(lo hi:Int):List D:=(List.range (hi - lo).L).E λ(k:Nat)=>.C (lo+(k:Int))
def xz(c:Ex):Ev (List D):=λE=>bnd (c E) λE x=>match x.2 with
 |.C j=>if xV j/\j.L<=big then @(.ok E (kq 0 j))else none|_=>none
def XJ(c:Ex):Ex:=λE=>bnd (c E) λE x=>match x.2 with
 |.C j=>if xV j/\j.L<=big then @(.ok E (.rt,.S (kq 0 j)))else none|_=>none
abbrev Fn:=List Sd->Option (Res Sd)
def fn(n:Nat)(b:Sm):Fn:=λxs=>match b (xs.E some++List.r (n - xs.B) none)with
 |some (.rt E x)=>@(.ok E x)|some (.nx E)=>@(.ok E (.dp,.j))|some (.xc E c)=>@(.exc E c)|_=>none
def letAll(xs:List Sd):List Sd:=xs.E λx=>(.X,x.2)
def jv(f:Fn)(cs:List Ex):Ex:=λE=>bnd (vW cs E) λE xs=>match f (letAll xs)with
 |some (.ok _ y)=>@(.ok E y)|some (.exc _ c)=>@(.exc E c)|none=>none
end Q
namespace Q
open PySem PySem.Spec PyProof.Rows L2 L3
mutual
def V8(w:PySem.World):D->Int
 |.int i=>hashInt i|.str z=>hashStr w z|.tup xs=>reduceHash (Builtin.Tuple.tupleHashOf (hashDs w xs))|_=>4238894112
def hashDs(w:PySem.World):List D->List Int
 |[]=>[]|a::x=>V8 w a::hashDs w x
end
def Kd:Type:={d:D // qJ 6 d=true}
instance:DecidableEq Kd:=λa b=>Classical.propDecidable (a=b)
abbrev Ent:=Kd×Addr×Value
def kY(a:Addr)(es:List Ent)(ep:Nat):HO:=.ext λw h=>∃o ds,h.get? a=@o/\o.ExactDict/\o.data=.dict ds ep/\ds.p=es.E λx=>(#[V8 w x.1.1,.I x.2.1,x.2.2]:DictEntry)
mutual
def PuR(K:Frag)(H:Hp):D->V->Prop
 |.non,v=>v=.non|.int i,v=>v=.int i|.str z,v=>v=.str z/\z.length<=sizeLine|.tup ds,v=>∃a xs,v=.ref a/\SqT K H a xs/\PuRs K H ds xs|_,_=>False
def PuRs(K:Frag)(H:Hp):List D->List V->Prop
 |[],xs=>xs=[]|d::ds,xs=>∃x r,xs=x::r/\PuR K H d x/\PuRs K H ds r
end
def DcN(K:Frag)(H:Hp)(a:Addr)(ks:List D)(vs:List V):Prop:=∃(es:List Ent) (ep:Nat),H a=@(kY a es ep)/\(a==sysModules)=false/\es.B<=sizeLine/\(es.E (·.1)).l/\ks=es.E (·.1.1)/\(∀x>es,PuR K H x.1.1 (.I x.2.1))/\Vals vs (es.E (·.2.2))
def DcI(H:Hp)(a:Addr)(ks:List D)(vs:List V):Prop:=∃(kv:List (Int×V)) (m:Str),H a=@(.dK (kv.E λp=>(Sum.R p.1,p.2)))/\ks=.e m::kv.E (λp=>D.C p.1)/\vs=.j::kv.E (·.2)
def DcA(K:Frag)(H:Hp)(a:Addr)(ks:List D)(vs:List V):Prop:=DcN K H a ks vs\/DcI H a ks vs
def DcA.un{K}(h:DcA K H a (kvs.E (·.1)) vs)(hu:unm kvs=true):DcN K H a (kvs.E (·.1)) vs:=by
 let h\/#[kv,m,_,h,_]:=h
 .show h
 .cases kvs with
  |nil=>cases h
  |cons p r=>
   let#[k,d]:=p;injection h with h1 _;subst h1;cases hu
def _es(K:Frag)(a:Addr)(xs:List V):Prop:=∃(ab:Array Value) (n:Nat),K.U a=some {cls:=.h "list",data:=.seq ab n}/\ab.O<=sizeLine/\Vals xs ab.p
def _et(K:Frag)(H:Hp)(a:Addr)(xs:List V):Prop:=(∃o,H a=@(.ú o (.S xs)))\/_es K a xs
def LsR(K:Frag)(H:Hp)(a:Addr)(xs:List V):Prop:=Rd H a (.S xs)\/_es K a xs
def LsR.of{K}(h:_et K H a xs):LsR K H a xs:=h.imp .Z id
def LsR.sq{K}(h:LsR K H a xs):SqL K H a xs:=by
 let h\/#[ab,n,h1,h2,h3]:=h
 .show .R h
 .show .Z #[_,ab,n,h1,rfl,rfl,rfl,h2,h3]
def LsR.is(I:L2.Inv X a8 σ H s)(h:LsR X.K H a xs):xs.B<=sizeLine/\∃(ab:List Value) (n:Nat),Vals xs ab/\s.G.get? a=some {cls:=.h "list",data:=.seq ab.J n}:=by
 let h\/#[ab,n,h1,h2,h3]:=h
 .let#[z,ab,n,r,e]:=h.ok I.ô;show#[z,ab,n,r,e]
 .let hl:=h3.B;simp at hl;show#[by symm,ab.p,n,h3,~~~(I.kIn a _ h1)]
def ExD(K:Frag)(H:Hp)(c:Str)(v:V):Prop:=∃x o C,v=.I x/\H x=@(.ú o (.ext λ_ _=>True))/\ExAt K x o C/\nsIn K mainGlobals c=some @(.I C)
mutual
def RepL(K:Frag)(H:Hp)(g:Bool):D->V->List Addr->Prop
 |.non,v,as=>v=.non/\as=[]|.bl b,v,as=>v=.bl b/\as=[]|.int i,v,as=>v=.int i/\as=[]|.str z,v,as=>v=.str z/\as=[]/\z.length<=sizeLine|.tup ds,v,as=>∃a xs,v=.ref a/\SqT K H a xs/\RepA K H g ds xs as|.lst ds,v,as=>∃a xs bs,v=.ref a/\RepA K H g ds xs bs/\((H a=⇑(.lst xs)/\as=a::bs)\/(g=true/\_et K H a xs/\as=bs))|.dct kvs,v,as=>∃a xs bs,v=.ref a/\RepP K H g kvs xs bs/\DcA K H a (kvs.map (·.1)) xs/\as=a::bs|.obj c _,v,as=>as=[]/\ExD K H c v
def RepA(K:Frag)(H:Hp)(g:Bool):List D->List V->List Addr->Prop
 |[],xs,as=>xs=[]/\as=[]|d::ds,xs,as=>∃x r bs cs,xs=x::r/\as=bs++cs/\RepL K H g d x bs/\RepA K H g ds r cs
def RepP(K:Frag)(H:Hp)(g:Bool):List (D×D)->List V->List Addr->Prop
 |[],xs,as=>xs=[]/\as=[]|(_,d)::ds,xs,as=>∃x r bs cs,xs=x::r/\as=bs++cs/\RepL K H g d x bs/\RepP K H g ds r cs
end
def RepR(K:Frag)(H:Hp):D->V->List Addr->Prop
 |.S ds,v,as=>∃a xs bs,v=.I a/\RepA K H true ds xs bs/\H a=@(.S xs)/\as=a::bs|.ÿ kvs,v,as=>∃a xs bs,v=.I a/\RepP K H true kvs xs bs/\DcA K H a (kvs.E (·.1)) xs/\as=a::bs|_,_,_=>False
def RepO(K:Frag)(H:Hp):Own->D->V->List Addr->Prop
 |.X=>RepL K H true|.rt=>RepR K H|.dp=>RepL K H false
section
variable {K:Frag}{H H':Hp}
def Kp(H H':Hp)(as:List Addr):Prop:=(∀a xs,H a=@(.M xs)->H' a=@(.M xs))/\(∀a o u,H a=@(.ú o u)->H' a=@(.ú o u))/\∀a>as,∀ob,H a=@ob->H' a=@ob
def Kp.left(k:Kp H H' (as++bs)):Kp H H' as:=#[k.1,k.2.1,λa ha=>k.2.2 a (_ac _ ha)]
def Kp.right(k:Kp H H' (as++bs)):Kp H H' bs:=#[k.1,k.2.1,λa ha=>k.2.2 a (_ab _ ha)]
def Kp.tail(k:Kp H H' (a::bs)):Kp H H' bs:=#[k.1,k.2.1,λb hb=>k.2.2 b (_ad _ hb)]
def Kp.tupT(k:Kp H H' as)(h:SqT K H a xs):SqT K H' a xs:=by
 let(h\/#[o,h])\/h:=h
 .show .R (.R (k.1 a xs h))
 .show .R (.Z #[o,k.2.1 a o _ h])
 .show .Z h
def Kp.frzL(k:Kp H H' as)(h:_et K H a xs):_et K H' a xs:=by
 let#[o,h]\/h:=h
 .show .R #[o,k.2.1 a o _ h]
 .show .Z h
mutual
theorem PuR.kp{as}(k:Kp H H' as):∀{d v},PuR K H d v->PuR K H' d v
 |.non,_,h=>h|.int _,_,h=>h
 |.tup ds,_,h=>by
  obtain⟨a,xs,e,s,r⟩:=h;exact#[a,xs,e,k.tupT s,PuRs.kp k r]
 |.bl _,_,h=>h.elim|.str _,_,h=>by unfold PuR at h ⊢;exact h|.lst _,_,h=>h.elim|.dct _,_,h=>h.elim|.obj _ _,_,h=>h.elim
theorem PuRs.kp{as}(k:Kp H H' as):∀{ds xs},PuRs K H ds xs->PuRs K H' ds xs
 |[],_,h=>by unfold PuRs at h ⊢;exact h
 |d::ds,_,h=>by
  obtain⟨x,r,e,h1,h2⟩:=h;exact#[x,r,e,PuR.kp k h1,PuRs.kp k h2]
end
def Kp.dcn(k:Kp H H' (a::bs))(h:DcN K H a ks vs):DcN K H' a ks vs:=by
 let#[es,ep,e,h1,h2,h3,h4,h5,h6]:=h;show#[es,ep,k.2.2 a X5 _ e,h1,h2,h3,h4,λx hx=>PuR.kp k (h5 x hx),h6]
def Kp.dca(k:Kp H H' (a::bs))(h:DcA K H a ks vs):DcA K H' a ks vs:=by
 let h\/#[kv,m,e,h]:=h
 .show .R (k.dcn h)
 .show .Z #[kv,m,k.2.2 a X5 _ e,h]
def Kp.of_same(s:kJ H H'):Kp H H' as:=#[λa xs h=>s a _ h,λa o u h=>s a _ h,λa _ ob h=>s a ob h]
mutual
theorem RepL.kp{g}:∀{d v as},RepL K H g d v as->Kp H H' as->RepL K H' g d v as
 | .non,_,_,h,_=>h| .bl _,_,_,h,_=>h| .int _,_,_,h,_=>h| .str _,_,_,h,_=>by unfold RepL at h ⊢;exact h
 | .tup ds,_,_,h,k=>by
  obtain⟨a,xs,e,s,r⟩:=h;exact#[a,xs,e,k.tupT s,RepA.kp r k]
 | .lst ds,_,_,h,k=>by
  obtain⟨a,xs,bs,e,r,q⟩:=h;refine#[a,xs,bs,e,?_,?_]
  ·rcases q with⟨_,rfl⟩|⟨_,_,rfl⟩
   ·exact RepA.kp r k.tail
   ·exact RepA.kp r k
  ·rcases q with⟨h1,rfl⟩|⟨hg,h1,rfl⟩
   ·exact .inl #[k.2.2 a X5 _ h1,rfl]
   ·exact .inr #[hg,k.frzL h1,rfl]
 |.dct kvs,_,_,h,k=>by
  obtain⟨a,xs,bs,e,r,q,rfl⟩:=h;exact#[a,xs,bs,e,RepP.kp r k.tail,k.dca q,rfl]
 |.obj _ _,_,_,h,k=>by
  obtain⟨e,x,o,C,h1,h2,h3⟩:=h;exact#[e,x,o,C,h1,k.2.1 _ _ _ h2,h3]
theorem RepA.kp{g}:∀{ds xs as},RepA K H g ds xs as->Kp H H' as->RepA K H' g ds xs as
 |[],_,_,h,_=>by unfold RepA at h ⊢;exact h
 |d::ds,_,_,h,k=>by
  obtain⟨x,r,bs,cs,e1,rfl,h1,h2⟩:=h;exact#[x,r,bs,cs,e1,rfl,RepL.kp h1 k.left,RepA.kp h2 k.right]
theorem RepP.kp{g}:∀{ds xs as},RepP K H g ds xs as->Kp H H' as->RepP K H' g ds xs as
 |[],_,_,h,_=>by unfold RepP at h ⊢;exact h
 |_::ds,_,_,h,k=>by
  obtain⟨x,r,bs,cs,e1,rfl,h1,h2⟩:=h;exact#[x,r,bs,cs,e1,rfl,RepL.kp h1 k.left,RepP.kp h2 k.right]
end
mutual
theorem RepL.wk:∀{d v as},RepL K H false d v as->RepL K H true d v as
 |.non,_,_,h=>h|.bl _,_,_,h=>h|.int _,_,_,h=>h|.str _,_,_,h=>by unfold RepL at h ⊢;exact h
 |.tup ds,_,_,h=>by
  obtain⟨a,xs,e,s,r⟩:=h;exact#[a,xs,e,s,RepA.wk r]
 |.lst ds,_,_,h=>by
  obtain⟨a,xs,bs,e,r,q⟩:=h;refine#[a,xs,bs,e,RepA.wk r,?_];rcases q with q|⟨z,_⟩
  ·exact .inl q
  ·simp_all
 |.dct kvs,_,_,h=>by
  obtain⟨a,xs,bs,e,r,q,z⟩:=h;exact#[a,xs,bs,e,RepP.wk r,q,z]
 |.obj _ _,_,_,h=>h
theorem RepA.wk:∀{ds xs as},RepA K H false ds xs as->RepA K H true ds xs as
 |[],_,_,h=>h
 |d::ds,_,_,h=>by
  obtain⟨x,r,bs,cs,e1,e2,h1,h2⟩:=h;exact#[x,r,bs,cs,e1,e2,RepL.wk h1,RepA.wk h2]
theorem RepP.wk:∀{ds xs as},RepP K H false ds xs as->RepP K H true ds xs as
 |[],_,_,h=>h
 |_::ds,_,_,h=>by
  obtain⟨x,r,bs,cs,e1,e2,h1,h2⟩:=h;exact#[x,r,bs,cs,e1,e2,RepL.wk h1,RepP.wk h2]
end
mutual
theorem RepL.al{g}:∀{d v as},RepL K H g d v as->∀a∈as,(∃xs,H a=⇑(.lst xs))\/(∃ φ,H a=⇑(.ext φ))\/∃kvs,H a=⇑(.dK kvs)
 | .non,_,_,h=>by rw[h.2];exact λ_ z=>nomatch z| .bl _,_,_,h=>by rw[h.2];exact λ_ z=>nomatch z| .int _,_,_,h=>by rw[h.2];exact λ_ z=>nomatch z| .str _,_,_,h=>by rw[h.2.1];exact nofun
 | .tup ds,_,_,h=>by
  obtain⟨a,xs,e,s,r⟩:=h;exact RepA.al r
 | .lst ds,_,_,h=>by
  obtain⟨a,xs,bs,e,r,q⟩:=h;rcases q with⟨h1,rfl⟩|⟨_,_,rfl⟩
  ·intro b hb;rcases aD hb with rfl|hb
   ·exact .inl #[_,h1]
   ·exact RepA.al r b hb
  ·exact RepA.al r
 | .dct kvs,_,_,h=>by
  obtain⟨a,xs,bs,e,r,q,rfl⟩:=h;intro b hb;rcases aD hb with rfl|hb
  ·rcases q with⟨es,ep,q,_⟩|⟨kv,m,q,_⟩
   ·exact .inr (.inl #[_,q])
   ·exact .inr (.inr #[_,q])
  ·exact RepP.al r b hb
 |.obj _ _,_,_,h=>by rw[h.1];exact nofun
theorem RepA.al{g}:∀{ds xs as},RepA K H g ds xs as->∀a∈as,(∃xs,H a=⇑(.lst xs))\/(∃ φ,H a=⇑(.ext φ))\/∃kvs,H a=⇑(.dK kvs)
 |[],_,_,h=>by rw[h.2];exact nofun
 |d::ds,_,_,h=>by
  obtain⟨x,r,bs,cs,e1,rfl,h1,h2⟩:=h;intro a ha;rcases aA ha with ha|ha
  ·exact RepL.al h1 a ha
  ·exact RepA.al h2 a ha
theorem RepP.al{g}:∀{ds xs as},RepP K H g ds xs as->∀a∈as,(∃xs,H a=⇑(.lst xs))\/(∃ φ,H a=⇑(.ext φ))\/∃kvs,H a=⇑(.dK kvs)
 |[],_,_,h=>by rw[h.2];exact nofun
 |_::ds,_,_,h=>by
  obtain⟨x,r,bs,cs,e1,rfl,h1,h2⟩:=h;intro a ha;rcases aA ha with ha|ha
  ·exact RepL.al h1 a ha
  ·exact RepP.al h2 a ha
end
mutual
theorem RepL.pu{g g'}:∀{d v as},RepL K H g d v as->d.pure=true->as=[]/\RepL K H g' d v []
 |.non,_,_,h,_=>#[h.2,h.1,rfl]|.bl _,_,_,h,_=>#[h.2,h.1,rfl]|.int _,_,_,h,_=>#[h.2,h.1,rfl]|.str _,_,_,h,_=>#[h.2.1,h.1,rfl,h.2.2]
 |.tup ds,_,_,h,p=>by
  obtain⟨a,xs,e,s,r⟩:=h;obtain⟨z,r'⟩:=RepA.pu (g':=g') r (p);exact#[z,a,xs,e,s,r']
 |.lst ds,_,_,h,p=>by cases p|.dct ds,_,_,h,p=>by cases p|.obj _ _,_,_,h,p=>by unfold D.pure at p;cases p
theorem RepA.pu{g g'}:∀{ds xs as},RepA K H g ds xs as->D.pures ds=true->as=[]/\RepA K H g' ds xs []
 |[],_,_,h,_=>#[h.2,h.1,rfl]
 |d::ds,_,_,h,p=>by
  unfold D.pures at p;rw[Bool.and_eq_true]at p;obtain⟨x,r,bs,cs,e1,rfl,h1,h2⟩:=h;obtain⟨rfl,q1⟩:=RepL.pu (g':=g') h1 p.1;obtain⟨rfl,q2⟩:=RepA.pu (g':=g') h2 p.2;exact#[rfl,x,r,[],[],e1,rfl,q1,q2]
end
def RepR.wk(h:RepR K H d v as):RepL K H true d v as:=by
 cases d<;>first|show False.ß h|skip
 all_goals
  let#[a,xs,bs,e,r,q,z]:=h
  first|show#[a,xs,bs,e,r,.R #[q,z]]|show#[a,xs,bs,e,r,q,z]
def RepR.kp(h:RepR K H d v as)(k:Kp H H' as):RepR K H' d v as:=by
 cases d<;>first|show False.ß h|skip
 all_goals
  let#[a,xs,bs,e,r,q,rfl]:=h
  first|show#[a,xs,bs,e,r.kp k.tail,k.2.2 a X5 _ q,rfl]|show#[a,xs,bs,e,r.kp k.tail,k.dca q,rfl]
def RepO.wk:∀{o d v as},RepO K H o d v as->RepL K H true d v as
 |.X,_,_,_,h=>h|.rt,_,_,_,h=>RepR.wk h|.dp,_,_,_,h=>RepL.wk h
def RepO.kp:∀{o d v as},RepO K H o d v as->Kp H H' as->RepO K H' o d v as
 |.X,_,_,_,h,k=>RepL.kp h k|.rt,_,_,_,h,k=>RepR.kp h k|.dp,_,_,_,h,k=>RepL.kp h k
end
structure Sl where
 o:Own
 d:D
 v:V
 as:List Addr
def Sl.æ(x:Sl):List Addr:=match x.o with
 |.X=>[]|.rt=>x.as.take 1|.dp=>x.as
def Sl.ú(x:Sl):List Addr:=match x.o with
 |.X=>x.as|.rt=>x.as.ñ 1|.dp=>[]
def Sl.parts(x:Sl):x.æ++x.ú=x.as:=by
 ext Sl.æ Sl.ú;cases x.o with|no=>rfl|rt=>show List.take_append_drop 1 x.as|dp=>show Xv _
def Sl.own_as{x:Sl}(h:a>x.æ):a>x.as:=by rw[<-x.parts];show _ac _ h
def Sl.frz_as{x:Sl}(h:a>x.ú):a>x.as:=by rw[<-x.parts];show _ab _ h
def Sl.as_of{x:Sl}(h:a>x.as):a>x.æ\/a>x.ú:=by rw[<-x.parts]at h;show aA h
def Sl.let(x:Sl):Sl:={x with o:=.X}
abbrev Ls:=List (Option Sl)
def jx(L:Ls):List Addr:=L.flatMap λx=>x.ß [] Sl.æ
def k9(L:Ls):List Addr:=L.flatMap λx=>x.ß [] Sl.ú
@[simp] theorem xve:jx []=[]:=rfl
@[simp] theorem xjp:k9 []=[]:=rfl
@[simp] theorem vk x (L:Ls):jx (⇑x::L)=x.own++jx L:=by rfl
@[simp] theorem Vj x (L:Ls):k9 (⇑x::L)=x.frz++k9 L:=by rfl
@[simp] theorem qz5 (L:Ls):jx (none::L)=jx L:=by rfl
@[simp] theorem qv4 (L:Ls):k9 (none::L)=k9 L:=by rfl
@[simp] theorem kw (L T):jx (L++T)=jx L++jx T:=by simp[jx]
@[simp] theorem v6 (L T):k9 (L++T)=k9 L++k9 T:=by simp[k9]
def mem_owned:a>jx L↔∃x,@x>L/\a>x.æ:=by
 ext jx;rw[List.mem_flatMap];constructor
 .rintro ⟨y,hy,h⟩;cases y with|none=>symm|some x=>show#[x,hy,h]
 .rintro ⟨x,hx,h⟩;show#[@x,hx,h]
def mem_frozen:a>k9 L↔∃x,@x>L/\a>x.ú:=by
 ext k9;rw[List.mem_flatMap];constructor
 .rintro ⟨y,hy,h⟩;cases y with|none=>symm|some x=>show#[x,hy,h]
 .rintro ⟨x,hx,h⟩;show#[@x,hx,h]
def Sl.ok(K:Frag)(H:Hp)(x:Sl):Prop:=RepO K H x.o x.d x.v x.as
def Sl.ok.al{K}{x:Sl}(h:x.ok K H):∀a>x.as,(∃xs,H a=@(.S xs))\/(∃ φ,H a=@(.ext φ))\/∃kvs,H a=@(.dK kvs):=(RepO.wk h).al
def Sl.ok.some{K}{x:Sl}(h:x.ok K H)(ha:a>x.as):H a≠none:=λz=>by
 let#[xs,e]\/#[xs,e]\/#[xs,e]:=h.al a ha<;>(rw[z]at e;cases e)
structure World (K:Frag)(H:Hp)(L:Ls):Prop where
 ok:∀x,@x>L->x.ok K H
 nd:(jx L).l
 ds:∀a>jx L,a∉k9 L
structure Step (H:Hp)(L:Ls)(H':Hp)(L':Ls):Prop where
 keep:∀a ob,H a=@ob->a∉jx L->H' a=@ob
 own:∀a>jx L',a>jx L\/H a=none
 frz:∀a>k9 L',a>k9 L\/a>jx L\/H a=none
section
variable {K:Frag}{H H1 H2 H':Hp}{L L1 L2' L' T:Ls}{x y:Sl}
def World.own_al(w:World K H L)(h:a>jx L):(∃xs,H a=@(.S xs))\/(∃ φ,H a=@(.ext φ))\/∃kvs,H a=@(.dK kvs):=by
 let#[x,hx,ha]:=mem_owned.mp h;show(w.ok x hx).al a (Sl.own_as ha)
def World.own_some(w:World K H L)(h:a>jx L):H a≠none:=by
 let#[x,hx,ha]:=mem_owned.mp h;show(w.ok x hx).some (Sl.own_as ha)
def World.frz_some(w:World K H L)(h:a>k9 L):H a≠none:=by
 let#[x,hx,ha]:=mem_frozen.mp h;show(w.ok x hx).some (Sl.frz_as ha)
def Step.î:Step H L H L:=#[λ_ _ h _=>h,λ_ h=>.R h,λ_ h=>.R h]
def Step.H(a:Step H L H1 L1)(b:Step H1 L1 H2 L2'):Step H L H2 L2' where
 keep:=λc ob h hn=>b.keep c ob (a.keep c ob h hn) λz=>(a.æ c z).ß hn λe=>by rw[h]at e;cases e
 own:=λc hc=>by
  let z\/z:=b.æ c hc
  .show a.æ c z
  .by_cases h:c>jx L
   .show .R h
   .show .Z ?_;cases e:H c with|none=>rfl|some ob=>rw[a.keep c ob e h]at z;cases z
 frz:=λc hc=>by
  let z\/z\/z:=b.ú c hc
  .show a.ú c z
  .show .Z (a.æ c z)
  .by_cases h:c>jx L
   .show .Z (.R h)
   .show .Z (.Z ?_);cases e:H c with|none=>rfl|some ob=>rw[a.keep c ob e h]at z;cases z
def Step.kp(a:Step H L H' L')(w:World K H L)(h:∀b>as,b∉jx L):Kp H H' as:=by
 let no:∀b ob,H b=@ob->(∀xs,ob≠.S xs)->(∀ φ,ob≠.ext φ)->(∀kvs,ob≠.dK kvs)->H' b=@ob:=λb ob e h1 h2 h3=>a.keep b ob e λz=>by
  let _\/_\/_:=w.own_al z
  .grind
  .grind
  .grind
 show#[λb xs e=>no b _ e (λ_ z=>(nomatch z)) (λ_ z=>(nomatch z)) (λ_ z=>(nomatch z)),λb o u e=>no b _ e (λ_ z=>(nomatch z)) (λ_ z=>(nomatch z)) (λ_ z=>(nomatch z)),λb hb ob e=>a.keep b ob e (h b hb)]
def Step.frame(a:Step H L H' L')(w:World K H (L++T))(w':World K H' L')(wL:World K H L):World K H' (L'++T):=by
 let nd:=w.nd;rw [kw,Xj]at nd;let dis:=λb hb hT=>nd.2.2 b hb b hT rfl
 let jm:=λx hx=>w.ok x (_ab _ hx)
 let nT:∀x,@x>T->∀b>x.as,b∉jx L:=λx hx b hb hL=>by
  let z\/z:=Sl.as_of hb
  .show dis b hL (mem_owned.å #[x,hx,z])
  .show w.ds b (by rw[kw];show _ac _ hL) ?_;rw[v6];show _ab _ (mem_frozen.å #[x,hx,z])
 show#[λx hx=>?_,?_,λb hb=>?_]
 .let hx\/hx:=aA hx
  .show w'.ok x hx
  .show(jm x hx).kp (a.kp wL (nT x hx))
 .rw[kw,Xj];show#[w'.nd,nd.2.1,λb hb c hc e=>?_];subst e;let#[x,hx,m8]:=mem_owned.mp hc;let z\/z:=a.æ b hb
  .show dis b z hc
  .show(jm x hx).some (Sl.own_as m8) z
 .rw[kw]at hb;rw[v6];intro hf;let hb\/hb:=aA hb
  .let hf\/hf:=aA hf
   .show w'.ds b hb hf
   .let#[x,hx,m8]:=mem_frozen.mp hf;let z\/z:=a.æ b hb
    .show nT x hx b (Sl.frz_as m8) z
    .show(jm x hx).some (Sl.frz_as m8) z
  .let hf\/hf:=aA hf
   .let#[x,hx,m8]:=mem_owned.mp hb;let z\/z\/z:=a.ú b hf
    .show w.ds b (by rw[kw];show _ab _ hb) (by rw[v6];show _ac _ z)
    .show dis b z hb
    .show(jm x hx).some (Sl.own_as m8) z
   .show w.ds b (by rw[kw];show _ab _ hb) (by rw[v6];show _ab _ hf)
def World.left(w:World K H (L++T)):World K H L:=by
 let nd:=w.nd;rw[kw,Xj]at nd;show#[λx hx=>w.ok x (_ac _ hx),nd.1,λa ha hf=>w.ds a (by rw[kw];show _ac _ ha) (by rw[v6];show _ac _ hf)]
def World.right(w:World K H (L++T)):World K H T:=by
 let nd:=w.nd;rw[kw,Xj]at nd;show#[λx hx=>w.ok x (_ab _ hx),nd.2.1,λa ha hf=>w.ds a (by rw[kw];show _ab _ ha) (by rw[v6];show _ab _ hf)]
def World.comm(w:World K H (L++T)):World K H (T++L):=by
 show#[λx hx=>w.ok x ?_,?_,λa ha hf=>w.ds a ?_ ?_]
 .grind
 .let nd:=w.nd;rw[kw,Xj]at nd ⊢;show#[nd.2.1,nd.1,λa ha b hb e=>nd.2.2 b hb a ha e.i]
 .rw[kw]at ha ⊢;let h\/h:=aA ha
  .show _ab _ h
  .show _ac _ h
 .rw[v6]at hf ⊢;let h\/h:=aA hf
  .show _ab _ h
  .show _ac _ h
def World.tail(w:World K H (q::L)):World K H L:=World.right (L:=[q]) w
def World.head(w:World K H (@x::L)):x.ok K H:=w.ok x X5
def World.apart(w:World K H (@x::L)):∀a>x.as,a∉jx L:=λa ha hL=>by
 let z\/z:=Sl.as_of ha
 .let nd:=w.nd;rw[vk,Xj]at nd;show nd.2.2 a z a hL rfl
 .show w.ds a (_ab _ hL) (_ac _ z)
def World.ä(w:World K H L)(h:x.ok K H)(n:x.æ.l)(h1:∀a>x.æ,a∉jx L)(h2:∀a>x.æ,a∉k9 L)(h3:∀a>x.ú,a∉jx L)(h4:∀a>x.æ,a∉x.ú):World K H (@x::L):=by
 show#[λy hy=>?_,?_,λa ha hf=>?_]
 .let z\/z:=aD hy
  .symm
  .show w.ok y z
 .rw[vk,Xj];show#[n,w.nd,λa ha b hb e=>by subst e;show h1 a ha hb]
 .let ha\/ha:=aA ha
  .symm
  .let hf\/hf:=aA hf
   .show h3 a hf ha
   .show w.ds a ha hf
def World.consNo(w:World K H L)(h:x.ok K H)(ho:x.o=.X)(h3:∀a>x.as,a∉jx L):World K H (@x::L):=by
 let e1:x.æ=[]:=by ext Sl.æ;rw[ho]
 let e2:x.ú=x.as:=by ext Sl.ú;rw[ho]
 show w.ä h (by symm) (e1▸nofun) (by symm) (e2▸h3) (by symm)
def World.consPu(w:World K H L)(h:x.ok K H)(e:x.as=[]):World K H (@x::L):=by
 let e1:∀a,a∉x.æ:=λa ha=>by let:=Sl.own_as ha;rw[e]at this;show nomatch this
 let e2:∀a,a∉x.ú:=λa ha=>by let:=Sl.frz_as ha;rw[e]at this;show nomatch this
 let e3:=List.eq_nil_iff_forall_not_mem.å e1;show w.ä h (by symm) (λa z=>absurd z (e1 a)) (λa z=>absurd z (e1 a)) (λa z=>absurd z (e2 a)) (λa z=>absurd z (e1 a))
def _eu(h:@y>L.à i q):q=@y\/@y>L:=by
 let z\/z:=List.mem_or_eq_of_mem_set h
 .show .Z z
 .show .R z.i
def _ev(h:a>jx (L.à i @x)):a>x.æ\/a>jx L:=by
 let#[y,hy,ha]:=mem_owned.mp h;let z\/z:=_eu hy
 .symm
 .show .Z (mem_owned.å #[y,z,ha])
def _ew(h:a>k9 (L.à i @x)):a>x.ú\/a>k9 L:=by
 let#[y,hy,ha]:=mem_frozen.mp h;let z\/z:=_eu hy
 .symm
 .show .Z (mem_frozen.å #[y,z,ha])
def _ex:∀{L i},(x.æ++jx L).l->(jx (L.à i @x)).l
 |[],_,h=>by simp
 |q::L,0,h=>by
  rw[List.set_cons_zero,vk];let e:jx (q::L)=q.ß [] Sl.æ++jx L:=by rfl
  rw[e,Xj]at h;let#[h1,h2,h3]:=h;rw[Xj]at h2 ⊢;show#[h1,h2.2.1,λa ha b hb=>h3 a ha b (_ab _ hb)]
 |q::L,i+1,h=>by
  rw[List.set_cons_succ];let e:∀M,jx (q::M)=q.ß [] Sl.æ++jx M:=λM=>by rfl
  rw[e]at h ⊢;rw[Xj]at h;let#[h1,h2,h3]:=h;rw[Xj]at h2;rw[Xj];show#[h2.1,_ex (by rw[Xj];show#[h1,h2.2.1,λa ha b hb=>h3 a ha b (_ab _ hb)]),λa ha b hb e=>?_];subst e;let z\/z:=_ev hb
  .show h3 a z a (_ac _ ha) rfl
  .show h2.2.2 a ha a z rfl
def World.à(w:World K H (@x::L)):World K H (L.à i @x):=by
 show#[λy hy=>?_,_ex (by let:=w.nd;rwa [vk]at this),λa ha hf=>?_]
 .let z\/z:=_eu hy
  .cases z;show w.head
  .show w.ok y (_ad _ z)
 .show w.ds a ?_ ?_
  .rw[vk];show List.mem_append.å (_ev ha)
  .rw[Vj];show List.mem_append.å (_ew hf)
def Step.à:Step H (@x::L) H (L.à i @x) where
 keep:=λ_ _ h _=>h
 own:=λa ha=>.R (List.mem_append.å (_ev ha))
 frz:=λa ha=>.R (List.mem_append.å (_ew ha))
def Step.ñ:Step H (q::L) H L where
 keep:=λ_ _ h _=>h
 own:=λa ha=>.R (by rw[show(q::L:Ls)=[q]++L from rfl];show _ab _ ha)
 frz:=λa ha=>.R (by rw[show(q::L:Ls)=[q]++L from rfl];show _ab _ ha)
def vQ{i:Nat}(h:L[i]?=some @x):@x>L:=Yh h
def _ey(x:Sl):x.let.æ=[]/\x.let.ú=x.as/\x.let.as=x.as:=#[rfl,rfl,rfl]
def _ez(h:a>jx (L.à i @x.let)):a>jx L:=by
 let z\/z:=_ev h
 .show nomatch z
 .show z
def _eA:∀{L i},(jx L).l->(∀a>jx L,a∉k9 L)->L[i]?=@(@x)->∀a>x.as,a∉jx (L.à i @x.let)
 | [],_,_,_,h,_,_=>by symm
 | q::L,0,nd,ds,h,a,ha=>by
  let e:q=@x:= ~~~h
  subst e;intro hm;let z\/z:=Sl.as_of ha
  .rw[vk,Xj]at nd;show nd.2.2 a z a hm rfl
  .show ds a (_ab _ hm) (_ac _ z)
 | q::L,i+1,nd,ds,h,a,ha=>by
  let e:∀M,jx (q::M)=q.ß [] Sl.æ++jx M:=λM=>by rfl
  let f:k9 (q::L)=q.ß [] Sl.ú++k9 L:=by rfl
  intro hm;rw[e,Xj]at nd;let hm\/hm:=aA hm
  .let z\/z:=Sl.as_of ha
   .show nd.2.2 a hm a (mem_owned.å #[x,vQ h,z]) rfl
   .show ds a (_ac _ hm) (by rw[f];show _ab _ (mem_frozen.å #[x,vQ h,z]))
  .show _eA nd.2.1 (λb hb hf=>ds b (_ab _ hb) (f▸_ab _ hf)) h a ha hm
def JX(h:x.ok K H):x.let.ok K H:=RepO.wk h
def World.let(w:World K H L)(h:L[i]?=some @x):World K H (L.à i @x.let):=by
 show#[λy hy=>?_,_ex ((_ey x).1▸w.nd),λa ha hf=>?_]
 .let z\/z:=_eu hy
  .cases z;show JX (w.ok x (vQ h))
  .show w.ok y z
 .let z\/z:=_ew hf
  .show(_eA w.nd w.ds h) a z ha
  .show w.ds a (_ez ha) z
def World.read(w:World K H L)(h:L[i]?=some @x):World K H (@x.let::L.à i @x.let):=
 (w.let h).consNo (JX (w.ok x (vQ h))) rfl (_eA (x:=x) w.nd w.ds h)
def Step.read(h:L[i]?=some @x):Step H L H (@x.let::L.à i @x.let) where
 keep:=λ_ _ h _=>h
 own:=λa ha=>.R (_ez ha)
 frz:=λa ha=>by
  let hx:=vQ h;let q:∀a>x.as,a>k9 L\/a>jx L\/H a=none:=λa ha=>by
   let z\/z:=Sl.as_of ha
   .show .Z (.R (mem_owned.å #[x,hx,z]))
   .show .R (mem_frozen.å #[x,hx,z])
  let z\/z:=aA ha
  .show q a z
  .let z\/z:=_ew z
   .show q a z
   .show .R z
end
inductive Mt:En->L2.St->Ls->Prop
 |nil:Mt [] [] []
 |un {E:En} {σ:L2.St} {L:Ls} {y:Option V}:Mt E σ L->Mt (none::E) (y :: σ) (none::L)
 |cons {E:En} {σ:L2.St} {L:Ls} {x:Sl}:Mt E σ L->Mt (@(x.o,x.d)::E) (@x.v :: σ) (@x::L)
def Mt.get:∀{E σ L} {i:Nat} {o d},Mt E σ L->E[i]?=@(@(o,d))->∃x,L[i]?=some @x/\x.o=o/\x.d=d/\σ[i]?=some @x.v
 |_,_,_,_,_,_,.nil,h=>by symm|_,_,_,0,_,_,.un _,h=>by symm|_,_,_,i+1,_,_,.un m,h=>by simpa using m.get (~~~h)
 |_,_,_,0,_,_,.ä (x:=x) m,h=>by
  simp at h;show#[x,by rfl,h.1,h.2,by rfl]
 |_,_,_,i+1,_,_,.ä m,h=>by simpa using m.get (~~~h)
def Mt.à:∀{E σ L} (i),Mt E σ L->Mt (E.à i @(x.o,x.d)) (σ.à i @x.v) (L.à i @x)
 |_,_,_,_,.nil=>.nil|_,_,_,0,.un m=>.ä m|_,_,_,i+1,.un m=>.un (m.à i)|_,_,_,0,.ä m=>.ä m|_,_,_,i+1,.ä m=>.ä (m.à i)
def Mt.let:∀{E σ L i},Mt E σ L->L[i]?=@(@x)->Mt (E.à i @(.X,x.d)) σ (L.à i @x.let)
 |_,_,_,_,.nil,h=>by symm|_,_,_,i+1,.un m,h=>.un (m.let (~~~h))
 |_,_,_,0,.ä (x:=y) m,h=>by
  let e:y=x:= ~~~h
  subst e;show .ä (x:=y.let) m
 |_,_,_,i+1,.ä m,h=>.ä (m.let (~~~h))
def Mt.len:∀{E σ L},Mt E σ L->E.B=σ.B/\L.B=σ.B
 |_,_,_,.nil=>#[rfl,rfl]|_,_,_,.un m=>by simp[m.len]|_,_,_,.ä m=>by simp[m.len]
def sls(L:Ls):List Sl:=L.filterMap id
def V6 L:jx L=(sls L).flatMap Sl.æ:=by
 induction L with
 |nil=>rfl
 |cons q L ih=>
  cases q with|none=>rw[qz5,ih];rfl|some x=>rw[vk,ih];rfl
def VZ L:k9 L=(sls L).flatMap Sl.ú:=by
 induction L with
 |nil=>rfl
 |cons q L ih=>
  cases q with|none=>rw[qv4,ih];rfl|some x=>rw[Vj,ih];rfl
def mem_sls:x>sls L↔@x>L:=by simp[sls]
@[simp] theorem Zv (L T):sls (L++T)=sls L++sls T:=by simp[sls]
@[simp] theorem vzh (L:Ls):sls (none::L)=sls L:=rfl
@[simp] theorem xz5 (x:Sl)(L:Ls):sls (⇑x::L)=x::sls L:=rfl
@[simp] theorem xzx:sls []=[]:=rfl
@[simp] theorem xzy T:sls (T.map some)=T:=by simp[sls]
@[simp] theorem xzw k:sls (List.replicate k none)=[]:=by
 induction k with|zero=>rfl|succ k ih=>rw[List.replicate_succ,vzh,ih]
def _eB(f:α->List β){l l':List α}(h:l.Sublist l'):(l.flatMap f).Sublist (l'.flatMap f):=by
 induction h with|slnil=>show List.Sublist.î _|cons a _ ih=>rw[List.flatMap_cons];show List.Sublist.H ih (List.sublist_append_right _ _)|cons_cons a _ ih=>rw[List.flatMap_cons];show List.Sublist.append (List.Sublist.î _) ih
section
variable {K:Frag}
def World.same(w:World K H L)(p:(sls L).á (sls L')):World K H L':=by
 let po:(jx L).á (jx L'):=by rw[V6,V6];show p.flatMap_right _
 let pf:(k9 L).á (k9 L'):=by rw[VZ,VZ];show p.flatMap_right _
 show#[λx hx=>w.ok x (mem_sls.mp (p.mem_iff.å (mem_sls.å hx))),po.nodup_iff.mp w.nd,λa ha hf=>w.ds a (po.mem_iff.å ha) (pf.mem_iff.å hf)]
def Step.same(s:Step H L H' L')(p:(sls L).á (sls M))(p':(sls L').á (sls M')):Step H M H' M':=by
 let po:(jx L).á (jx M):=by rw[V6,V6];show p.flatMap_right _
 let pf:(k9 L).á (k9 M):=by rw[VZ,VZ];show p.flatMap_right _
 let po':(jx L').á (jx M'):=by rw[V6,V6];show p'.flatMap_right _
 let pf':(k9 L').á (k9 M'):=by rw[VZ,VZ];show p'.flatMap_right _
 show#[λa ob h hn=>s.keep a ob h λz=>hn (po.mem_iff.mp z),λa ha=>(s.æ a (po'.mem_iff.å ha)).imp (λz=>po.mem_iff.mp z) id,
  λa ha=>(s.ú a (pf'.mem_iff.å ha)).imp (λz=>pf.mem_iff.mp z) λz=>z.imp (λz=>po.mem_iff.mp z) id]
def World.sub(w:World K H L)(p:(sls L').Sublist (sls L)):World K H L':=by
 show#[λx hx=>w.ok x (mem_sls.mp (p.subset (mem_sls.å hx))),?_,λa ha hf=>w.ds a ?_ ?_]
 .let:=w.nd;rw[V6]at this ⊢;show(_eB _ p).nodup this
 .rw[V6]at ha ⊢;show(_eB _ p).subset ha
 .rw[VZ]at hf ⊢;show(_eB _ p).subset hf
def Step.sub(s:Step H L H' L')(p:(sls M).Sublist (sls L')):Step H L H' M:=by
 show#[s.keep,λa ha=>s.æ a ?_,λa ha=>s.ú a ?_]
 .rw[V6]at ha ⊢;show(_eB _ p).subset ha
 .rw[VZ]at ha ⊢;show(_eB _ p).subset ha
end
def _eC:∀{L:Ls} {j},(sls (at' L j::L.à j none)).á (sls L)
 | [],j=>by simp[at']
 | q::L,0=>by
  cases q with|none=>simp[at']|some x=>simp[at']
 | q::L,j+1=>by
  let ih:=_eC (L:=L) (j:=j);let e:at' (q::L) (j+1)=at' L j:=by rfl
  rw[e];let e2:∀a b M,(sls (a::b::M)).á (sls (b::a::M)):=λa b M=>by
   cases a<;>cases b<;>simp
   show List.á.swap ..
  show(e2 _ _ _).H ?_;cases q with|none=>simpa [sls]using ih|some y=>simpa [sls]using ih
def _eD:∀{R} {L:Ls},R.l->(sls (R.E (at' L)++clr R L)).á (sls L)
 | [],L,_=>by simp[clr]
 | j::R,L,h=>by
  rw[Zm]at h;let e:R.E (at' L)=R.E (at' (L.à j none)):=by
   apply Yg;intro i hi;let:j≠i:=λe=>h.1 (e▸hi)
   ext at';rw[Z4 this]
  rw[List.V,clr,e];let ih:=_eD (L:=L.à j none) h.2;show List.á.H ?_ (_eC (j:=j));cases hq:at' L j with|none=>simpa [sls]using ih|some x=>simpa [sls]using ih
def _eE:∀{R} {L:List (Option α)},(clr R L).B=L.B
 |[],_=>rfl|j::R,L=>by rw[clr,_eE,List.length_set]
def _eF:∀{R} {L:List (Option α)} {j},j>R->at' (clr R L) j=none
 | [],_,_,h=>by grind
 | i :: R,L,j,h=>by
  rw [clr]
  by_cases hR:j>R
  .show _eF hR
  .let e:j=i:=by simpa [hR]using h
   subst e;let gen:∀{R} {M:List (Option α)},j∉R->at' (clr R M) j=at' M j:=by
    intro R
    induction R with
    |nil=>intro M _;rfl
    |cons r R ih=>
     intro M h;rw[Yp,not_or]at h;rw[clr,ih h.2];ext at';rw[Z4 (Ne.i h.1)]
   rw[gen hR];ext at'
   by_cases hl:j<L.B
   .rw[List.getElem?_set_self hl];rfl
   .rw[List.set_eq_of_length_le .q,Xz .q];rfl
def _eG:∀{R} {B L:Ls},R.l->(∀j>R,at' L j=none)->(∀j>R,j<L.B)->B.B=R.B->(sls (back R B L)).á (sls (B++L))
 | [],B,L,_,_,_,hl=>by
  let:B=[]:= ~~~hl
  subst this;simp [back]
 | j :: R,q::B,L,hn,hz,hr,hl=>by
  rw [Zm]at hn;let ih:=_eG (L:=L.à j q) hn.2 (λi hi=>by
   let:j≠i:=λe=>hn.1 (e▸hi)
   ext at';rw [Z4 this];show hz i (_ad _ hi)) (λi hi=>by rw[List.length_set];show hr i (_ad _ hi)) (~~~hl)
  show ih.H ?_;let sp:∀{M i},at' M i=none->i<M.B->(sls (M.à i q)).á (sls (q::M)):=by
   intro M
   induction M with
   | nil=>intro i _ h;simp at h
   | cons r M ihM=>
    intro i h1 h2;cases i with
    | zero=>
     let:r=none:=by simpa [at']using h1
     subst this;cases q<;>rfl
    | succ i=>
     let:=ihM (by simpa [at']using h1) (~~~h2);cases r with
     | none=>cases q<;>simpa [sls]using this
     | some y=>
      cases q with
      |none=>simpa [sls]using this
      |some x=>
       show(this.ä y).H (List.á.swap ..)
  rw[Zv];let h2:(sls B++sls _).á _:=(sp (hz j X5) (hr j X5)).append_left _;show h2.H ?_;cases q with
  |none=>simp
  |some x=>
   dsimp[Zv];show List.perm_middle
section
variable {K:Frag}
def _eH(p:L.á L'):(jx L).á (jx L'):=p.flatMap_right _
def _eI(p:L.á L'):(k9 L).á (k9 L'):=p.flatMap_right _
def World.perm(w:World K H L)(p:L.á L'):World K H L':=
 #[λx hx=>w.ok x (p.mem_iff.å hx),(_eH p).nodup_iff.mp w.nd,λa ha hf=>w.ds a ((_eH p).mem_iff.å ha) ((_eI p).mem_iff.å hf)]
def Step.perm(s : Step H L H' L')(p : L.á M)(p' : L'.á M'): Step H M H' M':=
  #[λa ob h hn=>s.keep a ob h λz=>hn ((_eH p).mem_iff.mp z),
   λa ha=>(s.æ a ((_eH p').mem_iff.å ha)).imp (λz=>(_eH p).mem_iff.mp z) id,
   λa ha=>(s.ú a ((_eI p').mem_iff.å ha)).imp (λz=>(_eI p).mem_iff.mp z) λz=>z.imp (λz=>(_eH p).mem_iff.mp z) id]
def Step.frm(s:Step H L H' L'):Step H (L++T) H' (L'++T) where
 keep:=λa ob h hn=>s.keep a ob h λz=>hn (by rw[kw];show _ac _ z)
 own:=λa ha=>by
  rw[kw]at ha ⊢;let z\/z:=aA ha
  .show(s.æ a z).imp (_ac _) id
  .show .R (_ab _ z)
 frz:=λa ha=>by
  rw[v6]at ha ⊢;rw[kw];let z\/z:=aA ha
  .show(s.ú a z).imp (_ac _) λz=>z.imp (_ac _) id
  .show .R (_ab _ z)
def _eJ(w:World K H (T++L))(s:Step H L H' L')(w':World K H' L'):World K H' (T++L')/\Step H (T++L) H' (T++L'):=by
 let w1:=w.comm;show#[(s.frame w1 w' w1.left).comm,s.frm.perm List.perm_append_comm List.perm_append_comm]
end
def ex8{P:Prop}{a b c d e:α->β->γ->Prop}(h:∃x y z,a x y z/\b x y z/\c x y z/\d x y z/\e x y z)(f:∀x y z,a x y z->b x y z->c x y z->d x y z->e x y z->P):P:=
 h.ß λx h=>h.ß λy h=>h.ß λz h=>f x y z h.1 h.2.1 h.2.2.1 h.2.2.2.1 h.2.2.2.2
def ex7{P:Prop}{a b c d:α->β->γ->Prop}(h:∃x y z,a x y z/\b x y z/\c x y z/\d x y z)(f:∀x y z,a x y z->b x y z->c x y z->d x y z->P):P:=
 h.ß λx h=>h.ß λy h=>h.ß λz h=>f x y z h.1 h.2.1 h.2.2.1 h.2.2.2
def q9(h:PE X e t)(w:∀ σ H Q,t' σ H Q->t σ H Q):PE X e t':=λa8 s σ H Q I q=>h a8 s σ H Q I (w σ H Q q)
def _eK(h:PT X e t)(w:∀ σ H Q,t' σ H Q->t σ H Q):PT X e t':=λa8 s σ H Q I q=>h a8 s σ H Q I (w σ H Q q)
def Qw(h:PS X e t)(w:∀D σ H,t' D σ H->t D σ H):PS X e t':=λa8 s σ H D I q=>h a8 s σ H D I (w D σ H q)
def _eL(h:PSs X e t)(w:∀D σ H,t' D σ H->t D σ H):PSs X e t':=λa8 s σ H D I q=>h a8 s σ H D I (w D σ H q)
structure Fx0 where
 K:Frag
 mg:Str->Option Value
 EX:XK
def Xc(Z:Fx0)(σ:L2.St)(H:Hp)(L:Ls)(r:Res α):Prop:=∀E' c,r=.exc E' c->∀C L' H',Z.mg c=@(.I C)->Mt E' σ L'->World Z.K H' L'->Step H L H' L'->Z.EX (.I C) none H'
def Xc.step{α Z σ H H1 L L1}{r:Res α}(x:Xc Z σ H L r)(s:Step H L H1 L1):Xc Z σ H1 L1 r:=λE' c e C L' H' hm m w s'=>x E' c e C L' H' hm m w (s.H s')
def Xc.E(x:Xc Z σ H L r)(e:r=.exc E' c):Xc Z σ H L (.exc E' c:Res β):=λE1 c1 e1=>by
 injection e1 with h1 h2;subst h1 h2;show x _ _ e
def tQ(Z:Fx0)(q:Bool)(c:Ex):TE:=fun σ H Q=>∃E L r,Mt E σ L/\World Z.K H L/\c E=@r/\Xc Z σ H L r /\
 ∀E' a,r=.ok E' a->∀(x:Sl) L' H',x.o=a.1->x.d=a.2->Mt E' σ L'->World Z.K H' (@x::L')->Step H L H' (@x::L')->(q=true->kJ H H'/\∀b>x.æ,H b=none)->Q x.v H'
def Src(H:Hp)(L:Ls)(as:List Addr):Prop:=∀b>as,b>k9 L\/b>jx L\/H b=none
def Src.back(h:Src H1 L1 as)(s:Step H L H1 L1):Src H L as:=λb hb=>by
 let z\/z\/z:=h b hb
 .show s.ú b z
 .show .Z (s.æ b z)
 .by_cases ho:b>jx L
  .show .Z (.R ho)
  .show .Z (.Z ?_);cases e:H b with|none=>rfl|some ob=>rw[s.keep b ob e ho]at z;cases z
def tV(Z:Fx0)(q:Bool)(c:Ex):TE:=fun σ H Q=>∃E L r,Mt E σ L/\World Z.K H L/\c E=@r/\Xc Z σ H L r /\
 ∀E' a,r=.ok E' a->∀(x:Sl) L' H',x.o=a.1->x.d=a.2->Mt E' σ L'->World Z.K H' L'->x.ok Z.K H'->(∀b>x.ú,b∉jx L')->Src H L x.as->Step H L H' L'->(q=true->kJ H H')->Q x.v H'
def QE(X:Cx)(Z:Fx0)(q:Bool)(c:Ex)(e:Expr):Prop:=PE X e (tQ Z q c)
def QV(X:Cx)(Z:Fx0)(q:Bool)(c:Ex)(e:Expr):Prop:=PE X e (tV Z q c)
section
variable {Z:Fx0}{a b c:Ex}{H:Hp}
def wK(h:bnd m F=@r):(∃E1 x,m=@(.ok E1 x)/\F E1 x=@r)\/∃E1 c,m=@(.exc E1 c)/\r=.exc E1 c:=by
 cases m with
 |none=>cases h
 |some q=>
  cases q with|ok E1 x=>show .R #[E1,x,rfl,h]|exc E1 c=>show .Z #[E1,c,rfl,(_aa h).i]
def Wk(m:Mt E σ L)(w:World Z.K H L)(h:bnd (a E) F=@r)(xc:Xc Z σ H L r)
  (k:∀E1 s,F E1 s=@r->∀x L1 H1,x.o=s.1->x.d=s.2->Mt E1 σ L1->World Z.K H1 (@x::L1)->Step H L H1 (@x::L1)->(q=true->kJ H H1/\∀b>x.æ,H b=none)->G x.v H1):tQ Z q a σ H G:=by
 let#[E1,s,h1,h2]\/#[E1,c,h1,h2]:=wK h
 .show#[E,L,_,m,w,h1,(λ_ _ z=>by cases z),λE' s' z x L' H' e1 e2 m' w' st sm=>by
   injection z with z1 z2;subst z1 z2;show k _ _ h2 x L' H' e1 e2 m' w' st sm]
 .show#[E,L,_,m,w,h1,xc.E h2,λE' s' z=>by cases z]
def qK(m:Mt E σ L)(w:World Z.K H L)(h:bnd (a E) F=@r)(xc:Xc Z σ H L r)
  (k:∀E1 s,F E1 s=@r->∀(x:Sl) L1 H1,x.o=s.1->x.d=s.2->Mt E1 σ L1->World Z.K H1 L1->x.ok Z.K H1->(∀b>x.ú,b∉jx L1)->Src H L x.as->Step H L H1 L1->(q=true->kJ H H1)->G x.v H1):tV Z q a σ H G:=by
 let#[E1,s,h1,h2]\/#[E1,c,h1,h2]:=wK h
 .show#[E,L,_,m,w,h1,(λ_ _ z=>by cases z),λE' s' z x L' H' e1 e2 m' w' ok fr sr st sm=>by
   injection z with z1 z2;subst z1 z2;show k _ _ h2 x L' H' e1 e2 m' w' ok fr sr st sm]
 .show#[E,L,_,m,w,h1,xc.E h2,λE' s' z=>by cases z]
def Q1{x:Sl}{K}(ok:x.ok K H1)(fr:∀b>x.ú,b∉jx L1)(st:Step H1 L1 H2 L2')(sm:kJ H1 H2):x.ok K H2/\∀b>x.ú,b∉jx L2':=
 #[RepO.kp ok (Kp.of_same sm),λb hb ho=>(st.æ b ho).ß (fr b hb) λz=>ok.some (Sl.frz_as hb) z]
def xK(h:val E x=@r):∃y,x=@y/\r=.ok E y:=by
 cases x with|none=>cases h|some y=>show#[y,rfl,(_aa h).i]
def QE.weak(h:QE X Z true c e):QE X Z q c e:=q9 h fun σ H Q au=>ex8 au λE L r m w hc xc k=>#[E,L,r,m,w,hc,xc,λE' s z x L' H' e1 e2 m' w' st sm=>k E' s z x L' H' e1 e2 m' w' st λ_=>sm rfl]
def _eM(st:Step H L H1 (@x::L1)):Src H L x.as:=λb hb=>by
 let z\/z:=Sl.as_of hb
 .show .Z (st.æ b (_ac _ z))
 .show st.ú b (_ac _ z)
def j7(h:QE X Z q c e):QV X Z q (vE c) e:=q9 h fun σ H Q au=>ex8 au λE L r m w hc xc k=>
 Wk m w hc xc λE1 s h1 x L1 H1 e1 e2 m1 w1 st sm=>by
  cases _aa h1;show k _ _ rfl x.let L1 H1 rfl e2 m1 w1.tail (JX w1.head) (λb hb=>w1.apart b hb) (_eM (x:=x) st) (st.H Step.ñ) λhq=>(sm hq).1
def J6(st:Step H L H1 L1)(sr:Src H L x.as)(ho:x.æ=[]):Step H L H1 (@x::L1) where
 keep:=st.keep
 own:=λb hb=>by rw[vk,ho]at hb;show st.æ b hb
 frz:=λb hb=>by
  let z\/z:=aA hb
  .show sr b (Sl.frz_as z)
  .show st.ú b z
def _eN{x:Sl}(h:x.o=.X):x.æ=[]:=by ext Sl.æ;rw[h]
def _eO{x:Sl}(h:x.o=.X):x.ú=x.as:=by ext Sl.ú;rw[h]
def _eP{x:Sl}(h:x.as=[]):x.æ=[]:=List.eq_nil_iff_forall_not_mem.å λa ha=>by let:=Sl.own_as ha;rw[h]at this;show nomatch this
def jz(h:QV X Z q c e):QE X Z q (cH c) e:=q9 h fun σ H Q au=>ex8 au λE L r m w hc xc k=>
 qK m w hc xc λE1 s h1 x L1 H1 e1 e2 m1 w1 ok fr sr st sm=>by
  by_cases ho:s.1=.X
  .rw[Xa ho]at h1;cases _aa h1;let eo:=e1.H ho;show k _ _ rfl x L1 H1 eo e2 m1 (w1.consNo ok eo λb hb=>fr b (_eO eo▸hb)) (J6 st sr (_eN eo)) λhq=>#[sm hq,by rw[_eN eo];show λ_ z=>(nomatch z)]
  .rw[Xe ho]at h1
   by_cases hp:s.2.pure=true
   .rw[Xa hp]at h1;cases _aa h1;let#[z,rp]:=RepL.pu (g':=false) (RepO.wk ok) (by symm);show k _ _ rfl #[.dp,x.d,x.v,[]] L1 H1 rfl e2 m1 (w1.consPu rp rfl) (J6 st (nofun) rfl) λhq=>#[sm hq,λ_ z=>(nomatch z)]
   .symm
def q_C(h:PE X e (tC v))(hr:∀H,RepL Z.K H false d v []):QE X Z true (cC d) e:=q9 h fun σ H Q au=>ex8 au λE L r m w hc xc k=>by
 cases _aa hc;show k _ _ rfl #[.dp,d,v,[]] L H rfl rfl m (w.consPu (hr H) rfl) (J6 Step.î (nofun) rfl) λ_=>#[λ_ _ z=>z,λ_ z=>(nomatch z)]
#where in
def q_V(h:PE X e (z4 i)):QE X Z true (cV i) e:=q9 h fun σ H Q au=>ex8 au λE L r m w hc xc k=>by
 unfold cV at hc
 split at hc
 .revert o d hE;cases _aa hc;let#[x,h1,h2,h3,h4]:=m.get hE;show#[x.v,h4,k _ _ rfl x.let _ H rfl h3 ?_ (w.read h1) (Step.read h1) λ_=>#[λ_ _ z=>z,λ_ z=>(nomatch z)]];let:=m.let h1
  rwa [h3]at this
 .cases hc
def _eQ:∀{E σ} {L} j,Mt E σ L->Mt (E.à j none) σ (L.à j none):=by
 intro E σ L j m
 induction m generalizing j with
 |nil=>show .nil
 |un m ih=>cases j with|zero=>show .un m|succ j=>show .un (ih j)
 |cons m ih=>cases j with|zero=>show .un m|succ j=>show .ä (ih j)
def _eR:∀{L:Ls} {i},L[i]?=@(@x)->(none::L).á (@x::L.à i none)
 |[],_,h=>by symm
 |q::L,0,h=>by
  let e:q=@x:= ~~~h
  subst e;show List.á.swap ..
 |q::L,i+1,h=>by
  let:=_eR (~~~h);show(List.á.swap ..).H ((this.ä q).H (List.á.swap ..))
#where in
def _eS(h:PE X e (z4 i)):QE X Z false (cMv i) e:=q9 h fun σ H Q au=>ex8 au λE L r m w hc xc k=>by
 unfold cMv at hc
 split at hc
 .revert s hE;cases _aa hc;let#[x,h1,h2,h3,h4]:=m.get hE;let wn:World Z.K H (none::L):=#[λy hy=>w.ok y (by symm),~~~w.nd,~~~w.ds];let sn:Step H L H (none::L):=#[λ_ _ z _=>z,λa z=>.R (by symm),λa z=>.R (by symm)];show#[x.v,h4,k _ _ rfl x _ H h2 h3 (_eQ i m) (wn.perm (_eR h1)) (sn.H (Step.î.perm (List.á.î _) (_eR h1))) λz=>(nomatch z)]
 .cases hc
#where in
def q_vV(h:PE X e (z4 i)):QV X Z true (vV i) e:=q9 h fun σ H Q au=>ex8 au λE L r m w hc xc k=>by
 unfold vV at hc
 split at hc
 .revert s hE;cases _aa hc;let#[x,h1,h2,h3,h4]:=m.get hE;let hx:=vQ h1;show#[x.v,h4,k _ _ rfl x L H h2 h3 m w (w.ok x hx) (λb hb ho=>w.ds b ho (mem_frozen.å #[x,hx,hb])) (λb hb=>?_) Step.î λ_=>λ_ _ z=>z];let z\/z:=Sl.as_of hb
  .show .Z (.R (mem_owned.å #[x,hx,z]))
  .show .R (mem_frozen.å #[x,hx,z])
 .cases hc
structure Out (K:Frag)(H H':Hp)(z:Sl)(fr:List Addr):Prop where
 same:kJ H H'
 ok:z.ok K H'
 new:∀b>z.æ,H b=none
 nd:z.æ.l
 fr:∀b>z.ú,b>fr
def Ad1(K:Frag)(r:V->Hp->VK->Prop)(f:Sd->Option Sd):Prop:=∀(H:Hp) (x:Sl) (s:Sd) (Q:VK),x.ok K H->f (x.o,x.d)=@s->(∀(z:Sl) H',z.o=s.1->z.d=s.2->Out K H H' z x.ú->Q z.v H')->r x.v H Q
def Ad2(K:Frag)(r:R2)(f:Sd->Sd->Option Sd):Prop:=∀(H:Hp) (x y:Sl) (s:Sd) (Q:VK),x.ok K H->y.ok K H->f (x.o,x.d) (y.o,y.d)=@s->(∀(z:Sl) H',z.o=s.1->z.d=s.2->Out K H H' z (x.ú++y.ú)->Q z.v H')->r x.v y.v H Q
def _eT{K}(s:kJ H H')(r:RepL K H' false d v []):Out K H H' #[.dp,d,v,[]] fr:=#[s,r,λ_ h=>(nomatch h),Xr,λ_ h=>(nomatch h)]
def z6:kJ H H:=λ_ _ z=>z
def kX(a:kJ H H1)(b:kJ H1 H2):kJ H H2:=λc ob h=>b c ob (a c ob h)
def Q6(w:World Z.K H1 L1)(st:Step H L H1 L1)(o:Out Z.K H1 H2 z fr)(ap:∀b>fr,b∉jx L1)(al:∀b>fr,H1 b≠none)(sr:Src H L fr):
  World Z.K H2 (@z::L1)/\Step H L H2 (@z::L1):=by
 let w2:World Z.K H2 L1:=#[λx hx=>RepO.kp (w.ok x hx) (Kp.of_same o.same),w.nd,w.ds];show#[w2.ä o.ok o.nd (λb hb ho=>w.own_some ho (o.new b hb)) (λb hb hf=>w.frz_some hf (o.new b hb)) (λb hb=>ap b (o.fr b hb)) (λb hb hf=>al b (o.fr b hf) (o.new b hb)),(#[λb ob h hn=>o.same b ob (st.keep b ob h hn),λb hb=>?_,λb hb=>?_])]
 .let z\/z:=aA hb
  .by_cases ho:b>jx L
   .show .R ho
   .show .Z ?_;cases e:H b with|none=>rfl|some ob=>let:=o.new b z;rw[st.keep b ob e ho]at this;cases this
  .show st.æ b z
 .let z\/z:=aA hb
  .show sr b (o.fr b z)
  .show st.ú b z
def ZX(h:Src H L as)(hb:∀b>bs,b>as):Src H L bs:=λb z=>h b (hb b z)
def _eU(h:Src H L as)(h':Src H L bs):Src H L (as++bs):=λb z=>(aA z).ß (h b) (h' b)
def zx{b}(s:kJ H H1)(h:H1 b=none):H b=none:=by
 cases e:H b with|none=>rfl|some ob=>rw[s b ob e]at h;cases h
def _eV(ad:Ad1 Z.K r f)(h:tQ Z q (cF1 f a) σ H Q):tUn r (tV Z q a) σ H Q:=by
 let#[E,L,R,m,w,hc,xc,k]:=h;show qK m w hc xc λE1 s h1 x L1 H1 e1 e2 m1 w1 ok fr sr st sm=>?_
 let#[z,hz,rfl]:=xK h1;show ad H1 x z Q ok (by symm) λy H' ho hd o=>?_
 let#[w3,cu]:=Q6 w1 st o fr (λb hb=>ok.some (Sl.frz_as hb)) (ZX sr λb hb=>Sl.frz_as hb);show k _ _ rfl y L1 H' ho hd m1 w3 cu λhq=>#[kX (sm hq) o.same,λb hb=>zx (sm hq) (o.new b hb)]
def _eW(ad:Ad2 Z.K r f)(h:tQ Z qa (cF2 f a b) σ H Q):tOp r (tV Z qa a) (tV Z true b) σ H Q:=by
 let#[E,L,R,m,w,hc,xc,k]:=h;show qK m w hc xc λE1 s h1 x L1 H1 e1 e2 m1 w1 ok fr sr st sm=>(qK m1 w1 h1 (xc.step st) λE2 s2 h2 y L2 H2 e3 e4 m2 w2 gj og nw bn cw=>?_)
 let#[z,hz,rfl]:=xK h2;let kx:=Q1 ok fr bn (cw rfl);show ad H2 x y z Q kx.1 gj (by symm) λy' H' ho hd o=>?_
 let#[w3,cu]:=Q6 w2 (st.H bn) o (λb hb=>(aA hb).ß (kx.2 b) (og b)) (λb hb=>(aA hb).ß (λz=>kx.1.some (Sl.frz_as z)) λz=>gj.some (Sl.frz_as z))
  (_eU (ZX sr λb hb=>Sl.frz_as hb) (ZX (nw.back st) λb hb=>Sl.frz_as hb))
 show k _ _ rfl y' L2 H' ho hd m2 w3 cu λhq=>#[kX (sm hq) (kX (cw rfl) o.same),λb hb=>zx (kX (sm hq) (cw rfl)) (o.new b hb)]
def _eX(ho:OpR X (binaryOp op) r)(ad:Ad2 Z.K r f)(ha:QV X Z qa a ea)(hb:QV X Z true b eb):QE X Z qa (cF2 f a b) (.BinOp ea op eb pos):=
 q9 (_a9 ho ha hb) fun σ H Q h=>_eW ad h
def VQ(ho:OpR X (compareOp op) r)(ad:Ad2 Z.K r f)(ha:QV X Z qa a ea)(hb:QV X Z true b eb)(hm:behindInMarks op eb=false):QE X Z qa (cF2 f a b) (.Compare ea [op] [eb] pos):=
 q9 (_bo ho ha hb hm) fun σ H Q h=>_eW ad h
def q_un(ho:UnR X (unaryOp op) r)(ad:Ad1 Z.K r f)(ha:QV X Z q a ea):QE X Z q (cF1 f a) (.UnaryOp op ea pos):=
 q9 (_ba ho ha) fun σ H Q h=>_eV ad h
def RepA.get{K}:∀{ds xs as} {i:Nat} {d},RepA K H g ds xs as->ds[i]?=@d->∃v bs,xs[i]?=@v/\RepL K H g d v bs/\∀b>bs,b>as
 | [],_,_,_,_,_,e=>by symm
 | d::ds,_,_,i,d',h,e=>by
  let#[x,r,bs,cs,rfl,rfl,h1,h2]:=h;cases i with
  |zero=>
   let e:d=d':= ~~~e
   subst e;show#[x,bs,by rfl,h1,λb hb=>_ac _ hb]
  |succ i=>
   let#[v,fq,e1,e2,e3]:=RepA.get h2 (~~~e);show#[v,fq,~~~e1,e2,λb hb=>_ab _ (e3 b hb)]
def RepA.len{K}:∀{ds xs as},RepA K H g ds xs as->ds.B=xs.B
 |[],_,_,h=>by rw[h.1];rfl
 |d::ds,_,_,h=>by
  let#[x,r,bs,cs,rfl,rfl,h1,h2]:=h;simp[RepA.len h2]
def items{K}{x:Sl}(ok:x.ok K H)(h:x.d=.S ds\/x.d=.M ds):∃a xs bs,x.v=.I a/\((x.d=.S ds/\LsR K H a xs)\/(x.d=.M ds/\SqT K H a xs))/\RepA K H (x.o != .dp) ds xs bs/\(∀b>bs,b>x.as)/\(x.o≠.dp->∀b>bs,b>x.ú):=by
 let#[o,d,v,as]:=x;let rfl\/rfl:=h
 .cases o with
  |no=>
   let ok:RepL K H true _ v as:=ok;let#[a,xs,bs,rfl,r,q]:=ok;let#[q,rfl]\/#[_,q,rfl]:=q
   .show#[a,xs,bs,rfl,.R #[rfl,.R (.R q)],r,λb hb=>_ad _ hb,λ_ b hb=>_ad _ hb]
   .show#[a,xs,as,rfl,.R #[rfl,.of q],r,λb hb=>hb,λ_ b hb=>hb]
  |rt=>
   let#[a,xs,bs,rfl,r,q,rfl]:=(ok);show#[a,xs,bs,rfl,.R #[rfl,.R (.R q)],r,λb hb=>_ad _ hb,λ_ b hb=>by simpa [Sl.ú]using hb]
  |dp=>
   let ok:RepL K H false _ v as:=ok;let#[a,xs,bs,rfl,r,q]:=ok;let#[q,rfl]\/#[z,_]:=q
   .show#[a,xs,bs,rfl,.R #[rfl,.R (.R q)],r,λb hb=>_ad _ hb,λz=>absurd rfl z]
   .symm
 .cases o with
  |no=>
   let#[a,xs,rfl,q,r]:=ok;show#[a,xs,as,rfl,.Z #[rfl,q],r,λb hb=>hb,λ_ b hb=>hb]
  |rt=>show(ok).ß
  |dp=>
   let#[a,xs,rfl,q,r]:=ok;show#[a,xs,as,rfl,.Z #[rfl,q],r,λb hb=>hb,λz=>absurd rfl z]
def J0{K}{x:Sl}(ok:x.ok K H)(h:x.d=.S ds\/x.d=.M ds)(hl:qY (x.o,x.d)=true):∃a xs bs,x.v=.I a/\((x.d=.S ds/\LsR K H a xs)\/(x.d=.M ds/\SqT K H a xs))/\RepA K H true ds xs bs/\(∀b>bs,b>x.ú):=by
 let#[a,xs,bs,e,q,r,h1,h2]:=items ok h
 by_cases ho:x.o=.dp
 .let hp:D.pures ds=true:=by
   unfold qY at hl;rw[show(x.o,x.d).1=Own.dp from ho]at hl;let:_ea x.d=ds:=by let h\/h:=h<;>rw[h]<;>rfl
   simpa [this]using hl
  let#[rfl,r']:=RepA.pu (g':=true) r hp;show#[a,xs,[],e,q,r',nofun]
 .let:(x.o != Own.dp)=true:= ~~~ho
  rw[this]at r;show#[a,xs,bs,e,q,r,h2 ho]
end
section
variable {K:Frag}{x y:Sl}
def qj(ok:x.ok K H)(h:x.d=.C i):x.v=.C i:=by
 let:=RepO.wk ok;rw[h]at this;show this.1
def Qv(ok:x.ok K H)(h:x.d=.bl i):x.v=.bl i:=by
 let:=RepO.wk ok;rw[h]at this;show this.1
def _eY(ok:x.ok K H)(h:x.d=.j):x.v=.j:=by
 let:=RepO.wk ok;rw[h]at this;show this.1
def z9(ok:x.ok K H)(h:x.d=.e z):x.v=.e z/\z.B<=sizeLine:=by
 let:=RepO.wk ok;rw[h]at this;show#[this.1,this.2.2]
def vj:RepL K H g (.C i) (.C i) []:=#[rfl,rfl]
def _eZ:RepL K H g (.bl i) (.bl i) []:=#[rfl,rfl]
def _e0:RepL K H g .j .j []:=#[rfl,rfl]
def Q9(h:z.B<=sizeLine):RepL K H g (.e z) (.e z) []:=#[rfl,rfl,h]
def QZ:Out K H H #[.dp,.C i,.C i,[]] fr:=_eT z6 vj
def wJ:Out K H H #[.dp,.bl i,.bl i,[]] fr:=_eT z6 _eZ
def _e1(h:z.B<=sizeLine):Out K H H #[.dp,.e z,.e z,[]] fr:=_eT z6 (Q9 h)
#where in
def _e2{g:Int->Int->Int}(h:∀i j k,f i j=@k->C i j/\k=g i j):Ad2 K (rI C λi j=>.C (g i j)) (pu2 (i2 f)):=by
 intro H x y s Q ox oy hf k;unfold pu2 i2 at hf;dsimp only at hf
 split at hf
 .revert i j e1 e2;cases hk:f i j with
  |none=>rw[hk]at hf;cases hf
  |some n=>
   rw[hk]at hf;cases _aa hf;let#[hc,rfl]:=h i j n hk;show#[i,j,qj ox e1,qj oy e2,hc,k _ H rfl rfl QZ]
 .cases hf
#where in
def _e3{g:Int->Int->Int}(h:∀i j,f i j=@(g i j)):Ad2 K (rI0 λi j=>.C (g i j)) (pu2 (i2 f)):=by
 intro H x y s Q ox oy hf k;unfold pu2 i2 at hf;dsimp only at hf
 split at hf
 .revert i j e1 e2;rw[h]at hf;cases _aa hf;show#[i,j,qj ox e1,qj oy e2,k _ H rfl rfl QZ]
 .cases hf
#where in
def Vz:Ad2 K (rI0 λi j=>.bl (g i j)) (pu2 (c2 g)):=by
 intro H x y s Q ox oy hf k;unfold pu2 c2 at hf;dsimp only at hf
 split at hf
 .revert i j e1 e2;cases _aa hf;show#[i,j,qj ox e1,qj oy e2,k _ H rfl rfl wJ]
 .cases hf
def _e4:Ad2 K (rI0 λi j=>.C (i - j)) (pu2 _ee):=_e3 λ_ _=>rfl
#where in
def _e5:Ad2 K (rI _dc λi j=>.C (i / j)) (pu2 Kk):=_e2 λi j k h=>by
 split at h
 .revert c;show#[c,(_aa h).i]
 .symm
#where in
def _e6:Ad2 K (rI (λ_ j=>0<j) λi j=>.C (i % j)) (pu2 x4):=_e2 λi j k h=>by
 split at h
 .revert c;show#[c,(_aa h).i]
 .symm
end
def _e7(K:Frag):R2:=λx y H Q=>∃l b xs zs,x=.I l/\y=.I b/\LsR K H l xs/\LsR K H b zs/\xs.B+zs.B<=sizeLine/\∀p,H p=none->Q (.I p) (upd H p (.S (xs++zs)))
def op_catL:OpR X (binaryOp .Add) (_e7 X.K):=by
 rintro a8 s σ H x y v u Q I rx ry ⟨l,b,xs,zs,rfl,rfl,hH,hB,hz,q⟩;cases rx;cases ry;let#[z,ab,n,r,e]:=hH.is I;let#[z2,ir,n2,r2,e2]:=hB.is I;let hl:=r.B;let u6:=r2.B;show PySem.P.add_list e e2 ?_ (by rw[Xf,Xf];symm);let ea:ab.J++ir.J=(ab++ir).J:=by simp
 rw[ea];show#[.I _,_,I.lnew (t':=s.ë) (r.append r2) (by rw[Xb];omega),rfl,q _ I.û]
def _e8(K:Frag):R2:=λx y H Q=>∃a b ys,x=.I a/\y=.I b/\SqT K H a []/\SqT K H b ys/\Q (.I b) H
def op_catE:OpR X (binaryOp .Add) (_e8 X.K):=by
 rintro a8 s σ H x y v u Q I rx ry ⟨a,b,ys,rfl,rfl,ha,hb,q⟩;cases rx;cases ry;let#[ab,r1,p1,_]:=I.tuple ha;let#[ir,r2,p2,_]:=I.tuple hb;let#[#[cls,dd,data,sl],ho,hc,n,hd]:=id p1;let#[#[cls2,dd2,data2,ma],lh,pz,n2,kt]:=id p2;subst hc hd pz kt;let e:=r1.nil_iff.å rfl;subst e;show concat_meets #[_,ho,rfl] #[_,lh,rfl] noFill_tuple_add seq_tuple_add PySem.F.slot_tuple_add PySem.F.entry_tuple_add (PySem.F.args_tuple_add_2 _ _)
   (tuple_addW0 a b [].J ir.J n n2 dd dd2 sl ma (by rfl)) #[ho,lh,#[.I b,H,I,rfl,q]]
def _e9(K:Frag):R2:=λx y H Q=>rI0 (λi j=>.C (i+j)) x y H Q\/(∃i j,x=.e i/\y=.e j/\i.B+j.B<=sizeLine/\Q (.e (i++j)) H)\/_e7 K x y H Q\/_e8 K x y H Q\/_b1 K x y H Q
def _fa{K}(hK:X.K=K):OpR X (binaryOp .Add) (_e9 K):=by subst hK;show op_add.or (_Oa.or (op_catL.or (op_catE.or _b2)))
def RepA.app{K}(h':RepA K H g ds' xs' fq):∀{ds xs as},RepA K H g ds xs as->RepA K H g (ds++ds') (xs++xs') (as++fq)
 |[],_,_,h=>by rw[h.1,h.2];show h'
 |d::ds,_,_,h=>by
  let#[x,r,bs,cs,rfl,rfl,h1,h2]:=h;rw[List.cons_append];show#[x,r++xs',bs,cs++fq,rfl,by rw[Xs],h1,RepA.app h' h2]
def wV(h:H p=none):kJ H (upd H p o):=λb u q=>by rw[qz (KJ q h)];show q
def V0{K}(hp:H p=none)(r:RepA K H true ds xs bs)(hb:∀b>bs,b>fr):Out K H (upd H p (.S xs)) #[.rt,.S ds,.I p,p::bs] fr:=by
 show#[wV hp,#[p,xs,bs,rfl,r.kp (Kp.of_same (wV hp)),wY,rfl],λb hb=>?_,?_,λb ig=>hb b (by simpa [Sl.ú]using ig)]
 .let:b=p:=by simpa [Sl.æ]using hb
  rw[this];show hp
 .simp[Sl.æ]
def _fb{K}(hp:H p=none)(r:RepA K H true ds xs bs)(hb:∀b>bs,b>fr):Out K H (upd H p (.M xs)) #[.X,.M ds,.I p,bs] fr:=by
 show#[wV hp,?_,λb hb=>(nomatch hb),Xr,λb ig=>hb b ig];change RepL K _ true _ _ bs;show#[p,xs,rfl,SqT.of wY,r.kp (Kp.of_same (wV hp))]
#where in
def _fc{K}:Ad2 K (_e9 K) kZ:=by
 intro H x y s Q ox oy hf k;unfold kZ at hf;dsimp only at hf
 split at hf
 .revert i j e1 e2;cases _aa hf;show .R #[i,j,qj ox e1,qj oy e2,k _ H rfl rfl QZ]
 .revert i j e1 e2
  split at hf
  .revert hl;cases _aa hf;let hl':(i++j).B<=sizeLine:=by rw[strLen_append];show hl
   show .Z (.R #[i,j,(z9 ox e1).1,(z9 oy e2).1,hl,k _ H rfl rfl (_e1 hl')])
  .cases hf
 .revert i j e1 e2
  split at hf
  .revert hl;cases _aa hf;let#[a,xs,bs,e3,q3,r3,h3]:=J0 ox (.R e1) hl.2.1;let#[b,ys,cs,e4,q4,r4,h4]:=J0 oy (.R e2) hl.2.2;let q3:LsR K H a xs:=by let#[_,z]\/#[z,_]:=q3;show z;rw[e1]at z;cases z
   let q4:LsR K H b ys:=by let#[_,z]\/#[z,_]:=q4;show z;rw[e2]at z;cases z
   show .Z (.Z (.R #[a,b,xs,ys,e3,e4,q3,q4,by rw[<-r3.len,<-r4.len];show hl.1,λp hp=>(k _ _ rfl rfl (V0 hp (r4.app r3) λb hb=>(aA hb).ß (λz=>_ac _ (h3 b z)) λz=>_ab _ (h4 b z)))]))
  .cases hf
 .revert i j e1 e2
  split at hf
  .revert hl;cases _aa hf;let#[a,xs,bs,e3,q3,r3,h3]:=J0 ox (.Z e1) hl.2.1;let#[b,ys,cs,e4,q4,r4,h4]:=J0 oy (.Z e2) hl.2.2;let q3:SqT K H a xs:=by let#[z,_]\/#[_,z]:=q3;rw[e1]at z;cases z;show z
   let q4:SqT K H b ys:=by let#[z,_]\/#[_,z]:=q4;rw[e2]at z;cases z;show z
   let ap:=r4.app r3;let tw:=λb hb=>(aA hb).ß (λz=>_ac _ (h3 b z)) λz=>_ab _ (h4 b z)
   let same:∀c zs,zs=xs++ys->SqT K H c zs->Q (.I c) H:=λc zs e hq=>by
    show k #[.X,.M _,.I c,bs++cs] H rfl rfl #[z6,?_,λb hb=>(nomatch hb),Xr,tw];change RepL K H true _ _ _;show#[c,zs,rfl,hq,by rw[e];show ap]
   by_cases hx:xs=[]
   .subst hx;show .Z (.Z (.Z (.R #[a,b,ys,e3,e4,q3,q4,same b ys rfl q4])))
   .show .Z (.Z (.Z (.Z #[a,b,xs,ys,e3,e4,q3,q4,hx,by rw[<-r3.len,<-r4.len];show hl.1,λhy=>?_,λhy p hp=>?_])))
    .show same a xs (by rw[hy,Xv]) q3
    .show k _ _ rfl rfl (_fb hp ap tw)
  .cases hf
 .cases hf
def tT(Z:Fx0)(q:Bool)(c:Ts):TT:=fun σ H Q=>∃E L r,Mt E σ L/\World Z.K H L/\c E=@r/\Xc Z σ H L r /\
 ∀E' k,r=.ok E' k->∀L' H',Mt E' σ L'->World Z.K H' L'->Step H L H' L'->(q=true->kJ H H')->Q k H'
def QT(X:Cx)(Z:Fx0)(q:Bool)(c:Ts)(e:Expr):Prop:=PT X e (tT Z q c)
def QW(X:Cx)(Z:Fx0)(q:Bool)(c:Ts)(e:Expr):Prop:=PW X e (tT Z q c)
section
def _fd(h:PW X e t)(w:∀ σ H Q,t' σ H Q->t σ H Q):PW X e t':=λwh a8 s σ H Q I q=>h wh a8 s σ H Q I (w σ H Q q)
def _fe(m:Mt E σ L)(w:World Z.K H L)(h:bnd (u E) F=@r)(xc:Xc Z σ H L r)
  (k:∀E1 s,F E1 s=@r->∀L1 H1,Mt E1 σ L1->World Z.K H1 L1->Step H L H1 L1->(q=true->kJ H H1)->G s H1):tT Z q u σ H G:=by
 let#[E1,s,h1,h2]\/#[E1,c,h1,h2]:=wK h
 .show#[E,L,_,m,w,h1,(λ_ _ z=>by cases z),λE' s' z L' H' m' w' st sm=>by
   injection z with z1 z2;subst z1 z2;show k _ _ h2 L' H' m' w' st sm]
 .show#[E,L,_,m,w,h1,xc.E h2,λE' s' z=>by cases z]
def _ff(ha:QT X Z q u ea):QW X Z q u (.BoolOp .And [ea] pos):=_aC ha
def KZ(ha:QT X Z q u ea):QW X Z q u (.BoolOp .Or [ea] pos):=_aD ha
def _fg(ha:QT X Z q u ea)(hb:QW X Z q v (.BoolOp .And (eb::es) pos)):QW X Z q (Q.tAnd u v) (.BoolOp .And (ea::eb::es) pos):=
 _fd (_aE ha hb) fun σ H Q au=>ex8 au λE L r m w hc xc k=>_fe m w hc xc λE1 s h1 L1 H1 m1 w1 st sm=>by
  cases s with
  |true=>
   show#[E1,L1,r,m1,w1,h1,xc.step st,λE' k' z L' H' m' w' fj jt=>k E' k' z L' H' m' w' (st.H fj) λhq=>kX (sm hq) (jt hq)]
  |false=>grind
def z8(ha:QT X Z q u ea)(hb:QW X Z q v (.BoolOp .Or (eb::es) pos)):QW X Z q (Q.tOr u v) (.BoolOp .Or (ea::eb::es) pos):=
 _fd (_aF ha hb) fun σ H Q au=>ex8 au λE L r m w hc xc k=>_fe m w hc xc λE1 s h1 L1 H1 m1 w1 st sm=>by
  cases s with
  |false=>
   show#[E1,L1,r,m1,w1,h1,xc.step st,λE' k' z L' H' m' w' fj jt=>k E' k' z L' H' m' w' (st.H fj) λhq=>kX (sm hq) (jt hq)]
  |true=>grind
def QW.pt(h:QW X Z q u e):QT X Z q u e:=PW.pt h
def v9(ha:QT X Z q u ea):QT X Z q (Q.tNot u) (.UnaryOp .Not ea pos):=
 _eK (_aG ha) fun σ H Q au=>ex8 au λE L r m w hc xc k=>_fe m w hc xc λE1 s h1 L1 H1 m1 w1 st sm=>by
  cases _aa h1;show k _ _ rfl L1 H1 m1 w1 st sm
def wQ(ho:OpR X (compareOp op) r)(ad:Ad2 Z.K r f)(ha:QV X Z qa a ea)(hb:QV X Z true b eb)(hm:behindInMarks op eb=false)(hf:∀x y s,f x y=@s->∃k,s.2=.bl k):QT X Z qa (Q.tE (cF2 f a b)) (.Compare ea [op] [eb] pos):=
 _eK (_bp ho ha hb hm) fun σ H Q au=>ex8 au λE L r m w hc xc k=>by
  show _eW ad ?_;let#[E1,s,h1,h2]\/#[E1,c,h1,h2]:=wK hc
  .show#[E,L,_,m,w,h1,(λ_ _ z=>by cases z),λE' s' z x L' H' e1 e2 m' w' st sm=>?_];injection z with z1 z2;subst z1 z2;obtain⟨kk,hk⟩:∃k,s.2=.bl k:=by
    let#[E2,s2,h3,h4]\/#[_,_,_,z]:=wK h1
    .let#[E3,s3,h5,h6]\/#[_,_,_,z]:=wK h4
     .let#[y,hy,z]:=xK h6;cases z;show hf _ _ _ hy
     .cases z
    .cases z
   rw[hk]at h2;cases _aa h2;show#[kk,Qv w'.head (e2.H hk),k _ _ rfl L' H' m' w'.tail (st.H Step.ñ) λhq=>(sm hq).1]
  .show#[E,L,_,m,w,h1,xc.E h2,λE' s' z=>by cases z]
end
def Pn(pn:List Nat)(σ σ':L2.St):Prop:=∀p>pn,σ'[p]?=σ[p]?
def Pn.î:Pn pn σ σ:=λ_ _=>rfl
def Pn.H(a:Pn pn σ σ1)(b:Pn pn σ1 σ2):Pn pn σ σ2:=λp hp=>(b p hp).H (a p hp)
def Pn.à(a:Pn pn σ σ1)(h:i∉pn):Pn pn σ (σ1.à i y):=λp hp=>by
 let:i≠p:=λe=>h (e▸hp)
 rw[Z4 this];show a p hp
def FlP(Z:Fx0)(pn:List Nat)(D:Ends)(σ:L2.St)(H:Hp)(L:Ls):Fl->Prop
 |.nx E'=>∀ σ' L' H',Pn pn σ σ'->Mt E' σ' L'->World Z.K H' L'->Step H L H' L'->D.nx σ' H'|.ct E'=>∀ σ' L' H',Pn pn σ σ'->Mt E' σ' L'->World Z.K H' L'->Step H L H' L'->D.ct σ' H'|.bk E'=>∀ σ' L' H',Pn pn σ σ'->Mt E' σ' L'->World Z.K H' L'->Step H L H' L'->D.bk σ' H'|.rt E' a=>∀(x:Sl) σ' L' H',x.o=a.1->x.d=a.2->Pn pn σ σ'->Mt E' σ' L'->World Z.K H' (@x::L')->Step H L H' (@x::L')->D.rt x.v H'|.xc E' c=>∀C σ' L' H',Z.mg c=@(.I C)->Pn pn σ σ'->Mt E' σ' L'->World Z.K H' L'->Step H L H' L'->Z.EX (.I C) none H'
def FlP.step{Z pn D σ σ1 H H1 L L1 r}(k:FlP Z pn D σ H L r)(s:Step H L H1 L1)(p:Pn pn σ σ1):FlP Z pn D σ1 H1 L1 r:=by
 cases r with|nx E'=>show fun σ' L' H' p' m w s'=>k σ' L' H' (p.H p') m w (s.H s')|ct E'=>show fun σ' L' H' p' m w s'=>k σ' L' H' (p.H p') m w (s.H s')|bk E'=>show fun σ' L' H' p' m w s'=>k σ' L' H' (p.H p') m w (s.H s')|rt E' a=>show λx σ' L' H' e1 e2 p' m w s'=>k x σ' L' H' e1 e2 (p.H p') m w (s.H s')|xc E' c=>show λC σ' L' H' hm p' m w s'=>k C σ' L' H' hm (p.H p') m w (s.H s')
def FlP.xc{D}(k:FlP Z pn D σ H L (.xc E' c)):Xc Z σ H L (.exc E' c:Res α):=λE1 c1 e C L' H' hm m w s=>by
 injection e with h1 h2;subst h1 h2;show k C σ L' H' hm Pn.î m w s
def tS(Z:Fx0)(pn:List Nat)(c:Sm):TS:=λD σ H=>∃E L r,Mt E σ L/\World Z.K H L/\c E=@r/\FlP Z pn D σ H L r
def QS(X:Cx)(Z:Fx0)(pn:List Nat)(c:Sm)(st:Stmt):Prop:=PS X st (tS Z pn c)
def QSs(X:Cx)(Z:Fx0)(pn:List Nat)(c:Sm)(st:List Stmt):Prop:=PSs X st (tS Z pn c)
section
variable {X:Cx}{Z:Fx0}{pn:List Nat}{q qa qb:Bool}{a b c:Ex}{u v:Ts}{A B:Sm}{st:Stmt}{σ:L2.St}{H:Hp}{L:Ls}{E:En}{D:Ends}
def _fh(h:ofE m F=@r):(∃E1 x,m=@(.ok E1 x)/\F E1 x=@r)\/∃E1 c,m=@(.exc E1 c)/\r=.xc E1 c:=by
 cases m with
 |none=>cases h
 |some q=>
  cases q with|ok E1 x=>show .R #[E1,x,rfl,h]|exc E1 c=>show .Z #[E1,c,rfl,(_aa h).i]
def XY(m:Mt E σ L)(w:World Z.K H L)(h:ofE (a E) F=@r)(k:FlP Z pn D σ H L r)
  (g:∀E1 s,F E1 s=@r->∀x L1 H1,x.o=s.1->x.d=s.2->Mt E1 σ L1->World Z.K H1 (@x::L1)->Step H L H1 (@x::L1)->(q=true->kJ H H1/\∀b>x.æ,H b=none)->G x.v H1):tQ Z q a σ H G:=by
 let#[E1,s,h1,h2]\/#[E1,c,h1,rfl]:=_fh h
 .show#[E,L,_,m,w,h1,(λ_ _ z=>by cases z),λE' s' z x L' H' e1 e2 m' w' st sm=>by
   injection z with z1 z2;subst z1 z2;show g _ _ h2 x L' H' e1 e2 m' w' st sm]
 .show#[E,L,_,m,w,h1,k.xc,λE' s' z=>by cases z]
def _fi(m:Mt E σ L)(w:World Z.K H L)(h:ofE (u E) F=@r)(k:FlP Z pn D σ H L r)
  (g:∀E1 s,F E1 s=@r->∀L1 H1,Mt E1 σ L1->World Z.K H1 L1->Step H L H1 L1->G s H1):tT Z q u σ H G:=by
 let#[E1,s,h1,h2]\/#[E1,c,h1,rfl]:=_fh h
 .show#[E,L,_,m,w,h1,(λ_ _ z=>by cases z),λE' s' z L' H' m' w' st sm=>by
   injection z with z1 z2;subst z1 z2;show g _ _ h2 L' H' m' w' st]
 .show#[E,L,_,m,w,h1,k.xc,λE' s' z=>by cases z]
def _fj:QSs X Z pn k6 []:=_eL _aL λD σ H au=>ex7 au λE L r m w hc k=>by
 cases _aa hc;show k σ L H Pn.î m w Step.î
def j9(h1:QS X Z pn A st)(h2:QSs X Z pn B ss):QSs X Z pn (j6 A B) (st::ss):=_eL (_aM h1 h2) λD σ H au=>ex7 au λE L r m w hc k=>by
 unfold j6 at hc;cases ha:A E with
 |none=>rw[ha]at hc;cases hc
 |some f=>
  rw[ha]at hc;cases f with|nx E1=>show#[E,L,_,m,w,ha,fun σ' L' H' p m' w' s=>#[E1,L',r,m',w',hc,k.step s p]]|ct E1=>cases _aa hc;show#[E,L,_,m,w,ha,k]|bk E1=>cases _aa hc;show#[E,L,_,m,w,ha,k]|rt E1 x=>cases _aa hc;show#[E,L,_,m,w,ha,k]|xc E1 x=>cases _aa hc;show#[E,L,_,m,w,ha,k]
def kQ(h1:QS X Z pn A st):QSs X Z pn A [st]:=_aN h1
def _fk(h:QE X Z q a ea):QS X Z pn (jJ a) (.Return @ea pos):=Qw (_aP h) λD σ H au=>ex7 au λE L r m w hc k=>
 XY m w hc k λE1 s h1 x L1 H1 e1 e2 m1 w1 st _=>by
  cases _aa h1;show k x σ L1 H1 e1 e2 Pn.î m1 w1 st
def q_if(hc:QT X Z q u e)(ha:QSs X Z pn A ss)(hb:QSs X Z pn B tt):QS X Z pn (sIf u A B) (.If e ss tt pos):=Qw (_aQ hc ha hb) λD σ H au=>ex7 au λE L r m w hc k=>
 _fi m w hc k λE1 s h1 L1 H1 m1 w1 st=>by
  cases s with|true=>rw[Xa rfl]at h1 ⊢;show#[E1,L1,r,m1,w1,h1,k.step st Pn.î]|false=>rw[Xe .q]at h1 ⊢;show#[E1,L1,r,m1,w1,h1,k.step st Pn.î]
def _fl(m:Mt E σ L)(e1:x.o=s.1)(e2:x.d=s.2):Mt (E.à i @s) (σ.à i @x.v) (L.à i @x):=by
 let:=m.à (x:=x) i;rw[e1,e2]at this;show this
def _fm(hN:X.N.l)(hi:X.N[i]?=@y)(hx:Loc X.Y.ó y)(h:QE X Z q a ea)(hp:i∉pn<|>ŕ)(hs:swapsWith ea @(.ç y bb) pos.line X.Y=pure false<|>Ŕ)(hf:X.fn y=true\/X.Y.ó.ê.U y=@.local<|>Ř):
  QS X Z pn (jw i a) (.Assign [.ç y bb] ea pos):=Qw (_aV hN hi hx h hs hf) λD σ H au=>ex7 au λE L r m w hc k=>
 XY m w hc k λE1 s h1 x L1 H1 e1 e2 m1 w1 st _=>by
  cases _aa h1;show k _ _ H1 (Pn.î.à hp) (_fl m1 e1 e2) w1.à (st.H Step.à)
def _fn(hp:i∉pn)(h:PS X (.Assign [.ç y bb] ea pos) (λD σ H=>tQ Z q a σ H λv H1=>D.nx (σ.à i @v) H1)):
  QS X Z pn (jw i a) (.Assign [.ç y bb] ea pos):=Qw h λD σ H au=>ex7 au λE L r m w hc k=>
 XY m w hc k λE1 s h1 x L1 H1 e1 e2 m1 w1 st _=>by
  cases _aa h1;show k _ _ H1 (Pn.î.à hp) (_fl m1 e1 e2) w1.à (st.H Step.à)
def _fo(hp:PassesOwn (model X.â X.w) X.A X.Y X.xe)(hc:QT X Z q u e)(hb:QSs X Z pn B ss):QS X Z pn (Jq u B) (.While e ss [] pos):=Qw (_aY hp hc hb) λD σ H au=>ex7 au λE L r m w hr k=>by
 let#[n0,hn]:=_ei hr;show#[λn σ1 H1=>∃E1 L1,Mt E1 σ1 L1/\World Z.K H1 L1/\whN u B n E1=@r/\Step H L H1 L1/\Pn pn σ σ1,#[n0,E,L,m,w,hn,Step.î,Pn.î],?_];rintro n σ1 H1 ⟨E1,L1,m1,w1,h1,kf,p1⟩;cases n with
 | zero=>cases h1
 | succ n=>
  let k1:=k.step kf p1;unfold whN whF at h1;cases ht:u E1 with
  | none=>rw[ht]at h1;cases h1
  | some f=>
   rw [ht]at h1;cases f with
   | exc E2 c=>
    cases _aa h1;show#[E1,L1,_,m1,w1,ht,k1.xc,λE' s' z=>by cases z]
   | ok E2 kk=>
    show#[E1,L1,_,m1,w1,ht,(λ_ _ z=>by cases z),λE' s' z L' H' m' w' st sm=>?_];injection z with z1 z2;subst z1 z2;cases kk with
    | false=>
     rw[Xe .q];cases _aa h1;show k1 σ1 L' H' Pn.î m' w' st
    | true=>
     rw[Xa rfl];dsimp only at h1;show#[fun σ2 H2=>∃E2 L2,Mt E2 σ2 L2/\World Z.K H2 L2/\whN u B n E2=@r/\Step H L H2 L2/\Pn pn σ σ2,fun σ2 H2 h2=>#[n,by omega,h2],?_];cases hB:B E2 with
     |none=>rw[hB]at h1;cases h1
     |some g=>
      rw[hB]at h1;let k2:=k1.step st Pn.î;show#[E2,L',g,m',w',hB,?_];cases g with|nx E3=>show fun σ3 L3 H3 p3 m3 w3 s3=>#[E3,L3,m3,w3,h1,kf.H (st.H s3),p1.H p3]|ct E3=>show fun σ3 L3 H3 p3 m3 w3 s3=>#[E3,L3,m3,w3,h1,kf.H (st.H s3),p1.H p3]|bk E3=>cases _aa h1;show k2|rt E3 x=>cases _aa h1;show k2|xc E3 c=>cases _aa h1;show k2
end
structure Walks (K:Frag)(J:It)(T:List Sl)(ds:List D):Prop where
 no:∀t>T,t.o=.X
 go:∀i H,(∀t>T,t.ok K H)->i<ds.B->J.go i H
 stop:∀H,(∀t>T,t.ok K H)->J.stop ds.B H
 yld:∀i H v H' d,(∀t>T,t.ok K H)->J.yld i H v H'->ds[i]?=@d->∃z:Sl,z.o=.X/\z.d=d/\z.v=v/\kJ H H'/\z.ok K H'/\∀b>z.as,∃t>T,b>t.as
def tI(Z:Fx0)(q:Bool)(it:Ev (List D)):TI:=fun σ H R=>∃E L r,Mt E σ L/\World Z.K H L/\it E=@r/\Xc Z σ H L r /\
 ∀E' ds,r=.ok E' ds->∀J T L' H',Mt E' σ L'->World Z.K H' (L'++T.E some)->Step H L H' (L'++T.E some)->ds.B<=sizeLine->(q=true->kJ H H')->Walks Z.K J T ds->R J H'
def QI(X:Cx)(Z:Fx0)(q:Bool)(tg:Expr)(it:Ev (List D))(e:Expr):Prop:=PI X tg e (tI Z q it)
def _fp(K:Frag)(H0:Hp)(T:List Sl)(H:Hp):Prop:=(∀t>T,t.ok K H)/\∀t>T,Kp H0 H t.as
structure WalksD (K:Frag)(H0:Hp)(J:It)(T:List Sl)(ds:List D):Prop where
 no:∀t>T,t.o=.X
 go:∀i H,_fp K H0 T H->i<ds.B->J.go i H
 stop:∀H,_fp K H0 T H->J.stop ds.B H
 yld:∀i H v H' d,_fp K H0 T H->J.yld i H v H'->ds[i]?=@d->∃z:Sl,z.o=.X/\z.d=d/\z.v=v/\kJ H H'/\z.ok K H'/\∀b>z.as,∃t>T,b>t.as
def Walks.D{K}(h:Walks K J T ds):WalksD K H0 J T ds:=#[h.X,λi H o=>h.go i H o.1,λH o=>h.stop H o.1,λi H v H' d o=>h.yld i H v H' d o.1]
def tID(Z:Fx0)(q:Bool)(it:Ev (List D)):TI:=fun σ H R=>∃E L r,Mt E σ L/\World Z.K H L/\it E=@r/\Xc Z σ H L r /\
 ∀E' ds,r=.ok E' ds->∀J T L' H',Mt E' σ L'->World Z.K H' (L'++T.E some)->Step H L H' (L'++T.E some)->ds.B<=sizeLine->(q=true->kJ H H')->WalksD Z.K H' J T ds->R J H'
def QID(X:Cx)(Z:Fx0)(q:Bool)(tg:Expr)(it:Ev (List D))(e:Expr):Prop:=PI X tg e (tID Z q it)
def QI.D(h:QI X Z q tg it e):QID X Z q tg it e:=λa8 s σ H R I hz=>h a8 s σ H R I (by
 let#[E,L,r,m,w,e,x,k]:=hz;show#[E,L,r,m,w,e,x,λE' ds z J T L' H' m' w' st hl sm wk=>k E' ds z J T L' H' m' w' st hl sm wk.D])
structure WalksS (K:Frag)(q:Bool)(H0:Hp)(J:It)(T:List Sl)(ds:List D):Prop where
 no:∀t>T,t.o=.X
 go:∀i H,(∀t>T,t.ok K H)->(q=true->kJ H0 H)->i<ds.B->J.go i H
 stop:∀H,(∀t>T,t.ok K H)->(q=true->kJ H0 H)->J.stop ds.B H
 yld:∀i H v H' d,(∀t>T,t.ok K H)->(q=true->kJ H0 H)->J.yld i H v H'->ds[i]?=@d->∃z:Sl,z.o=.X/\z.d=d/\z.v=v/\kJ H H'/\z.ok K H'/\∀b>z.as,∃t>T,b>t.as
def _fq{K}(h:Walks K J T ds):WalksS K q H0 J T ds:=#[h.X,λi H o _=>h.go i H o,λH o _=>h.stop H o,λi H v H' d o _=>h.yld i H v H' d o]
def tIS(Z:Fx0)(q:Bool)(it:Ev (List D)):TI:=fun σ H R=>∃E L r,Mt E σ L/\World Z.K H L/\it E=@r/\Xc Z σ H L r /\
 ∀E' ds,r=.ok E' ds->∀J T L' H',Mt E' σ L'->World Z.K H' (L'++T.E some)->Step H L H' (L'++T.E some)->ds.B<=sizeLine->(q=true->kJ H H')->WalksS Z.K q H J T ds->R J H'
def QIS(X:Cx)(Z:Fx0)(q:Bool)(tg:Expr)(it:Ev (List D))(e:Expr):Prop:=PI X tg e (tIS Z q it)
def _fr(h:QI X Z q tg it e):QIS X Z q tg it e:=λa8 s σ H R I hz=>h a8 s σ H R I (by
 let#[E,L,r,m,w,e,x,k]:=hz;show#[E,L,r,m,w,e,x,λE' ds z J T L' H' m' w' st hl sm wk=>k E' ds z J T L' H' m' w' st hl sm (_fq wk)])
def tG(Z:Fx0)(pn:List Nat)(tg:Tg):TG:=λv σ H Q=>∃(E:En) (L:Ls) (z:Sl) (E':En),Mt E σ L/\World Z.K H (@z::L)/\z.o=.X/\z.v=v/\tg.put z.d E=@E' /\
 ∀ σ' L',Pn pn σ σ'->Mt E' σ' L'->World Z.K H L'->Step H (@z::L) H L'->Q σ' H
def QG(X:Cx)(Z:Fx0)(pn:List Nat)(tg:Tg)(e:Expr):Prop:=PG X e (tG Z pn tg)
section
variable {Z:Fx0}
def _fs(h:PG X e t)(w:∀v σ H Q,t' v σ H Q->t v σ H Q):PG X e t':=λa8 s σ H x v Q I r q=>h a8 s σ H x v Q I r (w x σ H Q q)
def WK(h:PG X e (vwb i))(hp:i∉pn<|>ŕ):QG X Z pn (.n i) e:=_fs h λv σ H Q hz=>by
 let#[E,L,z,E',m,w,ho,hv,ca,k]:=hz;cases _aa ca;rw[<-hv];show k _ _ (Pn.î.à hp) (_fl m ho rfl) w.à Step.à
def gNs:List Nat->TGs
 |[]=>zqp|i::is=>xwq (vwb i) (gNs is)
def _ft:∀{is ds xs bs E L σ E'},Mt E σ L->World Z.K H L->RepA Z.K H true ds xs bs->(∀b>bs,b∉jx L)->(∀b>bs,b>k9 M)->Step H M H L->Pn pn σ0 σ ->
  Jv is ds E=@E'->(∀i>is,i∉pn)->(∀ σ' L',Pn pn σ0 σ'->Mt E' σ' L'->World Z.K H L'->Step H M H L'->Q σ' H)->gNs is xs σ H Q
 | [],[],xs,bs,E,L,σ,E',m,w,r,_,_,st,p,e,_,k=>by
  cases _aa e;show#[r.1,k σ L p m w st]
 | [],_::_,_,_,_,_,_,_,_,_,_,_,_,_,_,e,_,_=>by cases e| _::_,[],_,_,_,_,_,_,_,_,_,_,_,_,_,e,_,_=>by cases e
 | i::is,d::ds,xs,bs,E,L,σ,E',m,w,r,hb,hf,st,p,e,hi,k=>by
  let#[x,rr,cs,es,rfl,rfl,h1,h2]:=r;let s1:Step H M H (L.à i @#[.X,d,x,cs]):=by
   show#[λ_ _ h _=>h,λa ha=>?_,λa ha=>?_]
   .let z\/z:=_ev ha
    .show nomatch z
    .show st.æ a z
   .let z\/z:=_ew ha
    .show .R (hf a (_ac _ z))
    .show st.ú a z
  show#[x,rr,rfl,_ft (_fl (x:=#[.X,d,x,cs]) m rfl rfl) (w.consNo (x:=#[.X,d,x,cs]) h1 rfl λb ig=>hb b (_ac _ ig)).à h2 (λb ig ho=>by
   let z\/z:=_ev ho
   .show nomatch z
   .show hb b (_ab _ ig) z) (λb ig=>hf b (_ab _ ig)) s1 (p.à (hi i X5)) e (λj hj=>hi j (_ad _ hj)) k]
def _fu:∀{is ds E E'},Jv is ds E=@E'->is.B=ds.B
 |[],[],_,_,_=>rfl|i::is,d::ds,E,E',e=>by rw[Xk,Xk,_fu (E:=E.à i _) e]
def _fv(K:Frag)(n:Nat)(t:TGs):TG:=λv σ H Q=>∃a xs,v=.I a/\(SqT K H a xs\/SqL K H a xs)/\xs.B=n/\t xs σ H Q
section
def _fw{items}(be:t≠it):∀n i (s) (Q),s.G.IsListIter it t i->s.G.IsList t items->i+n<=items.O ->
  (∀h',h'.IsListIter it t (i+n)->Heap.SameBut it s.G h'->Q ((items.p.ñ i).take n) {s with heap:=h' })->wpAny (model prog w) A (draw (.I it) n) Q E' s
 | 0,i,s,Q,fm,_,_,hQ=>by
  show X6 (~~~(hQ s.G fm (Heap.SameBut.î ..)))
 | n+1,i,s,Q,fm,ht,gw,hQ=>by
  let bf:i<items.O:=by omega
  show X0 (wpAny_pyNext_list_item fm ht (x:=items[i]) (by simp) λh₁ se uq=>?_);let ht₁:h₁.IsList t items:=by
   let#[o,ho,r]:=ht;show#[o,(uq.2 t be).H ho,r]
  show X0 (Yd (_fw be n _ _ _ se ht₁ (by omega) λh₂ hit₂ hs₂=>X6 ?_));let hd:items.p.ñ i=items[i]::items.p.ñ (i+1):=by simp[List.drop_eq_getElem_cons,bf]
  let:=hQ h₂ .q (uq.H hs₂)
  symm
def _fx{t items}(hh:A.ü=none)(ht:s.G.IsList t items)
  (hQ:∀h',Heap.ExtBut ↥s s.G h'->Q items.p {s with heap:=h' }):wpAny (model prog w) A (unpackItems (.I t) items.O none) Q E' s:=by
 let bf:t≠↥s:=by let#[o,ho,_]:=ht;show Xl (Xg ho)
 show X0 (X0 (Yz ht.õ slot_list_iter.U (X6 (X0 (Yd (Z6 ht ?_))))));let ht0:∀o,(s.G.í o).IsList t items:=λo=>by
  let#[ob,ho,r]:=ht;show#[ob,X4 _ ho,r]
 show X0 (Yd (_fw bf items.O 0 _ _ #[_,X9 _ rfl,rfl,rfl] (ht0 _) (by simp) λh₁ se uq=>?_));let ml:List.take items.O (List.ñ 0 items.p)=items.p:=by
  rw[List.drop_zero];show List.take_of_length_le (by simp)
 rw[ml,Xe (by simp)];let ht₁:h₁.IsList t items:=by
  let#[o,ho,r]:=ht0 _;show#[o,(uq.2 t bf).H ho,r]
 show X0 (Yd (wpAny_pyNext_list_end hh se ht₁ (by simp) λh₂ he₂=>(X6 (hQ h₂ λb o hb e=>he₂ b o hb (uq.extBut b o hb (X4 _ e))))))
def _fy{items}(hh:A.ü=none)(ht:s.G.IsList t items)
  (hn:(assignEach elts env).B=items.O) (ya:(assignEach elts env).findIdx? (·.1)=none)
  (h:∀h',Heap.ExtBut ↥s s.G h'->wpAny (model prog w) A (assignInOrder ((assignEach elts env).E (·.2)) items.p) Q E' {s with heap:=h' }):
  wpAny (model prog w) A (assign (.Tuple elts x1 pos) env (.I t)) Q E' s:=by
 show X0 (wpAny_standAt ?_);ext unpack;rw[hn,ya];show X0 (Yd (_fx hh ht h))
end
def Kz K (h:PGs X es t)(hc:X.calm=true<|>Ŕ)(hK:X.K=K<|>Ŕ)
  (hn:(assignEach es X.Y).B=n<|>Ŕ) (b6:(assignEach es X.Y).findIdx? (·.1)=none<|>Ŕ):PG X (.Tuple es k pos) (_fv K n t):=by
 subst hK;rintro a8 s σ H v u Q I r ⟨a,xs,e1,hq,hl,hw⟩;subst e1;cases r;let hq\/hq:=hq
 .let#[ab,rv,ht,hz]:=I.tuple hq;show assign_Tuple_tuple (I.ok.hd hc) ht (by simp[hn,<-hl,rv.B]) b6 λh' hx=>?_
  let I1:L2.Inv X a8 σ H {s with heap:=h' }:=I.kept (t':=s.ë) λb o e=>hx b o (Xl (Xg e)) e
  show h a8 _ σ H xs _ Q I1 (by symm) hw
 .let#[ab,rv,ht,hz]:=I.list hq;show _fy (I.ok.hd hc) ht.isList (by simp[hn,<-hl,rv.B]) b6 λh' hx=>?_
  let I1:L2.Inv X a8 σ H {s with heap:=h' }:=I.kept (t':=s.ë) λb o e=>hx b o (Xl (Xg e)) e
  show h a8 _ σ H xs _ Q I1 (~~~rv) hw
def KQ(h:PG X e (_fv Z.K is.B (gNs is)))(hp:(∀i>is,i∉pn)<|>ŕ):QG X Z pn (.t is) e:=_fs h λv σ H Q hz=>by
 let#[E,L,z,E',m,w,ho,hv,ca,k]:=hz;let fin:∀ds,_->Jv is ds E=@E'->_fv Z.K is.B (gNs is) v σ H Q:=λds hd ca=>by
  let#[a,xs,bs,e1,q1,r,h1,h2]:=items w.head hd;rw[ho]at r;show#[a,xs,hv.i.H e1,?_,by rw[_fu ca,r.len],_ft m w.tail r (λb hb=>w.apart b (h1 b hb)) (λb hb=>?_) Step.ñ Pn.î ca hp k]
  .let#[_,z']\/#[_,z']:=q1
   .show .Z z'.sq
   .show .R z'
  .rw[Vj,_eO ho];show _ac _ (h1 b hb)
 cases hd:z.d with|tup ds=>rw[hd]at ca;show fin ds (.Z hd) ca|lst ds=>rw[hd]at ca;show fin ds (.R hd) ca|_=>rw[hd]at ca;cases ca
def _fz(h:QE X Z q c ea)(hg:QG X Z pn (.t is) tg)(hs:swapsWithSole [tg] ea pos.line X.Y=pure false<|>Ŕ)(hw:swappedStores [tg] ea X.Y=pure none<|>Ŕ)(h1:(assignEach [tg] X.Y).E (·.2)=[assign tg X.Y]<|>Ŕ):
  QS X Z pn (_eh is c) (.Assign [tg] ea pos):=Qw (_aU h hg hs hw h1) λD σ H au=>ex7 au λE L r m w hc k=>
 XY m w (hc) k λE1 s h1 x L1 H1 e1 e2 m1 w1 st _=>by
  cases hp:Tg.put _ s.2 E1 with
  |none=>rw[hp]at h1;cases h1
  |some E2=>
   rw[hp]at h1;cases _aa h1;show#[E1,L1,x.let,E2,m1,(w1.tail.consNo (JX w1.head) rfl λb hb=>w1.apart b hb),rfl,rfl,by rw[show x.let.d=s.2 from e2];show hp,fun σ' L' p m' w' s'=>k σ' L' H1 p m' w' ((J6 (x:=x.let) (st.H Step.ñ) (_eM (x:=x) st) rfl).H s')]
end
section
def _fA{K}{T:List Sl}(w:World K H1 (L1++T.E some))(hT:∀t>T,t.o=.X)(sm:kJ H1 H2)(ok:z.ok K H2)(ho:z.o=.X)(hz:∀b>z.as,∃t>T,b>t.as):
  World K H2 ((@z::L1)++T.E some)/\Step H1 (L1++T.E some) H2 ((@z::L1)++T.E some):=by
 let w2:World K H2 _:=#[λx hx=>RepO.kp (w.ok x hx) (Kp.of_same sm),w.nd,w.ds];let hf:∀b>z.as,b>k9 (L1++T.E some):=λb hb=>by
  let#[t,ht,hbt]:=hz b hb;rw[v6];show _ab _ (mem_frozen.å #[t,Y4 ht,by rw[_eO (hT t ht)];show hbt])
 show#[w2.consNo ok ho λb hb hL=>w2.ds b hL (hf b hb),λa ob h _=>sm a ob h,λa ha=>?_,λa ha=>?_]
 .rw[List.cons_append,vk,_eN ho]at ha;show .R ha
 .rw[List.cons_append,Vj,_eO ho]at ha;let q\/q:=aA ha
  .show .R (hf a q)
  .show .R q
def stay{K}(w:World K H1 (L1++T))(s:Step H1 L1 H2 L2)(w2:World K H2 L2):World K H2 (L2++T)/\Step H1 (L1++T) H2 (L2++T):=#[s.frame w w2 w.left,s.frm]
def Step.dropT:Step H1 (L1++T) H1 L1:=#[λ_ _ h _=>h,λa ha=>.R (by rw[kw];show _ac _ ha),λa ha=>.R (by rw[v6];show _ac _ ha)]
def Kp.H(a:Kp H H1 as)(b:Kp H1 H2 as):Kp H H2 as:=#[λc xs e=>b.1 c xs (a.1 c xs e),λc o u e=>b.2.1 c o u (a.2.1 c o u e),λc hc ob e=>b.2.2 c hc ob (a.2.2 c hc ob e)]
def _fB{K}{T:List Sl}(w:World K H2 (L2++T.E some))(hT:∀t>T,t.o=.X)(s:Step H2 L2 H3 L3)(h:∀t>T,Kp H0 H2 t.as):∀t>T,Kp H0 H3 t.as:=λt ht=>
 (h t ht).H (s.kp w.left λb hb z=>w.ds b (by rw[kw];show _ac _ z) (by
  rw[v6];show _ab _ (mem_frozen.å #[t,Y4 ht,by rw[_eO (hT t ht)];show hb])))
structure FoC (Z:Fx0)(t:Tg)(B:Sm)(pn:List Nat)(H:Hp)(L:Ls)(T:List Sl)(H0:Hp)(σ:L2.St)(r:Fl)(ds:List Q.D)(E1:En)(L1:Ls)(j:Nat)(σ1:L2.St)(H1:Hp):Prop where
 m:Mt E1 σ1 L1
 w:World Z.K H1 (L1++T.E some)
 s:Step H L H1 (L1++T.E some)
 p:Pn pn σ σ1
 f:W3 t B (ds.ñ j) E1=@r
 k:∀t>T,Kp H0 H1 t.as
inductive FoI (Z:Fx0)(t:Tg)(B:Sm)(pn:List Nat)(H:Hp)(L:Ls)(T:List Sl)(H0:Hp)(σ:L2.St)(r:Fl)(ds:List Q.D):Nat->Nat->L2.St->Hp->Prop
 |mk {i σ1 H1} (E1:En) (L1:Ls) (h:FoC Z t B pn H L T H0 σ r ds E1 L1 i σ1 H1) (hi:i<=ds.B):FoI Z t B pn H L T H0 σ r ds i (ds.B - i) σ1 H1
inductive FoP (Z:Fx0)(t:Tg)(B:Sm)(pn:List Nat)(H:Hp)(L:Ls)(T:List Sl)(H0:Hp)(σ:L2.St)(r:Fl)(ds:List Q.D)(j:Nat)(σ1:L2.St)(H1:Hp):Prop
 |mk (E1:En) (L1:Ls) (h:FoC Z t B pn H L T H0 σ r ds E1 L1 j σ1 H1)
def _fC(hp:PassesOwn (model X.â X.w) X.A X.Y X.xe)(hc:X.calm=true)(hi:QID X Z q tg it iter)(hg:QG X Z pn t tg)(hb:QSs X Z pn B ss)(hs:(∀x,foldedSetIterable iter X.Y x=pure x)<|>Ŗ):QS X Z pn (qW it t B) (.For tg iter ss [] pos):=Qw (_a7 hp hc hi hg hb hs) λD σ H au=>ex7 au λE L r m w hr k=>by
 let#[E1,ds,h1,h2]\/#[E1,c,h1,rfl]:=_fh hr
 rotate_left
 .show#[E,L,_,m,w,h1,k.xc,λE' s' z=>by cases z]
 show#[E,L,_,m,w,h1,(λ_ _ z=>by cases z),λE' ds' z J T L' H' m' w' st hz _ wk=>?_];injection z with z1 z2;subst z1 z2;let jm:∀{H2 L2},World Z.K H2 (L2++T.E some)->∀t>T,t.ok Z.K H2:=λw2 t ht=>w2.ok t (_ab _ (Y4 ht))
 show#[FoI Z t B pn H L T H' σ r ds,#[_,.mk E1 L' #[m',w',st,Pn.î,h2,λ_ _=>Kp.of_same z6] (Ya _)],?_];rintro i n σ1 H1 ⟨E1,L1,⟨m1,w1,kf,p1,f1,a8⟩,hi⟩
 by_cases bf:i<ds.B
 .let hd:ds.ñ i=ds[i]::ds.ñ _:=List.drop_eq_getElem_cons bf;rw [hd]at f1;unfold W3 at f1;cases ca:t.put ds[i] E1 with
  | none=>rw[ca]at f1;cases f1
  | some E2=>
   rw[ca]at f1;dsimp only at f1;show .Z #[wk.go i H1 #[jm w1,a8] bf,FoP Z t B pn H L T H' σ r ds (i+1),fun σ2 H2 ⟨E2,L2,a⟩=>#[ds.B - (i+1),by omega,.mk E2 L2 a bf],λv H2 hy=>?_];let#[z,zo,zd,zv,sm,uw,zas]:=wk.yld i H1 v H2 ds[i] #[jm w1,a8] hy (X1 bf);let#[wz,sz]:=_fA w1 wk.X sm uw zo zas;show#[E1,L1,z,E2,m1,wz.left,zo,zv,by rw[zd];show ca,fun σ2 L2 p2 m2 w2 bn=>?_];let#[w3,cu]:=stay wz bn w2;let gu:=kf.H (sz.H cu);let pi:=λt ht=>(a8 t ht).H (Kp.of_same sm)
   cases hB:B E2 with
   | none=>rw[hB]at f1;cases f1
   | some g=>
    rw[hB]at f1;show#[E2,L2,g,m2,w2,hB,?_];cases g with
    |nx E3=>
     intro σ3 L3 H3 p3 m3 w4 s3;let#[w5,s5]:=stay w3 s3 w4;show#[E3,L3,m3,w5,gu.H s5,(p1.H p2).H p3,f1,_fB w3 wk.X s3 pi]
    |ct E3=>
     intro σ3 L3 H3 p3 m3 w4 s3;let#[w5,s5]:=stay w3 s3 w4;show#[E3,L3,m3,w5,gu.H s5,(p1.H p2).H p3,f1,_fB w3 wk.X s3 pi]
    |bk E3=>
     let e:=_aa f1;subst e;intro σ3 L3 H3 p3 m3 w4 s3;show k σ3 L3 H3 ((p1.H p2).H p3) m3 w4 ((gu.H Step.dropT).H s3)
    |rt E3 x=>
     let e:=_aa f1;subst e;intro y σ3 L3 H3 e1 e2 p3 m3 w4 s3;show k y σ3 L3 H3 e1 e2 ((p1.H p2).H p3) m3 w4 ((gu.H Step.dropT).H s3)
    |xc E3 c=>
     let e:=_aa f1;subst e;intro C σ3 L3 H3 hm p3 m3 w4 s3;show k C σ3 L3 H3 hm ((p1.H p2).H p3) m3 w4 ((gu.H Step.dropT).H s3)
 .let e:i=ds.B:=.q
  subst e;rw[List.drop_length]at f1;cases _aa f1;show .R #[wk.stop H1 #[jm w1,a8],k σ1 L1 H1 p1 m1 w1.left (kf.H Step.dropT)]
def _fD(hp:PassesOwn (model X.â X.w) X.A X.Y X.xe)(hc:X.calm=true)(hi:QI X Z q tg it iter)(hg:QG X Z pn t tg)(hb:QSs X Z pn B ss)(hs:(∀x,foldedSetIterable iter X.Y x=pure x)<|>Ŗ):QS X Z pn (qW it t B) (.For tg iter ss [] pos):=_fC hp hc hi.D hg hb hs
end
mutual
def qk(h:Heap):D->Value->Prop
 |.non,u=>u=.none|.bl b,u=>u=.bool b|.int i,u=>∃t,u=.int i t|.str z,u=>∃t,u=.str z t|.tup ds,u=>∃a us,u=.ref a/\h.IsTuple a us.toArray/\CReps h ds us|.lst ds,u=>∃a us,u=.ref a/\h.IsList a us.toArray/\CReps h ds us|.dct _,_=>False|.obj _ _,_=>False
def CReps(h:Heap):List D->List Value->Prop
 |[],us=>us=[]|d::ds,us=>∃u r,us=u::r/\qk h d u/\CReps h ds r
end
def _fE:D.flat n (.ÿ k)=false:=by cases n<;>rfl
def _fF:D.flat n (.obj c k)=false:=by cases n<;>rfl
section
variable {X:Cx}{a8:LA9}{σ:L2.St}{H:Hp}{s:Shared}
mutual
theorem W5(I:Inv X a8 σ H s){g}:∀{n d v as u},RepL X.K H g d v as->d.flat n=true->RelV v u->qk s.heap d u
 | _,.non,_,_,_,h,_,r=>by
  unfold RepL at h;rw[h.1]at r;exact r
 | _,.bl _,_,_,_,h,_,r=>by
  unfold RepL at h;rw[h.1]at r;exact r
 | _,.int _,_,_,_,h,_,r=>by
  unfold RepL at h;rw[h.1]at r;exact r
 | _,.str _,_,_,_,h,_,r=>by
  unfold RepL at h;rw[h.1]at r;unfold qk;exact r
 | 0,.tup ds,_,_,_,h,f,r=>by cases f
 | n+1,.tup ds,_,_,_,h,f,r=>by
  obtain⟨a,xs,rfl,q,ra⟩:=h;cases r;obtain⟨ab,rv,p,_⟩:=I.tuple q;exact#[a,ab,rfl,p,creps_of I ra f rv]
 | 0,.lst ds,_,_,_,h,f,r=>by cases f
 | n+1,.lst ds,_,_,_,h,f,r=>by
  obtain⟨a,xs,bs,rfl,ra,q⟩:=h;cases r;have q':SqL X.K H a xs:=by
   rcases q with⟨q,_⟩|⟨_,q,_⟩
   ·exact SqL.of q
   ·exact(LsR.of q).sq
  obtain⟨ab,rv,p,_⟩:=I.list q';exact#[a,ab,rfl,p.isList,creps_of I ra f rv]
 |_,.dct _,_,_,_,h,f,r=>by rw[_fE]at f;cases f|_,.obj _ _,_,_,_,h,f,r=>by rw[_fF]at f;cases f
theorem creps_of(I:Inv X a8 σ H s){g}:∀{n ds xs as us},RepA X.K H g ds xs as->D.flats n ds=true->Vals xs us->CReps s.heap ds us
 | _,[],_,_,_,h,_,r=>by
  rw[h.1]at r;cases r;unfold CReps;rfl
 | n,d::ds,_,_,_,h,f,r=>by
  have f:(D.flat _ _&&D.flats _ _)=true:=f;rw[Bool.and_eq_true]at f;obtain⟨x,rr,bs,cs,rfl,rfl,h1,h2⟩:=h;cases r with
  |cons r1 r2=>
   exact#[_,_,rfl,W5 I h1 f.1 r1,creps_of I h2 f.2 r2]
end
end
def CReps.len:∀{ds us},CReps h ds us->ds.B=us.B
 |[],_,r=>by rw[r];rfl
 |d::ds,_,r=>by
  let#[u,rr,rfl,_,h2]:=r;simp[CReps.len h2]
def CReps.get:∀{ds us} {j:Nat} {d},CReps h ds us->ds[j]?=@d->∃u,us[j]?=@u/\qk h d u
 | [],_,_,_,_,e=>by symm
 | d::ds,_,j,d',r,e=>by
  let#[u,rr,rfl,h1,h2]:=r;cases j with
  |zero=>symm
  |succ j=>
   obtain _:=CReps.get h2 (~~~e)
   symm
def _fG{h:Heap}(p:h.IsTuple a x)(q:h.IsTuple a y):x=y:=by
 let#[o,h1,_,n,h2]:=p;let#[o',h3,_,n',h4]:=q
 symm
def _fH{h:Heap}(p:h.IsList a x)(q:h.IsList a y):x=y:=by
 let#[o,h1,_,n,h2]:=p;let#[o',h3,_,n',h4]:=q
 symm
def _fI{h:Heap}(p:h.IsList a x)(q:h.IsTuple a y):False:=by
 let#[o,h1,h2,_]:=p;let#[o',h3,h4,_]:=q
 grind
inductive Cv (h:Heap):D->Value->Prop
 |non:Cv h .j .ã
 |bl (b:Bool):Cv h (.bl b) (.bool b)
 |int (i:Int) (t:_):Cv h (.C i) (.C i t)
 |str (z:Str) (t:_):Cv h (.e z) (.e z t)
 |lst {ds:List D} {a:Addr} {us:List Value} (p:h.IsList a us.J) (q:CReps h ds us):Cv h (.S ds) (.I a)
 |tup {ds:List D} {a:Addr} {us:List Value} (p:h.IsTuple a us.J) (q:CReps h ds us):Cv h (.M ds) (.I a)
def crv(r:qk h d u):Cv h d u:=by
 cases d<;>unfold qk at r
 all_goals first|show r.ß|(subst r;constructor)|(let#[_,rfl]:=r;constructor)|(let#[_,_,rfl,p,q]:=r;first|show .S p q|show .M p q)
#where in
mutual
theorem _fJ{h d d' u}(a:qk h d u)(b:qk h d' u):d=d':=by
 cases d<;>cases crv a<;>cases crv b<;>try rfl
 ·exact(_fI ‹_› ‹_›).elim
 ·rename_i p r _ _ r' p';cases Array.mk.inj (_fG p p');rw[_Ci r r']
 ·rename_i p r _ _ r' p';cases Array.mk.inj (_fH p p');rw[_Ci r r']
 ·exact(_fI ‹_› ‹_›).elim
theorem _Ci{h}:∀{ds ds' us},CReps h ds us->CReps h ds' us->ds=ds'
 | [],ds',us,a,b=>by
  unfold CReps at a;subst a;cases ds' with|nil=>rfl|cons d ds=>unfold CReps at b;obtain⟨_,_,e,_⟩:=b;cases e
 | d::ds,ds',us,a,b=>by
  unfold CReps at a;obtain⟨u,r,rfl,h1,h2⟩:=a;cases ds' with
  |nil=>unfold CReps at b;cases b
  |cons d' ds'=>
   obtain⟨u',r',e,h3,h4⟩:=b;cases e;rw[_fJ h1 h3,_Ci h2 h4]
end
mutual
theorem _fK:∀{n d},d.flat n=true->peq d d=true
 |_,.non,_=>by rfl|_,.bl b,_=>by show(b==b)=true;simp|_,.int b,_=>by show(b==b)=true;simp|_,.str b,_=>by show(b==b)=true;simp|n+1,.tup ds,f=>peqs_refl f|n+1,.lst ds,f=>peqs_refl f|_,.dct _,f=>by rw[_fE]at f;cases f|_,.obj _ _,f=>by rw[_fF]at f;cases f
theorem peqs_refl:∀{n d},D.flats n d=true->peqs d d=true
 |_,[],_=>by rfl
 |n,d::ds,f=>by
  have f:(D.flat _ _&&D.flats _ _)=true:=f;rw[Bool.and_eq_true]at f;show(peq d d&&peqs ds ds)=true;rw[_fK f.1,peqs_refl f.2];rfl
end
def _fL:∀{n ds} {j:Nat} {d},D.flats n ds=true->ds[j]?=@d->d.flat n=true
 |_,[],_,_,_,e=>by symm
 |n,d::ds,j,d',f,e=>by
  let f:(D.flat _ _&&D.flats _ _)=true:=f;rw[Bool.é]at f;cases j with|zero=>symm|succ j=>show _fL f.2 (~~~e)
def pAt(as bs:List D)(j:Nat):Bool:=match as[j]?,bs[j]? with
 |some a,@b=>peq a b|_,_=>true
def _fM:∀as bs,as.B=bs.B->(List.range as.B).all (pAt as bs)=peqs as bs
 |[],[],_=>by rfl
 |a::as,b::bs,h=>by
  rw[Xk,List.range_succ_eq_map,List.all_cons,List.all_map];change _=(peq a b&&peqs as bs);rw[<-(_fM as bs (~~~h))];rfl
def _fN:∀as bs,as.B≠bs.B->peqs as bs=false
 |[],[],h=>by symm
 |a::as,b::bs,h=>by
  change(peq a b&&peqs as bs)=false;rw[_fN as bs (~~~h),Bool.and_false]
 |[],_::_,_=>by rfl|_::_,[],_=>by rfl
def _fO(as bs):((List.range (min as.B bs.B)).all (pAt as bs)&&as.B==bs.B)=peqs as bs:=by
 by_cases e:as.B=bs.B
 .rw[<-e,Nat.min_self,_fM as bs e];simp
 .rw[_fN as bs e]
  symm
section
def _fP(ra:CReps s.G as us)(rb:CReps s.G bs ws)
  (h:∀(j:Nat) (d d') (u w),as[j]?=@d->bs[j]?=@d'->qk s.G d u->qk s.G d' w->SeqAt.EqAt A s u w (peq d d')):
  ∀j h1 (h2:j<ws.J.O),SeqAt.EqAt A s us.J[j] ws.J[j] (pAt as bs j):=λj h1 h2=>by
 let l1:=ra.len;let l2:=rb.len;simp at h1 h2;let ha:j<as.B:=.q
 let hb:j<bs.B:=.q
 let#[u,eu,ru]:=ra.get (X1 ha);let#[w,ew,jo]:=rb.get (X1 hb);let e1:us.J[j]=u:=by
  symm
 let e2:ws.J[j]=w:=by
  symm
 let e3:pAt as bs j=peq as[j] bs[j]:=by
  ext pAt;rw[X1 ha,X1 hb]
 rw[e1,e2,e3];show h j _ _ u w (X1 ha) (X1 hb) ru jo
#where in
def _fQ(hu:A.u<cLine)(r:qk s.G d u)(r':qk s.G d' w)
  (el:∀as bs (us ws),(d=.S as\/d=.M as)->(d'=.S bs\/d'=.M bs)->CReps s.G as us->CReps s.G bs ws->∀j (h1) (h2:j<ws.J.O),SeqAt.EqAt A.in1 s us.J[j] ws.J[j] (pAt as bs j)):
  SeqAt.RcAt A s u w (peq d d'):=by
 cases crv r<;>cases crv r'
 .show SeqAt.RcAt.none_none
 .show SeqAt.RcAt.none_bool _
 .show SeqAt.RcAt.none_int _ _
 .show SeqAt.RcAt.none_str _ _
 .show SeqAt.RcAt.none_list ‹_› hu
 .show SeqAt.RcAt.none_tuple ‹_› hu
 .show SeqAt.RcAt.bool_none _
 .show SeqAt.RcAt.bool_bool _ _
 .show SeqAt.RcAt.bool_int _ _ _
 .show SeqAt.RcAt.bool_str _ _ _
 .show SeqAt.RcAt.bool_list _ ‹_› hu
 .show SeqAt.RcAt.bool_tuple _ ‹_› hu
 .show SeqAt.RcAt.int_none _ _
 .show SeqAt.RcAt.int_bool _ _ _
 .show SeqAt.RcAt.int_int _ _ _ _
 .show SeqAt.RcAt.int_str _ _ _ _
 .show SeqAt.RcAt.int_list _ _ ‹_› hu
 .show SeqAt.RcAt.int_tuple _ _ ‹_› hu
 .show SeqAt.RcAt.str_none _ _
 .show SeqAt.RcAt.str_bool _ _ _
 .show SeqAt.RcAt.str_int _ _ _ _
 .show SeqAt.RcAt.str_str _ _ _ _
 .show SeqAt.RcAt.str_list _ _ ‹_› hu
 .show SeqAt.RcAt.str_tuple _ _ ‹_› hu
 .show SeqAt.RcAt.list_none ‹_› hu
 .show SeqAt.RcAt.list_bool _ ‹_› hu
 .show SeqAt.RcAt.list_int _ _ ‹_› hu
 .show SeqAt.RcAt.list_str _ _ ‹_› hu
 .revert as a us p ra bs b ws p' rb;change SeqAt.RcAt _ _ _ _ (peqs as bs);let l1:=ra.len;let l2:=rb.len
  by_cases hl:as.B=bs.B
  .rw[<-_fM as bs hl];let z:=SeqAt.RcAt.lists (A:=A) (s:=s) (e:=pAt as bs) p p' (by simp;symm) hu (el as bs us ws (.R rfl) (.R rfl) ra rb);rw[Xf,<-l1]at z;show z
  .rw[_fN as bs hl];show SeqAt.RcAt.lists_lengths p p' (by simp;symm) hu
 .show SeqAt.RcAt.list_tuple ‹_› ‹_› hu
 .show SeqAt.RcAt.tuple_none ‹_› hu
 .show SeqAt.RcAt.tuple_bool _ ‹_› hu
 .show SeqAt.RcAt.tuple_int _ _ ‹_› hu
 .show SeqAt.RcAt.tuple_str _ _ ‹_› hu
 .show SeqAt.RcAt.tuple_list ‹_› ‹_› hu
 .revert as a us p ra bs b ws p' rb;change SeqAt.RcAt _ _ _ _ (peqs as bs);rw[<-_fO as bs];let z:=SeqAt.RcAt.tuples (A:=A) (s:=s) (e:=pAt as bs) p p' hu (el as bs us ws (.Z rfl) (.Z rfl) ra rb);rw[Xf,Xf,<-ra.len,<-rb.len]at z;show z
#where in
def _fR(hu:A.u<cLine)(r:qk s.G d u)(r':qk s.G d' w)
  (el:∀as bs (us ws),(d=.S as\/d=.M as)->(d'=.S bs\/d'=.M bs)->CReps s.G as us->CReps s.G bs ws->∀j (h1) (h2:j<ws.J.O),SeqAt.EqAt A.in1 s us.J[j] ws.J[j] (pAt as bs j)):
  SeqAt.ð A s u w (!peq d d'):=by
 cases crv r<;>cases crv r'
 .show SeqAt.ð.none_none
 .show SeqAt.ð.none_bool _
 .show SeqAt.ð.none_int _ _
 .show SeqAt.ð.none_str _ _
 .show SeqAt.ð.none_list ‹_› hu
 .show SeqAt.ð.none_tuple ‹_› hu
 .show SeqAt.ð.bool_none _
 .show SeqAt.ð.bool_bool _ _
 .show SeqAt.ð.bool_int _ _ _
 .show SeqAt.ð.bool_str _ _ _
 .show SeqAt.ð.bool_list _ ‹_› hu
 .show SeqAt.ð.bool_tuple _ ‹_› hu
 .show SeqAt.ð.int_none _ _
 .show SeqAt.ð.int_bool _ _ _
 .show SeqAt.ð.int_int _ _ _ _
 .show SeqAt.ð.int_str _ _ _ _
 .show SeqAt.ð.int_list _ _ ‹_› hu
 .show SeqAt.ð.int_tuple _ _ ‹_› hu
 .show SeqAt.ð.str_none _ _
 .show SeqAt.ð.str_bool _ _ _
 .show SeqAt.ð.str_int _ _ _ _
 .show SeqAt.ð.str_str _ _ _ _
 .show SeqAt.ð.str_list _ _ ‹_› hu
 .show SeqAt.ð.str_tuple _ _ ‹_› hu
 .show SeqAt.ð.list_none ‹_› hu
 .show SeqAt.ð.list_bool _ ‹_› hu
 .show SeqAt.ð.list_int _ _ ‹_› hu
 .show SeqAt.ð.list_str _ _ ‹_› hu
 .revert as a us p ra bs b ws p' rb;change SeqAt.ð _ _ _ _ (!peqs as bs);let l1:=ra.len;let l2:=rb.len
  by_cases hl:as.B=bs.B
  .rw[<-_fM as bs hl];let z:=SeqAt.ð.lists (A:=A) (s:=s) (e:=pAt as bs) p p' (by simp;symm) hu (el as bs us ws (.R rfl) (.R rfl) ra rb);rw[Xf,<-l1]at z;show z
  .rw[_fN as bs hl];show SeqAt.ð.lists_lengths p p' (by simp;symm) hu
 .show SeqAt.ð.list_tuple ‹_› ‹_› hu
 .show SeqAt.ð.tuple_none ‹_› hu
 .show SeqAt.ð.tuple_bool _ ‹_› hu
 .show SeqAt.ð.tuple_int _ _ ‹_› hu
 .show SeqAt.ð.tuple_str _ _ ‹_› hu
 .show SeqAt.ð.tuple_list ‹_› ‹_› hu
 .revert as a us p ra bs b ws p' rb;change SeqAt.ð _ _ _ _ (!peqs as bs);rw[<-_fO as bs];let z:=SeqAt.ð.tuples (A:=A) (s:=s) (e:=pAt as bs) p p' hu (el as bs us ws (.Z rfl) (.Z rfl) ra rb);rw[Xf,Xf,<-ra.len,<-rb.len]at z;show z
def _fS(pq:Value.I a=Value.I a'->b=true)(rc:SeqAt.RcAt A s (.I a) (.I a') b):SeqAt.EqAt A s (.I a) (.I a') b:=by
 by_cases e:a=a'
 .subst e;rw[pq rfl];show SeqAt.EqAt.same _
 .show SeqAt.EqAt.of_refs e rc
def _fT(hu:A.u<cLine)(r:qk s.G d u)(r':qk s.G d' w)(pq:u=w->peq d d'=true)(rc:SeqAt.RcAt A s u w (peq d d')):SeqAt.EqAt A s u w (peq d d'):=by
 cases crv r<;>cases crv r'
 .show SeqAt.EqAt.same _
 .show SeqAt.EqAt.none_bool _
 .show SeqAt.EqAt.none_int _ _
 .show SeqAt.EqAt.none_str _ _
 .show SeqAt.EqAt.none_list ‹_› hu
 .show SeqAt.EqAt.none_tuple ‹_› hu
 .show SeqAt.EqAt.bool_none _
 .show SeqAt.EqAt.bool_bool _ _
 .show SeqAt.EqAt.bool_int _ _ _
 .show SeqAt.EqAt.bool_str _ _ _
 .show SeqAt.EqAt.bool_list _ ‹_› hu
 .show SeqAt.EqAt.bool_tuple _ ‹_› hu
 .show SeqAt.EqAt.int_none _ _
 .show SeqAt.EqAt.int_bool _ _ _
 .show SeqAt.EqAt.int_int _ _ _ _
 .show SeqAt.EqAt.int_str _ _ _ _
 .show SeqAt.EqAt.int_list _ _ ‹_› hu
 .show SeqAt.EqAt.int_tuple _ _ ‹_› hu
 .show SeqAt.EqAt.str_none _ _
 .show SeqAt.EqAt.str_bool _ _ _
 .show SeqAt.EqAt.str_int _ _ _ _
 .show SeqAt.EqAt.str_str _ _ _ _
 .show SeqAt.EqAt.str_list _ _ ‹_› hu
 .show SeqAt.EqAt.str_tuple _ _ ‹_› hu
 .show SeqAt.EqAt.list_none ‹_› hu
 .show SeqAt.EqAt.list_bool _ ‹_› hu
 .show SeqAt.EqAt.list_int _ _ ‹_› hu
 .show SeqAt.EqAt.list_str _ _ ‹_› hu
 .show _fS pq rc
 .show _fS pq rc
 .show SeqAt.EqAt.tuple_none ‹_› hu
 .show SeqAt.EqAt.tuple_bool _ ‹_› hu
 .show SeqAt.EqAt.tuple_int _ _ ‹_› hu
 .show SeqAt.EqAt.tuple_str _ _ ‹_› hu
 .show _fS pq rc
 .show _fS pq rc
def _fU:∀n {d d' u w A},d.flat n=true->qk s.G d u->qk s.G d' w->A.u+n<cLine->SeqAt.EqAt A s u w (peq d d'):=by
 let h0:∀{n d d' u w A},d.flat n=true->qk s.G d u->qk s.G d' w->A.u+n<cLine->(∀m,n=m+1->∀{d d' u w A},d.flat m=true->qk s.G d u->qk s.G d' w->A.u+m<cLine->SeqAt.EqAt A s u w (peq d d'))->SeqAt.EqAt A s u w (peq d d'):=fun {n d d' u w A} f r r' hu ih=>by
  show _fT .q r r' (λe=>?_) (_fQ .q r r' λas bs us ws h1 h2 ra rb=>?_)
  .subst e;rw[_fJ r' r];show _fK f
  .cases n with
   |zero=>let rfl\/rfl:=h1<;>(show nomatch (show false=true from f))
   |succ n=>
    let fs:D.flats n as=true:=by let rfl\/rfl:=h1<;>show f
    show _fP ra rb λj d d' u w e1 e2 q1 q2=>ih n rfl (_fL fs e1) q1 q2 .q
 intro n
 induction n with|zero=>show λf r r' hu=>h0 f r r' hu λm e=>nomatch e|succ n ih=>show λf r r' hu=>h0 f r r' hu λm e=>by cases e;show ih
end
section
variable {K:Frag}
def _fV(K:Frag):R2:=λx y H Q=>∃d d' as bs,RepL K H true d x as/\RepL K H true d' y bs/\d.flat 40=true/\d'.flat 40=true/\Q (.bl (peq d d')) H
def _fW(K:Frag):R2:=λx y H Q=>∃d d' as bs,RepL K H true d x as/\RepL K H true d' y bs/\d.flat 40=true/\d'.flat 40=true/\Q (.bl (!peq d d')) H
def _fX(hu:X.A.u+64<cLine)(hK:X.K=K<|>Ŕ):OpR X (compareOp .Eq) (_fV K):=by
 subst hK;rintro a8 s σ H x y v u Q I rx ry ⟨d,d',as,bs,h1,h2,f1,f2,q⟩;show _fQ .q (W5 I h1 f1 rx) (W5 I h2 f2 ry) (λas bs us ws e1 e2 ra rb=>_fP ra rb λj d d' u w e3 e4 q1 q2=>?_) _ _ _ _ #[.bl _,H,I,rfl,q];let fs:D.flats 39 as=true:=by let rfl\/rfl:=e1<;>show f1
 show _fU 39 (_fL fs e3) q1 q2 .q
def _fY(hu:X.A.u+64<cLine)(hK:X.K=K<|>Ŕ):OpR X (compareOp .NotEq) (_fW K):=by
 subst hK;rintro a8 s σ H x y v u Q I rx ry ⟨d,d',as,bs,h1,h2,f1,f2,q⟩;show _fR .q (W5 I h1 f1 rx) (W5 I h2 f2 ry) (λas bs us ws e1 e2 ra rb=>_fP ra rb λj d d' u w e3 e4 q1 q2=>?_) _ _ _ _ #[.bl _,H,I,rfl,q];let fs:D.flats 39 as=true:=by let rfl\/rfl:=e1<;>show f1
 show _fU 39 (_fL fs e3) q1 q2 .q
def _fZ:Ad2 K (_fV K) (pu2 fEq):=by
 intro H x y s Q ox oy hf k;unfold pu2 fEq at hf
 by_cases hc:(x.d.flat 40&&y.d.flat 40)=true
 .rw[Xa hc]at hf;rw[Bool.é]at hc;cases _aa hf;show#[x.d,y.d,x.as,y.as,RepO.wk ox,RepO.wk oy,hc.1,hc.2,k _ H rfl rfl wJ]
 .symm
def _f0:Ad2 K (_fW K) (pu2 fNe):=by
 intro H x y s Q ox oy hf k;unfold pu2 fNe at hf
 by_cases hc:(x.d.flat 40&&y.d.flat 40)=true
 .rw[Xa hc]at hf;rw[Bool.é]at hc;cases _aa hf;show#[x.d,y.d,x.as,y.as,RepO.wk ox,RepO.wk oy,hc.1,hc.2,k _ H rfl rfl wJ]
 .symm
end
mutual
def _f1:D->Nat
 |.tup xs=>drwDs xs+1|_=>1
def drwDs:List D->Nat
 |[]=>0|a::x=>_f1 a+drwDs x
end
mutual
theorem _f2{n:Nat}{d:D}(h:qJ n d=true):d.flat n=true:=by
 cases d<;>cases n<;>unfold qJ at h<;>first|rfl|(cases h)|skip
 exact _Kf h
theorem _Kf{n:Nat}{ds:List D}(h:keyDs n ds=true):D.flats n ds=true:=by
 cases ds<;>unfold keyDs at h
 ·rfl
 rw[Bool.and_eq_true]at h;show(D.flat _ _&&D.flats _ _)=true;rw[_f2 h.1,_Kf h.2];rfl
end
mutual
theorem _f3{n m:Nat}{a b:D}(ha:qJ n a=true)(hb:qJ m b=true):peq a b=decide (a=b):=by
 cases a<;>first|(cases n<;>(unfold qJ at ha;cases ha);done)|(cases b<;>first|(cases m<;>(unfold qJ at hb;cases hb);done)|(exact(Xm (nofun)).symm)|(simp;first|rfl|exact Bool.beq_eq_decide_eq _ _)|skip)
 cases n<;>cases m<;>unfold qJ at ha hb<;>first|(cases ha)|(cases hb)|(refine(keys_peq ha hb).trans (decide_eq_decide.mpr ?_);simp)
theorem keys_peq{n m:Nat}{a b:List D}(ha:keyDs n a=true)(hb:keyDs m b=true):peqs a b=decide (a=b):=by
 cases a<;>cases b<;>unfold keyDs at ha hb
 ·exact(Xh rfl).symm
 ·exact(Xm (nofun)).symm
 ·exact(Xm (nofun)).symm
 rw[Bool.and_eq_true]at ha hb;show(peq _ _&&peqs _ _)=_;rw[_f3 ha.1 hb.1,keys_peq ha.2 hb.2];simp
end
#where in
def _f4:∀{ds:List D} {us:List Value},keyDs n ds=true->CReps h ds us->∀u>us,∃d,qJ n d=true/\qk h d u:=by
 intro ds
 induction ds<;>intro us hk r u hu<;>unfold CReps at r
 .subst r;cases hu
 .revert ih;let#[v,r,rfl,h1,h2]:=r;unfold keyDs at hk;rw[Bool.é]at hk;let rfl\/hu:=aD hu
  .show#[_,hk.1,h1]
  .show ih hk.2 h2 u hu
#where in
def _f5{P : Nat -> Value -> Prop}(b : ∀n u,(u = .ã \/ (∃i t,u = .C i t) \/ ∃x t,u = .e x t) -> P n u)(st : ∀n a (us : List Value),h.IsTuple a us.J -> (∀u > us,P n u) -> P (n+1) (.I a)): ∀n {d : D} {u : Value},qJ n d = true -> qk h d u -> P n u:= by
  intro n
  induction n <;> intro d u hk hr <;> cases crv hr <;> unfold qJ at hk <;> first
    |(cases hk; done)
    |show b _ _ (.R rfl)
    |show b _ _ (.Z (.R ⟨_,_,rfl⟩))
    |show b _ _ (.Z (.Z ⟨_,_,rfl⟩))
    |skip
  revert ih _ _ _ p q;show st _ _ _ p λu hu=> ?_
  let#[d,k,r]:= _f4 hk q u hu;show ih k r
section
def _f6(h:Q 4238894112 {s with toks:=s.ë+1}):wpAny (model prog w) A (pyHash .ã) Q E s:=by
 let ty:s.TypeIs Value.ã "NoneType":=rfl;ext pyHash;show X0 ?_;show X6 (X0 (Yz ty F.slot_NoneType_hash.U ?_));change wpAny _ _ (callSpecialIfBoundUnlessNone? Value.ã "__hash__" _ >>= _) Q E s;show X0 (wpAny_callSpecialIfBoundUnlessNone?_slot ty F.slot_NoneType_hash (Y0 F.slot_NoneType_hash ty F.entry_NoneType_hash ?_ (F.args_NoneType_hash_1 _)));show wpAny_ret_mkInt ?_;change wpAny _ _ (if(decide (-(2:Int) ^ 63<=(4238894112:Int))&&decide ((4238894112:Int)<2 ^ 63))=true then _ else _) Q E _;rw[Xa (by rfl)];show X6 h
def _f7:∀ds:List D,hashDs w (ds++[d])=hashDs w ds++[V8 w d]
 |[]=>by rfl|a::x=>by rw[List.cons_append,hashDs,_f7 x];rfl
def _f8:∀ds:List D,drwDs (ds++[d])=drwDs ds+_f1 d
 |[]=>by simp[drwDs]|a::x=>by rw[List.cons_append,drwDs,drwDs,_f8 x];lia
#where in
def _f9:∀(n:Nat) {d:D} {u:Value} {A:Around} {s:Shared} {Q:Int->Shared->Prop},qJ n d=true->qk s.G d u->A.u+4*n<cLine->Q (V8 w d) {s with toks:=s.ë+_f1 d}->wpAny (model prog w) A (pyHash u) Q E s:=by
 intro n
 induction n<;>intro d u A s Q hk hr hu h<;>cases crv hr<;>unfold qJ at hk<;>first|(cases hk;done)|((with_reducible show _f6 ?_);show h)|((with_reducible show wpAny_pyHash_int ?_);show h)|((with_reducible show wpAny_pyHash_str ?_);show h)|skip
 revert n ih ds a us ht hi;let ty:=ht.õ;let#[ob,on,dy,nn,tm]:=ht;ext pyHash;ext pyHashByItsType;show X0 (wpAny_cRoomFor_or (.Z .q) ?_);show X0 (Yz ty F.slot_tuple_hash.U ?_);change wpAny _ _ (if(@(Value.x "tuple.__hash__")==@Value.ã)=true then _ else _) Q E s;rw [Xe (show ¬(@(Value.x "tuple.__hash__")==@Value.ã)=true by rw[beq_builtin_none];show Bool.false_ne_true)];show X0 (Yz ty F.slot_tuple_hash.U ?_);change wpAny _ _ (callSpecialIfBoundUnlessNone? (Value.I a) "__hash__" _ >>= _) Q E s;show X0 (wpAny_callSpecialIfBoundUnlessNone?_slot ty F.slot_tuple_hash (Y0 F.slot_tuple_hash ty F.entry_tuple_hash ?_ (F.args_tuple_hash_1 _)));change wpAny _ _ (Builtin.Tuple.tupleItemsOf (Value.I a) >>= _) _ _ s;show X0 (wpAny_tupleItemsOf on tm ?_);show X0 ?_;rw [<-Array.forIn_toList];show wpAny_forIn_list _ (λac (b:Array Int) s'=>∃pre post,ds=pre++post/\keyDs n post=true/\CReps s.G post ac/\b.p=hashDs w pre/\s'={s with toks:=s.ë+drwDs pre}) _ ?_ ?_ _ _ #[[],ds,rfl,hk,hi,rfl,rfl]
 .rintro x ac b s' ⟨pre,post,rfl,nh,hl,hb,rfl⟩;cases post with
  | nil=>unfold CReps at hl;cases hl
  | cons d post=>
   unfold CReps at hl;let#[u1,r1,e1,h1,h2]:=hl;injection e1 with e1 e2;subst e1 e2;unfold keyDs at nh;rw[Bool.é]at nh;let ru:A.in1.u+4*n<cLine:=by change A.u+1+4*n<cLine;lia
   let fin:∃p q,pre++d::post=p++q/\keyDs n q=true/\CReps s.G q ac/\(b.í (V8 w d)).p=hashDs w p/\({s with toks:=s.ë+drwDs pre+_f1 d}:Shared)={s with toks:=s.ë+drwDs p}:=
    #[pre++[d],post,by simp,nh.2,h2,by rw[_f7,<-hb];simp,by rw[_f8,Nat.add_assoc]]
   show X0 (ih nh.1 h1 ru ?_)
   first
    |show X6 fin
    |show X0 (X6 (X6 fin))
 .rintro b s' ⟨pre,post,rfl,nh,hl,hb,rfl⟩;let:post=[]:=by
   cases post with|nil=>rfl|cons d post=>unfold CReps at hl;let#[_,_,z,_]:=hl;cases z
  subst this;rw[Xv]at h;change wpAny _ _ (retInt (Builtin.Tuple.tupleHashOf b.p)) _ _ _;rw[hb];show wpAny_ret_mkInt ?_;generalize hv:Builtin.Tuple.tupleHashOf (hashDs w pre)=v;let h:Q (reduceHash v) {s with toks:=s.ë+drwDs pre+1}:=by rw[<-hv];unfold V8 _f1 at h;rw[Nat.add_assoc];show h
  change wpAny _ _ (if(decide (-(2:Int) ^ 63<=v)&&decide (v<2 ^ 63))=true then _ else _) Q E _;unfold reduceHash at h
  by_cases hq:(decide (-(2:Int) ^ 63<=v)&&decide (v<2 ^ 63))=true
  .rw[Xa hq]at h ⊢;show X6 h
  .rw[Xe hq]at h ⊢;show X0 (Zi (X6 h))
def _ga(n m:Nat)(hm:n<=m)(hk:qJ n d=true)(hr:qk s.G d u)(h:Q true s):wpAny (model prog w) A (eqIsQuiet m u) Q E s:=by
 show _f5 (P:=λn u=>∀m (Q:Bool->Shared->Prop),n<=m->Q true s->wpAny (model prog w) A (eqIsQuiet m u) Q E s) ?_ (λn a us ht hi m Q hm h=>?_) n hk hr m Q hm h
 .rintro n u (rfl|⟨i,t,rfl⟩|⟨i,t,rfl⟩) m Q _ h<;>(rw[eqIsQuiet_byValue m rfl];show X6 h)
 let ty:=ht.õ;let#[ob,on,dy,nn,tm]:=ht;cases m
 .symm
 ext eqIsQuiet;show X0 (Yz ty F.slot_tuple_eq.U ?_);change wpAny _ _ (isInstance (Value.I a) (.h "tuple") >>= _) _ _ s;show X0 (Zq ty isSubtype_tuple_tuple ?_);dsimp[Bool.not_true,Bool.false_eq_true,if_false];show X0 (wpAny_seqItems on tm (X0 ?_));change wpAny _ _ (forIn us.J _ _) _ _ s;rw[<-Array.forIn_toList];show wpAny_forIn_list _ (λac r s'=>r.1=none/\s'=s/\∀u>ac,u>us) _ ?_ ?_ _ _ #[rfl,rfl,λ_ h=>h]
 .rintro v ac r s' ⟨hr,rfl,hu⟩;show X0 (hi v (hu v X5) _ _ (by symm) ?_);simp;show X6 #[rfl,rfl,λu h=>hu u (_ad _ h)]
 .rintro ⟨r1,r2⟩ s' ⟨hz,rfl,_⟩;cases hz;show X6 h
end
mutual
theorem _gb{h h':Heap}(et:∀b ob us n,h.get? b=⇑ob->ob.cls=.type "tuple"->ob.data=.seq us n->h'.get? b=⇑ob){n:Nat}{d:D}{u:Value}(hk:qJ n d=true)(r:qk h d u):qk h' d u:=by
 cases d<;>cases n<;>unfold qJ at hk<;>unfold qk at r ⊢<;>first|exact r|(cases hk;done)|skip
 obtain⟨a,us,e,⟨ob,on,hc,nn,tm⟩,hi⟩:=r;exact#[a,us,e,#[ob,et a ob _ _ on hc tm,hc,nn,tm],_Ck et hk hi]
theorem _Ck{h h':Heap}(et:∀b ob us n,h.get? b=⇑ob->ob.cls=.type "tuple"->ob.data=.seq us n->h'.get? b=⇑ob){n:Nat}{ds:List D}{us:List Value}(hk:keyDs n ds=true)(r:CReps h ds us):CReps h' ds us:=by
 cases ds<;>unfold CReps at r ⊢
 ·exact r
 unfold keyDs at hk;rw[Bool.and_eq_true]at hk;obtain⟨u,rr,e,h1,h2⟩:=r;exact#[u,rr,e,_gb et hk.1 h1,_Ck et hk.2 h2]
end
def _gc(prog:Program)(w:PySem.World):HeapKind prog w Kd where
 is:=λh k a=>qk h k.1 (.I a)
 hash:=λk=>V8 w k.1
 draws:=λk=>_f1 k.1
 room:=λA=>A.u+40<cLine
 inj:=λhx hy=>Subtype.ext (_fJ hx hy)
 keeps:=fun {h h' k a d o es ep} x ho hd hs=>_gb (λb ob us n e _ z=>(hs.2 b (by rintro rfl;rw[ho]at e;cases e;rw[hd]at z;cases z)).H e) k.2 x
 pyHash:=fun {A E s k a Q} hu hk h=>_f9 6 k.2 hk (Nat.lt_of_le_of_lt (Nat.add_le_add_left .q _) hu) h
 eqBool:=fun {A E s x y a b Q} hu hx hy h=>by
  let e:peq x.1 y.1=decide (x=y):=by
   rw[_f3 x.2 y.2]
   by_cases z:x=y
   .rw[Xh z,Xh (congrArg Subtype.val z)]
   .rw[Xm z,Xm λq=>z (Subtype.ext q)]
  let:=_fU (s:=s) 6 (A:=A) (_f2 x.2) hx hy (Nat.lt_of_le_of_lt (Nat.add_le_add_left .q _) hu);rw[e]at this;show this prog w E Q h
 quiet:=fun {A E s k a Q} hk h=>_ga 6 8 .q k.2 hk h
abbrev Sl.sd(x:Sl):Sd:=(x.o,x.d)
def tA(Z:Fx0)(q:Bool)(cs:List Ex):TA:=fun σ H Q=>∃E L r,Mt E σ L/\World Z.K H L/\vW cs E=@r/\Xc Z σ H L r /\
 ∀E' ys,r=.ok E' ys->∀(xs:List Sl) L' H',xs.E Sl.sd=ys->Mt E' σ L'->World Z.K H' (xs.E some++L')->Step H L H' (xs.E some++L')->(q=true->kJ H H'/\∀b>jx (xs.E some),H b=none)->Q (xs.E Sl.v) H'
def QA(X:Cx)(Z:Fx0)(q:Bool)(cs:List Ex)(es:List Expr):Prop:=PA X es (tA Z q cs)
def ZZ(h:PA X es t)(w:∀ σ H Q,t' σ H Q->t σ H Q):PA X es t':=λpos a8 s σ H Q I q=>h pos a8 s σ H Q I (w σ H Q q)
section
def j8:QA X Z true [] []:=ZZ x5 fun σ H Q au=>ex8 au λE L r m w hc xc k=>by
 cases _aa hc;show k _ _ rfl [] L H rfl m w Step.î λ_=>#[λ_ _ z=>z,λ_ z=>(nomatch z)]
def j5(h:QE X Z q c e)(hs:QA X Z q cs es)(b6:Abs e es X<|>Ŕ):QA X Z q (c::cs) (e::es):=
 ZZ (x3 h hs b6) fun σ H Q au=>ex8 au λE L r m w hc xc k=>by
  show Wk m w (hc) xc λE1 s h1 x L1 H1 e1 e2 m1 w1 st sm=>?_
  let#[E2,ys,h2,h3]\/#[E2,cc,h2,h3]:=wK h1
  .cases _aa h3;show#[E1,L1,_,m1,w1.tail,h2,(λ_ _ z=>by cases z),λE' ys' z xs L2 H2 e3 m2 w2 bn cw=>?_];injection z with z1 z2;subst z1 z2;let#[w3,cu]:=_eJ (T:=[@x]) w1 bn w2;show k _ _ rfl (x::xs) L2 H2 (by rw[List.V,e3];simp[Sl.sd,e1,e2]) m2 w3 (st.H cu) λhq=>?_
   let#[a1,a2]:=sm hq;let#[b1,b2]:=cw hq;show#[kX a1 b1,λb hb=>?_];let z\/z:=aA hb
   .show a2 b z
   .show zx a1 (b2 b z)
  .show#[E1,L1,_,m1,w1.tail,h2,(xc.step (st.H Step.ñ)).E h3,λE' s' z=>by cases z]
end
section
variable {Z:Fx0}
def _gd:∀{cs E E' ys},vW cs E=@(.ok E' ys)->ys.B=cs.B
 | [],E,E',ys,h=>by cases _aa h;rfl
 | c::cs,E,E',ys,h=>by
  let#[E1,x,h1,h2]\/#[_,_,_,z]:=wK (h)
  .let#[E2,xs,h3,h4]\/#[_,_,_,z]:=wK h2
   .cases _aa h4;rw[Xk,Xk,_gd h3]
   .cases z
  .cases z
def _ge(m:Mt E σ L)(w:World Z.K H L)(h:bnd (vW cs E) F=@r)(xc:Xc Z σ H L r)
  (k:∀E1 ys,F E1 ys=@r->ys.B=cs.B->∀(xs:List Sl) L1 H1,xs.E Sl.sd=ys->Mt E1 σ L1->World Z.K H1 (xs.E some++L1)->Step H L H1 (xs.E some++L1)->(q=true->kJ H H1/\∀b>jx (xs.E some),H b=none)->G (xs.E Sl.v) H1):tA Z q cs σ H G:=by
 let#[E1,s,h1,h2]\/#[E1,c,h1,h2]:=wK h
 .show#[E,L,_,m,w,h1,(λ_ _ z=>by cases z),λE' s' z xs L' H' e1 m' w' st sm=>by
   injection z with z1 z2;subst z1 z2;show k _ _ h2 (_gd h1) xs L' H' e1 m' w' st sm]
 .show#[E,L,_,m,w,h1,xc.E h2,λE' s' z=>by cases z]
def _gf{K}(g):∀{xs:List Sl},(∀x>xs,x.ok K H)->(g=false->∀x>xs,J5 x.sd=true)->∃bs,RepA K H g (xs.E Sl.d) (xs.E Sl.v) bs/\(∀b>bs,∃x>xs,b>x.as)/\(g=false->bs=jx (xs.E some))/\(g=true->bs=xs.flatMap Sl.as)
 | [],_,_=>#[[],#[rfl,rfl],λ_ h=>(nomatch h),λ_=>rfl,λ_=>rfl]
 | x :: xs,h,ht=>by
  let#[bs,r,hb,ho,hg]:=_gf g (λy hy=>h y (_ad _ hy)) λhg y hy=>ht hg y (_ad _ hy)
  let hx:=h x X5;let key:∃cs,RepL K H g x.d x.v cs/\(∀b>cs,b>x.as)/\(g=false->cs=x.æ)/\(g=true->cs=x.as):=by
   cases g with
   | true=>show#[x.as,RepO.wk hx,λb hb=>hb,(λz=>by cases z),λ_=>rfl]
   | false=>
    by_cases ho:x.o=.dp
    .show#[x.as,?_,λb hb=>hb,λ_=>?_,λz=>by cases z]
     .let:=hx;unfold Sl.ok at this;rw[ho]at this;show this
     .ext Sl.æ;rw[ho]
    .let hp:x.d.pure=true:=by
      let z\/z:=Bool.or_eq_true_iff.mp (ht rfl x X5)
      .symm
      .show z
     let#[z,rp]:=RepL.pu (g':=false) (RepO.wk hx) hp;show#[[],rp,λ_ h=>(nomatch h),λ_=>(_eP z).i,λz=>by cases z]
  let#[cs,r1,h1,h2,h3]:=key;show#[cs++bs,?_,λb ig=>?_,λvh=>?_,λvh=>?_]
  .show#[x.v,xs.E Sl.v,cs,bs,rfl,rfl,r1,r]
  .let z\/z:=aA ig
   .show#[x,X5,h1 b z]
   .symm
  .rw[List.V,vk,h2 vh,ho vh]
  .rw[List.flatMap_cons,h3 vh,hg vh]
def _gg{K}{xs:List Sl}(w:World K H (xs.E some++L))(out:∀bs,RepA K H true (xs.E Sl.d) (xs.E Sl.v) bs->Out K H H' #[o,d,v,ps++bs] bs):
  ∃bs,World K H' (@#[o,d,v,ps++bs]::L)/\Step H (xs.E some++L) H' (@#[o,d,v,ps++bs]::L):=by
 let#[bs,r,hb,_,_]:=_gf true (λx hx=>w.ok x (_ac _ (Y4 hx))) (λz=>by cases z);let ap:∀b>bs,b∉jx L:=λb ig hL=>by
  let#[x,hx,m8]:=hb b ig;let z\/z:=Sl.as_of m8
  .let nd:=w.nd;rw[kw,Xj]at nd;show nd.2.2 b (mem_owned.å #[x,Y4 hx,z]) b hL rfl
  .show w.ds b (by rw[kw];show _ab _ hL) (by rw[v6];show _ac _ (mem_frozen.å #[x,Y4 hx,z]))
 let al:∀b>bs,H b≠none:=λb ig=>by
  let#[x,hx,m8]:=hb b ig;show(w.ok x (_ac _ (Y4 hx))).some m8
 let sr:Src H (xs.E some++L) bs:=λb ig=>by
  let#[x,hx,m8]:=hb b ig;let z\/z:=Sl.as_of m8
  .show .Z (.R (by rw[kw];show _ac _ (mem_owned.å #[x,Y4 hx,z])))
  .show .R (by rw[v6];show _ac _ (mem_frozen.å #[x,Y4 hx,z]))
 let st:Step H (xs.E some++L) H L:=#[λ_ _ h _=>h,λa ha=>.R (by rw[kw];show _ab _ ha),λa ha=>.R (by rw[v6];show _ab _ ha)];show#[bs,Q6 (Z:=#[K,λ_=>none,λ_ _ _=>True]) w.right st (out bs r) ap al sr]
def _gh{K}{xs:List Sl}(w:World K H (xs.E some++L))(hp:H p=none):
  ∃bs,World K (upd H p (.S (xs.E Sl.v))) (@#[.rt,.S (xs.E Sl.d),.I p,p::bs]::L)/\Step H (xs.E some++L) (upd H p (.S (xs.E Sl.v))) (@#[.rt,.S (xs.E Sl.d),.I p,p::bs]::L):=
 _gg (ps:=[p]) w λ_ r=>V0 hp r λ_ h=>h
def _gi{K}{xs:List Sl}(w:World K H (xs.E some++L))(hp:H p=none):
  ∃bs,World K (upd H p (.M (xs.E Sl.v))) (@#[.X,.M (xs.E Sl.d),.I p,bs]::L)/\Step H (xs.E some++L) (upd H p (.M (xs.E Sl.v))) (@#[.X,.M (xs.E Sl.d),.I p,bs]::L):=
 _gg (ps:=[]) w λ_ r=>_fb hp r λ_ h=>h
def _gj{K}{xs:List Sl}(w:World K H (xs.E some++L))(ht:∀x>xs,J5 x.sd=true)(hp:∀b>ps,H b=none)(nd:ps.l)(sm:kJ H H')
  (rep:∀bs,RepA K H false (xs.E Sl.d) (xs.E Sl.v) bs->RepL K H' false d v (ps++bs)):
  World K H' (@#[.dp,d,v,ps++jx (xs.E some)]::L)/\Step H (xs.E some++L) H' (@#[.dp,d,v,ps++jx (xs.E some)]::L):=by
 let#[bs,r,hb,ho,_]:=_gf false (λx hx=>w.ok x (_ac _ (Y4 hx))) (λ_=>ht);let e:=ho rfl;subst e;let w2:World K H' _:=#[λx hx=>RepO.kp (w.ok x hx) (Kp.of_same sm),w.nd,w.ds];let ndx:=w.nd;rw[kw,Xj]at ndx;let al:∀b>jx _,H b≠none:=λb hb=>w.own_some (by rw[kw];show _ac _ hb)
 show#[w2.right.ä (rep _ r) ?_ (λa ha hL=>?_) (λa ha hf=>?_) (λa ha=>(nomatch ha)) (λa ha=>λz=>(nomatch z)),#[λa ob h _=>sm a ob h,λa ha=>?_,λa ha=>?_]]
 .change(ps++jx _).l;rw[Xj];show#[nd,ndx.1,λa ha b hb e=>by subst e;show al a hb (hp a ha)]
 .let z\/z:=aA (ha)
  .show w.own_some (by rw[kw];show _ab _ hL) (hp a z)
  .show ndx.2.2 a z a hL rfl
 .let z\/z:=aA (ha)
  .show w.frz_some (by rw[v6];show _ab _ hf) (hp a z)
  .show w.ds a (by rw[kw];show _ac _ z) (by rw[v6];show _ab _ hf)
 .rw[vk]at ha;let z\/z:=aA ha
  .let y\/y:=aA (z)
   .show .Z (hp a y)
   .show .R (by rw[kw];show _ac _ y)
  .symm
 .show .R (by rw[v6];show _ab _ ha)
def _gk{xs:List Sl}(h:xs.E Sl.sd=ys):xs.E Sl.d=ys.E (·.2):=by rw[<-h,Xi];rfl
def _gl{xs:List Sl}(h:xs.E Sl.sd=ys)(ht:ys.all J5=true):∀x>xs,J5 x.sd=true:=λx hx=>by
 rw[<-h,List.all_map,Zp]at ht;show ht x hx
def _gm{o}{xs:List Sl}{ys}{Q:VK}(h:mkL o E' ys=@r)(e:xs.E Sl.sd=ys)(w:World Z.K H1 (xs.E some++L'))(st:Step Hq Lq H1 (xs.E some++L'))(sm:q=true->kJ Hq H1/\∀b>jx (xs.E some),Hq b=none)
  (k:∀E'' a,r=.ok E'' a->∀x L'' H',x.o=a.1->x.d=a.2->Mt E'' σ L''->World Z.K H' (@x::L'')->Step Hq Lq H' (@x::L'')->(q=true->kJ Hq H'/\∀b>x.æ,Hq b=none)->Q x.v H') (m:Mt E' σ L'):
  ∀ p,H1 p=none->Q (.I p) (upd H1 p (.S (xs.E Sl.v))):=by
 intro p hp;unfold mkL at h
 by_cases ho:o=.dp
 .rw[Xa ho]at h
  by_cases ht:ys.all J5=true
  .rw[Xa ht]at h;cases _aa h;let#[w2,s2]:=_gj (d:=.S _) w (_gl e ht) (λb hb=>by rw[aC hb];show hp) (by simp) (wV hp) (λbs r=>by
    show#[p,_,bs,rfl,r.kp (Kp.of_same (wV hp)),.R #[wY,rfl]])
   show k _ _ rfl _ L' _ rfl (by rw[_gk e]) m w2 (st.H s2) λhq=>#[kX (sm hq).1 (wV hp),λb hb=>?_]
   let z\/z:=aA (hb)
   .rw[aC z];show zx (sm hq).1 hp
   .show(sm hq).2 b z
  .symm
 .rw[Xe ho]at h;cases _aa h;let#[bs,w2,s2]:=_gh w hp;show k _ _ rfl _ L' _ rfl (by rw[_gk e]) m w2 (st.H s2) λhq=>#[kX (sm hq).1 (wV hp),λb hb=>?_]
  let:b=p:=by simpa [Sl.æ]using hb
  rw[this];show zx (sm hq).1 hp
def _gn{xs:List Sl}(h:xs.E Sl.sd=ys)(hl:ys.B=n)(hz:n<=1000):(xs.E Sl.v).B<=sizeLine:=by
 let:xs.B=n:=by rw[<-hl,<-h,X3]
 rw[X3,this];show Yb hz .q
noncomputable def zq(h:QA X Z q cs es)(hz:(cs.B<=1000)<|>ŕ):QE X Z q (qx o cs) (.List es pos):=q9 (_bC h) fun σ H Q au=>ex8 au λE L r m w hc xc k=>
 _ge m w (hc) xc λE1 ys h1 hl xs L1 H1 e1 m1 w1 st sm=>#[_gn e1 hl hz,_gm (E':=E1) (h1) e1 w1 st sm k m1]
def kW(h:QA X Z q cs es)(hz:(cs.B<=1000)<|>ŕ):QE X Z q (kz o cs) (.Tuple es x1 pos):=q9 (_bB h) fun σ H Q au=>ex8 au λE L r m w hc xc k=>
 _ge m w (hc) xc λE1 ys h1 hl xs L1 H1 e1 m1 w1 st sm=>#[_gn e1 hl hz,λp hp=>by
  by_cases ho:o=.dp
  .rw[Xa ho]at h1
   by_cases ht:ys.all J5=true
   .rw[Xa ht]at h1;cases _aa h1;let#[w2,s2]:=_gj (d:=.M _) (ps:=[]) w1 (_gl e1 ht) (λb hb=>(nomatch hb)) (by simp) (wV hp) (λbs r=>by
     show#[p,_,rfl,SqT.of wY,r.kp (Kp.of_same (wV hp))])
    show k _ _ rfl _ L1 _ rfl (by rw[_gk e1]) m1 w2 (st.H s2) λhq=>#[kX (sm hq).1 (wV hp),λb hb=>(sm hq).2 b hb]
   .symm
  .rw[Xe ho]at h1;cases _aa h1;let#[bs,w2,s2]:=_gi w1 hp;show k _ _ rfl _ L1 _ rfl (by rw[_gk e1]) m1 w2 (st.H s2) λhq=>#[kX (sm hq).1 (wV hp),λb hb=>(nomatch hb)]]
end
def spF(K:Frag)(mg:Str->Option Value)(n:Nat)(f:Fn):Sp:=λvs H Q E=>∃(xs:List Sl) (r:Res Sd),vs=xs.E Sl.v/\xs.B=n/\World K H (xs.E some)/\f (xs.E Sl.sd)=@r /\
 (∀E' c,r=.exc E' c->∀C H',mg c=@(.I C)->Step H (xs.E some) H' []->E (.I C) none H') /\
 ∀E' a,r=.ok E' a->∀(x:Sl) H',x.o=a.1->x.d=a.2->World K H' [@x]->Step H (xs.E some) H' [@x]->Q x.v H'
def _go{K}{ps:List Str}(hn:ps.B=n):∀vs H Q E,spF K mg n f vs H Q E->vs.B=ps.B:=λvs H Q E hz=>by let#[xs,r,e,hl,_]:=hz;rw[e,X3,hl,hn]
def _gp:∀(xs:List Sl) (k),Mt (xs.E (λx=>@x.sd)++List.r k none) (xs.E (λx=>@x.v)++List.r k none) (xs.E some++List.r k none)
 |[],0=>.nil
 |[],k+1=>by
  show .un (_gp [] k)
 |x::xs,k=>.ä (_gp xs k)
def _gq{K}(hN:N.B=nn)(t:QSs X #[K,mg,E] [] B body)(h:spF K mg n (fn nn B) vs H Q E):
  ∃t,PSs X body t/\t {nx:=λ_ H'=>Q .j H',rt:=Q} (L2.start N vs) H:=by
 show#[_,t,?_];let#[xs,r,rfl,hl,w,hf,hx,hk]:=h;unfold fn at hf;rw[X3,Xi]at hf;let e1:L2.start N (xs.E Sl.v)=xs.E (λx=>@x.v)++List.r (nn - xs.B) none:=by
  ext L2.start;rw[Xi,X3,hN];rfl
 let wL:World K H (xs.E some++List.r (nn - xs.B) none):=w.same (by simp);let sL:Step H (xs.E some) H (xs.E some++List.r (nn - xs.B) none):=Step.î.same (List.á.î _) (by simp);cases hB:B _ with
 | none=>rw[show(some∘Sl.sd)=(λx:Sl=>@x.sd)from rfl,hB]at hf;cases hf
 | some g=>
  rw[show(some∘Sl.sd)=(λx:Sl=>@x.sd)from rfl,hB]at hf;show#[_,_,g,e1▸(_gp xs _),wL,hB,?_];cases g with
  |nx E1=>
   cases _aa hf;intro σ' L' H' _ m' w' s';show hk _ _ rfl _ H' rfl rfl (World.consPu (x:=#[.dp,.j,.j,[]]) #[λ_ z=>(nomatch z),Xr,λ_ z=>(nomatch z)] (show RepL K H' false .j .j []from _e0) rfl) (J6 ((sL.H s').sub (by simp)) (λb hb=>(nomatch hb)) rfl)
  |rt E1 a=>
   cases _aa hf;intro x σ' L' H' e2 e3 _ m' w' s';show hk _ _ rfl x H' e2 e3 (w'.sub (by simp)) ((sL.H s').sub (by simp))
  |xc E1 c=>
   cases _aa hf;intro C σ' L' H' hm _ m' w' s';show hx _ _ rfl C H' hm ((sL.H s').sub (by simp))
  |ct E1=>cases hf|bk E1=>cases hf
section
def Qj:∀xs:List Sl,jx ((xs.E Sl.let).E some)=[]
 |[]=>rfl|x::xs=>by rw[List.V,List.V,vk,Qj xs];rfl
def _gr:∀xs:List Sl,k9 ((xs.E Sl.let).E some)=xs.flatMap Sl.as
 |[]=>rfl|x::xs=>by rw[List.V,List.V,Vj,_gr xs];rfl
def _gs(xs:List Sl):(xs.E Sl.let).E Sl.sd=letAll (xs.E Sl.sd):=by
 ext letAll;rw[Xi,Xi];rfl
def _gt{K}{xs:List Sl}(w:World K H (xs.E some++L)):World K H ((xs.E Sl.let).E some++L)/\Step H (xs.E some++L) H ((xs.E Sl.let).E some++L):=by
 let nd:=w.nd;rw[kw,Xj]at nd;let cl:∀a>xs.flatMap Sl.as,a>jx _\/a>k9 _:=λa ha=>by
  let#[x,hx,hax]:=List.mem_flatMap.mp ha;show(Sl.as_of hax).imp (λz=>mem_owned.å #[x,Y4 hx,z]) λz=>mem_frozen.å #[x,Y4 hx,z]
 show#[#[λx hx=>?_,by rw[kw,Qj];show nd.2.1,λa ha hf=>?_],λ_ _ h _=>h,λa ha=>?_,λa ha=>?_]
 .let hx\/hx:=aA hx
  .let#[y,hy,e]:=aE hx;cases e;let#[z,hz,rfl]:=aE hy;show JX (w.ok z (_ac _ (Y4 hz)))
  .show w.ok x (_ab _ hx)
 .rw[kw,Qj]at ha;rw[v6,_gr]at hf;let z\/z:=aA hf
  .let z\/z:=cl a z
   .show nd.2.2 a z a ha rfl
   .show w.ds a (by symm) (by symm)
  .show w.ds a (by symm) (by symm)
 .rw[kw,Qj]at ha
  symm
 .rw[v6,_gr]at ha;rw[v6,kw];let z\/z:=aA ha
  .let z\/z:=cl a z
   .show .Z (.R (_ac _ z))
   .show .R (_ac _ z)
  .show .R (_ab _ z)
def _gu(D:k5 X.â X.w X.K X.mg X.ò k x ps (spF Z.K Z.mg n f))(hr:Room k X.A)(g:xw X Z.EX)(ha:QA X Z q cs (e::es))(hn:cs.B=n<|>Ŕ)(hg:Gl X x<|>Ŕ)(fu:Abd x<|>ŕ)
  (he:Abs e es X<|>Ŕ) (bu:Abb pos es X<|>Ŕ):
  QE X Z q (jv f cs) (.þ (.ç x p) (e::es) [] pos):=q9 (_d5 D hr g ha hg fu he bu) fun σ H Q au=>ex8 au λE L r m w hc xc kk=>
 _ge m w (hc) xc λE1 ys h1 hl xs L1 H1 e1 m1 w1 st sm=>by
  rw [Xv];let ai:xs.B=n:=by rw[<-hn,<-hl,<-e1,X3]
  cases hf:f (letAll ys)with
  | none=>symm
  | some fr=>
   rw[hf]at h1;let#[wl,sl]:=_gt w1;let ev:xs.E Sl.v=(xs.E Sl.let).E Sl.v:=by rw[Xi];rfl
   rw[ev];show#[xs.E Sl.let,fr,rfl,by rw[X3];show ai,wl.left,by rw[<-e1]at hf;rw[_gs];show hf,λE' c ee C H' hm s'=>?_,λE' a ee y H' e2 e3 w' s'=>?_]
   .subst ee;cases _aa h1;let#[w2,s2]:=stay wl s' #[λ_ z=>(nomatch z),Xr,λ_ z=>(nomatch z)];show xc _ _ rfl C L1 H' hm m1 w2 ((st.H sl).H s2)
   .subst ee;cases _aa h1;let#[w2,s2]:=stay wl s' w';show kk _ _ rfl y L1 H' e2 e3 m1 w2 ((st.H sl).H s2) λhq=>?_
    let#[a1,a2]:=sm hq;show#[λb ob hb=>s'.keep b ob (a1 b ob hb) λz=>?_,λb hb=>?_]
    .rw[Qj]at z;show nomatch z
    .let z\/z:=s'.æ b (_ac _ hb)
     .rw[Qj]at z;show nomatch z
     .show zx a1 z
end
def _gv(K:Frag):R2:=λx y H Q=>∃l k xs,x=.I l/\y=.C k/\LsR K H l xs/\-(2 ^ 63)<=k/\k<2 ^ 63/\xs.B*k.L<=sizeLine /\
 ∀p,H p=none->Q (.I p) (upd H p (.S (List.r k.L xs).flatten))
def op_repR:OpR X (binaryOp .Mult) (_gv X.K):=by
 rintro a8 s σ H x y v u Q I rx ry ⟨l,k,xs,rfl,rfl,hH,h1,h2,hz,q⟩;cases rx;let#[t,rfl]:=ry;let#[z,ab,n,r,e]:=hH.is I;let ai:ab.J.O*k.L<=sizeLine:=by rw[Xf,<-r.B];show hz
 let hcap:¬(2 ^ 63 - 1) / 8<ab.J.O*k.L:=by
  let:sizeLine<=(2 ^ 63 - 1) / 8:=.q
  lia
 let i7:¬(!Builtin.List.listFitsIndex k)=true:=by
  rw[fitsIndex_both h1 h2];show Bool.false_ne_true
 let ud:¬Builtin.List.listTooLong (ab.J.O*k.L)=true:=by
  rw[_cp ai];show Bool.false_ne_true
 let fi:List.foldl (λx1 x2=>x1++x2) (List.J []) (List.r (if ab.J.ï=true then 0 else k.L) ab.J)=(List.r k.L ab).flatten.J:=by
  let f0:∀m,List.foldl (λx1 x2=>x1++x2) (List.J []) (List.r m ab.J)=(List.r m ab).flatten.J:=λm=>by
   let:=_co ab m []
   symm
  cases ab with|nil=>simp|cons a r'=>symm
 show wpAny_binaryOp_repeat_ref .q #[_,e,rfl] (λs'=>typeIs_int s' k t) noFill_list_mul F.fills_int_mul F.slot_int_rmul repeat_list F.slot_int_index.U
  (call_meets F.slot_int_rmul (typeIs_int s k t) F.entry_int_rmul (F.args_int_rmul_2 _ _) (int___rmul___int_list k t l ab.J n)
   #[e,rfl,#[_,e,rfl],call_meets F.slot_list_mul #[_,e,rfl] F.entry_list_mul (F.args_list_mul_2 _ _) (AutoListH.list___mul___list_int_3 l ab.J n k t i7 hcap ud) #[e,?_]])
 rw[fi];show#[.I _,_,I.lnew (t':=s.ë) (r.rep k.L) (by rw[_cu,Nat.mul_comm];show hz),rfl,q _ I.û]
def _gw(K:Frag):R2:=λx y H Q=>rI IntMulOk (λi j=>.C (i*j)) x y H Q\/_gv K x y H Q\/_dp x y H Q
def _gx{K}(hK:X.K=K<|>Ŕ):OpR X (binaryOp .Mult) (_gw K):=by subst hK;show op_mulI.or (op_repR.or _dq)
def _gy(h:a.natAbs.log2<2000000):Builtin.Int.intBits a<=2000000:=by
 ext Builtin.Int.intBits
 split
 .symm
 .omega
def mulOk_of(h:_ec a b=true):IntMulOk a b:=by
 unfold _ec _eb at h;simp at h;let(h\/h)\/h:=h
 .show .of_left (intBits_le_64 h.1 h.2)
 .show .of_right (intBits_le_64 h.1 h.2)
 .let h1:=_gy h.1;let h2:=_gy h.2;ext IntMulOk Builtin.Int.intTooBig;let e:2 ^ 27=134217728:=.q
  let hb:bitsLine=134217728:=e
  grind
def RepA.reps{K}(h:RepA K H true ds xs bs):∀k,∃cs,RepA K H true (List.r k ds).flatten (List.r k xs).flatten cs/\∀b>cs,b>bs
 |0=>#[[],by dsimp[List.replicate_zero,List.flatten_nil];ext RepA;show#[rfl,rfl],λ_ z=>(nomatch z)]
 |k+1=>by
  let#[cs,r,hc]:=RepA.reps h k;show#[bs++cs,r.app h,λb hb=>(aA hb).ß id (hc b)]
#where in
def _gz{K}:Ad2 K (_gw K) _ed:=by
 intro H x y s Q ox oy hf k;unfold _ed at hf;dsimp only at hf
 split at hf
 .revert i j e1 e2
  split at hf
  .revert hm;cases _aa hf;show .R #[i,j,qj ox e1,qj oy e2,mulOk_of hm,k _ H rfl rfl QZ]
  .cases hf
 .revert a n e1 e2
  split at hf
  .revert hc;cases _aa hf;let#[l,xs,bs,e3,q3,r3,h3]:=J0 ox (.R e1) hc.2.2.2;let q3:LsR K H l xs:=by let#[_,z]\/#[z,_]:=q3;show z;rw[e1]at z;cases z
   let#[cs,r4,h4]:=r3.reps n.L;show .Z (.R #[l,n,xs,e3,qj oy e2,q3,hc.1,hc.2.1,by rw[<-r3.len];show hc.2.2.1,λp hp=>(k _ _ rfl rfl (V0 hp r4 λb hb=>_ac _ (h3 b (h4 b hb))))])
  .cases hf
 .revert z n e1 e2
  split at hf
  .revert hc;cases _aa hf;show .Z (.Z #[z,n,(z9 ox e1).1,qj oy e2,hc.1,k _ H rfl rfl (_e1 hc.2)])
  .cases hf
 .cases hf
def dec(h:Heap)(u:Value):D:=open Classical in if e:∃d,qk h d u then e.choose else .j
def _gA(r:qk h d u):dec h u=d:=by
 ext dec;let e:∃d,qk h d u:=#[d,r];rw[dif_pos e];show _fJ e.choose_spec r
def _gB:∀{ds us},CReps h ds us->us.è (λu=>peq (dec h u) d)=ds.è λz=>peq z d
 |[],_,r=>by rw[r];rfl
 |z::ds,_,r=>by
  let#[u,rr,rfl,h1,h2]:=r;rw[Zd,Zd,_gA h1,_gB h2]
def _gC:∀{ds us u},CReps h ds us->u>us->∃d>ds,qk h d u
 | [],_,_,r,hu=>by rw[r]at hu;cases hu
 | z::ds,_,u,r,hu=>by
  let#[u',rr,rfl,h1,h2]:=r;let rfl\/hu:=aD hu
  .show#[z,X5,h1]
  .let#[d,hd,c]:=_gC h2 hu;show#[d,_ad _ hd,c]
def _gD:∀{n ds d},D.flats n ds=true->d>ds->d.flat n=true
 |_,[],_,_,h=>by grind
 |n,z::ds,d,f,h=>by
  unfold D.flats at f;rw[Bool.é]at f;let rfl\/h:=aD h
  .show f.1
  .show _gD f.2 h
section
variable {K:Frag}
def _gE(K:Frag)(lz:Bool):R2:=λx y H Q=>∃d ds as bs p xs,RepL K H true d x as/\y=.I p/\(SqL K H p xs\/SqT K H p xs)/\RepA K H true ds xs bs/\d.flat 30=true/\D.flats 30 ds=true/\Q (.bl (if lz then !(ds.è λz=>peq z d)else ds.è λz=>peq z d)) H
def _gF(hu:X.A.u+64<cLine):OpR X (compareOp .In) (_gE X.K false):=by
 rintro a8 s σ H x y v u Q I rx ry ⟨d,ds,as,bs,p,xs,h1,rfl,hq,ra,f1,f2,q⟩;cases ry;let he:∀{us},CReps s.G ds us->∀w,w>us.J->SeqAt.EqAt X.A.in1 s w v (peq (dec s.G w) d):=fun {us} cr w hw=>by
  let#[d',hd,c]:=_gC cr (~~~hw);rw[_gA c];show _fU 30 (_gD f2 hd) c (W5 I h1 f1 rx) (by grind)
 let hq\/hq:=hq
 .let#[ab,r,pl,hz]:=I.list hq;let cr:=creps_of I ra f2 r;show SeqAt.in_listAt _ pl.isList (he cr) #[.bl _,H,I,rfl,?_]
  rwa [List.any_toArray,_gB cr]
 .let#[ab,r,pl,hz]:=I.tuple hq;let cr:=creps_of I ra f2 r;show SeqAt.in_tupleAt _ pl (he cr) #[.bl _,H,I,rfl,?_]
  rwa [List.any_toArray,_gB cr]
def _gG(hu:X.A.u+64<cLine):OpR X (compareOp .NotIn) (_gE X.K true):=by
 rintro a8 s σ H x y v u Q I rx ry ⟨d,ds,as,bs,p,xs,h1,rfl,hq,ra,f1,f2,q⟩;cases ry;let he:∀{us},CReps s.G ds us->∀w,w>us.J->SeqAt.EqAt X.A.in1 s w v (peq (dec s.G w) d):=fun {us} cr w hw=>by
  let#[d',hd,c]:=_gC cr (~~~hw);rw[_gA c];show _fU 30 (_gD f2 hd) c (W5 I h1 f1 rx) (by grind)
 let hq\/hq:=hq
 .let#[ab,r,pl,hz]:=I.list hq;let cr:=creps_of I ra f2 r;show SeqAt.notIn_listAt _ pl.isList (he cr) #[.bl _,H,I,rfl,?_]
  rwa [List.any_toArray,_gB cr]
 .let#[ab,r,pl,hz]:=I.tuple hq;let cr:=creps_of I ra f2 r;show SeqAt.notIn_tupleAt _ pl (he cr) #[.bl _,H,I,rfl,?_]
  rwa [List.any_toArray,_gB cr]
def _gH(lz:Bool):R2:=λx y H Q=>∃i j,x=.e i/\y=.e j/\Q (.bl (if lz then !_ef i j else _ef i j)) H
def opInStr:OpR X (compareOp .In) (_gH false):=λa8 s σ H x y v u Q I rx ry hz=>by let#[i,j,e1,e2,q]:=hz;show _bl a8 s σ H x y v u Q I rx ry #[i,j,e1,e2,q]
def opNotInStr:OpR X (compareOp .NotIn) (_gH true):=λa8 s σ H x y v u Q I rx ry hz=>by let#[i,j,e1,e2,q]:=hz;show _ci a8 s σ H x y v u Q I rx ry #[i,j,e1,e2,q]
def _gI(K:Frag)(lz:Bool):R2:=λx y H Q=>_gH lz x y H Q\/_gE K lz x y H Q
def _gJ(hu:X.A.u+64<cLine)(hK:X.K=K<|>Ŕ):OpR X (compareOp .In) (_gI K false):=by subst hK;show opInStr.or (_gF hu)
def _gK(hu:X.A.u+64<cLine)(hK:X.K=K<|>Ŕ):OpR X (compareOp .NotIn) (_gI K true):=by subst hK;show opNotInStr.or (_gG hu)
def Jk(h:LsR K H l xs):SqL K H l xs:=h.sq
def _gL{x y:Sl}(ox:x.ok K H)(oy:y.ok K H)(hy:y.d=.S ys\/y.d=.M ys)(hc:(x.d.flat 30&&D.flats 30 ys)=true)
  (k:Q (.bl (if lz then !(ys.è λz=>peq z x.d)else ys.è λz=>peq z x.d)) H):_gI K lz x.v y.v H Q:=by
 rw[Bool.é]at hc;let#[l,xs,bs,e3,q3,r3,_]:=items oy hy;let r3':RepA K H true ys xs bs:=by
  cases ho:(y.o != .dp)with|true=>rw[ho]at r3;show r3|false=>rw[ho]at r3;show r3.wk
 show .Z #[x.d,ys,x.as,bs,l,xs,RepO.wk ox,e3,?_,r3',hc.1,hc.2,k];let#[_,z]\/#[_,z]:=q3
 .show .R (Jk z)
 .show .Z z
#where in
def _gM:Ad2 K (_gI K false) (pu2 zY):=by
 intro H x y s Q ox oy hf k;unfold pu2 zY fIn at hf;dsimp only at hf;cases hy:y.d with
 | lst ys=>
  rw[hy]at hf;dsimp only at hf
  split at hf
  .revert hc;cases _aa hf;show _gL ox oy (.R hy) hc (k _ H rfl rfl wJ)
  .cases hf
 | tup ys=>
  rw[hy]at hf;dsimp only at hf
  split at hf
  .revert hc;cases _aa hf;show _gL ox oy (.Z hy) hc (k _ H rfl rfl wJ)
  .cases hf
 | str b=>
  rw[hy]at hf;dsimp only at hf
  split at hf
  .revert a hx;cases _aa hf;show .R #[a,b,(z9 ox hx).1,(z9 oy hy).1,k _ H rfl rfl wJ]
  .cases hf
 |_=>symm
#where in
def _gN:Ad2 K (_gI K true) (pu2 zw):=by
 intro H x y s Q ox oy hf k;unfold pu2 zw YQ fIn at hf;dsimp only at hf;cases hy:y.d with
 | lst ys=>
  rw[hy]at hf;dsimp only at hf
  split at hf
  .revert hc;cases _aa hf;show _gL ox oy (.R hy) hc (k _ H rfl rfl wJ)
  .cases hf
 | tup ys=>
  rw[hy]at hf;dsimp only at hf
  split at hf
  .revert hc;cases _aa hf;show _gL ox oy (.Z hy) hc (k _ H rfl rfl wJ)
  .cases hf
 | str b=>
  rw[hy]at hf;dsimp only at hf
  split at hf
  .revert a hx;cases _aa hf;show .R #[a,b,(z9 ox hx).1,(z9 oy hy).1,k _ H rfl rfl wJ]
  .cases hf
 |_=>rw[hy]at hf;cases hf
def _gO(h:RepL K H g d v as):decide (v=.j)=isNon d:=by
 cases d with|non=>unfold RepL at h;rw[h.1];rfl|bl _=>unfold RepL at h;rw[h.1];rfl|int _=>unfold RepL at h;rw[h.1];rfl|str _=>unfold RepL at h;rw[h.1];rfl|tup _=>unfold RepL at h;let#[a,xs,e,_]:=h;rw[e];rfl|lst _=>unfold RepL at h;let#[a,xs,bs,e,_]:=h;rw[e];rfl|dct _=>unfold RepL at h;let#[a,xs,bs,e,_]:=h;rw[e];rfl|obj _ _=>unfold RepL at h;let#[_,x,o,C,e,_]:=h;rw[e];rfl
#where in
def _gP:Ad2 K (λx y H Q=>y=.j/\Q (.bl (decide (x=.j))) H) (f2First fIsNon):=by
 intro H x y s Q ox oy hf k;unfold f2First fIsNon at hf
 split at hf
 .revert hy;cases _aa hf;let e:=_gO (RepO.wk oy);rw[hy]at e;show#[Yq e,?_];rw[_gO (RepO.wk ox)];show k _ H rfl rfl wJ
 .grind
#where in
def _gQ:Ad2 K (λx y H Q=>y=.j/\Q (.bl (!decide (x=.j))) H) (f2First fNotNon):=by
 intro H x y s Q ox oy hf k;unfold f2First fNotNon at hf
 split at hf
 .revert hy;cases _aa hf;let e:=_gO (RepO.wk oy);rw[hy]at e;show#[Yq e,?_];rw[_gO (RepO.wk ox)];show k _ H rfl rfl wJ
 .grind
#where in
def _gR:Ad1 K (rU λi=>.C (-i)) (pu1 JY):=by
 intro H x s Q ox hf k;unfold pu1 JY at hf
 split at hf
 .revert i e;cases _aa hf;show#[i,qj ox e,k _ H rfl rfl QZ]
 .cases hf
def _gS n i:_root_.Q.ixN n i=L2.ixN n i:=rfl
def _gT{x y:Sl}(ox:x.ok K H)(oy:y.ok K H)(hf:jY x.d y.d=@d)(k:∀z:Sl,z.o=sub x.o->z.d=d->z.ok K H->(∀b>z.ú,b>x.ú)->(∀b>z.as,b>x.as)->Q z.v H):rIx K x.v y.v H Q:=by
 let seq:∀ds,(x.d=.S ds\/x.d=.M ds)->∀i,y.d=.C i->((_root_.Q.ixN ds.B i).bind λj=>ds[j]?)=@d->rIx K x.v y.v H Q:=by
  intro ds hx i hy hd;let#[l,xs,bs,e3,q3,r3,h3,h4]:=items ox hx;cases hj:_root_.Q.ixN ds.B i with
  | none=>grind
  | some j=>
   rw [hj]at hd;let#[v,cs,e4,r4,h5]:=r3.get (hd);let kr:atI xs i=@v:=by
    ext atI
    rwa [<-r3.len,<-_gS,hj]
   let fin:Q v H:=by
    cases ho:x.o with
    | dp=>
     rw[ho]at r4;show k #[.dp,d,v,cs] (by rw[ho];rfl) rfl r4 (λb hb=>(nomatch hb)) λb hb=>h3 b (h5 b hb)
    | no=>
     rw[ho]at r4;show k #[.X,d,v,cs] (by rw[ho];rfl) rfl r4 (λb hb=>h4 .q b (h5 b hb)) λb hb=>h3 b (h5 b hb)
    | rt=>
     rw[ho]at r4;show k #[.X,d,v,cs] (by rw[ho];rfl) rfl r4 (λb hb=>h4 .q b (h5 b hb)) λb hb=>h3 b (h5 b hb)
   let#[_,z]\/#[_,z]:=q3
   .show .R #[l,xs,i,v,e3,qj oy hy,Jk z,kr,fin]
   .show .Z (.R #[l,xs,i,v,e3,qj oy hy,z,kr,fin])
 unfold jY at hf;cases hx:x.d with
 | lst ds=>
  rw [hx]at hf;cases hy:y.d with| int i=>rw[hy]at hf;show seq ds (.R hx) i hy hf| _=>rw[hy]at hf;cases hf
 | tup ds=>
  rw [hx]at hf;cases hy:y.d with| int i=>rw[hy]at hf;show seq ds (.Z hx) i hy hf| _=>rw[hy]at hf;cases hf
 | str z=>
  rw [hx]at hf;cases hy:y.d with
  | int i=>
   rw [hy]at hf;let hf:((_root_.Q.ixN z.cps.O i).bind λj=>(z.cps.p[j]?).E λc=>D.e #[%[c|0]])=@d:=hf;cases hj:_root_.Q.ixN z.cps.O i with
   | none=>grind
   | some j=>
    rw[hj]at hf;cases hc:z.cps.p[j]? with
    | none=>rw[Option.bind_some,hc]at hf;cases hf
    | some c=>
     rw[Option.bind_some,hc]at hf;cases _aa hf;let kr:atI z.cps.p i=@c:=by
      ext atI
      rwa [Y9,<-_gS,hj]
     let#[e1,hz]:=z9 ox hx;show .Z (.Z #[z,i,c,e1,qj oy hy,hz,kr,?_]);let rp:∀g,RepL K H g _ (.e #[%[c|0]]) []:=λg=>Q9 (show 1<=sizeLine by decide)
     cases ho:x.o with|dp=>show k #[.dp,.e #[%[c|0]],.e #[%[c|0]],[]] (by rw[ho];rfl) rfl (rp false) (λb hb=>(nomatch hb)) λb hb=>(nomatch hb)|no=>show k #[.X,.e #[%[c|0]],.e #[%[c|0]],[]] (by rw[ho];rfl) rfl (rp true) (λb hb=>(nomatch hb)) λb hb=>(nomatch hb)|rt=>show k #[.X,.e #[%[c|0]],.e #[%[c|0]],[]] (by rw[ho];rfl) rfl (rp true) (λb hb=>(nomatch hb)) λb hb=>(nomatch hb)
  |_=>rw[hy]at hf;cases hf
 |non=>rw[hx]at hf;cases hf|bl _=>rw[hx]at hf;cases hf|int _=>rw[hx]at hf;cases hf|dct _=>symm|obj _ _=>rw[hx]at hf;cases hf
def q_ix(ha:QV X Z qa a ea)(hb:QV X Z true b eb)(hs:_b5 eb)(hK:X.K=Z.K<|>Ŕ):QV X Z qa (jk a b) (.ì ea eb pos):=
 q9 (_b6 (hK▸_cb) ha hb hs) fun σ H Q au=>ex8 au λE L r m w hc xc k=>by
  show qK m w (hc) xc λE1 s h1 x L1 H1 e1 e2 m1 w1 ok fr sr st sm=>(qK m1 w1 h1 (xc.step st) λE2 s2 h2 y L2 H2 e3 e4 m2 w2 gj og nw bn cw=>?_)
  let#[z,hz,rfl]:=xK h2;cases hf:jY s.2 s2.2 with
  |none=>symm
  |some d=>
   rw[hf]at hz;cases _aa hz;let kx:=Q1 ok fr bn (cw rfl);show _gT kx.1 gj (by rw[e2,e4];show hf) λz zo zd uw zf za=>k _ _ rfl z L2 H2 (by symm) zd m2 w2 uw (λb hb=>kx.2 b (zf b hb)) (ZX sr za) (st.H bn) λhq=>kX (sm hq) (cw rfl)
def V2(ht:QT X Z q u e)(ha:QE X Z q a ea)(hb:QE X Z q b eb):QE X Z q (cIf u a b) (.IfExp e ea eb pos):=q9 (_aK ht ha hb) fun σ H Q au=>ex8 au λE L r m w hc xc k=>
 _fe m w (hc) xc λE1 s h1 L1 H1 m1 w1 st sm=>by
  let fin:∀{c},c E1=@r->tQ Z q c σ H1 Q:=λhc=>#[E1,L1,r,m1,w1,hc,xc.step st,λE' a z x L' H' e1 e2 m' w' fj jt=>k E' a z x L' H' e1 e2 m' w' (st.H fj) λhq=>#[kX (sm hq) (jt hq).1,λb hb=>zx (sm hq) ((jt hq).2 b hb)]]
  cases s with|true=>symm|false=>rw[Xe (by simp)]at h1 ⊢;show fin h1
def Q0(h:QE X Z q a ea):QE X Z q a (.BoolOp op [ea] pos):=_aH h
def V9(ha:QV X Z q a ea)(hb:QE X Z q b (.BoolOp .And (eb::es) pos)):QE X Z q (zW a b) (.BoolOp .And (ea::eb::es) pos):=q9 (_aI ha hb) fun σ H Q au=>ex8 au λE L r m w hc xc k=>
 qK m w (hc) xc λE1 s h1 x L1 H1 e1 e2 m1 w1 ok fr sr st sm=>by
  cases hs:s.2 with
  | bl kk=>
   rw[hs]at h1;show#[kk,Qv ok (e2.H hs),?_];cases kk with
   |true=>
    show#[E1,L1,r,m1,w1,h1,xc.step st,λE' a z x L' H' e1 e2 m' w' fj jt=>k E' a z x L' H' e1 e2 m' w' (st.H fj) λhq=>#[kX (sm hq) (jt hq).1,λb hb=>zx (sm hq) ((jt hq).2 b hb)]]
   |false=>
    cases _aa h1;let#[w3,cu]:=Q6 w1 st (wJ (fr:=[])) (λ_ z=>(nomatch z)) (λ_ z=>(nomatch z)) (λ_ z=>(nomatch z));show k _ _ rfl _ L1 H1 rfl rfl m1 w3 cu λhq=>#[sm hq,λ_ z=>(nomatch z)]
  |_=>rw[hs]at h1;cases h1
def _gU(ha:QV X Z q a ea)(hb:QE X Z q b (.BoolOp .Or (eb::es) pos)):QE X Z q (cOr a b) (.BoolOp .Or (ea::eb::es) pos):=q9 (_aJ ha hb) fun σ H Q au=>ex8 au λE L r m w hc xc k=>
 qK m w (hc) xc λE1 s h1 x L1 H1 e1 e2 m1 w1 ok fr sr st sm=>by
  cases hs:s.2 with
  | bl kk=>
   rw[hs]at h1;show#[kk,Qv ok (e2.H hs),?_];cases kk with
   |false=>
    show#[E1,L1,r,m1,w1,h1,xc.step st,λE' a z x L' H' e1 e2 m' w' fj jt=>k E' a z x L' H' e1 e2 m' w' (st.H fj) λhq=>#[kX (sm hq) (jt hq).1,λb hb=>zx (sm hq) ((jt hq).2 b hb)]]
   |true=>
    cases _aa h1;let#[w3,cu]:=Q6 w1 st (wJ (fr:=[])) (λ_ z=>(nomatch z)) (λ_ z=>(nomatch z)) (λ_ z=>(nomatch z));show k _ _ rfl _ L1 H1 rfl rfl m1 w3 cu λhq=>#[sm hq,λ_ z=>(nomatch z)]
  |_=>rw[hs]at h1;cases h1
def _gV{x:Sl}(ok:x.ok K H)(h:K0 x.d=@k)(hd:∀kvs,x.d≠.ÿ kvs):_br K x.v H k:=by
 cases hx:x.d with
 |non=>rw[hx]at h;rw[_eY ok hx];show(_aa h).i|bl b=>rw[hx]at h;rw[Qv ok hx];show(_aa h).i|int i=>rw[hx]at h;rw[qj ok hx];show(_aa h).i
 |str z=>
  rw[hx]at h;let#[e,hz]:=z9 ok hx;rw[e];show#[hz,?_];rw[<-_aa h];change _=(((z.cps.O:Nat):Int) != 0);rw[Bool.eq_iff_iff];simp
 |lst ds=>
  rw[hx]at h;let#[a,xs,bs,e,q,r,_]:=items ok (.R hx);rw[e];let q':LsR K H a xs:=by let#[_,z]\/#[z,_]:=q;show z;rw[hx]at z;cases z
  show .R #[xs,Jk q',?_];rw[<-_aa h];let:=r.len;cases ds<;>cases xs<;>symm
 |tup ds=>
  rw[hx]at h;let#[a,xs,bs,e,q,r,_]:=items ok (.Z hx);rw[e];let q':SqT K H a xs:=by let#[z,_]\/#[_,z]:=q;rw[hx]at z;cases z;show z
  show .Z (.R #[xs,q',?_]);rw[<-_aa h];let:=r.len;cases ds<;>cases xs<;>symm
 |dct kvs=>show absurd hx (hd kvs)|obj c f=>rw[hx]at h;cases h
def _gW(h:JZ d=@k):K0 d=@k/\∀kvs,d≠.ÿ kvs:=by
 cases d<;>first|show#[h,nofun]|cases h
def vq(h:QV X Z q a ea)(he:(∀gq,isTrue ea X.Y gq=(do let v <-gq;standAt ea.pos;holding [v] (truthy v)))<|>Ŗ)(hK:X.K=Z.K<|>Ŕ):QT X Z q (tEQ a) ea:=_eK (_bv h he) fun σ H Q au=>ex8 au λE L r m w hc xc k=>
 qK m w (show bnd (a E) _=@r from hc) xc λE1 s h1 x L1 H1 e1 e2 m1 w1 ok fr sr st sm=>by
  let#[kk,hk,rfl]:=xK h1;let#[h2,h3]:=_gW hk;show#[kk,hK▸_gV ok (by rw[e2];show h2) (by rw[e2];show h3),k _ _ rfl L1 H1 m1 w1 st sm]
def _gX(h:QV X Z q a ea)(hK:X.K=Z.K<|>Ŕ):QE X Z q (_eg a) (.UnaryOp .Not ea pos):=by
 intro a8 s σ H Q I ⟨E,L,r,m,w,hc,xc,k⟩;show UnaryOp_ (thn (h a8 s σ H _ I (qK (G:=λv H1=>∃kk,_br X.K v H1 kk/\Q (.bl (!kk)) H1) m w (hc) xc λE1 s h1 x L1 H1 e1 e2 m1 w1 ok fr sr st sm=>?_)) λv s1 #[x,H1,I1,r1,kk,t1,q1]=>?_)
 .let#[y,hy,rfl]:=xK h1;cases hk:JZ s.2 with
  |none=>symm
  |some kk=>
   rw[hk]at hy;cases _aa hy;let#[h2,h3]:=_gW hk;show#[kk,hK▸_gV ok (by rw[e2];show h2) (by rw[e2];show h3),?_];let#[w3,cu]:=Q6 w1 st (wJ (fr:=[])) (λ_ z=>(nomatch z)) (λ_ z=>(nomatch z)) (λ_ z=>(nomatch z));show k _ _ rfl _ L1 H1 rfl rfl m1 w3 cu λhq=>#[sm hq,λ_ z=>(nomatch z)]
 .show not_of (thn (_bu a8 s1 σ H1 x v _ I1 r1 #[kk,t1,q1]) λc s2 hz=>by let#[H2,I2,q2]:=hz;show#[.bl _,H2,I2,rfl,q2])
end
def _gY:∀{L i} {q:α},L[i]?=@q->∃A B,L=A++q::B/\∀q',L.à i q'=A++q'::B
 |[],_,_,h=>by simp at h
 |a::L,0,q,h=>by
  let e:a=q:= ~~~h
  subst e;show#[[],L,rfl,λ_=>rfl]
 |a::L,i+1,q,h=>by
  let#[A,B,e,f]:=_gY (~~~h);show#[a::A,B,by rw[e];rfl,λq'=>by rw[List.set_cons_succ,f];rfl]
section
variable {K:Frag}{H:Hp}{M T L:Ls}{y y':Sl}{l:Addr}{ob:HO}
def World.write(w:World K H (@y::(T++M)))(hl:l>y.æ)(ok':y'.ok K (upd H l ob))(nd:y'.æ.l)(h1:∀a>y'.æ,a>y.æ\/a>jx T)(h2:∀a>y'.ú,a>y.as\/a>jx T\/a>k9 T)(h3:∀a>y'.æ,a∉y'.ú):
  World K (upd H l ob) (@y'::M)/\Step H (@y::(T++M)) (upd H l ob) (@y'::M):=by
 let wn:=w.nd;rw [vk,kw,Xj,Xj]at wn;let#[n1,#[n2,n3,n4],n5]:=wn;let oy:l>jx (@y::(T++M)):=_ac _ hl;let p9:=w.own_al oy;let ds:∀a,(a>y.æ\/a>jx T\/a>jx M)->¬(a>y.ú\/a>k9 T\/a>k9 M):=λa ha hf=>by
  show w.ds a ?_ ?_
  .rw[vk,kw];let z\/z\/z:=ha
   .show _ac _ z
   .show _ab _ (_ac _ z)
   .show _ab _ (_ab _ z)
  .rw[Vj,v6];let z\/z\/z:=hf
   .show _ac _ z
   .show _ab _ (_ac _ z)
   .show _ab _ (_ab _ z)
 let noM:∀z,@z>M->l∉z.as:=λz hz ha=>by
  let q\/q:=Sl.as_of ha
  .show n5 l hl l (_ab _ (mem_owned.å #[z,hz,q])) rfl
  .show ds l (.R hl) (.Z (.Z (mem_frozen.å #[z,hz,q])))
 let ke:∀a o,H a=@o->a≠l->upd H l ob a=@o:=λa o e ne=>by rw[qz ne];show e
 let kp:∀as,l∉as->Kp H _ as:=λas hn=>by
  show#[λa xs e=>ke a _ e λz=>?_,λa o u e=>ke a _ e λz=>?_,λa ha o e=>ke a o e λz=>hn (z▸ha)]
  .lia
  .subst z;let#[_,q]\/#[_,q]\/#[_,q]:=p9<;>(rw[e]at q;cases q)
 let wM:World K (upd H l ob) M:=by
  let w1:=w.tail.right;show#[λz hz=>RepO.kp (w1.ok z hz) (kp _ (noM z hz)),w1.nd,w1.ds]
 show#[wM.ä ok' nd (λa ha hM=>?_) (λa ha hM=>?_) (λa ha hM=>?_) h3,λa o e hn=>ke a o e λz=>hn (z▸oy),λa ha=>?_,λa ha=>?_]
 .let z\/z:=h1 a ha
  .show n5 a z a (_ab _ hM) rfl
  .show n4 a z a hM rfl
 .let z\/z:=h1 a ha
  .show ds a (.R z) (.Z (.Z hM))
  .show ds a (.Z (.R z)) (.Z (.Z hM))
 .let z\/z\/z:=h2 a ha
  .let z\/z:=Sl.as_of z
   .show n5 a z a (_ab _ hM) rfl
   .show ds a (.Z (.Z hM)) (.R z)
  .show n4 a z a hM rfl
  .show ds a (.Z (.Z hM)) (.Z (.R z))
 .rw[vk,kw];let z\/z:=aA ha
  .let z\/z:=h1 a z
   .show .R (_ac _ z)
   .show .R (_ab _ (_ac _ z))
  .show .R (_ab _ (_ab _ z))
 .rw[vk,kw,Vj,v6];let z\/z:=aA ha
  .let z\/z\/z:=h2 a z
   .let z\/z:=Sl.as_of z
    .show .Z (.R (_ac _ z))
    .show .R (_ac _ z)
   .show .Z (.R (_ab _ (_ac _ z)))
   .show .R (_ab _ (_ac _ z))
  .show .R (_ab _ (_ab _ z))
def World.writeAt(w:World K H (T++L))(hy:L[i]?=some @y)(hl:l>y.æ)(ok':y'.ok K (upd H l ob))(nd:y'.æ.l)(h1:∀a>y'.æ,a>y.æ\/a>jx T)(h2:∀a>y'.ú,a>y.as\/a>jx T\/a>k9 T)(h3:∀a>y'.æ,a∉y'.ú):
  World K (upd H l ob) (L.à i @y')/\Step H (T++L) (upd H l ob) (L.à i @y'):=by
 let#[A,B,e,f]:=_gY hy;rw[f];subst e;let p:(T++(A++@y::B)).á (@y::(T++(A++B))):=by
  show(List.á.append_left T (List.perm_middle)).H List.perm_middle
 let#[w2,s2]:=World.write (w.perm p) hl ok' nd h1 h2 h3;show#[w2.perm List.perm_middle.i,s2.perm p.i List.perm_middle.i]
end
def RepA.snoc{K}(h:RepL K H g d x cs)(r:RepA K H g ds xs bs):RepA K H g (ds++[d]) (xs++[x]) (bs++cs):=by
 show RepA.app ?_ r;show#[x,[],cs,[],rfl,by simp,h,by ext RepA;show#[rfl,rfl]]
def _gZ{K}{y:Sl}(ok:y.ok K H)(hd:y.d=.S ds)(ho:y.o≠.X):∃l xs bs,y.v=.I l/\H l=@(.S xs)/\y.as=l::bs/\l>y.æ/\RepA K H (y.o != .dp) ds xs bs:=by
 let#[o,d,v,as]:=y;dsimp only at hd ho;subst hd;cases o with
 |no=>show absurd rfl ho
 |rt=>
  let#[a,xs,bs,rfl,r,q,rfl]:=(ok);show#[a,xs,bs,rfl,q,rfl,by simp[Sl.æ],r]
 |dp=>
  let ok:RepL K H false _ v as:=ok;let#[a,xs,bs,rfl,r,q]:=ok;let#[q,rfl]\/#[z,_]:=q
  .show#[a,xs,bs,rfl,q,rfl,by simp[Sl.æ],r]
  .symm
def _g0{K}(w:World K H (T++L))(hy:L[i]?=some @y)(hH:H l=@(.S xs))(ha:y.as=l::bs)(hl:l>y.æ)(hv:y.v=.I l)
  (r:RepA K H (o' != .dp) ds' xs' cs) (hc:(o'=.rt/\∀a>cs,a>bs\/a>jx T\/a>k9 T)\/(o'=.dp/\y.o=.dp/\cs.l/\∀a>cs,a>bs\/a>jx T)):
  World K (upd H l (.S xs')) (L.à i @#[o',.S ds',y.v,l::cs])/\Step H (T++L) (upd H l (.S xs')) (L.à i @#[o',.S ds',y.v,l::cs]):=by
 let oL:=mem_owned.å #[y,vQ hy,hl];let oy:l>jx (T++L):=by rw[kw];show _ab _ oL
 let nd:=w.nd;rw [kw,Xj]at nd;let nT:=λz=>nd.2.2 l z l oL rfl
 let yn:y.æ.l:=by
  let#[A,B,e,_]:=_gY hy;let:=nd.2.1;rw[e,kw,Xj]at this;show(List.nodup_append.mp this.2.1).1
 let nb:l∉bs:=λz=>by
  cases ho:y.o with
  | no=>unfold Sl.æ at hl;rw[ho]at hl;show nomatch hl
  | rt=>
   let:l>y.ú:=by ext Sl.ú;rw[ho,ha];show z
   show w.ds l oy (by rw[v6];show _ab _ (mem_frozen.å #[y,vQ hy,this]))
  | dp=>
   unfold Sl.æ at yn;rw[ho,ha]at yn;show(List.nodup_cons.mp yn).1 z
 let nc:l∉cs:=λz=>by
  let#[_,hc]\/#[_,_,_,hc]:=hc
  .let q\/q\/q:=hc l z
   .show nb q
   .show nT q
   .show(λz=>w.ds l oy (by rw[v6];show _ac _ z)) q
  .let q\/q:=hc l z
   .show nb q
   .show nT q
 let kp:Kp H (upd H l (.S xs')) cs:=by
  let k2:∀a o,H a=@o->a≠l->upd H l (.S xs') a=@o:=λa o e ne=>by rw[qz ne];show e
  show#[λa zs e=>k2 a _ e λz=>?_,λa o u e=>k2 a _ e λz=>?_,λa ha o e=>k2 a o e λz=>nc (z▸ha)]
  .symm
  .symm
 let r':=r.kp kp;let#[rfl,hc]\/#[rfl,wb,ub,hc]:=hc
 .show World.writeAt w hy hl (y':=_) #[l,xs',cs,hv,r',wY,rfl] (by simp[Sl.æ]) (λa h=>?_) (λa h=>?_) (λa h z=>?_)
  .let:a=l:=by simpa [Sl.æ]using h
   grind
  .let q\/q:=hc a (by simpa [Sl.ú]using h)
   .show .R (ha▸_ad _ q)
   .show .Z q
  .let:a=l:=by simpa [Sl.æ]using h
   subst this;show nc (by simpa [Sl.ú]using z)
 .let oa:y.æ=y.as:=by ext Sl.æ;rw[wb]
  show World.writeAt w hy hl (y':=_) ?_ (List.nodup_cons.å #[nc,ub]) (λa h=>?_) (λa h=>(nomatch h)) (λa h z=>(nomatch z))
  .change RepL K _ false _ y.v _;show#[l,xs',cs,hv,r',.R #[wY,rfl]]
  .let q\/q:=aD (h)
   .grind
   .let q\/q:=hc a q
    .show .R (by rw[oa,ha];show _ad _ q)
    .show .Z q
section
def _g1{K}{x:Sl}(ok:x.ok K H)(hd:x.d=.S ds):tyV K "list" x.v H:=by
 let#[a,xs,bs,e1,q1,_]:=items ok (.R hd);rw[e1];let#[_,z]\/#[z,_]:=q1
 .show .R #[rfl,xs,z.sq]
 .symm
def _g2{K}{x:Sl}(ok:x.ok K H) b (hb:b=false->J5 x.sd=true):∃cs,RepL K H b x.d x.v cs/\(∀a>cs,a>x.as)/\(b=false->∀a>cs,a>x.æ)/\(b=false->x.æ.l->cs.l):=by
 cases b with
 | true=>show#[x.as,RepO.wk ok,λ_ h=>h,(λz=>by cases z),(λz=>by cases z)]
 | false=>
  by_cases ho:x.o=.dp
  .let e:x.æ=x.as:=by ext Sl.æ;rw[ho]
   show#[x.as,?_,λ_ h=>h,λ_ a h=>by rw[e];show h,λ_ n=>by rw[e]at n;show n];let:=ok;unfold Sl.ok at this;rw[ho]at this;show this
  .let hp:x.d.pure=true:=by
    let z\/z:=Bool.or_eq_true_iff.mp (hb rfl)
    .show absurd (~~~z) ho
    .show z
   let#[z,rp]:=RepL.pu (g':=false) (RepO.wk ok) hp;show#[[],rp,λ_ h=>(nomatch h),λ_ _ h=>(nomatch h),λ_ _=>Xr]
def WZ{l:List α}(h:l[i]?=@x):l.à i x=l:=by
 let#[h1,h2]:=aF h;rw[<-h2];simp
def mut1 {D' f i} {G:V->V->Hp->Prop} (m:Mt E σ L) (w:World Z.K H L) (hc:vx f i c E=@r) (k:FlP Z pn D' σ H L r)
  (g:∀ l (x) (xs) (ds ds') (d) (bs cs) (H1) (gg),f ds d=@ds'->H1 l=@(.S xs)->RepA Z.K H1 gg ds xs bs->RepL Z.K H1 gg d x cs ->
   (∀ xs' es,RepA Z.K H1 gg ds' xs' es->(∀a>es,a>bs\/a>cs)->((bs++cs).l->es.l)->D'.nx σ (upd H1 l (.S xs')))->G (.I l) x H1):
  ∃ v,σ[i]?=some @v/\tyV Z.K "list" v H/\tQ Z q c σ H (G v):=by
 unfold vx at hc;cases h0:E[i]? with
 | none=>rw[h0]at hc;cases hc
 | some s0 =>
  cases s0 with
  | none=>rw[h0]at hc;cases hc
  | some s0=>
   let#[o0,d0]:=s0;cases d0 with
   | lst ds0=>
    rw [h0]at hc;let#[x0,a1,a2,a3,a4]:=m.get h0;show #[x0.v,a4,_g1 (w.ok x0 (vQ a1)) a3,(XY m w hc k λE1 s h1 x L1 H1 e1 e2 m1 w1 st _=>?_)];cases hE:E1[i]? with
    | none=>rw[hE]at h1;cases h1
    | some s1=>
     cases s1 with
     | none=>rw[hE]at h1;cases h1
     | some s1=>
      let#[oo,dd]:=s1;rw [hE]at h1;cases dd with
      | lst ds=>
       dsimp only at h1
       by_cases ie:oo=.X
       .rw [Xa ie]at h1;cases h1
       .rw [Xe ie]at h1;cases hfd:f ds s.2 with
        | none=>rw[hfd]at h1;cases h1
        | some ds'=>
         rw[hfd]at h1;let#[y,b1,b2,b3,b4]:=m1.get hE;let hv:y.v=x0.v:=by rw[a4]at b4;show(_aa (_aa b4)).i
         let#[l,xs,bs,c1,c2,c3,c4,c5]:=_gZ (w1.ok y (_ad _ (vQ b1))) b3 (b2▸ie);let ex0:=hv▸c1;rw[ex0];let wT:=w1;let ou:=w1.head;let nd:=w1.nd;rw[vk,Xj]at nd;let oT:jx [@x]=x.æ:=by simp
         let fT:k9 [@x]=x.ú:=by simp
         by_cases hd:oo=.dp/\J5 s=true
         .rw[Xa hd]at h1;cases _aa h1;let hyo:=b2.H hd.1;rw[hyo]at c5;let#[cs,r1,h3,h4,h5]:=_g2 ou false λ_=>by rw[show x.sd=s from by simp[Sl.sd,e1,e2]];show hd.2
          show g l x.v xs ds ds' s.2 bs cs H1 false hfd c2 c5 (e2▸r1) λxs' es re he hn=>?_
          let ynd:(bs++cs).l:=by
           let yo:y.æ=l::bs:=by ext Sl.æ;rw[hyo,c3]
           let#[A,B,e,_]:=_gY b1;let q:=nd.2.1;rw[e,kw,vk,Xj]at q;let q2:=(List.nodup_append.mp q.2.1).1;rw[yo]at q2;rw[Xj];show#[(List.nodup_cons.mp q2).2,h5 rfl nd.1,λa ha b hb vt=>?_];subst vt;show nd.2.2 a (h4 rfl a hb) a (mem_owned.å #[y,vQ b1,by rw[yo];show _ad _ ha]) rfl
          let#[w3,s3]:=_g0 (o':=.dp) (ds':=ds') (xs':=xs') wT b1 c2 c3 c4 c1 re (.Z #[rfl,hyo,hn ynd,λa ha=>(he a ha).imp id λz=>by rw[oT];show h4 rfl a z]);show k σ _ _ Pn.î ?_ w3 (st.H s3);let:=m1.à (x:=#[.dp,.S ds',y.v,l::es]) i;rw[WZ b4]at this;show this
         .rw[Xe hd]at h1;cases _aa h1;let c6:RepA Z.K H1 true ds xs bs:=by
           cases hb:(y.o != .dp)with|true=>rw[hb]at c5;show c5|false=>rw[hb]at c5;show c5.wk
          show g l x.v xs ds ds' s.2 bs x.as H1 true hfd c2 c6 (e2▸RepO.wk ou) λxs' es re he hn=>?_
          let#[w3,s3]:=_g0 (o':=.rt) (ds':=ds') (xs':=xs') wT b1 c2 c3 c4 c1 re (.R #[rfl,λa ha=>(he a ha).imp id λz=>by rw[oT,fT];show Sl.as_of z]);show k σ _ _ Pn.î ?_ w3 (st.H s3);let:=m1.à (x:=#[.rt,.S ds',y.v,l::es]) i;rw[WZ b4]at this;show this
      |_=>cases h1
   |_=>rw[h0]at hc;cases hc
def _g3(hb:PE X (.þ (.Attribute o "append" apos) [e] [] am) (tBM Z.K "list" _cq (z4 i) (ww8 (tQ Z q c) xzp)))(hs:swapsWith (.þ (.Attribute o "append" apos) [e] [] am) none pos.line X.Y=pure false<|>Ŕ):
  QS X Z pn (vx vK i c) (.Expr (.þ (.Attribute o "append" apos) [e] [] am) pos):=Qw (_aO hb hs) λD σ H au=>ex7 au λE L r m w hc k=>
 mut1 m w hc k λl x xs ds ds' d bs cs H1 gg hf hH ra rx fin=>by
  unfold vK at hf
  by_cases hl:ds.B<big
  .rw[Xa hl]at hf;cases _aa hf;show#[l,xs,x,rfl,rfl,hH,by rw[<-ra.len];show hl,fin _ _ (RepA.snoc rx ra) (λa ha=>aA ha) λh=>h]
  .rw[Xe hl]at hf;cases hf
end
section
variable {X:Cx}{Z:Fx0}{pn:List Nat}{q:Bool}{kc vc:Ex}{e ke ve:Expr}{st:Stmt}
def _g4{ob:Addr->HO}{C:Addr->Prop}(h:PE X e λ_ H Q=>∀p,H p=none->C p->Q (.I p) (upd H p (ob p)))(ho:o≠.X)(ok:∀H p,C p->Sl.ok Z.K (upd H p (ob p)) #[o,d,.I p,[p]]):QE X Z true (λE=>@(.ok E (o,d))) e:=q9 h fun σ H Q au=>ex8 au λE L r m w hc xc k=>by
 intro p hp hs;cases _aa hc;let out:Out Z.K H (upd H p (ob p)) #[o,d,.I p,[p]] []:=by
  show#[wV hp,ok H p hs,λb hb=>?_,?_,λb hb=>?_]<;>cases o<;>simp_all [Sl.æ,Sl.ú]
 let#[w2,s2]:=Q6 w Step.î out (nofun) (nofun) (nofun);show k _ _ rfl #[o,d,.I p,[p]] L _ rfl rfl m w2 s2 λ_=>#[out.same,out.new]
#where in
def _g5{i:Nat}{W:V->V->V->Hp->(Hp->Prop)->Prop}(hp:PS X st λD σ H=>tQ Z q vc σ H λv H1=>z4 i σ H1 λo H2=>tV Z true kc σ H2 λy H3=>W o y v H3 λH4=>D.nx σ H4)(hg:g0 none=false/\g0 @none=false)
  (spec:∀{H L} {y x z:Sl} {d} {C:Hp->Prop},L[i]?=@(@y)->World Z.K H (@x::L)->z.ok Z.K H->g (y.o,y.d) z.d x.d=@d->(∀H' as,World Z.K H' (L.à i @#[.rt,d,y.v,as])->Step H (@x::L) H' (L.à i @#[.rt,d,y.v,as])->C H')->W y.v z.v x.v H C):
  QS X Z pn (YK g0 g i kc vc) st:=Qw hp λD σ H au=>ex7 au λE L r m w hr k=>
 XY m w hr k λE1 s1 h1 x L1 H1 e1 e2 m1 w1 kf _=>by
  split at h1
  .revert hd
   match h0:E1[i]? with
   |none=>rw[h0,hg.1]at hd;cases hd|some none=>rw[h0,hg.2]at hd;cases hd
   |some @s0=>
   let#[y0,a1,a2,a3,a4]:=m1.get h0;show#[y0.v,a4,?_];let#[E2,ky,oi,pc]\/#[E2,c,oi,rfl]:=_fh h1
   .show#[E1,L1,_,m1,w1.tail,oi,(λ_ _ z=>by cases z),λE' s' z zk L2 H2 f1 f2 m2 w2 mq frz _ bn sm=>?_];injection z with z1 z2;subst z1 z2
    match hE:E2[i]? with
    |none=>rw[hE]at pc;cases pc|some none=>rw[hE]at pc;cases pc
    |some @s2=>
    rw[hE]at pc;let#[d,ef,rfl]:=Option.map_eq_some_iff.mp pc;let#[y,b1,b2,b3,b4]:=m2.get hE;let hyv:y.v=y0.v:=by rw[a4]at b4;show(_aa (_aa b4)).i
    let#[w3,cu]:=_eJ (T:=[@x]) w1 bn w2;rw[<-hyv];show spec (d:=d) b1 w3 mq (by rw[b2,b3,f2,e2];show ef) λH' as w4 gu=>k σ _ _ Pn.î ?_ w4 ((kf.H cu).H gu)
    let:=m2.à (x:=#[.rt,d,y.v,as]) i;rw[WZ b4]at this;show this
   .show#[E1,L1,_,m1,w1.tail,oi,(λE' c' e C L' H' hm m' w' st=>by injection e with z1 z2;subst z1 z2;show k C σ L' H' hm Pn.î m' w' ((kf.H Step.ñ).H st)),λE' s' z=>by cases z]
  .cases h1
end
section
def _g6(I1:L2.Inv X a8 σ H1 s1)(q:R (Its x) H1):∅ (pyIter (.e x t)) (PIE X a8 σ tg R) X.xe s1:=by
 let fp:∀b>[↥s1],x8 X a8 H1 b:=λb hb=>by
  let e:b=↥s1:= ~~~hb
  subst e;show I1.fpOk (X8 _) (I1.ô.û (X8 _))
 cases ha:x.cps.all _
 .show wpAny_pyIter_wide ha #[↥s1,[↥s1],_,_,H1,rfl,I1.kept (t':=s1.ë) λb o e=>X4 _ e,_dm (λA' hA=>PySem.Walks.strWide hA _ x t) (λ_ _ _ _ _ st h=>wpAny_pyIter_striter_wide st h) (by rfl),#[_,X9 _ rfl,rfl,rfl],fp,q]
 .show wpAny_pyIter_ascii ha #[↥s1,[↥s1],_,_,H1,rfl,I1.kept (t':=s1.ë) λb o e=>X4 _ e,_dm (λA' hA=>PySem.Walks.strAscii hA _ x t) (λ_ _ _ _ _ st h=>wpAny_pyIter_striter_ascii st h) (by rfl),#[_,X9 _ rfl,rfl,rfl],fp,q]
def _g7{K} c:Sl.ok K H #[.X,.e #[%[c|0]],.e #[%[c|0]],[]]:=by
 change RepL K H true _ _ _;show Q9 (show 1<=sizeLine by decide)
def _g8{K} i:Sl.ok K H #[.X,.C i,.C i,[]]:=by
 change RepL K H true _ _ _;show vj
def iAny(K:Frag)(tl:TE):TI:=fun σ H R=>tl σ H λx H1=>(∃a xs,x=.I a/\SqL K H1 a xs/\(xs.B<=sizeLine->R (Itl K a) H1))\/(∃a xs,x=.I a/\SqT K H1 a xs/\(xs.B<=sizeLine->R (Itt K a) H1))\/∃z,x=.e z/\R (Its z) H1
def _g9(hl:PE X l tl):PI X tg l (iAny X.K tl):=by
 intro a8 s σ H R I h;show thn (hl a8 s σ H _ I h) λv s1 hz=>?_
 let#[x,H1,I1,r1,q1]:=hz;let#[a,xs,rfl,hq,q]\/#[a,xs,rfl,hq,q]\/#[z,rfl,q]:=q1
 .cases r1;let#[ab,rv,p,hz]:=I1.list hq;show Z6 p.isList (#[↥s1,[↥s1],_,_,H1,rfl,I1.kept (t':=s1.ë) λb o e=>X4 _ e,_a0 a _,#[_,X9 _ rfl,rfl,rfl],λb hb=>?_,q hz]);let e:b=↥s1:= ~~~hb
  subst e;show I1.fpOk (X8 _) (I1.ô.û (X8 _))
 .cases r1;let#[ab,rv,p,hz]:=I1.tuple hq;show wpAny_pyIter_tuple (p) (#[↥s1,[↥s1],_,_,H1,rfl,I1.kept (t':=s1.ë) λb o e=>X4 _ e,_a1 a _,#[_,X9 _ rfl,rfl,rfl],λb hb=>?_,q hz]);let e:b=↥s1:= ~~~hb
  subst e;show I1.fpOk (X8 _) (I1.ô.û (X8 _))
 .let#[t,rfl]:=r1;show _g6 I1 q
def _ha{K}{x:Sl}(hx:x.d=.S es)(ev:x.v=.I l):∀H2,x.let.ok K H2->∃ys cs,SqL K H2 l ys/\RepA K H2 true es ys cs/\∀b>cs,b>x.as:=λH2 hok=>by
 let#[a',ys,cs,vf,q4,r4,h4,_]:=items hok (.R hx);cases V.I.inj (vf.i.H ev);let#[_,z]\/#[z,_]:=q4
 .show#[ys,cs,z.sq,r4,h4]
 .rw[show x.let.d=D.S es from hx]at z;cases z
def _hb{K}{x:Sl}(hx:x.d=.M es)(ev:x.v=.I l):∀H2,x.let.ok K H2->∃ys cs,SqT K H2 l ys/\RepA K H2 true es ys cs/\∀b>cs,b>x.as:=λH2 hok=>by
 let#[a',ys,cs,vf,q4,r4,h4,_]:=items hok (.Z hx);cases V.I.inj (vf.i.H ev);let#[z,_]\/#[_,z]:=q4
 .rw[show x.let.d=D.M es from hx]at z;cases z
 .show#[ys,cs,z,r4,h4]
def _hc{K}(w1:World K H1 (@x::L1))(st:Step H L H1 (@x::L1)):World K H1 (L1++[x.let].E some)/\Step H L H1 (L1++[x.let].E some):=by
 show#[World.comm (w1.tail.consNo (JX w1.head) rfl λb hb=>w1.apart b hb),st.keep,λb hb=>?_,λb hb=>?_]
 .let:b>jx L1:=by simpa [_ey]using hb
  show st.æ b (_ab _ this)
 .let:b>k9 L1\/b>x.as:=by simpa [_ey]using hb
  let z\/z:=this
  .show st.ú b (_ab _ z)
  .show _eM st b z
abbrev ItS(S:Hp->List V->Prop):It:=#[λi H=>∃xs x,S H xs/\xs[i]?=@x,λi H x H'=>H'=H/\∀xs,S H xs->xs[i]?=@x,λi H=>∃xs,S H xs/\xs.B<=i]
def _hd{K}{x:Sl}(ag:∀H2,x.let.ok K H2->∃ys cs,S H2 ys/\RepA K H2 true es ys cs/\∀b>cs,b>x.as):Walks K (ItS S) [x.let] es:=by
 show#[λt ht=>by rw[aC ht];rfl,λi H2 hok hi=>?_,λH2 hok=>?_,λi H2 v H3 d hok hy jy=>?_]
 all_goals let#[ys,cs,s1,s2,s3]:=ag H2 (hok _ (aB rfl))
 .let hl:=s2.len;show#[ys,ys[i]'_,s1,X1 (by symm)]
 .show#[ys,s1,by rw[s2.len];show X8 _]
 .let#[rfl,hy]:=hy;let#[v',fq,f1,f2,f3]:=s2.get jy;let:=hy ys s1;rw[f1]at this;cases _aa this;show#[#[.X,d,v,fq],rfl,rfl,rfl,z6,f2,λb hb=>#[x.let,aB rfl,s3 b (f3 b hb)]]
#where in
def qX(h:QE X Z q c e)(hK:X.K=Z.K<|>Ŕ):QI X Z q tg (itS c) e:=λa8 s σ H R I au=>ex8 au λE L r m w hc xc k=>by
 show(hK▸_g9 h) a8 s σ H R I (Wk m w (hc) xc λE1 s h1 x L1 H1 e1 e2 m1 w1 st sm=>?_);let#[ds,hd,rfl]:=xK h1;let ok:=w1.head;let#[wT,sT]:=_hc w1 st;cases hx:x.d with
 | lst es=>
  rw[<-e2,hx]at hd;cases _aa hd;let#[a,_,_,ev,_]:=items ok (.R hx);let ag:=_ha (K:=Z.K) hx ev;let#[xs,bs,q3,r3,_]:=ag H1 (JX ok);show .R #[a,xs,ev,q3,λai=>k _ _ rfl _ [x.let] L1 H1 m1 wT sT (r3.len▸ai) (λhq=>(sm hq).1) (_hd ag)]
 | tup es=>
  rw[<-e2,hx]at hd;cases _aa hd;let#[a,_,_,ev,_]:=items ok (.Z hx);let ag:=_hb (K:=Z.K) hx ev;let#[xs,bs,q3,r3,_]:=ag H1 (JX ok);show .Z (.R #[a,xs,ev,q3,λai=>k _ _ rfl _ [x.let] L1 H1 m1 wT sT (r3.len▸ai) (λhq=>(sm hq).1) (_hd ag)])
 | str z=>
  rw[<-e2,hx]at hd;let hd:(if z.cps.O<=big then @_ else none)=@ds:=hd
  split at hd
  .revert hz;cases _aa hd;show .Z (.Z #[z,(z9 ok hx).1,k _ _ rfl _ [] L1 H1 m1 (~~~w1.tail) (~~~(st.H Step.ñ)) (by rw[X3];show hz) (λhq=>(sm hq).1) #[λt ht=>(nomatch ht),λi H2 _ hi=>?_,λH2 _=>?_,λi H2 v H3 d _ hy jy=>?_]])
   .change i<z.cps.O
    symm
   .change(z.cps.p.E λc=>D.e #[%[c|0]]).B=z.cps.O;simp
   .let#[e3,cc,hc,rfl]:=hy;subst e3;rw[X7,Ye,hc]at jy;cases _aa jy;show#[_,rfl,rfl,rfl,z6,_g7 cc,λb hb=>(nomatch hb)]
  .cases hd
 |_=>rw[<-e2,hx]at hd;cases hd
def _he{K}(lo hi):Walks K (Itr lo (hi - lo).L) [] (kq lo hi):=by
 let hl:(kq lo hi).B=(hi - lo).L:=by simp[kq]
 show#[λt ht=>(nomatch ht),λi H _ iz=>by rw[hl]at iz;show iz,λH _=>by rw[hl];show X8 _,λi H v H' d _ hy hd=>?_];let#[e,rfl]:=hy;subst e;unfold kq at hd;rw[X7]at hd;cases hr:(List.range (hi - lo).L)[i]? with
 | none=>symm
 | some j=>
  rw[hr]at hd;let:j=i:=by
   let#[_,h2]:=aF hr
   simpa using h2.i
  subst this;cases _aa hd;show#[_,rfl,rfl,rfl,z6,_g8 _,λb hb=>(nomatch hb)]
def _hf(h:xV i=true):-(2 ^ 62)<=i/\i<2 ^ 62:=by
 unfold xV at h
 simpa using h
#where in
def Jj(ha:QV X Z q a ea)(hg:Gl X "range")(hm:X.mg "range"=none)(b6:starEach [ea] X.Y=[(false,eval ea X.Y)]<|>Ŕ):QI X Z q tg (xz a) (.þ (.ç "range" p) [ea] [] pos):=λa8 s σ H R I au=>ex8 au λE L r m w hc xc k=>by
 show(_a4 hg hm (x3 ha x5 b6) b6) a8 s σ H R I (qK m w (hc) xc λE1 s h1 x L1 H1 e1 e2 m1 w1 ok fr sr st sm=>?_);cases hx:s.2 with
 | int j=>
  rw[hx]at h1;dsimp only at h1
  split at h1
  .revert hj;cases _aa h1;let#[j1,j2]:=_hf hj.1;show#[j,by rw[(qj ok (e2.H hx))],j1,j2,?_];let wk:=_he (K:=Z.K) 0 j;rw[Int.sub_zero]at wk;show k _ _ rfl _ [] L1 H1 m1 (by symm) (by symm) (by dsimp[kq,X3,Y2,Int.sub_zero];show hj.2) sm wk
  .symm
 |_=>symm
def Mt.clr:∀{R E L},Mt E σ L->Mt (Q.clr R E) σ (Q.clr R L)
 | [],_,_,m=>m
 | j::R,E,L,m=>by
  let un:∀{E σ} {L} j,Mt E σ L->Mt (E.à j none) σ (L.à j none):=by
   intro E σ L j m
   induction m generalizing j with
   |nil=>show .nil
   |un m ih=>cases j with|zero=>show .un m|succ j=>show .un (ih j)
   |cons m ih=>cases j with|zero=>show .un m|succ j=>show .ä (ih j)
  change Mt (Q.clr R _) σ _;show Mt.clr (un j m)
def Mt.ñ:∀{E σ L} (k),Mt E σ L->Mt (E.ñ k) (σ.ñ k) (L.ñ k)
 |_,_,_,0,m=>m|_,_,_,k+1,.nil=>.nil|_,_,_,k+1,.un m=>m.ñ k|_,_,_,k+1,.ä m=>m.ñ k
def Mt.none_at:∀{E σ L} {j:Nat},Mt E σ L->E[j]?=@none->L[j]?=@none
 |_,_,_,_,.nil,h=>by symm|_,_,_,0,.un _,_=>by rfl|_,_,_,j+1,.un m,h=>by simpa using m.none_at (~~~h)|_,_,_,j+1,.ä m,h=>by simpa using m.none_at (~~~h)
def Mt.pick:∀{R:List Nat},Mt E σ L->Mt (R.E (at' E)) (R.E (at' σ)) (R.E (at' L))
 | [],_=>.nil
 | j::R,m=>by
  rw[List.V,List.V,List.V];cases hE:E[j]? with
  | none=>
   let hl:=m.len;let:L[j]?=none:=by rw[List.getElem?_eq_none_iff]at hE ⊢;symm
   rw[show at' E j=none from by ext at';rw[hE];rfl,show at' L j=none from by ext at';rw[this];rfl];show .un m.pick
  | some s=>
   cases s with
   |none=>
    let:L[j]?=@none:=m.none_at hE;rw[show at' E j=none from by ext at';rw[hE];rfl,show at' L j=none from by ext at';rw[this];rfl];show .un m.pick
   |some s=>
    let#[x,h1,h2,h3,h4]:=m.get hE;rw[show at' E j=@(x.o,x.d)from by ext at';rw[hE,h2,h3];rfl,show at' L j=@x from by ext at';rw[h1];rfl,show at' σ j=@x.v from by ext at';rw[h4];rfl];show .ä m.pick
def Mt.rep:∀{k},Mt E σ L->Mt (List.r k none++E) (List.r k none++σ) (List.r k none++L)
 |0,m=>by symm
 |k+1,m=>by
  show .un m.rep
def Mt.back:∀{R B τ M E L},Mt E σ L->Mt B τ M->(∀(i j:Nat) (v),R[i]?=@j->τ[i]?=@(@v)->σ[j]?=some @v)->Mt (Q.back R B E) σ (Q.back R M L)
 | [],B,τ,M,E,L,m,_,_=>by simpa [Q.back]using m| j::R,_,_,_,E,L,m,.nil,_=>by simpa [Q.back]using m
 | j::R,_,_,_,E,L,m,.un mB,h=>by
  let un:∀{E σ} {L} j,Mt E σ L->Mt (E.à j none) σ (L.à j none):=by
   intro E σ L j m
   induction m generalizing j with
   |nil=>show .nil
   |un m ih=>cases j with|zero=>show .un m|succ j=>show .un (ih j)
   |cons m ih=>cases j with|zero=>show .un m|succ j=>show .ä (ih j)
  change Mt _ σ (Q.back R _ _);show Mt.back (un j m) mB λi jj v e1 e2=>h (i+1) jj v (~~~e1) (~~~e2)
 |j::R,_,_,_,E,L,m,.ä (x:=x) mB,h=>by
  let m1:=m.à (x:=x) j;rw[WZ (h 0 j x.v (by rfl) (by rfl))]at m1;change Mt _ σ (Q.back R _ _);show Mt.back m1 mB λi jj v e1 e2=>h (i+1) jj v (~~~e1) (~~~e2)
section
def _hg:K8 k R σ=List.r k none++R.E (at' σ):=rfl
def _hh{K}(hR:R.l)(w:World K H (L++M)):World K H ((List.r k none++R.E (at' L))++(Q.clr R L++M))/\Step H (L++M) H ((List.r k none++R.E (at' L))++(Q.clr R L++M)):=by
 let p:(sls (L++M)).á (sls ((List.r k none++R.E (at' L))++(Q.clr R L++M))):=by
  let:=_eD (L:=L) hR;rw[Zv]at this;simp;rw[<-Xs];show(this.append_right _).i
 show#[w.same p,Step.î.same (List.á.î _) p]
def _hi{K}(hR:R.l)(hr:∀j>R,j<L.B)(hB:B.B=k+R.B)(w:World K H2 (B++(Q.clr R L++M))):World K H2 (Q.back R (B.ñ k) (Q.clr R L)++M)/\Step H2 (B++(Q.clr R L++M)) H2 (Q.back R (B.ñ k) (Q.clr R L)++M):=by
 let p2:(sls (Q.back R (B.ñ k) (Q.clr R L)++M)).á (sls (B.ñ k++(Q.clr R L++M))):=by
  rw[Zv,<-Xs,Zv _];show(_eG hR (λj hj=>_eF hj) (λj hj=>by rw[_eE];show hr j hj) (by symm)).append_right _
 let sub:(sls (B.ñ k++(Q.clr R L++M))).Sublist (sls (B++(Q.clr R L++M))):=by
  rw[Zv,Zv B];show List.Sublist.append ((List.drop_sublist k B).filterMap _) (List.Sublist.î _)
 show#[(w.sub sub).same p2.i,(Step.î.sub sub).same (List.á.î _) p2.i]
def _hj:∀{is es E E'},Jv is es E=@E'->E'.B=E.B
 |[],[],_,_,h=>by cases _aa h;rfl|i::is,d::es,E,E',h=>by rw[_hj (E:=E.à i _) h,List.length_set]
def _hk{t:Tg}(h:t.put d E=@E'):E'.B=E.B:=by
 cases t with
 |n i=>cases _aa h;rw[List.length_set]
 |t is=>
  cases d with|tup es=>show _hj (h)|lst es=>show _hj (h)|_=>cases h
structure LcC (Z:Fx0)(q:Bool)(tt:Tg)(u:Ts)(c:Ex)(H:Hp)(L F:Ls)(ds:List Q.D)(rB:Res (List Sd))(B:En)(LB:Ls)(ae:List Sl)(j:Nat)(τ:L2.St)(H2:Hp):Prop where
 m:Mt B τ LB
 w:World Z.K H2 (LB++(ae.E some++F))
 s:Step H L H2 (LB++(ae.E some++F))
 f:lcL tt u c (ds.ñ j) B (ae.E Sl.sd)=@rB
 e:q=true->kJ H H2/\∀b>jx (ae.E some),H b=none
inductive LcI (Z:Fx0)(q:Bool)(tt:Tg)(u:Ts)(c:Ex)(H:Hp)(L F:Ls)(ds:List Q.D)(rB:Res (List Sd))(k:Nat)(R:List Nat)(σ:L2.St):Nat->Nat->List V->L2.St->Hp->Prop
 |mk {i τ H2} (B:En) (LB:Ls) (ae:List Sl) (h:LcC Z q tt u c H L F ds rB B LB ae i τ H2) (h1:τ.B=k+R.B) (h2:Pn ((List.range R.B).E (k + ·)) (K8 k R σ) τ) (h3:i<=ds.B) (h4:ae.B<=i):LcI Z q tt u c H L F ds rB k R σ i (ds.B - i) (ae.E Sl.v) τ H2
inductive LcP (Z:Fx0)(q:Bool)(tt:Tg)(u:Ts)(c:Ex)(H:Hp)(L F:Ls)(ds:List Q.D)(rB:Res (List Sd))(ae:List Sl)(j:Nat)(τ:L2.St)(y:V)(H2:Hp):Prop
 |mk (B:En) (LB:Ls) (lj:List Sl) (h:LcC Z q tt u c H L F ds rB B LB lj j τ H2) (h1:ae.E Sl.v++[y]=lj.E Sl.v) (h2:lj.B=ae.B+1)
inductive LcN (Z:Fx0)(q:Bool)(tt:Tg)(u:Ts)(c:Ex)(H:Hp)(L F:Ls)(ds:List Q.D)(rB:Res (List Sd))(ae:List Sl)(j:Nat)(τ:L2.St)(H2:Hp):Prop
 |mk (B:En) (LB:Ls) (h:LcC Z q tt u c H L F ds rB B LB ae j τ H2)
def _hl(hσ:σ.B=nN)(hR:R.l)(hr:∀j>R,j<nN)(h:tQ Z q (cLC o k R it tt u c) σ H Q):tLC (tIS Z q it) (tG Z ((List.range R.B).E (k + ·)) tt) (tT Z q u) (tQ Z q c) k R σ H Q:=by
 let#[E,L,r,m,w,ld,xc,kk]:=h;let ld:bnd (it E) (λE ds=>match lcL tt u c ds (_eo k R E) []with
  | some (.ok B xs)=>mkL o (J3 k R B E) xs| some (.exc B e)=>@(.exc (J3 k R B E) e)
  | none=>none)=@r:=ld
 let#[E1,ds,h1,h2]\/#[E1,cc,h1,h2]:=wK ld
 rotate_left
 .show⟨E,L,_,m,w,h1,xc.E h2,λE' s' z=>by cases z⟩
 show⟨E,L,_,m,w,h1,(λ_ _ z=>by cases z),λE' ds' z J T L1 H1 m1 w1 st hz sm wk=>?_⟩;injection z with z1 z2;subst z1 z2;let hL1:∀j>R,j<L1.B:=λj hj=>by let:=m1.len;let:=hr j hj;symm
 let#[wB,sB]:=_hh (k:=k) hR w1;cases hrB:lcL tt u c ds (_eo k R E1) []with
 | none=>symm
 | some rB=>
  rw [hrB]at h2;let jm:∀{H2 A B},World Z.K H2 (A++(B++(_root_.Q.clr R L1++T.E some)))->∀t>T,t.ok Z.K H2:=λw2 t ht=>w2.ok t (_ab _ (_ab _ (_ab _ (Y4 ht))))
  let mB0:Mt (_eo k R E1) (K8 k R σ) (List.r k none++R.E (at' L1)):=(m1.pick (R:=R)).rep;let va:∀{B LB τ H2 A},Mt B τ LB->τ.B=k+R.B->Pn ((List.range R.B).E (k + ·)) (K8 k R σ) τ->World Z.K H2 (LB++(A++(_root_.Q.clr R L1++T.E some))) ->
    Mt (J3 k R B E1) σ (_root_.Q.back R (LB.ñ k) (_root_.Q.clr R L1))/\World Z.K H2 (A++_root_.Q.back R (LB.ñ k) (_root_.Q.clr R L1))/\Step H2 (LB++(A++(_root_.Q.clr R L1++T.E some))) H2 (A++_root_.Q.back R (LB.ñ k) (_root_.Q.clr R L1)):=fun {B LB τ H2 A} mB lB pB wB2=>by
   let hl:LB.B=k+R.B:=by rw[mB.len.2];show lB
   let pm:(LB++(A++(_root_.Q.clr R L1++T.E some))).á (LB++(_root_.Q.clr R L1++(A++T.E some))):=by
    show List.á.append_left _ ?_;rw [<-Xs,<-Xs];show List.á.append_right _ List.perm_append_comm
   let#[w3,s3]:=_hi (k:=k) hR hL1 hl (wB2.perm pm);let ph:(_root_.Q.back R (LB.ñ k) (_root_.Q.clr R L1)++(A++T.E some)).á ((A++_root_.Q.back R (LB.ñ k) (_root_.Q.clr R L1))++T.E some):=by
    rw [<-Xs];show List.á.append_right _ List.perm_append_comm
   show#[(Mt.back (m1.clr) (mB.ñ k) λi j v e1 e2=>?_),(w3.perm ph).left,(s3.perm pm.i ph).H Step.dropT];let hi:=(aF e1).1;rw [List.getElem?_drop,(pB (k+i) (List.mem_map.å #[i,List.mem_range.å hi,rfl])),_hg,Y1 (by simp),Zk,show k+i - k=i from by simp,X7,e1]at e2;let e4:at' σ j=@v:= ~~~e2
   unfold at' at e4;cases hh:σ[j]? with| none=>symm| some s=>symm
  show#[LcI Z q tt u c H L (_root_.Q.clr R L1++T.E some) ds rB k R σ,#[_,.mk (_eo k R E1) _ [] #[mB0,wB,st.H sB,hrB,λhq=>#[sm hq,λ_ z=>(nomatch z)]] (by simp[K8]) Pn.î (Ya _) (Ya _)],?_];rintro i n ys τ H2 ⟨B,LB,ae,⟨mB,wB2,sB2,f1,smB⟩,lB,pB,hi,av⟩
  by_cases bf:i<ds.B
  rotate_left
  .let e:i=ds.B:=.q
   subst e;rw [List.drop_length]at f1;cases _aa f1;let#[m3,w3,s3]:=va mB lB pB wB2;show .R #[wk.stop H2 (jm wB2) (λhq=>(smB hq).1),by rw[X3];lia,(_gm (σ:=σ) (Q:=Q) (o:=o) (xs:=ae) h2 rfl w3 (sB2.H s3) smB kk m3)]
  .let hd:ds.ñ i=ds[i]::ds.ñ (i+1):=List.drop_eq_getElem_cons bf;rw [hd]at f1;unfold lcL at f1;cases ca:tt.put ds[i] B with
   | none=>rw[ca]at f1;cases f1
   | some B2=>
    rw [ca]at f1;dsimp only at f1;show .Z #[wk.go i H2 (jm wB2) (λhq=>(smB hq).1) bf,λv H3 hy=>?_];let#[z,zo,zd,zv,smz,uw,zas]:=wk.yld i H2 v H3 ds[i] (jm wB2) (λhq=>(smB hq).1) hy (X1 bf);let pm:(LB++(ae.E some++(_root_.Q.clr R L1++T.E some))).á ((LB++(ae.E some++_root_.Q.clr R L1))++T.E some):=by
     rw[<-Xs (ae.E some),<-Xs]
    let#[wz,sz]:=_fA (wB2.perm pm) wk.X smz uw zo zas;let wz':World Z.K H3 ((@z::LB)++(ae.E some++(_root_.Q.clr R L1++T.E some))):=wz.perm (by
     rw[List.cons_append,List.cons_append];show List.á.ä _ pm.i)
    let sz':Step H2 (LB++(ae.E some++(_root_.Q.clr R L1++T.E some))) H3 ((@z::LB)++(ae.E some++(_root_.Q.clr R L1++T.E some))):=sz.perm pm.i (by
     rw[List.cons_append,List.cons_append];show List.á.ä _ pm.i)
    show#[B,LB,z,B2,mB,wz'.left,zo,zv,by rw[zd];show ca,fun τ2 LB2 p2 mB2 wB3 sB3=>?_];let#[w4,s4]:=stay wz' sB3 wB3;let lB2:τ2.B=k+R.B:=by
     let h1:=mB2.len.1;let h2:=mB.len.1;let h3:=_hk ca
     symm
    let p3:=pB.H p2;let uz:Step H L H3 (LB2++(ae.E some++(_root_.Q.clr R L1++T.E some))):=sB2.H (sz'.H s4);let jg:q=true->kJ H H3/\∀b>jx (ae.E some),H b=none:=λhq=>#[kX (smB hq).1 smz,(smB hq).2]
    show#[LcP Z q tt u c H L (_root_.Q.clr R L1++T.E some) ds rB ae (i+1) τ2,LcN Z q tt u c H L (_root_.Q.clr R L1++T.E some) ds rB ae (i+1) τ2,
     λy H5 #[B5,LB5,acc5,c1,c4,c5]=>#[by rw[X3];lia,ds.B - (i+1),.q,c4▸.mk B5 LB5 acc5 c1 lB2 p3 bf (by symm)],
     λH5 #[B5,LB5,c1]=>#[ds.B - (i+1),.q,.mk B5 LB5 ae c1 lB2 p3 bf .q],?_]
    let xcB:∀{α H6 L6 B6 cc A},rB=.exc B6 cc->World Z.K H6 (L6++(A++(_root_.Q.clr R L1++T.E some)))->Step H L H6 (L6++(A++(_root_.Q.clr R L1++T.E some)))->Xc Z τ2 H6 L6 (.exc B6 cc:Res α):=fun {α H6 L6 B6 cc A} er w6 s6 E7 c7 e7 C L7 H7 hm m7 w7 s7=>by
     injection e7 with e8 e9;subst e8 e9;subst er;cases _aa h2;let#[w8,s8]:=stay w6 s7 w7;let#[m9,w9,s9]:=va m7 lB2 p3 w8;show xc _ _ rfl C _ H7 hm m9 w9.right ((s6.H (s8.H s9)).H #[λ_ _ h _=>h,λa ha=>.R (by rw[kw];show _ab _ ha),λa ha=>.R (by rw[v6];show _ab _ ha)])
    let#[B4,kb,g1,g2]\/#[B4,cc,g1,g2]:=wK f1
    rotate_left
    .show#[B2,LB2,_,mB2,wB3,g1,xcB g2 w4 uz,λE' s' z=>by cases z]
    show#[B2,LB2,_,mB2,wB3,g1,(λ_ _ z=>by cases z),λE' s' z LB4 H4 mB4 wB4 sB4 qp=>?_];injection z with z1 z2;subst z1 z2;let#[w5,s5]:=stay w4 sB4 wB4;let mi:=uz.H s5;cases kb with
    | false=>
     rw[Xe .q]at g2 ⊢;show#[B4,LB4,mB4,w5,mi,g2,λhq=>#[kX (jg hq).1 (qp hq),(jg hq).2]]
    | true=>
     rw[Xa rfl]at g2 ⊢;let#[B6,y,g3,g4]\/#[B6,cc,g3,g4]:=wK g2
     rotate_left
     .show#[B4,LB4,_,mB4,wB4,g3,xcB g4 w5 mi,λE' s' z=>by cases z]
     show#[B4,LB4,_,mB4,wB4,g3,(λ_ _ z=>by cases z),λE' s' z x LB6 H6 ex ey mB6 wB6 sB6 sm6=>?_];injection z with z1 z2;subst z1 z2;let#[w7,s7]:=stay w5 sB6 wB6;let pm3:((@x::LB6)++(ae.E some++(_root_.Q.clr R L1++T.E some))).á (LB6++((ae++[x]).E some++(_root_.Q.clr R L1++T.E some))):=by
      rw[Xd,List.cons_append];let:(LB6++(ae.E some++[x].E some++(_root_.Q.clr R L1++T.E some)))=(LB6++ae.E some)++@x::(_root_.Q.clr R L1++T.E some):=by simp
      rw[this];show List.á.H ?_ List.perm_middle.i;rw[Xs]
     show#[B6,LB6,ae++[x],#[mB6,w7.perm pm3,(mi.H s7).perm (List.á.î _) pm3,?_,λhq=>#[kX (jg hq).1 (kX (qp hq) (sm6 hq).1),λb hb=>?_]],by simp,by simp]
     .rwa [Xd,show[x].E Sl.sd=[y]from by simp[Sl.sd,ex,ey]]
     .rw[Xd,kw]at hb;let hb\/hb:=aA hb
      .show(jg hq).2 b hb
      .let hb:b>x.æ:= ~~~hb
       show zx (kX (jg hq).1 (qp hq)) ((sm6 hq).2 b hb)
def _hm(N)(hi:QI X Z q tg it iter)
  (hg:∀cl C s0 H0 fp,QG (lcE X scope N cl C s0 H0 fp Z.EX) Z ((List.range R.B).E (k + ·)) tt tg) (ht:∀cl C s0 H0 fp,PTs (lcE X scope N cl C s0 H0 fp Z.EX) gr (tT Z q u)) (he:∀cl C s0 H0 fp,QE (lcE X scope N cl C s0 H0 fp Z.EX) Z q c elt)
  (gx:xw X Z.EX) (top:KW X) (hR:R.l) (hr:∀j>R,j<X.N.B) (hc:X.calm=true<|>Ŕ) (hk:scope.kind=.function<|>Ŕ) (lv:V4 X.N X.Y.ó scope N k R=true<|>Ŕ) (hs:(∀x,foldedSetIterable iter X.Y x=pure x)<|>Ŗ):
  QE X Z q (cLC o k R it tt u c) (.ListComp elt [#[tg,iter,gr,0]] scope pos):=λa8 s σ H Q I hw=>
 _d9 N k R (_fr hi) hg ht he gx top hc hk lv hs a8 s σ H Q I (_hl I.len hR hr hw)
def _hn(N)(hi:QIS X Z q tg it iter)
  (hg:∀cl C s0 H0 fp,QG (lcE X scope N cl C s0 H0 fp Z.EX) Z ((List.range R.B).E (k + ·)) tt tg) (ht:∀cl C s0 H0 fp,PTs (lcE X scope N cl C s0 H0 fp Z.EX) gr (tT Z q u)) (he:∀cl C s0 H0 fp,QE (lcE X scope N cl C s0 H0 fp Z.EX) Z q c elt)
  (gx:xw X Z.EX) (top:KW X) (hR:R.l) (hr:∀j>R,j<X.N.B) (hc:X.calm=true<|>Ŕ) (hk:scope.kind=.function<|>Ŕ) (lv:V4 X.N X.Y.ó scope N k R=true<|>Ŕ) (hs:(∀x,foldedSetIterable iter X.Y x=pure x)<|>Ŗ):
  QE X Z q (cLC o k R it tt u c) (.ListComp elt [#[tg,iter,gr,0]] scope pos):=λa8 s σ H Q I hw=>
 _d9 N k R hi hg ht he gx top hc hk lv hs a8 s σ H Q I (_hl I.len hR hr hw)
def _ho(N)(k)(R)(hN:X.N.l)(hy:X.N[i]?=@y)(hx:Loc X.Y.ó y)(hi:PI X tg iter wi)
  (hg:∀cl C s0 H0 fp,PG (lcE X scope N cl C s0 H0 fp EX) tg g) (ht:∀cl C s0 H0 fp,PTs (lcE X scope N cl C s0 H0 fp EX) gr tte) (he:∀cl C s0 H0 fp,PE (lcE X scope N cl C s0 H0 fp EX) elt te) (gx:xw X EX) (top:KW X)
  (we:swapsWith (.ListComp elt [#[tg,iter,gr,0]] scope pos) @(.ç y py) spos.line X.Y=pure true<|>Ŕ)
  (hc:X.calm=true<|>Ŕ) (hk:scope.kind=.function<|>Ŕ) (lv:V4 X.N X.Y.ó scope N k R=true<|>Ŕ) (hs:(∀x,foldedSetIterable iter X.Y x=pure x)<|>Ŗ)
  (hf:X.fn y=true\/X.Y.ó.ê.U y=@.local<|>ś):
  PS X (.Assign [.ç y py] (.ListComp elt [#[tg,iter,gr,0]] scope pos) spos) (λD σ H=>tLC wi g tte te k R σ H λv H1=>D.nx (σ.à i @v) H1):=by
 intro a8 s σ H D I h;let sc:=_c3 hk lv;let#[cl,mj,dy,cq]:=_c2 λy hy e=>I.ok.has y.1 (sc.caps y hy e)
 rw[exec_Assign_Name_used _ _ _ _ we];show X0 (wpAny_standAt (X0 ?_));show X0 (thn (wpAny_comprehension_free rfl hs mj sc.kind sc.ê
  (thn (hi a8 s σ H _ I h) λv s1 h1=>thn h1 λitv s2 h2=>?_)) λ_ s' hq=>X6 (X6 hq))
 let#[it,fp,tn,J,H2,e,I2,T,bn,f2,W,w0,turn]:=h2;subst e;show _d8 hc top sc dy cq (hg cl) (ht cl) (he cl) I2 T bn f2 w0 turn ?_ ?_
 rotate_left
 .intro D' C s' eh σ' H' x T Cc fl hC t q;show _d7 gx I2 f2 hC t q
 intro L C oC m ys H' s' I' eC nC fC q;show wpAny_assign_Name (_at I' hN hy hx (v:=.I L) rfl (λln I''=>?_) hf);let pC:=I''.pin _ (_ab _ (_ab _ (aB rfl)));show#[m,nC.at' λo e=>?_,λh' sb=>#[_,_,I''.unpinned.turned (t':=ln.ë) (λb o hb e=>(sb.2 b hb).H e) fC.1 fC.2.1 fC.2.2.2.1 fC.2.2.2.2.1 fC.2.2.2.2.2,q]]
 symm
def _hp(N)(hN:X.N.l)(hy:X.N[i]?=@y)(hx:Loc X.Y.ó y)(hi:QI X Z q tg it iter)
  (hg:∀cl C s0 H0 fp,QG (lcE X scope N cl C s0 H0 fp Z.EX) Z ((List.range R.B).E (k + ·)) tt tg) (ht:∀cl C s0 H0 fp,PTs (lcE X scope N cl C s0 H0 fp Z.EX) gr (tT Z q u)) (he:∀cl C s0 H0 fp,QE (lcE X scope N cl C s0 H0 fp Z.EX) Z q c elt)
  (gx:xw X Z.EX) (top:KW X) (hR:R.l) (hr:∀j>R,j<X.N.B) (hp:i∉pn<|>ŕ)
  (we:swapsWith (.ListComp elt [#[tg,iter,gr,0]] scope pos) @(.ç y py) spos.line X.Y=pure true<|>Ŕ)
  (hc:X.calm=true<|>Ŕ) (hk:scope.kind=.function<|>Ŕ) (lv:V4 X.N X.Y.ó scope N k R=true<|>Ŕ) (hs:(∀x,foldedSetIterable iter X.Y x=pure x)<|>Ŗ)
  (hf:X.fn y=true\/X.Y.ó.ê.U y=@.local<|>ś):
  QS X Z pn (jw i (cLC o k R it tt u c)) (.Assign [.ç y py] (.ListComp elt [#[tg,iter,gr,0]] scope pos) spos):=
 _fn hp λa8 s σ H D I hw=>_ho N k R hN hy hx (_fr hi) hg ht he gx top we hc hk lv hs hf a8 s σ H D I (_hl I.len hR hr hw)
end
end
section
variable {X:Cx}{Z:Fx0}{K:Frag}{q qa qb:Bool}{a b c:Ex}{u:Ts}{tg e ea eb:Expr}{σ:L2.St}{H:Hp}{pos p:Pos}{x:Str}{id T:String}{r:List V->Hp->VK->Prop}{f:Sd->Option Sd}{g:Sd->Sd->Option Sd}
def _hq:PTs X [] (tT Z q _root_.Q.tYes):=λa8 s σ H Q I au=>ex8 au λE L r m w hc xc k=>by
 cases _aa hc;show _da a8 s σ H Q I (k _ _ rfl L H m w Step.î λ_=>z6)
def _hr(h:QT X Z q u e):PTs X [e] (tT Z q u):=_db h
def Vw(hc:CallR X (.x id) r)(ad:Ad1 Z.K (λv H Q=>r [v] H Q) f)(ha:QV X Z q a ea)(hm:X.mg x=none)(hv:bootBuiltins x=@(.x id))(hg:Gl X x<|>Ŕ)(hn:x≠"__name__"<|>ŕ)(fu:Abd x<|>ŕ)
  (he:Abs ea [] X<|>Ŕ) (bu:Abb pos [] X<|>Ŕ):QE X Z q (cF1 f a) (.þ (.ç x p) [ea] [] pos):=
 q9 (_bN hc hg hm hv (x3 ha x5 he) hn fu he bu) fun σ H Q h=>_eV ad h
def JW(hc:CallR X (.h T) r)(ad:Ad1 Z.K (λv H Q=>r [v] H Q) f)(ha:QV X Z q a ea)(hm:X.mg x=none)(hv:bootBuiltins x=@(.h T))(hg:Gl X x<|>Ŕ)(hn:x≠"__name__"<|>ŕ)(fu:Abd x<|>ŕ)
  (he:Abs ea [] X<|>Ŕ) (bu:Abb pos [] X<|>Ŕ):QE X Z q (cF1 f a) (.þ (.ç x p) [ea] [] pos):=
 q9 (_bO hc hg hm hv (x3 ha x5 he) hn fu he bu) fun σ H Q h=>_eV ad h
def _hs:Ad1 K (λv H Q=>_dw K [v] H Q) (pu1 v3):=by
 intro H x s Q ok hf k;unfold pu1 at hf;let fin:∀n,v3 x.d=@(.C n)->Q (.C n) H:=λn e=>by
  rw[e]at hf;cases _aa hf;show k _ H rfl rfl QZ
 cases hx:x.d with
 |lst ds=>
  let#[l,xs,bs,e,q,r,_]:=items ok (.R hx);show .R #[l,xs,by rw[e],?_,by rw[<-r.len];show fin ds.B (by rw[hx];rfl)];let#[_,z]\/#[_,z]:=q
  .show .R (Jk z)
  .show .Z z
 |tup ds=>
  let#[l,xs,bs,e,q,r,_]:=items ok (.Z hx);show .R #[l,xs,by rw[e],?_,by rw[<-r.len];show fin ds.B (by rw[hx];rfl)];let#[_,z]\/#[_,z]:=q
  .show .R (Jk z)
  .show .Z z
 |str z=>
  let#[e,hz]:=z9 ok hx;show .Z (.R #[z,by rw[e],hz,fin z.B (by rw[hx];rfl)])
 |_=>rw[hx]at hf;cases hf
def _ht(K:Frag):List V->Hp->VK->Prop:=λxs H Q=>_dg K xs H Q\/(∃p ys U,xs=[.I p,.ty U]/\SqT K H p ys/\U>kinds.tail/\Q (.bl (_de "tuple" U)) H)\/∃p ys U,xs=[.I p,.ty U]/\SqL K H p ys/\U>kinds.tail/\Q (.bl (_de "list" U)) H
def _hu(hK:X.K=K<|>Ŕ):CallR X (.x "isinstance") (_ht K):=by
 subst hK;intro a8 s σ H xs us Q I r h;let h\/#[p,ys,U,rfl,hq,hU,q]\/#[p,ys,U,rfl,hq,hU,q]:=h
 .show _dh a8 s σ H xs us Q I r h
 .let#[u,w',rfl,r1,r2]:=_bw r;cases(show w'=Value.h U from r2);cases r1;let#[ab,_,#[o,h1,h2,_],_]:=I.tuple hq;show Yj PySem.W.kitx_tuple I.kIn #[o,h1,h2] (_df .q hU) (nofun) λtk=>#[.bl _,H,I.tok _,rfl,q]
 .let#[u,w',rfl,r1,r2]:=_bw r;cases(show w'=Value.h U from r2);cases r1;let#[ab,_,#[o,n,h1,h2,_],_]:=I.list hq;show Yj PySem.W.kitx_list I.kIn #[o,h1,h2] (_df .q hU) (nofun) λtk=>#[.bl _,H,I.tok _,rfl,q]
def _hv(hU:U>kinds.tail):Ad1 K (λv H Q=>_ht K [v,.ty U] H Q) (pu1 (zZ U)):=by
 intro H x s Q ok hf k;unfold pu1 zZ at hf;let fin:∀T,kind x.d=T->(∀c f,x.d≠.obj c f)->Q (.bl (_de T U)) H:=λT e ho=>by
  cases hx:x.d with
  |obj c f=>show absurd hx (ho c f)|dct kvs=>symm
  |_=>
   rw[hx]at hf;cases _aa hf;rw[<-e,hx];show k _ H rfl rfl wJ
 cases hx:x.d with
 |non=>show .R #[x.v,"NoneType",U,rfl,by rw[_eY ok hx];show .j,.q,hU,fin _ (by rw[hx];rfl) (by symm)]|bl k=>show .R #[x.v,"bool",U,rfl,by rw[Qv ok hx];show .bl _,.q,hU,fin _ (by rw[hx];rfl) (hx▸nofun)]|int k=>show .R #[x.v,"int",U,rfl,by rw[qj ok hx];show .C _,.q,hU,fin _ (by rw[hx];rfl) (hx▸nofun)]|str k=>show .R #[x.v,"str",U,rfl,by rw[(z9 ok hx).1];show .e _,.q,hU,fin _ (by rw[hx];rfl) (hx▸nofun)]
 |lst ds=>
  let#[l,xs,bs,e,q,r,_]:=items ok (.R hx);let f:=fin "list" (by rw[hx];rfl) (hx▸nofun);let#[_,z]\/#[z,_]:=q
  .show .Z (.Z #[l,xs,U,by rw[e],z.sq,hU,f])
  .symm
 |tup ds=>
  let#[l,xs,bs,e,q,r,_]:=items ok (.Z hx);let f:=fin "tuple" (by rw[hx];rfl) (hx▸nofun);let#[z,_]\/#[_,z]:=q
  .symm
  .show .Z (.R #[l,xs,U,by rw[e],z,hU,f])
 |dct kvs=>symm|obj c f=>symm
def _hw(ha:QV X Z q a ea)(hm:X.mg "isinstance"=none)(hmy:X.mg y=none)(hy:bootBuiltins y=@(.h U))(hK:X.K=Z.K)(hU:U>kinds.tail<|>ŕ)(hg:Gl X "isinstance"<|>Ŕ)(hgy:Gl X y<|>Ŕ)(hny:y≠"__name__"<|>ŕ)(hdy:Abd y<|>ŕ)
  (he:starEach [ea,.ç y p2] X.Y=(false,eval ea X.Y)::starEach [.ç y p2] X.Y<|>Ŕ) (he2:starEach [.ç y p2] X.Y=(false,eval (.ç y p2) X.Y)::starEach [] X.Y<|>Ŕ) (bu:(backTo pos (starEach [.ç y p2] X.Y)).è (·.1)=false<|>Ŕ):
  QE X Z q (cF1 (pu1 (zZ U)) a) (.þ (.ç "isinstance" p) [ea,.ç y p2] [] pos):=
 q9 (_bN (_hu hK) hg hm _dC (x3 ha (x3 (_aB (v:=.ty U) hgy hmy hy rfl hny hdy) x5 he2) he) .q (by rfl) he bu) fun σ H Q h=>_eV (_hv hU) h
#where in
def _hx:Ad1 K (λv H Q=>_dP [v] H Q) (pu1 Q2):=by
 intro H x s Q ok hf k;unfold pu1 Q2 at hf;dsimp only at hf
 split at hf
 .revert i e;cases _aa hf;show .R #[i,by rw[qj ok e],k _ H rfl rfl QZ]
 .revert i e;cases _aa hf;show .Z (.R #[i,by rw[Qv ok e],k _ H rfl rfl QZ])
 .revert z e
  split at hf
  .revert hz;cases ht:PySem.intText? z with
   |none=>symm
   |some n=>
    rw[ht]at hf;cases _aa hf;show .Z (.Z #[z,n,by rw[(z9 ok e).1],ht,hz,k _ H rfl rfl QZ])
  .grind
 .grind
#where in
def _hy:Ad1 K (λv H Q=>_dM K [v] H Q) Wv:=by
 intro H x s Q ok hf k;unfold Wv at hf;dsimp only at hf
 split at hf
 .revert ds e
  split at hf
  .revert hl;cases _aa hf;let#[l,xs,bs,ev,q3,r3,h3]:=J0 ok (.R e) hl;let q3:LsR K H l xs:=by let#[_,z]\/#[z,_]:=q3;show z;rw[e]at z;cases z
   show#[l,xs,by rw[ev],.R (Jk q3),λp hp=>k _ _ rfl rfl (V0 hp r3 h3)]
  .cases hf
 .revert ds e
  split at hf
  .revert hl;cases _aa hf;let#[l,xs,bs,ev,q3,r3,h3]:=J0 ok (.Z e) hl;let q3:SqT K H l xs:=by let#[z,_]\/#[_,z]:=q3;rw[e]at z;cases z;show z
   show#[l,xs,by rw[ev],.Z q3,λp hp=>k _ _ rfl rfl (V0 hp r3 h3)]
  .cases hf
 .cases hf
def _hz(K:Frag):List V->Hp->VK->Prop:=λxs H Q=>∃p ys,xs=[.I p]/\((SqL K H p ys/\∀l,H l=none->Q (.I l) (upd H l (.M ys)))\/(SqT K H p ys/\Q (.I p) H))
def _hA(hK:X.K=K):CallR X (.h "tuple") (_hz K):=by subst hK;show _ck
#where in
def _hB:Ad1 K (λv H Q=>_hz K [v] H Q) J7:=by
 intro H x s Q ok hf k;unfold J7 at hf;dsimp only at hf
 split at hf
 .revert ds e
  split at hf
  .revert hl;cases _aa hf;let#[l,xs,bs,ev,q3,r3,h3]:=J0 ok (.R e) hl;let q3:LsR K H l xs:=by let#[_,z]\/#[z,_]:=q3;show z;rw[e]at z;cases z
   show#[l,xs,by rw[ev],.R #[Jk q3,λp hp=>k _ _ rfl rfl (_fb hp r3 h3)]]
  .cases hf
 .revert ds e
  split at hf
  .revert hl;cases _aa hf;let#[l,xs,bs,ev,q3,r3,h3]:=J0 ok (.Z e) hl;let q3:SqT K H l xs:=by let#[z,_]\/#[_,z]:=q3;rw[e]at z;cases z;show z
   show#[l,xs,by rw[ev],.Z #[q3,k #[.X,.M ds,.I l,bs] H rfl rfl #[z6,(#[l,xs,rfl,q3,r3]),λb hb=>(nomatch hb),Xr,λb hb=>h3 b hb]]]
  .cases hf
 .cases hf
def _hC{g}:∀{ds bs xs as},bls ds=@bs->RepA K H g ds xs as->xs=bs.E V.bl
 | [],bs,xs,as,h,r=>by
  cases _aa h;show r.1
 | d::ds,bs,xs,as,h,r=>by
  cases d with
  | bl b=>
   unfold bls at h;cases hb:bls ds with
   |none=>grind
   |some fq=>
    rw[hb]at h;cases _aa h;let#[x,rr,c1,c2,rfl,rfl,h1,h2]:=r;rw[h1.1,_hC hb h2];rfl
  |_=>unfold bls at h;cases h
#where in
def _hD:Ad1 K (λv H Q=>_dk K [v] H Q) (pu1 _eq):=by
 intro H x s Q ok hf k;unfold pu1 _eq at hf;dsimp only at hf
 split at hf
 .revert ds e;cases hb:bls ds with
  |none=>symm
  |some bs=>
   rw[hb]at hf;cases _aa hf;let#[l,xs,cs,ev,q3,r3,_]:=items ok (.R e);let q3:LsR K H l xs:=by let#[_,z]\/#[z,_]:=q3;show z;rw[e]at z;cases z
   show#[l,bs,by rw[ev],by rw[<-_hC hb r3];show Jk q3,k _ H rfl rfl wJ]
 .cases hf
def _hE{g}:∀x y s,pu2 (c2 g) x y=@s->∃k,s.2=.bl k:=by
 intro x y s h;unfold pu2 c2 at h
 split at h
 .grind
 .symm
def _hF:∀x y s,pu2 fEq x y=@s->∃k,s.2=.bl k:=by
 intro x y s h;unfold pu2 fEq at h
 split at h
 .grind
 .symm
def _hG:∀x y s,pu2 fNe x y=@s->∃k,s.2=.bl k:=by
 intro x y s h;unfold pu2 fNe at h
 split at h
 .grind
 .symm
def _hH{x y d}(h:fIn x y=@d):∃k,d=.bl k:=by
 unfold fIn at h
 split at h
 .split at h
  .grind
  .grind
 .grind
 .split at h
  .grind
  .grind
 .grind
 .grind
def _hI:∀x y s,pu2 zY x y=@s->∃k,s.2=.bl k:=by
 intro x y s h;unfold pu2 zY at h
 split at h
 .symm
 .cases hf:fIn x.2 y.2 with
  |none=>symm
  |some d=>
   rw[hf]at h;cases _aa h;show _hH hf
def _hJ:∀x y s,pu2 zw x y=@s->∃k,s.2=.bl k:=by
 intro x y s h;unfold pu2 zw YQ at h
 split at h
 .symm
 .cases hf:fIn x.2 y.2 with
  |none=>rw[hf]at h;cases h
  |some d=>
   let#[k,rfl]:=_hH hf;rw[hf]at h;cases _aa h;show#[_,rfl]
def _hK:∀x y s,f2First fIsNon x y=@s->∃k,s.2=.bl k:=by
 intro x y s h;unfold f2First fIsNon at h
 split at h
 .grind
 .symm
def _hL:∀x y s,f2First fNotNon x y=@s->∃k,s.2=.bl k:=by
 intro x y s h;unfold f2First fNotNon at h
 split at h
 .grind
 .grind
def _hM:∀{xs us},xs.B=us.B->(∀(i:Nat) (x) (u),xs[i]?=@x->us[i]?=@u->RelV x u)->Vals xs us
 |[],[],_,_=>.nil|[],_::_,h,_=>by symm|x::xs,u::us,h,f=>.ä (f 0 x u (by rfl) (by rfl)) (_hM (~~~h) λi x u e1 e2=>f (i+1) x u (~~~e1) (~~~e2))
def _hN(ha:QV X Z q a ea)(su:X.mg "range"=none)(qd:Gl X "range")(b6:starEach [ea] X.Y=(false,eval ea X.Y)::starEach [] X.Y)(bu:(backTo cj (starEach [] X.Y)).è (·.1)=false):PE X (.þ (.ç "range" p2) [ea] [] cj) (fun σ H Q=>tV Z q a σ H λv H1=>∃j,v=.C j/\∀pp,H1 pp=none->Q (.I pp) (upd H1 pp (.rng 0 j))):=by
 intro a8 s σ H Q I h;show Call_ (JK I qd su boot_range (Y6 (thn (x3 ha x5 b6 cj a8 s σ H (λvs H1=>∃j,vs=[.C j]/\∀pp,H1 pp=none->Q (.I pp) (upd H1 pp (.rng 0 j))) I ?_) λus s1 #[vs,H1,I1,r1,j,e,q1]=>?_) b6 bu))
 .grind
 .subst e;let#[u,rfl,t,rfl]:=r1.one;show call_range_1 #[.I ↥s1,_,I1.laid (o:=.rng 0 j) (λb o e=>X4 _ e) (X8 _) #[_,_,_,X9 _ rfl],rfl,q1 _ I1.û]
def _hO(ns:List Nat):RepA K H true (ns.E λ(i:Nat)=>D.C (0+i)) (ns.E λ(i:Nat)=>V.C (0+i)) []:=by
 induction ns with
 |nil=>ext RepA;show#[rfl,rfl]
 |cons i ns ih=>
  show#[_,_,[],[],rfl,rfl,vj,ih]
def _hP{ae:Array Value}(hs:ae.O=n)(hg:∀(i:Nat) u,ae[i]?=@u->∃t,u=.C (0+i*1) t):Vals ((List.range n).E λ(i:Nat)=>V.C (0+i)) ae.p:=_hM (by simp[hs]) λi x u ex eu=>by
 rw[Ye]at eu;let#[t,rfl]:=hg i u eu;rw[X7]at ex;let#[m,hr,rfl]:=Option.map_eq_some_iff.mp ex;let#[_,h2]:=aF hr;rw[List.getElem_range]at h2;subst h2;show#[t,by rw[Int.mul_one]]
#where in
def _hQ(ha:QV X Z q a ea)(su:X.mg "range"=none)(xb:X.mg "list"=none)(hc:X.calm=true<|>Ŕ)(qd:Gl X "range"<|>Ŕ)(ul:Gl X "list"<|>Ŕ)
  (b6:Abs ea [] X<|>Ŕ) (bu:Abb cj [] X<|>Ŕ)
  (jp:starEach [.þ (.ç "range" p2) [ea] [] cj] X.Y=(false,eval (.þ (.ç "range" p2) [ea] [] cj) X.Y)::starEach [] X.Y<|>Ŕ) (mo:Abb pos [] X<|>Ŕ):
  QE X Z q (XJ a) (.þ (.ç "list" p) [.þ (.ç "range" p2) [ea] [] cj] [] pos):=by
 intro a8 s σ H Q I h;let#[E,L,r,m,w,ld,xc,k]:=h;show Z2 (JK I ul xb Qq (Y6 (thn (x3 (_hN ha su qd b6 bu) x5 jp pos a8 s σ H (λvs H1=>∃pp j,vs=[.I pp]/\H1 pp=@(.rng 0 j)/\xV j=true/\j.L<=big/\∀l,H1 l=none->Q (.I l) (upd H1 l (.S ((List.range j.L).E λ(i:Nat)=>V.C (0+(i)))))) I ?_) λus s1 h=>?_) jp mo))
 .show qK m w (ld) xc λE1 s h1 x L1 H1 e1 e2 m1 w1 ok fr sr st sm=>?_
  cases hx:s.2 with
  | int j=>
   rw[hx]at h1;dsimp only at h1
   split at h1
   .revert hj;cases _aa h1;show#[j,qj ok (e2.H hx),λpp hpp=>#[pp,j,rfl,wY,hj.1,hj.2,λl hl=>?_]];let s1:kJ H1 (upd H1 pp (.rng 0 j)):=wV hpp;let w2:World Z.K _ L1:=#[λx hx=>RepO.kp (w1.ok x hx) (Kp.of_same s1),w1.nd,w1.ds];let o:=V0 (K:=Z.K) (fr:=[]) hl (_hO (List.range j.L)) (λ_ z=>(nomatch z));let#[w3,cu]:=Q6 w2 (st.H #[λb ob z _=>s1 b ob z,λb z=>.R z,λb z=>.R z]) o (λ_ z=>(nomatch z)) (λ_ z=>(nomatch z)) (λ_ z=>(nomatch z));show k _ _ rfl #[.rt,.S _,.I l,[l]] L1 _ rfl rfl m1 (by simpa [kq]using w3) (by simpa [kq]using cu) λhq=>#[kX (sm hq) (kX s1 o.same),λb hb=>?_]
    let:b=l:=by simpa [Sl.æ]using hb
    subst this;show zx (kX (sm hq) s1) hl
   .cases h1
  |_=>rw[hx]at h1;cases h1
 .let#[vs,H1,I1,r1,pp,j,rfl,hp,h62,sj,q1]:=h;let#[u,rfl,rx]:=r1.one;cases rx;let#[t1,t2,t3,hg]:=(I1.ô pp _ hp);let#[j1,j2]:=_hf h62;let e2:Builtin.Range.rangeSize 0 j 1=((j.L:Nat):Int):=by rw[rangeSize_one];split<;>grind
  show call_list_range (I1.ok.hd hc) (hg) (small_one .q .q j1 j2) e2 sj λh' tk lr c' kp e4 fm=>?_
  let#[hs,yc]:=fm;show#[.I ↥s1,_,I1.laid (o:=.S _) (t':=tk) kp (X8 _) #[by rw[X3,Y2];show sj,lr.p,c',_hP hs yc,~~~e4],rfl,q1 _ I1.û]
end
end Q
namespace Q
open PySem
def WX:Sm:=λ_=>none
def Zx(n d:Nat):Option Int->Nat
 |none=>d|some v=>if v<0 then(v+(n:Int)).L else min v.L n
def Qz(xs:List D)(lo hi:Option Int):List D:=(xs.ñ (Zx xs.B 0 lo)).take (Zx xs.B xs.B hi - Zx xs.B 0 lo)
def fSl:Sd->Option Int->Option Int->Option Sd:=λx lo hi=>match x.2 with
 |.S xs=>if qY x then @(.rt,.S (Qz xs lo hi))else none|.M xs=>if qY x/\¬(Zx xs.B 0 lo=0/\Zx xs.B xs.B hi=xs.B)then @(.X,.M (Qz xs lo hi))else none|.e z=>if(Txt.slice z lo hi).B<=big then @(.dp,.e (Txt.slice z lo hi))else none|_=>none
def Zw:Option Ex->Ev (Option Int)
 |none,E=>@(.ok E none)
 |some c,E=>bnd (c E) λE x=>match x.2 with
  |.C i=>@(.ok E @i)|_=>none
def cSl(a:Ex)(lo hi:Option Ex):Ex:=λE=>bnd (a E) λE x=>bnd (Zw lo E) λE l=>bnd (Zw hi E) λE h=>val E (fSl x l h)
def J9:Nat->List D->List D
 |_,[]=>[]|k,d::ds=>.M [.C k,d]::J9 (k+1) ds
def lstOf:D->Option (List D)
 |.S xs=>@xs|_=>none
def _hR(c:Ex):Ev (List D):=λE=>bnd (c E) λE x=>val E ((lstOf x.2).E (J9 0))
def Kq:List D->Option (List Str)
 |[]=>⇑[]|.e z::ds=>(Kq ds).E (z :: ·)|_=>none
def V1:List D->Option (List Int)
 |[]=>⇑[]|.C z::ds=>(V1 ds).E (z :: ·)|_=>none
def J1(a:Str):List Str->List Str
 |[]=>[a]|b::r=>if Spec.ltCps b.cps.p a.cps.p then b::J1 a r else a::b::r
def xv:List Str->List Str
 |[]=>[]|a::r=>J1 a (xv r)
def _hS:D->D->Option D:=λxs x=>match xs with
 |.S ys=>if x.flat 30&&D.flats 30 ys then(ys.findIdx? λz=>peq z x).E λ(j:Nat)=>D.C (j:Int)else none|.M ys=>if x.flat 30&&D.flats 30 ys then(ys.findIdx? λz=>peq z x).E λ(j:Nat)=>D.C (j:Int)else none|_=>none
def isSq:D->Bool
 |.S _=>true|.M _=>true|_=>false
def Q7(a b:Ex):Ex:=λE=>bnd (a E) λE x=>if isSq x.2 then bnd (b E) λE y=>val E (pu2 _hS x y)else none
def _hT(i:Nat)(c:Ex):Ex:=λE=>if _ep E[i]? then bnd (c E) λE x=>match E[i]?,x.2 with
 | some @(o,.S xs),.C k=>if o=.X then none else(match ixN xs.B k with
  |some j=>(match xs[j]? with
   |some d=>if d.pure&&xV k then @(.ok (E.à i @(o,.S (xs.ø j))) (.dp,d))else none
   |none=>none)
  |none=>none)
 |_,_=>none
 else none
def _hU(f:Fn)(cs:List Ex):Ex:=λE=>bnd (vW cs E) λE xs=>match f (letAll xs)with
 |some (.ok _ y)=>if y.2.pure then @(.ok E (.dp,y.2))else none|some (.exc _ c)=>@(.exc E c)|none=>none
def KY:Sd->Sd->Option Sd:=λx y=>match x.2,y.2 with
 |.M a,.C k=>if -(2 ^ 63)<=k/\k<2 ^ 63/\a.B*k.L<=big/\qY x then @(.X,.M (List.r k.L a).flatten)else none|_,_=>_ed x y
def _hV(f g:D->D->Option D)(a b c:Ex):Ex:=λE=>bnd (a E) λE x=>bnd (b E) λE y=>match f x.2 y.2 with
 |some (.bl true)=>bnd (c E) λE z=>val E ((g y.2 z.2).E λd=>(.dp,d))|some (.bl false)=>@(.ok E (.dp,.bl false))|_=>none
def _hW:D->Bool
 |.M _=>true|_=>false
def qV(x:D):Bool:=qJ 6 x&&_hW x
def W9:D->D->Option D:=λx y=>match y with
 |.ÿ kvs=>if qV x=true/\unm kvs=true then @(.bl (decide (x>kvs.E (·.1))))else none|_=>none
def WV:D->D->Option D:=λx y=>match y with
 |.ÿ kvs=>if qV x=true/\unm kvs=true then @(.bl (!decide (x>kvs.E (·.1))))else none|_=>none
def _hX:Ex:=λE=>@(.ok E (.rt,.ÿ []))
def V7(kvs:List (D×D))(k v:D):List (D×D):=if k>kvs.E (·.1)then kvs.E λe=>if e.1=k then(k,v)else e else kvs++[(k,v)]
def _hY:Option (Option Sd)->Bool
 |some @(.rt,.ÿ _)=>true|_=>false
def _hZ : Sd -> D -> D -> Option D:= λs k v=>match s with
  |(.rt,.ÿ kvs)=>if qV k = true /\ kvs.B<big /\ unm kvs = true then @(.ÿ (V7 kvs k v))else none|_=>none
def _h0:Nat->Ex->Ex->Sm:=YK _hY _hZ
def _h1(kc vc:Ex):Ex:=λE=>bnd (kc E) λE k=>bnd (vc E) λE v=>if qV k.2=true then @(.ok E (.rt,.ÿ [(k.2,v.2)]))else none
def Zz:Sd->Option Sd:=λx=>match x.2 with
 |.ÿ kvs=>if kvs.B<=big/\unm kvs=true then @(.rt,.S (kvs.E (·.1)))else none|_=>none
def _h2 : Sd -> D -> D -> Option D:= λs k v=>match s,k with
  |(o,.S xs),.C j=>if o = .X then none else(ixN xs.B j).E λn=>.S (xs.à n v)|_,_=>none
def _h3:Nat->Ex->Ex->Sm:=YK _ep _h2
def _h4(f:Int->Int->Int)(i:Nat)(c:Ex):Sm:=λE=>match E[i]? with
 |some @(_,.C a)=>ofE (c E) λE x=>(match x.2 with
  |.C b=>@(.nx (E.à i @(.dp,.C (f a b))))
  |_=>none)
 |_=>none
noncomputable def mkD:D×D:=(.e "",.j)
def wX(kv:List (Int×Int)):D:=.ÿ (mkD::kv.E λp=>(.C p.1,.C p.2))
def _h5 : List (D × D) -> Option (List (Int × Int))
  |[]=>⇑[]|(.C k,.C v)::r=>(_h5 r).E ((k,v):: ·)|_=>none
def zK:D->Option (List (Int×Int)):=λd=>match d with
 |.ÿ ((.e _,.j)::kvs)=>_h5 kvs|_=>none
def jW(kv:List (Int×Int))(k:Int):Option Int:=(kv.find? λp=>decide (p.1=k)).E (·.2)
def v4(kv:List (Int×Int))(k v:Int):List (Int×Int):=if(kv.è λp=>decide (p.1=k))=true then kv.E (λp=>if p.1=k then(p.1,v)else p)else kv++[(k,v)]
def _h6:Ex:=λE=>@(.ok E (.rt,wX []))
def _h7:D->D->Option D:=λx y=>match x,zK y with
 |.C k,@kv=>@(.bl (jW kv k).isSome)|_,_=>none
def _h8:D->D->Option D:=λx y=>match x,zK y with
 |.C k,@kv=>@(.bl (!(jW kv k).isSome))|_,_=>none
def _h9:D->D->Option D:=λy x=>match x,zK y with
 |.C k,@kv=>(jW kv k).E .C|_,_=>none
def _ia(a b:Ex):Ex:=λE=>bnd (a E) λE x=>bnd (b E) λE y=>val E ((_h9 x.2 y.2).E λd=>(.dp,d))
def _ib:D->D->D->Option D:=λy x e=>match x,e,zK y with
 |.C k,.C z,@kv=>@(.C ((jW kv k).s z))|_,_,_=>none
def _ic(d:D):Bool:=(zK d).isSome
def _id(a b c:Ex):Ex:=λE=>bnd (a E) λE x=>if _ic x.2=true then bnd (b E) λE y=>bnd (c E) λE z=>val E ((_ib x.2 y.2 z.2).E λd=>(.dp,d))else none
def _ie : Sd -> D -> D -> Option D:= λs k v=>match s,k,v with
  |(.rt,d),.C a,.C b=>(zK d).bind λkv=>if kv.B<big then @(wX (v4 kv a b))else none|_,_,_=>none
def _if:Nat->Ex->Ex->Sm:=YK _hY _ie
def W4:List D->Option (List (Int×Int))
 |[]=>⇑[]|.M [.C a,.C b]::r=>(W4 r).E ((a,b):: ·)|_=>none
def _ig:Sd->Option Sd:=λx=>match x.2 with
 |.S ds=>(match W4 ds with
  |some ps=>if ps.B<big then @(.rt,wX (ps.foldl (λkv p=>v4 kv p.1 p.2) []))else none
  |none=>none)
 |_=>none
def _ih(z:Str):D->Option D:=λd=>match d with
 |.S ds=>(match Kq ds with
  |some ys=>if(ys.E (·.B)).sum+ys.B*z.B<=100000 then @(.e (Txt.join z ys))else none
  |none=>none)
 |_=>none
def _ii(z:Str)(c:Ex):Ex:=λE=>bnd (c E) λE x=>val E ((_ih z x.2).E λd=>(.dp,d))
def _ij:D->Option (List D)
 |.M xs=>@xs|_=>none
def _ik(c:Ex):Ev (List D):=λE=>bnd (c E) λE x=>val E ((_ij x.2).E (J9 0))
def itV(i:Nat):Ev (List D):=λE=>match E[i]? with
 |some @(_,.S ds)=>if D.pures ds=true then @(.ok E ds)else none|_=>none
def D.at:List Nat->D->Option D
 |[],d=>@d
 |n::p,.M ds=>match ds[n]? with
  |some d=>D.at p d|none=>none
 |n::p,.S ds=>match ds[n]? with
  |some d=>D.at p d|none=>none
 |_::_,_=>none
def ZJ:D->Option D
 |.ÿ kvs=>if unm kvs=true then @(.C kvs.B)else none|_=>none
def _il:Option (Option Sd)->Bool
 |some @(.rt,.ÿ kvs)=>unm kvs|_=>false
def xk(kvs:List (D×D))(k:D):Option D:=(kvs.find? λp=>decide (p.1=k)).E (·.2)
def _im(i:Nat)(kc vc:Ex):Ex:=λE=>if _il E[i]?=true then bnd (kc E) λE k=>bnd (vc E) λE v=>(match E[i]? with
 |some @(.rt,.ÿ kvs)=>if qV k.2=true/\kvs.B<big/\unm kvs=true/\v.2.pure=true/\D.pures (kvs.E (·.2))=true then(match xk kvs k.2 with
  |some d=>@(.ok E (.dp,d))
  |none=>@(.ok (E.à i @(.rt,.ÿ (kvs++[(k.2,v.2)]))) (.dp,v.2)))else none
 |_=>none)else none
def _in(f:Fn)(i:Nat)(cs:List Ex):Ex:=λE=>bnd (vW cs E) λE xs=>match E[i]? with
 | some @x=>(match f (letAll xs++[x])with
  |some (.ok E' y)=>(match E'[xs.B]? with
   |some @x'=>@(.ok (E.à i @x') y)
   |_=>none)
  |some (.exc _ c)=>@(.exc (E.à i none) c)
  |none=>none)
 |_=>none
def _io:D->Option D
 |.S ds=>(bls ds).E λbs=>.bl (bs.è id)|_=>none
end Q
namespace Q
open PySem PySem.Spec PyProof.Rows L2 L3
section
variable {X:Cx}{Z:Fx0}{K:Frag}{pn:List Nat}{q qa qb:Bool}{a b c:Ex}{u:Ts}{tg e ea eb:Expr}{st:Stmt}{σ:L2.St}{H:Hp}{L:Ls}{E:En}{pos p p2:Pos}
def _ip:QS X Z pn WX st:=λa8 s σ H D I au=>ex7 au λE L r m w hc k=>by cases hc
def _iq(a):∀r,(J1 a r).á (a::r)
 |[]=>List.á.î _
 |b::r=>by
  ext J1
  split
  .show((_iq a r).ä b).H (List.á.swap ..)
  .simp
def _ir:∀r,(xv r).á r
 |[]=>List.á.î _|a::r=>(_iq a _).H ((_ir r).ä a)
def leS(a b:Str):Prop:=Spec.ltCps b.cps.p a.cps.p=false
def leS_iff{a b}:leS a b↔a.cps.p<=b.cps.p:=by
 ext leS;rw[ltCps_eq,decide_eq_false_iff_not,List.not_lt]
def _is{a b c}(h:leS a b)(h':leS b c):leS a c:=leS_iff.å (List.le_trans (leS_iff.mp h) (leS_iff.mp h'))
def _it{a b}(h:leS a b)(h':leS b a):a=b:=by
 let:=List.le_antisymm (leS_iff.mp h) (leS_iff.mp h');cases a
 symm
def _iu{a b}(h:¬leS a b):leS b a:=by
 rw[leS_iff]at h ⊢;show List.le_of_lt (List.not_le.mp h)
def _iv:∀{a r},risingS a r=true->(a::r).Pairwise leS
 |a,[],_=>by simp
 |a,b::r,h=>by
  let h:(!_&&risingS b r)=true:=h;rw[Bool.é,Bool.not_eq_true']at h;let ih:=_iv h.2;show List.pairwise_cons.å #[λc hc=>?_,ih];let rfl\/hc:=aD hc
  .show h.1
  .show _is h.1 ((List.pairwise_cons.mp ih).1 c hc)
def _iw(h:sortedS r=true):r.Pairwise leS:=by
 cases r with|nil=>show .nil|cons a r=>show _iv h
def _ix{a}:∀{r},r.Pairwise leS->(J1 a r).Pairwise leS
 | [],_=>by simp[J1]
 | b::r,h=>by
  rw[List.pairwise_cons]at h;ext J1
  by_cases hl:Spec.ltCps b.cps.p a.cps.p=true
  .rw[Xa hl];show List.pairwise_cons.å #[λc hc=>?_,_ix h.2];let rfl\/hc:=aD ((_iq a r).mem_iff.mp hc)
   .show _iu (by ext leS;rw[hl];show nofun)
   .symm
  .rw[Xe hl];let vt:leS a b:=Bool.eq_false_iff.å hl;show List.pairwise_cons.å #[λc hc=>?_,List.pairwise_cons.å h];let rfl\/hc:=aD hc
   .symm
   .show _is vt (h.1 c hc)
def _iy:∀{r},(xv r).Pairwise leS
 |[]=>.nil|a::r=>_ix _iy
def _iz(p:s.á r)(h:sortedS s=true):s=xv r:=
 List.á.eq_of_pairwise (λa b _ _ h1 h2=>_it h1 h2) (_iw h) _iy (p.H (_ir r).i)
def _iA:∀{us},Vals (ns.E V.e) us->StrsAre us ns:=by
 induction ns with
 | nil=>intro us r;cases r;show .nil
 | cons n ns ih=>
  intro us r;cases r with
  |cons r1 r2=>
   let#[t,e]:=r1;subst e;show .ä n t (ih r2)
def _iB(h:StrsAre us ns):Vals (ns.E V.e) us:=by
 induction h with|nil=>show .nil|cons y t _ ih=>show .ä #[t,rfl] ih
def _iC(h:IntsAre us ns):Vals (ns.E V.C) us:=by
 induction h with|nil=>show .nil|cons y t _ ih=>show .ä #[t,rfl] ih
def _iD:∀{ds bs xs as},Kq ds=@bs->RepA K H g ds xs as->xs=bs.E V.e/\∀z>bs,z.B<=sizeLine
 | [],bs,xs,as,h,r=>by
  cases _aa h;unfold RepA at r
  symm
 | d::ds,bs,xs,as,h,r=>by
  cases d with
  | str b=>
   unfold Kq at h;cases hb:Kq ds with
   |none=>grind
   |some fq=>
    rw[hb]at h;cases _aa h;let#[x,rr,c1,c2,rfl,rfl,h1,h2]:=r;unfold RepL at h1;obtain _:=_iD hb h2
    symm
  |_=>unfold Kq at h;cases h
def _iE:∀{ds bs xs as},V1 ds=@bs->RepA K H g ds xs as->xs=bs.E V.C
 | [],bs,xs,as,h,r=>by
  cases _aa h;show r.1
 | d::ds,bs,xs,as,h,r=>by
  cases d with
  | int b=>
   unfold V1 at h;cases hb:V1 ds with
   |none=>grind
   |some fq=>
    rw[hb]at h;cases _aa h;let#[x,rr,c1,c2,rfl,rfl,h1,h2]:=r;rw[h1.1,_iE hb h2];rfl
  |_=>unfold V1 at h;cases h
def _iF:∀{bs:List Str},(∀z>bs,z.B<=sizeLine)->RepA K H g (bs.E D.e) (bs.E V.e) []
 |[],_=>#[rfl,rfl]
 |b::bs,h=>by
  show#[_,_,[],[],rfl,rfl,Q9 (h b X5),_iF λz hz=>h z (_ad _ hz)]
def _iG:∀{bs:List Int},RepA K H g (bs.E D.C) (bs.E V.C) []
 |[]=>#[rfl,rfl]
 |b::bs=>by
  show#[_,_,[],[],rfl,rfl,vj,_iG]
def tPo(Z:Fx0):Option Ex->TO
 |none=>vjx|some c=>xk6 (tV Z true c)
def _iH:PO X none (tPo Z none):=_bV
def _iI(h:QV X Z true c e):PO X @e (tPo Z @c):=_bW h
def _iJ(m:Mt E σ L)(w:World Z.K H L)(h:bnd (Zw co E) F=@r)(xc:Xc Z σ H L r)
  (k:∀E1 l,F E1 l=@r->∀L1 H1,Mt E1 σ L1->World Z.K H1 L1->Step H L H1 L1->kJ H H1->G l H1):tPo Z co σ H G:=by
 cases co with
 | none=>show k E none h L H m w Step.î z6
 | some c=>
  let h:bnd (bnd (c E) λE x=>match x.2 with|.C i=>@_|_=>none) F=@r:=h;let h':bnd (c E) (λE x=>bnd (match x.2 with|.C i=>@(.ok E @i)|_=>none) F)=@r:=by
   cases hc:c E with|none=>rw[hc]at h;show h|some y=>rw[hc]at h;cases y<;>show h
  change tV Z true c σ H λx H1=>∃i,x=.C i/\G @i H1
  show qK m w h' xc λE1 s h1 x L1 H1 e1 e2 m1 w1 ok fr sr st sm=>?_
  cases hs:s.2 with
  |int i=>
   rw[hs]at h1;show#[i,qj ok (e2.H hs),k E1 _ h1 L1 H1 m1 w1 st (sm rfl)]
  |_=>rw[hs]at h1;cases h1
def RepA.ñ:∀n {ds xs as},RepA K H g ds xs as->∃bs,RepA K H g (ds.ñ n) (xs.ñ n) bs/\∀b>bs,b>as
 |0,ds,xs,as,h=>#[as,h,λ_ h=>h]
 |n+1,[],xs,as,h=>by
  let#[rfl,rfl]:=h;show#[[],#[rfl,rfl],λ_ h=>h]
 |n+1,d::ds,xs,as,h=>by
  let#[x,r,bs,cs,rfl,rfl,h1,h2]:=h;let#[es,r2,hb]:=RepA.ñ n h2;show#[es,r2,λb h=>_ab _ (hb b h)]
def RepA.take:∀n {ds xs as},RepA K H g ds xs as->∃bs,RepA K H g (ds.take n) (xs.take n) bs/\∀b>bs,b>as
 |0,ds,xs,as,h=>#[[],#[rfl,rfl],nofun]
 |n+1,[],xs,as,h=>by
  let#[rfl,rfl]:=h;show#[[],#[rfl,rfl],λ_ h=>h]
 |n+1,d::ds,xs,as,h=>by
  let#[x,r,bs,cs,rfl,rfl,h1,h2]:=h;let#[es,r2,hb]:=RepA.take n h2;show#[bs++es,(#[x,r.take n,bs,es,rfl,rfl,h1,r2]),λb h=>(aA h).ß (λz=>_ac _ z) λz=>_ab _ (hb b z)]
def RepA.cut(h:RepA K H g ds xs as)(lo hi):∃bs,RepA K H g (Qz ds lo hi) (_bY xs lo hi) bs/\∀b>bs,b>as:=by
 ext Qz _bY;rw[<-h.len];let#[bs,r,hb]:=h.ñ _;let#[cs,r2,hc]:=r.take _;show#[cs,r2,λb h=>hb b (hc b h)]
#where in
def _iK{x:Sl}{lo hi}(ok:x.ok K H)(hf:fSl (x.o,x.d) lo hi=@s)(k:∀z H',z.o=s.1->z.d=s.2->Out K H H' z x.ú->Q z.v H'):_du K x.v lo hi H Q:=by
 unfold fSl at hf;cases hx:x.d with
 | lst ds=>
  rw[hx]at hf;dsimp only at hf
  split at hf
  .revert hl;cases _aa hf;let#[l,xs,bs,ev,q3,r3,h3]:=J0 ok (.R hx) (hx▸hl);let q3:LsR K H l xs:=by let#[_,z]\/#[z,_]:=q3;show z;rw[hx]at z;cases z
   let#[cs,r4,h4]:=r3.cut lo hi;show .R #[l,xs,ev,Jk q3,λp hp=>k _ _ rfl rfl (V0 hp r4 λb hb=>h3 b (h4 b hb))]
  .cases hf
 | tup ds=>
  rw[hx]at hf;dsimp only at hf
  split at hf
  .revert hl;cases _aa hf;let#[l,xs,bs,ev,q3,r3,h3]:=J0 ok (.Z hx) (hx▸hl.1);let q3:SqT K H l xs:=by let#[z,_]\/#[_,z]:=q3;rw[hx]at z;cases z;show z
   let#[cs,r4,h4]:=r3.cut lo hi;show .Z (.R #[l,xs,ev,q3,?_,λp hp=>k _ _ rfl rfl (_fb hp r4 λb hb=>h3 b (h4 b hb))]);rw[<-r3.len];show hl.2
  .cases hf
 | str z=>
  rw[hx]at hf;dsimp only at hf
  split at hf
  .revert hl;cases _aa hf;let#[e,hz]:=z9 ok hx;show .Z (.Z #[z,e,hz,k _ H rfl rfl (_e1 hl)])
  .cases hf
 |_=>symm
def _iL{lo hi}(ha:QV X Z q a ea)(hl:PO X elo (tPo Z lo))(hh:PO X ehi (tPo Z hi))(hK:X.K=Z.K<|>Ŕ):QE X Z q (cSl a lo hi) (.ì ea (.Slice elo ehi none p2) pos):=
 q9 (_bX (_dv Z.K hK) ha hl hh) fun σ H Q au=>ex8 au λE L r m w hc xc k=>by
  show qK m w (hc) xc λE1 s h1 x L1 H1 e1 e2 m1 w1 ok fr sr st sm=>(_iJ m1 w1 h1 (xc.step st) λE2 l h2 L2 H2 m2 w2 bn cw=>(_iJ m2 w2 h2 (xc.step (st.H bn)) λE3 u h3 L3 H3 m3 w3 cu mz=>?_))
  let#[z,hz,rfl]:=xK h3;let k1:=Q1 ok fr bn cw;let k2:=Q1 k1.1 k1.2 cu mz;show _iK k2.1 (by rw[e1,e2];show hz) λy H' ho hd o=>?_
  let#[w4,gu]:=Q6 w3 ((st.H bn).H cu) o k2.2 (λb hb=>k2.1.some (Sl.frz_as hb)) (ZX sr λb hb=>Sl.frz_as hb);let jt:=λhq=>kX (sm hq) (kX cw mz)
  show k _ _ rfl y L3 H' ho hd m3 w4 gu λhq=>#[kX (jt hq) o.same,λb hb=>zx (jt hq) (o.new b hb)]
def tAV(Z:Fx0)(cs:List Ex):TA:=fun σ H Q=>∃E L r,Mt E σ L/\World Z.K H L/\vW cs E=@r/\Xc Z σ H L r /\
 ∀E' ys,r=.ok E' ys->∀(xs:List Sl) L' H',xs.E Sl.sd=ys->Mt E' σ L'->World Z.K H' L'->(∀x>xs,x.ok Z.K H')->Step H L H' L'->kJ H H'->Q (xs.E Sl.v) H'
def QAV(X:Cx)(Z:Fx0)(cs:List Ex)(es:List Expr):Prop:=PA X es (tAV Z cs)
def _iM:QAV X Z [] []:=ZZ x5 fun σ H Q au=>ex8 au λE L r m w hc xc k=>by
 cases _aa hc;show k _ _ rfl [] L H rfl m w (nofun) Step.î z6
def _iN(h:QV X Z true c e)(hs:QAV X Z cs es)(b6:Abs e es X<|>Ŕ):QAV X Z (c::cs) (e::es):=
 ZZ (x3 h hs b6) fun σ H Q au=>ex8 au λE L r m w hc xc k=>by
  show qK m w (hc) xc λE1 s h1 x L1 H1 e1 e2 m1 w1 ok fr sr st sm=>?_
  let#[E2,ys,h2,h3]\/#[E2,cc,h2,h3]:=wK h1
  .cases _aa h3;show#[E1,L1,_,m1,w1,h2,(λ_ _ z=>by cases z),λE' ys' z xs L2 H2 e3 m2 w2 gj bn cw=>?_];injection z with z1 z2;subst z1 z2;show k _ _ rfl (x::xs) L2 H2 (by rw[List.V,e3];simp[Sl.sd,e1,e2]) m2 w2 (λy hy=>?_) (st.H bn) (kX (sm rfl) cw);let rfl\/hy:=aD hy
   .show(Q1 ok fr bn cw).1
   .show gj y hy
  .show#[E1,L1,_,m1,w1,h2,(xc.step st).E h3,λE' s' z=>by cases z]
#where in
def _iO(D:k5 X.â X.w X.K X.mg X.ò k x ps (spF Z.K Z.mg n f))(hr:Room k X.A)(g:xw X Z.EX)(ha:QAV X Z cs (e::es))(hn:cs.B=n<|>Ŕ)(hg:Gl X x<|>Ŕ)(fu:Abd x<|>ŕ)
  (he:Abs e es X<|>Ŕ) (bu:Abb pos es X<|>Ŕ):
  QE X Z true (_hU f cs) (.þ (.ç x p) (e::es) [] pos):=q9 (_d5 D hr g ha hg fu he bu) fun σ H Q au=>ex8 au λE L r m w hc xc kk=>by
 let#[E1,ys,h1,h2]\/#[E1,cc,h1,h2]:=wK hc
 rotate_left
 .show#[E,L,_,m,w,h1,xc.E h2,λE' s' z=>by cases z]
 show#[E,L,_,m,w,h1,(λ_ _ z=>by cases z),λE' ys' z xs L1 H1 e1 m1 w1 ok1 st sm=>?_];injection z with z1 z2;subst z1 z2;rw [Xv];let ai:xs.B=n:=by rw[<-hn,<-_gd h1,<-e1,X3]
 cases hf:f _ with
 | none=>rw[hf]at h2;cases h2
 | some fr=>
  rw[hf]at h2;let ev:xs.E Sl.v=(xs.E Sl.let).E Sl.v:=by rw[Xi];rfl
  let wl:World Z.K H1 ((xs.E Sl.let).E some):=by
   show#[λy hy=>?_,by rw[Qj];show Xr,λa ha=>by rw[Qj]at ha;show nomatch ha];let#[y',hy',e]:=aE hy;cases e;let#[t,ht,rfl]:=aE hy';show JX (ok1 t ht)
  rw[ev];show#[xs.E Sl.let,fr,rfl,by rw[X3];show ai,wl,by rw[<-e1]at hf;rw[_gs];show hf,λE' c ee C H' hm s'=>?_,λE' a ee y H' e2 e3 w' s'=>?_]
  .subst ee;cases _aa h2;let jr:=λb ob hb=>s'.keep b ob hb λz=>by rw[Qj]at z;show nomatch z
   show xc _ _ rfl C L1 H' hm m1 #[λy hy=>RepO.kp (w1.ok y hy) (Kp.of_same jr),w1.nd,w1.ds] (st.H #[λb ob hb _=>jr b ob hb,λ_ h=>.R h,λ_ h=>.R h])
  .subst ee;dsimp only at h2
   split at h2
   .revert hp;cases _aa h2;let jr:=λb ob hb=>s'.keep b ob hb λz=>by rw[Qj]at z;show nomatch z
    let w2:World Z.K H' L1:=#[λy hy=>RepO.kp (w1.ok y hy) (Kp.of_same jr),w1.nd,w1.ds];let#[z,rp]:=RepL.pu (g':=false) (RepO.wk (w'.ok y X5)) (e3▸hp);show kk _ _ rfl #[.dp,y.d,y.v,[]] L1 H' rfl e3 m1 (w2.consPu rp rfl) (J6 (st.H #[λb ob hb _=>jr b ob hb,λ_ h=>.R h,λ_ h=>.R h]) (nofun) rfl) λ_=>#[kX sm jr,λ_ z=>(nomatch z)]
   .cases h2
end
def _iP{items}{e:Value->Bool}
  (ht:IsTup s.G t items) (he:∀y>items,SeqAt.EqAt A.in1 s y x (e y)) (hj) (h1:e items[j]=true) (h2:∀m (hm:m<items.O),m<j->e items[m]=false)
  (h:Q (.C j s.ë) {s with toks:=s.ë+1}):wpAny (model prog w) A (call (.x "tuple.index") [.I t,x]) Q E s:=by
 show Y0 PySem.F.slot_tuple_index ht.õ PySem.F.entry_tuple_index ?_ (PySem.F.args_tuple_index_2 _ _);change wpAny _ _ (Builtin.Tuple.tupleItemsOf _ >>= _) _ _ s;show X0 (tupleItemsOf_ ht ?_);right;show X0 (X6 (X0 (X6 ?_)));rw[Std.Legacy.Range.forIn_eq_forIn_range'];show X0 (wpAny_forIn_list _ (λac b s'=>b=_/\s'=s/\∃k,k<=j/\ac=List.range' k (items.O - k)) _ ?_ ?_ _ _ #[rfl,rfl,0,Ya _,?_])
 .rintro i ac b s' ⟨rfl,rfl,k,hk,hr⟩;obtain⟨n,hn⟩:∃n,items.O - k=n+1:=#[items.O - k - 1,by grind];rw[hn]at hr;injection hr with hi xf;subst hi;let hi:i<items.O:=.q
  rw[show items[i]?=@items[i]from Y5 hi];show X0 (he items[i] (Array.getElem_mem hi) _ _ _ _ ?_)
  by_cases nr:i=j
  .subst nr;rw[h1];show X0 (X0 (wpAny_mkInt (X6 (X6 (X6 #[_,rfl,h])))))
  .rw[h2 i hi .q];show X6 #[rfl,rfl,i+1,.q,?_]
   grind
 .rintro b s' ⟨rfl,rfl,k,hk,hr⟩
  grind
 .simp
def _iQ{items}
  (ht:IsTup s.G l items) (h:Q .notImplemented s):wpAny (model prog w) A (call (.x "int.__rmul__") [.C k t,.I l]) Q E s:=by
 show Y0 PySem.F.slot_int_rmul (typeIs_int s k t) PySem.F.entry_int_rmul ?_ (PySem.F.args_int_rmul_2 _ _);let#[o,e,c,n,hd]:=ht;change wpAny _ _ (asInt? _ >>= _) _ _ s;show X0 (X0 (wpAny_load e ?_));rw[hd];show X6 (X0 (Zi (X6 #[_,rfl,h])))
def mulT{items}
  (ht:IsTup s.G l items) (h1:-(2 ^ 63)<=k) (h2:k<2 ^ 63) (hz:items.O*k.L<=sizeLine)
  (xa:(items.ï=true\/k=1)->Q (.I l) s)
  (hsz:(List.foldl (λx1 x2=>x1++x2) (List.J []) (List.r k.L items)).O<=sizeLine)
  (fi:Q (.I ↥s) {s with heap:=s.G.í {cls:=.h "tuple",data:=.seq (List.foldl (λx1 x2=>x1++x2) (List.J []) (List.r k.L items))}})
  : wpAny (model prog w) A (call (.x "tuple.__mul__") [.I l,.C k t]) Q E s:=by
 show Y0 PySem.F.slot_tuple_mul ht.õ PySem.F.entry_tuple_mul ?_ (PySem.F.args_tuple_mul_2 _ _);change wpAny _ _ (if _=true then _ else _) _ _ s;rw[Xe (by symm)];show X0 (tupleItemsOf_ ht ?_)
 by_cases hs:(items.ï||k==1)=true
 .rw[Xa hs];show X0 (X0 (wpAny_typeOf ht.õ (X6 (X0 (Zi (X6 #[_,rfl,xa ?_]))))))
  simpa using hs
 .rw[Xe hs];let be:items.ï=false:=by
   grind
  let hm:((items.O:Int)*k)<=sizeLine\/k<=0:=by
   by_cases hk:k<=0
   .show .Z hk
   .grind
  right
  by_cases hk:k<=0
  .rw[Xa (by simp[hk])];let e:k.L=0:=by symm
   rw[e]at fi;show X0 (Y7 (X6 #[_,rfl,fi]) (Ya _))
  .rw[Xe (by simp[hk,be])];let hm:=hm.resolve_right hk;let km:(sizeLine:Int)=16777216:=.q
   rw[Xe .q,Xe (by ext Builtin.Tuple.tupleTooMany;symm)];show X0 (Y7 (X6 #[_,rfl,fi]) hsz)
section
variable {K:Frag}
def _iR(K:Frag):R2:=λx y H Q=>∃l k xs,x=.I l/\y=.C k/\SqT K H l xs/\-(2 ^ 63)<=k/\k<2 ^ 63/\xs.B*k.L<=sizeLine/\((xs=[]\/k=1)->Q (.I l) H)/\∀p,H p=none->Q (.I p) (upd H p (.M (List.r k.L xs).flatten))
def op_repT:OpR X (binaryOp .Mult) (_iR X.K):=by
 rintro a8 s σ H x y v u Q I rx ry ⟨l,k,xs,rfl,rfl,hq,h1,h2,hz,q1,q2⟩;cases rx;let#[t,rfl]:=ry;let#[ab,r,ht,hl]:=I.tuple hq;let ai:=r.B;let f0:List.foldl (λx1 x2=>x1++x2) (List.J []) (List.r k.L ab.J)=(List.r k.L ab).flatten.J:=by
  let:=_co ab k.L [];show this
 let hz2:(List.r k.L xs).flatten.B<=sizeLine:=by rw[_cu,Nat.mul_comm];show hz
 show wpAny_binaryOp_repeat_ref (by rfl) ht.õ (λs'=>typeIs_int s' k t) rfl F.fills_int_mul F.slot_int_rmul (rfl) F.slot_int_index.U
  (_iQ ht #[rfl,ht.õ,mulT ht h1 h2 (by rw[Xf,<-ai];show hz) (λhs=>?_) ?_ ?_])
 .show#[.I l,H,I,rfl,q1 ?_];let hs\/hs:=hs
  .symm
  .show .Z hs
 .rwa [f0,Xf,<-(r.rep k.L).B]
 .rw[f0];show#[.I _,_,I.laid (t':=s.ë) (o:=.M _) (λb o e=>X4 _ e) (X8 _) #[hz2,_,r.rep k.L,IsTupD.new _ _],rfl,q2 _ (I.ô.û (X8 _))]
def _iS(K:Frag):R2:=λx y H Q=>_iR K x y H Q\/_gw K x y H Q
def _iT(hK:X.K=K<|>Ŕ):OpR X (binaryOp .Mult) (_iS K):=by subst hK;show op_repT.or _gx
#where in
def _iU:Ad2 K (_iS K) KY:=by
 intro H x y s Q ox oy hf k;cases hx:x.d with
 | tup ds=>
  cases hy:y.d with
  | int n=>
   unfold KY at hf;rw [hx,hy]at hf;dsimp only at hf
   split at hf
   .revert hc;cases _aa hf;let#[l,xs,bs,e3,q3,r3,h3]:=J0 ox (.Z hx) (hx▸hc.2.2.2);let q3:SqT K H l xs:=by let#[z,_]\/#[_,z]:=q3;rw[hx]at z;cases z;show z
    let#[cs,r4,h4]:=r3.reps n.L;show .R #[l,n,xs,e3,qj oy hy,q3,hc.1,hc.2.1,by rw[<-r3.len];show hc.2.2.1,λhs=>?_,λp hp=>?_]
    .show k #[.X,.M _,.I l,cs] H rfl rfl #[z6,(#[l,xs,rfl,q3,?_]),λb hb=>(nomatch hb),Xr,λb hb=>_ac _ (h3 b (h4 b hb))];let e:(List.r n.L xs).flatten=xs:=by
      let hs\/hs:=hs
      .subst hs;simp
      .subst hs;simp
     rw[e]at r4;show r4
    .show k _ _ rfl rfl (_fb hp r4 λb hb=>_ac _ (h3 b (h4 b hb)))
   .symm
  |_=>
   show .Z (_gz H x y s Q ox oy ?_ k);rw[hx,hy]at hf;rw[hx];show hf
 |_=>
  show .Z (_gz H x y s Q ox oy ?_ k);unfold KY at hf;rw[hx]at hf;rw[hx];show hf
def _iV:∀{ds us},CReps h ds us->us.E (dec h)=ds
 |[],_,r=>by rw[r];rfl
 |z::ds,_,r=>by
  let#[u,rr,rfl,h1,h2]:=r;rw[List.V,_gA h1,_iV h2]
def _iW(K:Frag)(C:Hp->List V->Prop):List V->Hp->VK->Prop:=λvs H Q=>∃v d ds as bs xs j,vs=[v]/\RepL K H true d v as/\C H xs/\RepA K H true ds xs bs/\d.flat 30=true/\D.flats 30 ds=true/\(ds.findIdx? λz=>peq z d)=@j/\Q (.C j) H
def _iX(hu:X.A.u+64<cLine)(ho:PE X o to)(ha:PA X [e] t)
  (dh:attributeBase o "index" X.Y (eval o X.Y)=eval o X.Y<|>Ŕ)
  (gl:autoParam (((backTo am (starEach [e] X.Y)).all (λx=>!x.1)&&(backToKw am (keywordEach [] X.Y)).all (λx=>x.1.isSome)
   && decide ([e].B+([]:List Keyword).B+(if([]:List Keyword).ï then 0 else 1)<30))=true) Ŕ)
  (dg:Abe apos am<|>Ŕ) (hs:Abs e [] X<|>Ŕ) (bq:Abb am [] X<|>Ŕ):
  PE X (.þ (.Attribute o "index" apos) [e] [] am) (fun σ H Q=>to σ H λx H1=>(∃p xs,x=.I p/\LsR X.K H1 p xs/\t σ H1 λvs H2=>_iW X.K (λH xs=>LsR X.K H p xs) vs H2 Q)\/∃p xs,x=.I p/\SqT X.K H1 p xs/\t σ H1 λvs H2=>_iW X.K (λH xs=>SqT X.K H p xs) vs H2 Q):=by
 intro a8 s σ H Q I h;show wpAny_Call_method_late dh gl dg rfl (thn (ho a8 s σ H _ I h) λv s1 hz=>?_);let#[x,H1,I1,r1,qq]:=hz;let eqs:∀{s2 H2 d v as w us ds},L2.Inv X a8 σ H2 s2->RepL X.K H2 true d v as->RelV v w->d.flat 30=true->D.flats 30 ds=true->CReps s2.G ds us->∀y>us.J,SeqAt.EqAt X.A.in1 s2 y w (peq (dec s2.G y) d):=fun {s2 H2 d v as w us ds} I2 rd rw f1 f2 cr y hy=>by
  let#[d',hd,c]:=_gC cr (~~~hy);rw[_gA c];show _fU 30 (_gD f2 hd) c (W5 I2 rd f1 rw) .q
 let idx:∀{h ds us d j},CReps h ds us->(ds.findIdx? λz=>peq z d)=@j->∃hj,peq (dec h us.J[j]) d=true/\∀m hm,m<j->peq (dec h us.J[m]) d=false:=fun {h ds us d j} cr hf=>by
  let e:=_iV cr;subst e;rw[List.findIdx?_eq_some_iff_getElem]at hf;let#[hj,h1,h2]:=hf;let hj':j<us.B:= ~~~hj
  show#[~~~hj',~~~h1,λm hm hmj=>?_];let:=h2 m hmj
  simpa using this
 let#[pp,zs,rfl,ty,q1]\/#[pp,zs,rfl,ty,q1]:=qq
 .cases r1;let hA:=ha am a8 s1 σ H1 _ I1 q1;rw[hs]at hA ⊢;let#[z,ab,n,r,e0]:=ty.is I1;show#["list","list.index",F.plainAttrs_list,F.slot_list_index,F.type_list_index,#[_,e0,rfl],λa e2=>?_,?_]
  .cases e2;show#[_,e0,rfl]
  show Zb (by change(false||(backTo am _).è _)=false;rw[bq]<;>rfl) (Calls.evalArgs_plain (thn hA λus s2 #[vs,H2,I2,r2,d2]=>?_));let#[v,d,ds,as,bs,xs,j,rfl,rd,hq,ra,f1,f2,hf,q2]:=d2;let#[w,rfl,rw1]:=r2.one;let#[z2,ir,n2,r3,e3]:=hq.is I2;let cr:=creps_of I2 ra f2 r3;let#[hj,h1,h2]:=idx cr hf;let hsz:ir.J.O<=16777216:=by rw[Xf,<-r3.B];show z2
  show call_meets F.slot_list_index #[_,e3,rfl] F.entry_list_index (F.args_list_index_2 _ _) (SeqAt.list_indexAt pp ir.J n2 none (List.J []) w (λy=>peq (dec s2.G y) d) j hj .q h1 h2) #[e3,eqs I2 rd rw1 f1 f2 cr,.C _,H2,I2.tok _,#[_,rfl],q2]
 .cases r1;let hA:=ha am a8 s1 σ H1 _ I1 q1;rw[hs]at hA ⊢;let#[ab,r,ht,hz]:=I1.tuple ty;show#["tuple","tuple.index",F.plainAttrs_tuple,F.slot_tuple_index,F.type_tuple_index,ht.õ,λa e2=>?_,?_]
  .cases e2;show(I1.tupleD ty)
  show Zb (by change(false||(backTo am (starEach [] X.Y)).è (·.1))=false;rw[bq]<;>rfl) (Calls.evalArgs_plain (thn hA λus s2 #[vs,H2,I2,r2,d2]=>?_));let#[v,d,ds,as,bs,xs,j,rfl,rd,hq,ra,f1,f2,hf,q2]:=d2;let#[w,rfl,rw1]:=r2.one;let#[ir,r3,ht2,hz2]:=I2.tuple hq;let cr:=creps_of I2 ra f2 r3;let#[hj,h1,h2]:=idx cr hf;show _iP (e:=λy=>peq (dec s2.G y) d) ht2 (eqs I2 rd rw1 f1 f2 cr) hj h1 h2 #[.C _,H2,I2.tok _,#[_,rfl],q2]
#where in
def _iY(hu:X.A.u+64<cLine)(ha:QV X Z q a ea)(hb:QV X Z true b eb)(hK:X.K=Z.K<|>Ŕ)
  (dh:attributeBase ea "index" X.Y (eval ea X.Y)=eval ea X.Y<|>Ŕ)
  (gl:autoParam (((backTo am (starEach [eb] X.Y)).all (λx=>!x.1)&&(backToKw am (keywordEach [] X.Y)).all (λx=>x.1.isSome)
   && decide ([eb].B+([]:List Keyword).B+(if([]:List Keyword).ï then 0 else 1)<30))=true) Ŕ)
  (dg:Abe apos am<|>Ŕ) (hs:Abs eb [] X<|>Ŕ) (bq:Abb am [] X<|>Ŕ):
  QE X Z q (Q7 a b) (.þ (.Attribute ea "index" apos) [eb] [] am):=q9 (_iX hu ha (x3 hb x5 hs) dh gl dg hs bq) fun σ H Q au=>ex8 au λE L r m w hc xc k=>by
 show qK m w (hc) xc λE1 s h1 x L1 H1 e1 e2 m1 w1 ok fr sr st sm=>?_
 split at h1
 rotate_left
 .symm
 revert hsq;rw [hK];let fin:∀{ds},(x.d=.S ds\/x.d=.M ds)->∀C,(∀H2,x.ok Z.K H2->∃xs bs,C H2 xs/\RepA Z.K H2 true ds xs bs)->tV Z true b σ H1 λv H2=>_iW Z.K C [v] H2 Q:=fun {ds} hx C hC=>by
  show qK m1 w1 h1 (xc.step st) λE2 s2 h2 y L2 H2 e3 e4 m2 w2 gj og nw bn cw=>?_
  let#[z,hz,rfl]:=xK h2;let#[xs,bs,c1,c2]:=hC H2 (Q1 ok fr bn (cw rfl)).1;let key:∃j,y.d.flat 30=true/\D.flats 30 ds=true/\(ds.findIdx? λz=>peq z y.d)=@j/\z=(.dp,.C j):=by
   unfold pu2 _hS at hz;rw[<-e2,<-e4]at hz;let jh:(if y.d.flat 30&&D.flats 30 ds then(ds.findIdx? λz=>peq z y.d).E λ(j:Nat)=>D.C (j)else none).E (λd=>((Own.dp,d):Sd))=@z:=by
    let hx\/hx:=hx<;>(rw[hx]at hz;show hz)
   split at jh
   .revert hf;rw[Bool.é]at hf;cases hj:ds.findIdx? λz=>peq z y.d with|none=>rw[hj]at jh;cases jh|some j=>rw[hj]at jh;show#[j,hf.1,hf.2,rfl,(_aa jh).i]
   .cases jh
  let#[j,f1,f2,f3,rfl]:=key;show#[y.v,y.d,ds,y.as,bs,xs,j,rfl,RepO.wk gj,c1,c2,f1,f2,f3,(k _ _ rfl _ L2 H2 rfl rfl m2 (w2.consPu (x:=#[.dp,.C j,.C j,[]]) (show RepL Z.K H2 false _ _ []from vj) rfl) (J6 (st.H bn) (nofun) rfl) λhq=>#[(λhq=>kX (sm hq) (cw rfl)) hq,λ_ z=>(nomatch z)])]
 let wkA:∀{ds xs bs H2},RepA Z.K H2 (x.o != .dp) ds xs bs->RepA Z.K H2 true ds xs bs:=fun {ds xs bs H2} r=>by
  cases ho:(x.o != .dp)with|true=>rw[ho]at r;show r|false=>rw[ho]at r;show r.wk
 cases hx:x.d with
 |lst ds=>
  let#[l,xs,bs,ev,q3,r3,h3,_]:=items ok (.R hx);let q3:LsR Z.K H1 l xs:=by let#[_,z]\/#[z,_]:=q3;show z;rw[hx]at z;cases z
  show .R #[l,xs,ev,q3,fin (.R hx) _ λH2 gj=>?_];let#[l2,ys,cs,ev2,q4,r4,_]:=items gj (.R hx);let:l2=l:=by let:=ev2.i.H ev;show V.I.inj this
  subst this;let#[_,z]\/#[z,_]:=q4
  .show#[ys,cs,z,wkA r4]
  .grind
 |tup ds=>
  let#[l,xs,bs,ev,q3,r3,h3,_]:=items ok (.Z hx);let q3:SqT Z.K H1 l xs:=by let#[z,_]\/#[_,z]:=q3;rw[hx]at z;cases z;show z
  show .Z #[l,xs,ev,q3,fin (.Z hx) _ λH2 gj=>?_];let#[l2,ys,cs,ev2,q4,r4,_]:=items gj (.Z hx);let:l2=l:=by let:=ev2.i.H ev;show V.I.inj this
  subst this;let#[z,_]\/#[_,z]:=q4
  .grind
  .show#[ys,cs,z,wkA r4]
 |_=>rw[<-e2,hx]at hsq;cases hsq
end
noncomputable def ItE(S:Hp->List V->Prop):It:=#[λi H=>∃xs x,S H xs/\xs[i]?=@x,
 λi H v H'=>∃T x,H T=none/\v=.I T/\H'=upd H T (.M [.C i,x])/\∀xs,S H xs->xs[i]?=@x,
 λi H=>∃xs,S H xs/\xs.B=i]
abbrev Ite(K:Frag)(l:Addr):It:=ItE (SqL K · l)
def _iZ{P w K elts k1 pos}{IS:Heap->Array Value->Prop}(n1:e≠it)(n2:l≠e)
  (D:∀A:Around,A.ü=none->∀ab:Array Value,Draws P w A it [it,l] ab.O (λi v=>ab[i]?=@v) λi h=>(∃o,h.get? it=@o/\o.cls=.h n/\o.data=.ù %[.I l,.C i 0|0])/\IS h ab)
  (G:∀(X:Cx) a8 (s:Shared) σ H,X.K=K->L2.Inv X a8 σ H s->∀xs,S H xs->(∃ab,Vals xs ab/\IS s.G ab.J)/\∀zs,S H zs->zs=xs):
  Turn P w K (.Tuple elts k1 pos) (ItE S) [e,it] e (λi h=>(∃dw,IsEnum h e it i dw)/\∃o,h.get? it=@o/\o.cls=.h n/\o.data=.ù %[.I l,.C i 0|0]) where
 mem:=by simp
 obj:=λi h st b hb=>by
  let#[#[dw,h1],o4,e4,c4,d4]:=st;simp at hb;let rfl\/rfl:=hb
  .show#[_,h1,λv z=>by cases z]
  .show#[_,e4,λv z=>by rw[d4]at z;cases z]
 keep:=λi h h' st k=>by
  let#[#[dw,h1],o4,e4,c4,d4]:=st;show#[#[dw,k _ (by simp) _ h1],o4,k _ (by simp) _ e4,c4,d4]
 item:=by
  intro X hP hw hK hc i a8 s σ H E I hf st hg;subst hP hw;let#[xs,x,q1,hx]:=hg;let#[#[je,ur,p1],inj]:=G X a8 s σ H hK I xs q1;let#[u1,hu1,ru1]:=ur.get hx;let#[#[dw,t1],t2]:=st;let hi:i<je.J.O:=(aF hu1).1;show wpAny_pyNext_enum_itemD (D X.A.in1 (by let:=I.ok.hd hc;simpa using this) je.J) t1 #[t2,p1] hi n1 (by simp;show#[n1,n2.i]) λu2 h1 tk hP2 g1 g2 gT gs gk=>?_
  let e2:u2=u1:=by
   let:je[i]?=@u2:= ~~~hP2
   rw[hu1]at this;show(_aa this).i
  subst e2;show#[_,rfl,wpAny_letOwnedTupleGo_enum (s:={s with heap:=h1,toks:=tk+1}) g1 λh2 f1 sb=>?_];let fT:=I.fpOk (X8 _) (I.ô.û (X8 _));let nT:∀b>[e,it],b≠↥s:=λb hb ee=>by
   obtain⟨o,eo,_⟩:∃o,s.G.get? b=@o/\True:=by
    simp at hb;let#[o4,e4,_]:=t2;let rfl\/rfl:=hb
    .show#[_,t1,trivial]
    .show#[_,e4,trivial]
   show absurd (Xg eo) (ee▸Yn _)
  let kk:∀b o,b∉[e,it]->s.G.get? b=@o->h2.get? b=@o:=λb o hb ee=>by
   simp at hb;show(sb.2 b hb.1).H (gk b o hb.1 hb.2 ee)
  let I1:L2.Inv X a8 σ H {s with heap:=h2,toks:=tk+1}:=_dO [e,it] I kk hf;let I2:=_c9 (a:=↥s) (o:=.M [.C i,x]) I1 fT.1 fT.2.1 fT.2.2.2.1 fT.2.2.2.2.1 fT.2.2.2.2.2
   (show ObjOk X.â X.w _ h2 _ (.M [.C i,x])from#[by change(2:Nat)<=sizeLine;decide,[.C i tk,u2],.ä #[_,rfl] (.ä ru1 .nil),#[_,(sb.2 _ λee=>nT e (by simp) ee.i).H gT,rfl,rfl,0,rfl]])
  let#[o4,e4,c4,d4]:=g2.1;show#[.I ↥s,_,I2,rfl,#[_,x,fT.1,rfl,rfl,λzs hzs=>by rw[inj zs hzs];show hx],#[#[u2,f1],o4,(sb.2 _ n1.i).H e4,c4,d4],λb hb=>by rw[qz (nT b hb)];show(hf b hb).1]
 done:=by
  intro X hP hw hK hc i a8 s σ H E I hf st hg;subst hP hw;let#[xs,q1,hx]:=hg;let#[#[je,ur,p1],_]:=G X a8 s σ H hK I xs q1;let#[#[dw,t1],t2]:=st;let hsz:je.J.O=i:=by rw[Xf,<-ur.B];show hx
  show wpAny_pyNext_enum_endD (D X.A.in1 (by let:=I.ok.hd hc;simpa using this) je.J) t1 (hsz▸#[t2,p1]) λh' kk=>#[rfl,_dO (t':=s.ë) [it] I (λb o hb ee=>kk b o (~~~hb) ee) λb hb=>hf b (by
   simp at hb ⊢;show .Z hb)]
 self:=λ_ _ _ _ _ st h=>by let#[#[dw,h1],_]:=st;show wpAny_pyIter_enum h1 h
def _i0{P w K elts k1 pos}(n1:e≠it)(n2:l≠e)(n3:l≠it):Turn P w K (.Tuple elts k1 pos) (Ite K l) [e,it] e (λi h=>(∃dw,IsEnum h e it i dw)/\h.IsListIter it l i):=
 _iZ (K:=K) (IS:=λh ab=>h.IsList l ab) n1 n2 (λA hh ab=>Draws.list hh it l n3 ab) λX a8 s σ H hK I xs q=>by
  subst hK;let#[ab,rv,p,_]:=I.list q;show#[#[ab,rv,p.isList],λzs hz=>I.list_inj hz q]
abbrev zkf(K:Frag)(ta:TA):TI:=fun σ H R=>ta σ H λvs H1=>∃l,vs=[.I l]/\(∃xs,SqL K H1 l xs/\(xs.B<=sizeLine->R (Ite K l) H1))
def _i1:bootBuiltins "enumerate"=@(.h "enumerate"):=boot_enumerate
section
variable {K:Frag}{st:Stmt}
def _i2 K (hg:Gl X "enumerate")(hm:X.mg "enumerate"=none)(ha:PA X [e] ta)(hK:X.K=K<|>Ŕ)
  (hs:starEach [e] X.Y=[(false,eval e X.Y)]<|>Ŕ):PI X (.Tuple elts k1 nv) (.þ (.ç "enumerate" p) [e] [] pos) (zkf K ta):=by
 subst hK;intro a8 s σ H R I h;show Call_ (JK I hg hm _i1 (Y6 (thn (ha pos a8 s σ H _ I h) λus s1 hz=>?_) (by rw[hs];rfl) rfl));let#[vs,H1,I1,r1,q1]:=hz;let#[l,rfl,xs,q1,q]:=q1;let#[u1,rfl,e1]:=wZ r1;cases e1;let#[je,ur,p1,tu]:=I1.list q1;let lt:l<↥s1:=by let#[_,ee,_]:=p1.isList;show Xg ee
 show call_enumerate_list p1.isList λh' g1 g2 gs gk=>?_
 show wpAny_pyIter_enum g1 #[_,[_,↥s1],_,_,H1,rfl,I1.kept (t':=s1.ë) gk,
  _i0 (Nat.succ_ne_self _) (Xl (Z7 lt)) (Xl lt),#[#[_,g1],g2],λb hb=>?_,q tu]
 let gw:↥s1<=b:=by
  simp at hb;let rfl\/rfl:=hb<;>simp
 show I1.fpOk gw (I1.ô.û gw)
def _i3:∀(ds:List D) (k:Nat),(J9 k ds).B=ds.B
 |[],_=>rfl|d::ds,k=>by rw[J9,Xk,Xk,_i3 ds]
def _i4:∀(ds:List D) (k i:Nat),(J9 k ds)[i]?=(ds[i]?).E λd=>.M [.C ((k+i:Nat):Int),d]
 |[],_,_=>by rfl|d::ds,k,0=>by rfl
 |d::ds,k,i+1=>by
  rw[J9,List.getElem?_cons_succ,List.getElem?_cons_succ,_i4 ds,show k+1+i=k+(i+1)from by lia]
def _i5(hT:H2 T=none)(r1:RepL K H2 true d1 v1 b1)(r2:RepL K H2 true d2 v2 b2):RepL K (upd H2 T (.M [v1,v2])) true (.M [d1,d2]) (.I T) (b1++b2):=by
 let sm:kJ H2 (upd H2 T (.M [v1,v2])):=wV hT;show#[T,[v1,v2],rfl,.R (.R wY),?_];show#[v1,[v2],b1,b2,rfl,rfl,r1.kp (Kp.of_same sm),?_];show#[v2,[],b2,[],rfl,by simp,r2.kp (Kp.of_same sm),?_];show#[rfl,rfl]
def _i6{x:Sl}(ag:∀H2,x.let.ok K H2->∃ys cs,S H2 ys/\RepA K H2 true es ys cs/\∀b>cs,b>x.as):Walks K (ItE S) [x.let] (J9 0 es):=by
 show#[λt ht=>by rw[aC ht];rfl,λi H2 hok hi=>?_,λH2 hok=>?_,λi H2 v H3 d hok hy jy=>?_]
 all_goals let#[ys,cs,s1,s2,s3]:=ag H2 (hok _ (aB rfl))
 .let hl:=s2.len;rw[_i3]at hi;show#[ys,ys[i]'⋯,s1,X1 .q]
 .show#[ys,s1,by rw[_i3,s2.len]]
 .let#[T,x',hT,rfl,rfl,hy]:=hy;rw[_i4]at jy;cases hes:es[i]? with
  |none=>rw[hes]at jy;cases jy
  |some d0=>
   rw[hes]at jy;cases _aa jy;let#[v',fq,f1,f2,f3]:=s2.get hes;let:=hy ys s1;rw[f1]at this;cases _aa this;let rp:=_i5 (v1:=.C ((0+i:Nat):Int)) hT vj f2;rw[show((0+i:Nat):Int)=i by lia]at rp ⊢;show#[#[.X,_,.I T,[]++fq],rfl,rfl,rfl,wV hT,rp,λb hb=>#[x.let,aB rfl,s3 b (f3 b (~~~hb))]]
def _i7(h:QE X Z q c e)(hg:Gl X "enumerate")(hm:X.mg "enumerate"=none)(hK:X.K=Z.K<|>Ŕ)(hs:starEach [e] X.Y=[(false,eval e X.Y)]<|>Ŕ):QI X Z q (.Tuple elts k1 nv) (_hR c) (.þ (.ç "enumerate" p) [e] [] pos):=λa8 s σ H R I au=>ex8 au λE L r m w hc xc k=>by
 show(_i2 Z.K hg hm (x3 h x5 hs) hK hs) a8 s σ H R I (Wk m w (show bnd (c E) _=@r from hc) xc λE1 s h1 x L1 H1 e1 e2 m1 w1 st sm=>?_);let#[ds,hd,rfl]:=xK h1;let#[wT,sT]:=_hc w1 st;cases hx:x.d with
 |lst es=>
  rw[<-e2,hx]at hd;cases _aa hd;let#[a,_,_,ev,_]:=items w1.head (.R hx);let ag:=_ha (K:=Z.K) hx ev;let#[xs,bs,q3,r3,_]:=ag H1 (JX w1.head);show#[a,by rw[ev],xs,q3,λai=>k _ _ rfl (Ite Z.K a) [x.let] L1 H1 m1 wT sT (by rw[_i3,r3.len];show ai) (λhq=>(sm hq).1) (_i6 ag)]
 |_=>rw[<-e2,hx]at hd;cases hd
end
def RepA.erase{K}:∀{j ds xs as},RepA K H g ds xs as->∃bs,RepA K H g (ds.ø j) (xs.ø j) bs/\bs.Sublist as
 |j,[],xs,as,h=>by
  let#[rfl,rfl]:=h;show#[[],#[rfl,rfl],List.Sublist.î _]
 |0,d::ds,xs,as,h=>by
  let#[x,r,bs,cs,rfl,rfl,h1,h2]:=h;show#[cs,h2,List.sublist_append_right _ _]
 |j+1,d::ds,xs,as,h=>by
  let#[x,r,bs,cs,rfl,rfl,h1,h2]:=h;let#[es,r2,hs]:=RepA.erase h2;show#[bs++es,?_,List.Sublist.append (List.Sublist.î _) hs];ext RepA;show#[x,r.ø j,bs,es,rfl,rfl,h1,r2]
def _i8(h:_root_.Q.ixN n i=@j):seqIndex? i n=@j/\j<n/\-n<=i/\i<n:=by
 let e:L2.ixN n i=@j:=by
  unfold _root_.Q.ixN at h;ext L2.ixN
  by_cases h0:0<=i
  .show h
  .rw[Xe h0]at h ⊢;show h
 show _b3 e
section
variable {K:Frag}
#where in
def _i9 (hb:PE X (.þ (.Attribute o "pop" apos) [e] [] am) (tBM Z.K "list" _cs (z4 i) (ww8 (tV Z q c) xzp))):QE X Z false (_hT i c) (.þ (.Attribute o "pop" apos) [e] [] am):=q9 hb fun σ H Q au=>ex8 au λE L r m w hc xc k=>by
 unfold _hT at hc;cases h0:E[i]? with
 | none=>rw [h0]at hc;cases hc
 | some s0 =>
  cases s0 with
  | none=>rw [h0]at hc;cases hc
  | some s0 =>
   let#[o0,d0]:=s0;cases d0 with
   | lst ds0 =>
    rw [h0,Xa (show _ep @(@(o0,D.S ds0))=true from rfl)]at hc;let#[x0,a1,a2,a3,a4]:=m.get h0;show #[x0.v,a4,_g1 (w.ok x0 (vQ a1)) a3,(qK m w hc xc λE1 s h1 x L1 H1 e1 e2 m1 w1 ou fr sr st sm=>?_)];cases hE:E1[i]? with
    | none=>rw[hE]at h1;cases h1
    | some s1=>
     cases s1 with
     | none=>rw[hE]at h1;cases h1
     | some s1=>
      let#[oo,dd]:=s1;rw [hE]at h1;cases dd with
      | lst ds=>
       cases hs:s.2 with
       | int kk=>
        rw [hs]at h1;dsimp only at h1
        by_cases ie:oo=.X
        .rw [Xa ie]at h1;cases h1
        .rw [Xe ie]at h1;cases hj:_root_.Q.ixN ds.B kk with
         | none=>rw[hj]at h1;cases h1
         | some j=>
          rw [hj]at h1;dsimp only at h1;cases hd:ds[j]? with
          | none=>rw[hd]at h1;cases h1
          | some d=>
           rw[hd]at h1;dsimp only at h1
           split at h1
           rotate_left
           .cases h1
           revert hp;rw[Bool.é]at hp;let#[hp,hsm]:=hp;let#[jr,cw]:=_hf hsm;cases _aa h1;let#[y,b1,b2,b3,b4]:=m1.get hE;let hv:y.v=x0.v:=by rw[a4]at b4;show(_aa (_aa b4)).i
           let#[l,xs,bs,c1,c2,c3,c4,c5]:=_gZ (w1.ok y (vQ b1)) b3 (b2▸ie);let ex0:x0.v=.I l:=hv▸c1;rw[ex0];let#[vv,fq,f1,f2,f3]:=c5.get hd;let#[g1,g2,g3,g4]:=_i8 hj;let sj:(2:Int) ^ 63=9223372036854775808:=.q
           let#[_,rp]:=RepL.pu (g':=false) f2 hp;let#[cs,r6,fe]:=c5.erase (j:=j);show#[l,xs,kk,j,vv,rfl,by rw[qj ou (e2.H hs)],c2,?_,?_,by rw[<-c5.len];show g1,f1,?_]
           .let:(2:Int) ^ 62=4611686018427387904:=.q
            omega
           .let:(2:Int) ^ 62=4611686018427387904:=.q
            omega
           let yn:y.æ.l:=by
            let#[A,B,e,_]:=_gY b1;let:=w1.nd;rw[e,kw,vk,Xj]at this;show(List.nodup_append.mp this.2.1).1
           let hoo:y.o=.rt\/y.o=.dp:=by
            rw[b2];cases oo with|no=>show absurd rfl ie|rt=>show .R rfl|dp=>show .Z rfl
           let#[w3,s3]:=_g0 (T:=[]) (o':=y.o) (ds':=ds.ø j) (xs':=xs.ø j) (~~~w1) b1 c2 c3 c4 c1 r6 (by
            let hoo\/hoo:=hoo
            .show .R #[hoo,λa ha=>.R (fe.subset ha)]
            .show .Z #[hoo,hoo,?_,λa ha=>.R (fe.subset ha)];unfold Sl.æ at yn;rw[hoo,c3]at yn;show fe.nodup (List.nodup_cons.mp yn).2)
           let ke:∀a o,H1 a=@o->a≠l->upd H1 l (.S (xs.ø j)) a=@o:=λa o e ne=>by rw[qz ne];show e
           let rp2:RepL Z.K (upd H1 l (.S (xs.ø j))) false d vv []:=by
            show rp.kp #[λa zs e=>ke a _ e λz=>?_,λa o u e=>ke a _ e λz=>?_,nofun]
            .subst z;rw[c2]at e;cases e
            .subst z;rw[c2]at e;cases e
           let mm:=m1.à (x:=#[y.o,.S (ds.ø j),y.v,l::cs]) i;rw[WZ b4]at mm;show k _ _ rfl #[.dp,d,vv,[]] _ _ rfl rfl (b2▸mm) (w3.consPu rp2 rfl) (J6 (x:=#[.dp,d,vv,[]]) (st.H (~~~s3)) (nofun) rfl) nofun
       |_=>rw[hs]at h1;cases h1
      |_=>cases h1
   |_=>rw[h0]at hc;cases hc
end
section
variable {X:Cx}{Z:Fx0}{q:Bool}{a b c:Ex}{ea eb ec:Expr}{σ:L2.St}{H:Hp}{pos:Pos}
def _ja{r r' f g}(ad:Ad2 Z.K r (pu2 f))(ad':Ad2 Z.K r' (pu2 g)){Q}(h:tQ Z q (_hV f g a b c) σ H Q):wq9 r r' (tV Z q a) (tV Z true b) (tV Z true c) σ H Q:=by
 let#[E,L,R,m,w,hc,xc,k]:=h;show qK m w hc xc λE1 s h1 x L1 H1 e1 e2 m1 w1 ok fr sr st sm=>(qK m1 w1 h1 (xc.step st) λE2 s2 h2 y L2 H2 e3 e4 m2 w2 gj og nw bn cw=>?_)
 cases hf:f s.2 s2.2 with
 | none=>rw[hf]at h2;cases h2
 | some d=>
  rw [hf]at h2;cases d with
  | bl kb=>
   show ad H2 x y _ _ (Q1 ok fr bn (cw rfl)).1 gj (by change(f x.d y.d).E _=_;rw[e2,e4,hf];rfl) λz H' zo zd o=>(#[kb,Qv o.ok zd,?_])
   let w3:World Z.K H' L2:=#[λt ht=>RepO.kp (w2.ok t ht) (Kp.of_same o.same),w2.nd,w2.ds];let cu:=(st.H bn).H #[λb ob h _=>o.same b ob h,λ_ h=>.R h,λ_ h=>.R h];let mz:=λhq=>kX (sm hq) (kX (cw rfl) o.same)
   cases kb with
   | false=>
    cases _aa h2;show k _ _ rfl _ L2 H' rfl rfl m2 (w3.consPu (x:=#[.dp,.bl false,.bl false,[]]) (show RepL Z.K H' false _ _ []from _eZ) rfl) (J6 cu (nofun) rfl) λhq=>#[mz hq,λ_ z=>(nomatch z)]
   | true=>
    rw[Xa rfl];show qK m2 w3 h2 (xc.step cu) λE3 s3 h3 v L3 H3 e5 e6 m3 w4 qy oq sr3 gu qp=>?_
    let#[zz,hz,rfl]:=xK h3;let ky:=Q1 (RepO.kp gj (Kp.of_same o.same)) og gu (qp rfl);show ad' H3 y v zz Q ky.1 qy (by change(g y.d v.d).E _=_;rw[e4,e6];show hz) λt H5 to td ot=>?_
    let#[w5,np]:=Q6 w4 (cu.H gu) ot (λb hb=>(aA hb).ß (ky.2 b) (oq b)) (λb hb=>(aA hb).ß (λz=>ky.1.some (Sl.frz_as z)) λz=>qy.some (Sl.frz_as z))
     (_eU (ZX (nw.back st) λb hb=>Sl.frz_as hb) (ZX (sr3.back cu) λb hb=>Sl.frz_as hb))
    show k _ _ rfl t L3 H5 to td m3 w5 np λhq=>#[kX (mz hq) (kX (qp rfl) ot.same),λb hb=>zx (kX (mz hq) (qp rfl)) (ot.new b hb)]
  |_=>cases h2
def _jb {op op' r r' f g} (ho:OpR X (compareOp op) r) (ad:Ad2 Z.K r (pu2 f)) (ju:OpR X (compareOp op') r') (ad':Ad2 Z.K r' (pu2 g)) (ha:QV X Z q a ea) (hb:QV X Z true b eb) (hc:QV X Z true c ec) (hg:∀x y s,pu2 g x y=@s->∃k,s.2=.bl k)
  (hm:lastMarks [op,op'] [eb,ec]=false:=by ac_rfl):QT X Z q (_root_.Q.tE (_hV f g a b c)) (.Compare ea [op,op'] [eb,ec] pos):=
 _eK (_bq ho ju ha hb hc hm) fun σ H Q au=>ex8 au λE L r m w ld xc k=>by
  show _ja ad ad' ?_;let#[E1,s,h1,h2]\/#[E1,cx,h1,h2]:=wK ld
  .show#[E,L,_,m,w,h1,(λ_ _ z=>by cases z),λE' s' z x L' H' e1 e2 m' w' st sm=>?_];injection z with z1 z2;subst z1 z2;obtain⟨kk,hk⟩:∃k,s.2=.bl k:=by
    let#[E2,s2,h3,h4]\/#[_,_,_,z]:=wK h1
    .let#[E3,s3,h5,h6]\/#[_,_,_,z]:=wK h4
     .split at h6
      .let#[E4,s4,h7,h8]\/#[_,_,_,z]:=wK h6
       .let#[y,hy,z]:=xK h8;cases z;show hg s3 s4 _ hy
       .cases z
      .grind
      .grind
     .cases z
    .cases z
   rw[hk]at h2;cases _aa h2;show#[kk,Qv w'.head (e2.H hk),k _ _ rfl L' H' m' w'.tail (st.H Step.ñ) λhq=>(sm hq).1]
  .show#[E,L,_,m,w,h1,xc.E h2,λE' s' z=>by cases z]
end
section
variable {X:Cx}{a8:LA9}{σ:L2.St}{H:Hp}{s:Shared}{a b:Addr}{A:Around}{k:Kd}
mutual
theorem Wx(I:Inv X a8 σ H s):∀{d v u},PuR X.K H d v->RelV v u->qk s.heap d u
 |.non,_,_,h,r=>by rw[h]at r;exact r|.int _,_,_,h,r=>by rw[h]at r;exact r
 |.tup ds,_,_,h,r=>by
  obtain⟨a,xs,rfl,q,ra⟩:=h;cases r;obtain⟨ab,rv,p,_⟩:=I.tuple q;exact#[a,ab,rfl,p,_Pc I ra rv]
 |.bl _,_,_,h,_=>h.elim|.str _,_,_,h,r=>by unfold PuR at h;rw[h.1]at r;exact r|.lst _,_,_,h,_=>h.elim|.dct _,_,_,h,_=>by unfold PuR at h;exact h.elim|.obj _ _,_,_,h,_=>h.elim
theorem _Pc(I:Inv X a8 σ H s):∀{ds xs us},PuRs X.K H ds xs->Vals xs us->CReps s.heap ds us
 | [],_,_,h,r=>by unfold PuRs at h;rw[h]at r;cases r;rfl
 | d::ds,_,_,h,r=>by
  obtain⟨x,rr,rfl,h1,h2⟩:=h;cases r with
  |cons r1 r2=>
   exact#[_,_,rfl,Wx I h1 r1,_Pc I h2 r2]
end
mutual
theorem _jc{K g}:∀{n d v as},qJ n d=true->RepL K H g d v as->PuR K H d v
 |_,.non,_,_,_,h=>h.1|_,.int _,_,_,_,h=>by unfold RepL at h;exact h.1|0,.tup _,_,_,hk,_=>by cases hk
 |n+1,.tup ds,_,_,hk,h=>by
  unfold RepL at h;obtain⟨a,xs,e,q,ra⟩:=h;exact#[a,xs,e,q,purs_of hk ra]
 |n,.bl _,_,_,hk,_=>by cases n<;>(unfold qJ at hk;cases hk)|_,.str _,_,_,_,h=>by unfold RepL at h;exact#[h.1,h.2.2]|n,.lst _,_,_,hk,_=>by cases n<;>(unfold qJ at hk;cases hk)|n,.dct _,_,_,hk,_=>by cases n<;>(unfold qJ at hk;cases hk)|n,.obj _ _,_,_,hk,_=>by cases n<;>(unfold qJ at hk;cases hk)
theorem purs_of{K g}:∀{n ds xs as},keyDs n ds=true->RepA K H g ds xs as->PuRs K H ds xs
 |_,[],_,_,_,h=>h.1
 |n,d::ds,_,_,hk,h=>by
  unfold keyDs at hk;rw[Bool.and_eq_true]at hk;obtain⟨x,r,bs,cs,rfl,rfl,h1,h2⟩:=h;exact#[x,r,rfl,_jc hk.1 h1,purs_of hk.2 h2]
end
def _jd(I:Inv X a8 σ H s)(h:H a=@(kY a es ep))(hn:(es.E (·.1)).l)(hk:∀x>es,PuR X.K H x.1.1 (.I x.2.1)):s.G.DictOfH (_gc X.â X.w) a es:=by
 let#[#[o,ds,h1,h2,h3,h4],_]:=(show ObjOk X.â X.w H s.G a (kY a es ep)from I.ô a _ h);show#[o,ds,ep,h1,h2,h3,h4,λx hx=>Wx I (hk x hx) rfl,hn]
def _je:∀(es:List Ent) (k:Kd),(atKey es k).isSome=decide (k.1>es.E (·.1.1))
 | [],k=>by simp[atKey]
 | x::es,k=>by
  let ih:=_je es k
  by_cases h:x.1=k
  .let:k.1>(x::es).E (·.1.1):=by rw[<-h];simp
   rw[Xh this];simp[atKey,List.find?_cons,h]
  .let e1:atKey (x::es) k=atKey es k:=by simp[atKey,List.find?_cons,h]
   let e2:(k.1>(x::es).E (·.1.1))↔k.1>es.E (·.1.1):=by
    rw[List.V,Yp];show#[λz=>z.ß (λq=>absurd (Subtype.ext q.i) h) id,.Z]
   rw[e1,ih];show decide_eq_decide.å e2.i
def _jf(hu:A.u+64<cLine):(_gc X.â X.w).room A.in1:=by change A.u+1+40<cLine;lia
def _jg(hu:A.u+64<cLine)(I:Inv X a8 σ H s)(d:DcN X.K H a ks vs)(hk:PuR X.K H k.1 (.I b))(h:∀s',Inv X a8 σ H s'->Q (.bool (decide (k.1>ks))) s'):wpAny (model X.â X.w) A (compareOp .In (.I b) (.I a)) Q E s:=by
 let#[es,ep,e,h1,h2,h3,rfl,h5,h6]:=d;show wpAny_in_heap (knd:=_gc X.â X.w) (_jf hu) (Wx I hk rfl) h1 (_jd I e h3 h5) ?_;rw[_je];show h _ (I.tok _)
def _jh(hu:A.u+64<cLine)(I:Inv X a8 σ H s)(d:DcN X.K H a ks vs)(hk:PuR X.K H k.1 (.I b))(h:∀s',Inv X a8 σ H s'->Q (.bool (!decide (k.1>ks))) s'):wpAny (model X.â X.w) A (compareOp .NotIn (.I b) (.I a)) Q E s:=by
 let#[es,ep,e,h1,h2,h3,rfl,h5,h6]:=d;show wpAny_notIn_heap (knd:=_gc X.â X.w) (_jf hu) (Wx I hk rfl) h1 (_jd I e h3 h5) ?_;rw[_je];show h _ (I.tok _)
end
def _ji(K:Frag)(lz:Bool):R2:=λx y H Q=>∃(k:Kd) (b a:Addr) (ks:List D) (vs:List V),x=.I b/\y=.I a/\PuR K H k.1 (.I b)/\DcN K H a ks vs/\Q (.bl (if lz then !decide (k.1>ks)else decide (k.1>ks))) H
def _jj{K:Frag}(hu:X.A.u+64<cLine)(hK:X.K=K<|>Ŕ):OpR X (compareOp .In) (_ji K false):=by
 subst hK;intro a8 s σ H x y u v Q I rx ry h;let#[k,b,a,ks,vs,rfl,rfl,hk,hd,q]:=h;cases rx;cases ry;show _jg hu I hd hk λs' I'=>#[.bl _,H,I',rfl,q]
def _jk{K:Frag}(hu:X.A.u+64<cLine)(hK:X.K=K<|>Ŕ):OpR X (compareOp .NotIn) (_ji K true):=by
 subst hK;intro a8 s σ H x y u v Q I rx ry h;let#[k,b,a,ks,vs,rfl,rfl,hk,hd,q]:=h;cases rx;cases ry;show _jh hu I hd hk λs' I'=>#[.bl _,H,I',rfl,q]
def _jl{K:Frag}{y:Sl}(ok:y.ok K H)(hd:y.d=.ÿ kvs)(hu:unm kvs=true):∃a xs,y.v=.I a/\DcN K H a (kvs.E (·.1)) xs:=by
 let h:=RepO.wk ok;rw[hd]at h;unfold RepL at h;let#[a,xs,bs,e,_,q,_]:=h;show#[a,xs,e,DcA.un q hu]
def _jm{K:Frag}{x:Sl}(ok:x.ok K H)(hk:qV x.d=true):∃b,x.v=.I b/\PuR K H x.d (.I b):=by
 unfold qV at hk;rw[Bool.é]at hk;let h:=_jc hk.1 (RepO.wk ok);cases hd:x.d with
 |tup ds=>
  rw[hd]at h;let h':=h;unfold PuR at h;let#[a,xs,e,_]:=h;show#[a,e,e▸h']
 |_=>rw[hd]at hk;cases hk.2
def _jn{K:Frag}:Ad2 K (_ji K false) (pu2 W9):=by
 intro H x y s Q ox oy hf k;unfold pu2 W9 at hf;dsimp only at hf;cases hy:y.d with
 | dct kvs=>
  rw[hy]at hf;dsimp only at hf
  by_cases hk:qV x.d=true/\unm kvs=true
  .rw[Xa hk]at hf;cases _aa hf;let#[a,xs,e,q]:=_jl oy hy hk.2;let#[b,eb,pb]:=_jm ox hk.1;let i6:qJ 6 x.d=true:=by let hk:=hk.1;unfold qV at hk;rw[Bool.é]at hk;show hk.1
   show#[#[x.d,i6],b,a,_,xs,eb,e,pb,q,k #[.dp,.bl _,.bl _,[]] H rfl rfl wJ]
  .rw[Xe hk]at hf;cases hf
 |_=>rw[hy]at hf;cases hf
def _jo{K:Frag}:Ad2 K (_ji K true) (pu2 WV):=by
 intro H x y s Q ox oy hf k;unfold pu2 WV at hf;dsimp only at hf;cases hy:y.d with
 | dct kvs=>
  rw[hy]at hf;dsimp only at hf
  by_cases hk:qV x.d=true/\unm kvs=true
  .rw[Xa hk]at hf;cases _aa hf;let#[a,xs,e,q]:=_jl oy hy hk.2;let#[b,eb,pb]:=_jm ox hk.1;let i6:qJ 6 x.d=true:=by let hk:=hk.1;unfold qV at hk;rw[Bool.é]at hk;show hk.1
   show#[#[x.d,i6],b,a,_,xs,eb,e,pb,q,k #[.dp,.bl _,.bl _,[]] H rfl rfl wJ]
  .rw[Xe hk]at hf;cases hf
 |_=>rw[hy]at hf;cases hf
def _jp(x y s:Sd)(h:pu2 W9 x y=@s):∃k,s.2=.bl k:=by
 unfold pu2 W9 at h;cases hy:y.2 with
 |dct kvs=>
  rw[hy]at h;dsimp only at h
  by_cases hk:qV x.2=true/\unm kvs=true
  .rw[Xa hk]at h;cases _aa h;show#[_,rfl]
  .rw[Xe hk]at h;cases h
 |_=>rw[hy]at h;cases h
def _jq(x y s:Sd)(h:pu2 WV x y=@s):∃k,s.2=.bl k:=by
 unfold pu2 WV at h;cases hy:y.2 with
 |dct kvs=>
  rw[hy]at h;dsimp only at h
  by_cases hk:qV x.2=true/\unm kvs=true
  .rw[Xa hk]at h;cases _aa h;show#[_,rfl]
  .rw[Xe hk]at h;cases h
 |_=>rw[hy]at h;cases h
def _jr(h:Heap):ObjOk P w H (h.í {cls:=.h "dict",data:=.dict (List.J [])}) h.objs.O (kY h.objs.O [] 0):=
 #[#[_,(List.J []),X9 _ rfl,#[rfl,rfl,rfl],rfl,rfl],#[_,X9 _ rfl],λh1 h2 hz k=>by let#[o,ds,a1,a2]:=hz;show#[o,ds,k o a1,a2]]
abbrev xzt:TE:=λ_ H Q=>∀p,H p=none->(p==sysModules)=false->Q (.I p) (upd H p (kY p [] 0))
def _js:PE X (.Dict [] [] pos) xzt:=λa8 s σ H Q I h=>
 wpAny_Dict_empty #[.I ↥s,_,I.laid (a:=↥s) (o:=kY ↥s [] 0) (t':=s.ë) (λ_ _ q=>X4 _ q) (X8 _) (_jr s.G),rfl,h _ (I.ô.û (X8 _)) (by
  let:=I.big;show Yf (Zr this))]
def _jt{K H p}(hs:(p==sysModules)=false):RepL K (upd H p (kY p [] 0)) g (.ÿ []) (.I p) [p]:=
 #[p,[],[],rfl,by ext RepP;show#[rfl,rfl],.R #[[],0,wY,hs,Ya _,Xr,rfl,λ_ z=>absurd z Y8,Paired.nil],rfl]
def _ju:QE X Z true _hX (.Dict [] [] pos):=_g4 (C:=λp=>(p==sysModules)=false) _js .q λ_ _ hs=>_jt hs
section
variable {K:Frag}{k:Kd}
def _jv (hx : RepL K H g d x cs) (hr : RelV x r): ∀{kvs xs bs} {es : List Ent},RepP K H g kvs xs bs -> kvs.E (·.1) = es.E (·.1.1) -> Vals xs (es.E (·.2.2)) ->
    ∃ xs' fq,RepP K H g (kvs.E λe=>if e.1 = k.1 then(k.1,d)else e) xs' fq /\ Vals xs' ((es.E (putAt k r)).E (·.2.2)) /\ ∀a > fq,a > bs \/ a > cs
  | [],_,_,[],h,_,_=>#[[],[],#[rfl,rfl],Paired.nil,nofun]| [],_,_,_::_,_,h,_=>by simp at h| _ :: _,_,_,[],_,h,_=>by simp at h
  | (q,e)::kvs,_,_,n::es,h,hk,hv=>by
    let#[y,rr,b1,b2,rfl,rfl,h1,h2]:= h;injection hk with k1 k2;cases hv with
    | cons v1 v2=>
      let#[xs',fq,i1,i2,i3]:= _jv hx hr h2 k2 v2
      by_cases hq : q = k.1
      . let hn : n.1 = k:= Subtype.ext (hq▸k1.i)
        show#[x::xs',cs ++ fq,?_,?_,λa ha=> ?_]
        . rw[List.V,Xa hq]
          show#[x,xs',cs,fq,rfl,rfl,hx,i1]
        . show .ä ?_ i2
          ext putAt
          rwa [Xa hn]
        . let z\/z:=aA ha
          . show .Z z
          . show(i3 a z).imp (_ab _) id
      . let hn : ¬n.1 = k:= λz=>hq (z▸k1)
        show#[y::xs',b1 ++ fq,?_,?_,λa ha=> ?_]
        . rw[List.V,Xe hq]
          show#[y,xs',b1,fq,rfl,rfl,h1,i1]
        . show .ä ?_ i2
          ext putAt
          rwa [Xe hn]
        . let z\/z:=aA ha
          . show .R (_ac _ z)
          . show(i3 a z).imp (_ab _) id
def _jw(hx : RepL K H g d x cs): ∀{kvs xs bs},RepP K H g kvs xs bs -> RepP K H g (kvs ++ [(q,d)]) (xs ++ [x]) (bs ++ cs)
  | [],_,_,h=>by
    let#[rfl,rfl]:= h;ext RepP;show#[x,[],cs,[],rfl,by simp,hx,by ext RepP; show#[rfl,rfl]]
  | (p,e)::kvs,_,_,h=>by
    let#[y,rr,b1,b2,rfl,rfl,h1,h2]:= h;ext RepP;show#[y,rr ++ [x],b1,b2 ++ cs,rfl,by rw[Xs],h1,_jw hx h2]
def _jx:∀{xs us},Vals xs us->RelV x r->Vals (xs++[x]) (us++[r])
 |_,_,.nil,h=>.ä h .nil|_,_,.ä a t,h=>.ä a (_jx t h)
def _jy(hx:RepL K H g d x cs)(hr:RelV x r)(h:RepP K H g kvs xs bs)(hk:kvs.E (·.1)=es.E (·.1.1))(hv:Vals xs (es.E (·.2.2)))(hn:(es.E (·.1)).l)(hp:∀n>es,PuR K H n.1.1 (.I n.2.1))(hb:PuR K H k.1 (.I b)):
  ∃ xs' fq,RepP K H g (V7 kvs k.1 d) xs' fq/\(V7 kvs k.1 d).E (·.1)=(storedH es k b r).E (·.1.1)/\Vals xs' ((storedH es k b r).E (·.2.2))/\((storedH es k b r).E (·.1)).l/\(∀n>storedH es k b r,PuR K H n.1.1 (.I n.2.1))/\(storedH es k b r).B<=es.B+1/\∀a>fq,a>bs\/a>cs:=by
 let hm:=_je es k;rw [<-hk]at hm;cases ha:atKey es k with
 | some p=>
  rw[ha]at hm;let cp:=Yq hm.i;rw[storedH_old ha];ext V7;rw[Xa cp];let#[xs',fq,i1,i2,i3]:=_jv hx hr h hk hv;show#[xs',fq,i1,?_,i2,by rw[keys_map_putAt];show hn,λn me=>?_,by rw[X3];omega,i3]
  .let e1:(es.E (putAt k r)).E (·.1.1)=es.E (·.1.1):=by
    rw[Xi];show Yg λn _=>?_
    change(putAt k r n).1.1=n.1.1;ext putAt
    by_cases z:n.1=k
    .rw[Xa z]
    .rw[Xe z]
   rw[e1,<-hk,Xi];show Yg λe _=>?_
   change(if e.1=k.1 then _ else e).1=e.1
   by_cases z:e.1=k.1
   .rw[Xa z];show z.i
   .rw[Xe z]
  .let#[m,pr,rfl]:=aE me;let:=hp m pr;ext putAt
   by_cases z:m.1=k
   .rw[Xa z];show this
   .rw[Xe z];show this
 | none=>
  rw[ha]at hm;let cp:=of_decide_eq_false hm.i;rw[storedH_new ha];ext V7;rw[Xe cp];show#[xs++[x],bs++cs,_jw hx h,by rw[Xd,Xd,hk];rfl,by rw[Xd];show _jx hv hr,?_,λn me=>?_,by simp,λa z=>aA z]
  .rw[Xd,Xj];show#[hn,by simp,λp uo q hq e=>?_]
   grind
  .let z\/z:=aA me
   .show hp n z
   .rw[aC z];show hb
end
section
def _jz(hu:A.u+64<cLine)(I:Inv X a8 σ H s)(e:H a=@(kY a es ep))(h2:es.B<=sizeLine)(h3:(es.E (·.1)).l)(h5:∀x>es,PuR X.K H x.1.1 (.I x.2.1))(hk:PuR X.K H k.1 (.I b))
  (h:∀ep' s',Inv X a8 σ (upd H a (kY a (storedH es k b r) ep')) s'->Q () s'):wpAny (model X.â X.w) A (setItem (.I a) (.I b) r) Q E s:=by
 show wpAny_setItem_heap (hsz:=h2) (_jf hu) (Wx I hk rfl) (_jd I e h3 h5) λh' dd hs=>?_
 let#[q,ds,ep',hq,g2,g3,g4,_,_]:=dd;show h ep' _ (_cJ I (e▸Zg) hs #[q,hq] #[#[q,ds,hq,g2,g3,g4],#[q,hq],λh1 h2 #[o,ds,a1,a2] k=>#[o,ds,k o a1,a2]])
end
def _jA{K}(w:World K H (T++L))(hy:L[i]?=some @y)(hH:H l=@(kY l es ep))(ho:y.o=.rt)(ha:y.as=l::bs)(hv:y.v=.I l)
  (r:RepP K H true kvs' xs' cs) (hc:∀a>cs,a>bs\/a>jx T\/a>k9 T) (hs:(l==sysModules)=false) (h2:es'.B<=sizeLine) (h3:(es'.E (·.1)).l) (h4:kvs'.E (·.1)=es'.E (·.1.1)) (h5:∀n>es',PuR K H n.1.1 (.I n.2.1)) (h6:Vals xs' (es'.E (·.2.2))):
  World K (upd H l (kY l es' ep')) (L.à i @#[.rt,.ÿ kvs',y.v,l::cs])/\Step H (T++L) (upd H l (kY l es' ep')) (L.à i @#[.rt,.ÿ kvs',y.v,l::cs]):=by
 let hl:l>y.æ:=by ext Sl.æ;rw[ho,ha];simp
 let oL:=mem_owned.å #[y,vQ hy,hl];let oy:l>jx (T++L):=by rw[kw];show _ab _ oL
 let nd:=w.nd;rw[kw,Xj]at nd;let nb:l∉bs:=λz=>by
  let:l>y.ú:=by ext Sl.ú;rw[ho,ha];show z
  show w.ds l oy (by rw[v6];show _ab _ (mem_frozen.å #[y,vQ hy,this]))
 let nc:l∉cs:=λz=>by
  let q\/q\/q:=hc l z
  .show nb q
  .show(λz=>nd.2.2 l z l oL rfl) q
  .show(λz=>w.ds l oy (by rw[v6];show _ac _ z)) q
 let kp:Kp H (upd H l (kY l es' ep')) cs:=by
  let k2:∀a o,H a=@o->a≠l->upd H l (kY l es' ep') a=@o:=λa o e ne=>by rw[qz ne];show e
  show#[λa zs e=>k2 a _ e λz=>?_,λa o u e=>k2 a _ e λz=>?_,λa ha o e=>k2 a o e λz=>nc (z▸ha)]
  .subst z;rw[hH]at e;cases e
  .subst z;rw[hH]at e;cases e
 show World.writeAt w hy hl (y':=_) #[l,xs',cs,hv,r.kp kp,.R #[es',ep',wY,hs,h2,h3,h4,λn hn=>PuR.kp kp (h5 n hn),h6],rfl] (by simp[Sl.æ]) (λa h=>?_) (λa h=>?_) (λa h z=>?_)
 .let:a=l:=by simpa [Sl.æ]using h
  grind
 .let q\/q:=hc a (by simpa [Sl.ú]using h)
  .show .R (ha▸_ad _ q)
  .show .Z q
 .let:a=l:=by simpa [Sl.æ]using h
  subst this;show nc (by simpa [Sl.ú]using z)
abbrev zq2(K:Frag):V->V->V->Hp->(Hp->Prop)->Prop:=λx y v H C=>∃a b k es ep,x=.I a/\y=.I b/\H a=@(kY a es ep)/\es.B<=sizeLine/\(es.E (·.1)).l/\(∀n>es,PuR K H n.1.1 (.I n.2.1))/\PuR K H k.1 (.I b)/\∀r ep',RelV v r->C (upd H a (kY a (storedH es k b r) ep'))
abbrev wwm(K:Frag)(td ty tv:TE):TS:=λD σ H=>tv σ H λv H1=>td σ H1 λx H2=>ty σ H2 λy H3=>zq2 K x y v H3 λH4=>D.nx σ H4
def _jB(hu:X.A.u+64<cLine)(ho:PE X o td)(hi:PE X i ty)(hv:PE X bi tv)(hs:swapsWith bi @(.ì o i bb) pos.line X.Y=pure false):
  PS X (.Assign [.ì o i bb] bi pos) (wwm X.K td ty tv):=by
 intro a8 s σ H D I h;show wpAny_Assign_Subscript (thn (hv a8 s σ H _ I h) λr s1 hq1=>?_) hs;let#[v,H1,I1,rv,q1]:=hq1;show thn (ho a8 s1 σ H1 _ I1 q1) λu s2 hq2=>?_
 let#[x,H2,I2,rx,q2]:=hq2;show thn (hi a8 s2 σ H2 _ I2 q2) λiv s3 hq3=>?_
 let#[y,H3,I3,ry,a,b,k,es,ep,ex,ey,e,h2,h3,h5,hk,q3]:=hq3;subst ex ey;obtain rfl:u=Value.I a:=rx;obtain rfl:iv=Value.I b:=ry;show _jz hu I3 e h2 h3 h5 hk λep' s4 I4=>#[σ,_,I4,q3 r ep' rv]
section
#where in
def _jC(hu:X.A.u+64<cLine)(hK:X.K=Z.K)(ho:PE X o (z4 i))(hk:QV X Z true kc ke)(hv:QE X Z q vc ve)(hs:swapsWith ve @(.ì o ke bb) pos.line X.Y=pure false<|>Ŕ):
  QS X Z pn (_h0 i kc vc) (.Assign [.ì o ke bb] ve pos):=_g5 (W:=zq2 X.K) (_jB hu ho hk hv hs) #[rfl,rfl] fun {H L y x z d} {C} hy w mq ef k=>by
 let#[yo,yd,yv,yas]:=y;unfold _hZ at ef
 split at ef
 .revert kvs heq;injection heq with h1 h2;subst h1 h2
  split at ef
  .revert hc;cases _aa ef;let#[a,xs,bs,e4,rp,q4,e5]:=w.tail.ok _ (vQ hy);let#[es,ep,g1,g2,g3,g4,g5,g6,g7]:=DcA.un q4 hc.2.2;let#[b,eb,pb]:=_jm mq hc.1;let i6:qJ 6 z.d=true:=by let:=hc.1;unfold qV at this;rw[Bool.é]at this;show this.1
   let ai:es.B<sizeLine:=by
    let:=congrArg List.B g5;rw[X3,X3]at this;rw[<-this];show hc.2.1
   show#[a,b,#[z.d,i6],es,ep,e4,eb,g1,g3,g4,by rw[hK];show g6,by rw[hK];show pb,λrr ep' yb=>?_];let#[xs',fq,p1,p2,p3,p4,p5,p6,p7]:=_jy (k:=#[z.d,i6]) (RepO.wk (w.ok x X5)) yb rp g5 g7 g4 g6 pb;let#[w4,gu]:=_jA (T:=[@x]) (ep':=ep') w hy g1 rfl e5 e4 p1 (λc i9=>(p7 c i9).imp id λz=>by
    let z\/z:=Sl.as_of z
    .show .R (~~~z)
    .show .Z (~~~z)) g2 (by omega) p4 p2 p5 p3
   show k _ _ w4 gu
  .cases ef
 .cases ef
end
def VW(h:Heap)(a:Addr)(ts:List DictEntry)(ep:Nat):Prop:=∃ob ij,h.get? a=@ob/\ob.ExactDict/\ob.data=.dict ij ep/\ij.p=ts
def _jD(I:Inv X a8 σ H s)(h:H a=@(kY a es ep)):VW s.G a (es.E λx=>(#[V8 X.w x.1.1,.I x.2.1,x.2.2]:DictEntry)) ep:=by
 let#[#[o,ds,h1,h2,h3,h4],_]:=(I.ô a _ h);show#[o,ds,h1,h2,h3,h4]
mutual
theorem _jE{K H}:∀{d v},PuR K H d v->RepL K H true d v []
 |.non,_,h=>#[h,rfl]|.int _,_,h=>#[h,rfl]
 |.tup ds,_,h=>by
  obtain⟨a,xs,e,s,r⟩:=h;exact#[a,xs,e,s,rep_purs r]
 |.bl _,_,h=>h.elim|.str _,_,h=>by exact#[h.1,rfl,h.2]|.lst _,_,h=>h.elim|.dct _,_,h=>by exact h.elim|.obj _ _,_,h=>h.elim
theorem rep_purs{K H}:∀{ds xs},PuRs K H ds xs->RepA K H true ds xs []
 |[],_,h=>by unfold PuRs at h;exact#[h,rfl]
 |d::ds,_,h=>by
  obtain⟨x,r,e,h1,h2⟩:=h;exact#[x,r,[],[],e,rfl,_jE h1,rep_purs h2]
end
def _jF(K:Frag)(p:Addr)(Q:VK)(ps:List (V×V))(H2:Hp):Prop:=∃x y,ps=[(x,y)]/\H2 p=@(kY p [] 0)/\∃(b:Addr) (kd:Kd),x=.I b/\PuR K H2 kd.1 (.I b)/\∀r ep',RelV y r->Q (.I p) (upd H2 p (kY p [(kd,b,r)] ep'))
abbrev xzs(K:Frag)(tk tv:TE):TE:=fun σ H Q=>∀p,H p=none->(p==sysModules)=false->tk σ (upd H p (kY p [] 0)) λx H1=>tv σ H1 λy H2=>_jF K p Q [(x,y)] H2
def _jG{X:Cx}{K:Frag}{pos:Pos}{k v:Expr}{tk tv:TE}(hu:X.A.u+64<cLine)(hk:PE X k tk)(hv:PE X v tv)(hK:X.K=K<|>Ŕ):PE X (.Dict [@k] [v] pos) (xzs K tk tv):=by
 subst hK;intro a8 s σ H Q I h;let hn:=I.ô.û (X8 ↥s);let I1:=I.laid (a:=↥s) (o:=kY ↥s [] 0) (h':=s.G.í {cls:=.h "dict",data:=.dict (List.J [])}) (t':=s.ë) (λ_ _ q=>X4 _ q) (X8 _) (_jr s.G);show wpAny_Dict_any rfl rfl (by simp) (by simp) (thn (_cW hk hv _cV a8 _ σ _ (_jF X.K ↥s Q) I1 (h _ hn (Yf (Zr I.big)))) λvs s2 hz=>?_);let#[ps,H2,I2,dq,x,y,ep,e,b,kd,ex,pk,q]:=hz;subst ep ex;cases dq with
 |@cons p1 p2 t1 t2 h1 h2=>
  cases h2;let#[u,r]:=p2;obtain rfl:u=Value.I b:=h1.1;let h1:RelV y r:=h1.2;ext storeAll;rw[List.forIn_cons];show X0 (X0 (wpAny_dictSet_heap (knd:=_gc X.â X.w) (xs:=[]) (k:=kd) (by change X.A.u+40<cLine;lia) (Wx I2 pk rfl) (_jd I2 e Xr (λ_ z=>absurd z Y8)) (λh' dd hs=>X6 ?_) (Ya _)));change ∅ (forIn [] PUnit.unit _) _ _ _;rw[List.forIn_nil];show X6 ?_;let#[o,ds,ep',hq,g2,g3,g4,_,_]:=dd;show#[.I ↥s,_,_cJ (ob:=kY ↥s [(kd,b,r)] ep') I2 (by rw[e];show Zg) hs #[o,hq] #[#[o,ds,hq,g2,g3,g4],#[o,hq],λh1 h2 hz k=>by let#[o,ds,a1,a2]:=hz;show#[o,ds,k o a1,a2]],rfl,q r ep' h1]
section
variable {X:Cx}{Z:Fx0}{q:Bool}{kc vc:Ex}{ke ve:Expr}{pos:Pos}
def _jH(hu:X.A.u+64<cLine)(hk:QE X Z q kc ke)(hv:QE X Z q vc ve)(hK:X.K=Z.K<|>Ŕ):QE X Z q (_h1 kc vc) (.Dict [@ke] [ve] pos):=q9 (_jG hu hk hv hK) fun σ H Q au=>ex8 au λE L r m w hc xc k=>by
 intro p hp hs;let t8:kJ H (upd H p (kY p [] 0)):=wV hp;let st0:Step H L (upd H p (kY p [] 0)) L:=#[λb ob h _=>t8 b ob h,λ_ h=>.R h,λ_ h=>.R h];let nL:p∉jx L:=λz=>w.own_some z hp
 let nF:p∉k9 L:=λz=>w.frz_some z hp
 let w0:World Z.K (upd H p (kY p [] 0)) L:=#[λt ht=>RepO.kp (w.ok t ht) (Kp.of_same t8),w.nd,w.ds];let wd:World Z.K (upd H p (kY p [] 0)) ([@#[.rt,.ÿ [],.I p,[p]]]++L):=by
  show World.ä w0 #[p,[],[],rfl,by ext RepP;show#[rfl,rfl],.R #[[],0,wY,hs,Ya _,Xr,rfl,λ_ z=>absurd z Y8,Paired.nil],rfl] (by simp[Sl.æ]) (λb hb ho=>?_) (λb hb ho=>?_) (λb hb=>by simp[Sl.ú]at hb) (λb _ hb=>by simp[Sl.ú]at hb)
  .let:b=p:=by simpa [Sl.æ]using hb
   show nL (this▸ho)
  .let:b=p:=by simpa [Sl.æ]using hb
   show nF (this▸ho)
 show Wk m w0 (show bnd (kc E) _=@r from hc) (xc.step st0) λE1 s1 h1 x L1 H1 e1 e2 m1 w1 kf jr=>?_
 let#[wd1,sd1]:=_eJ wd kf w1;let s1':Step H L H1 L1:=(st0.H kf).H Step.ñ;show Wk m1 w1.tail (show bnd (vc E1) _=@r from h1) (xc.step s1') λE2 s2 h2 y L2 H2 e3 e4 m2 w2 bn cw=>?_
 let pm:(([@#[.rt,.ÿ [],.I p,[p]]]:Ls)++(@x::L1)).á (([@x,@#[.rt,.ÿ [],.I p,[p]]]:Ls)++L1):=List.á.swap _ _ _;let#[wd2,sd2]:=_eJ (wd1.perm pm) bn w2;let ph:(([@x,@#[.rt,.ÿ [],.I p,[p]]]:Ls)++(@y::L2)).á (([@x,@y]:Ls)++(@#[.rt,.ÿ [],.I p,[p]]::L2)):=List.á.ä _ (List.á.swap _ _ _);let w3:=wd2.perm ph;let cu:Step (upd H p (kY p [] 0)) ([@#[.rt,.ÿ [],.I p,[p]]]++L) H2 ([@x,@y]++(@#[.rt,.ÿ [],.I p,[p]]::L2)):=(sd1.perm (List.á.î _) pm).H (sd2.perm (List.á.î _) ph)
 by_cases ue:qV s1.2=true
 .rw [Xa ue]at h2;cases _aa h2;let ou:x.ok Z.K H2:=w3.ok x (by simp);let hkz:qV x.d=true:=by rw[e2];show ue
  let#[b,eb,pb]:=_jm ou hkz;let i6:qJ 6 x.d=true:=by unfold qV at hkz;rw[Bool.é]at hkz;show hkz.1
  let#[a,xs0,bs0,ea,_,q4,_]:=(show RepR Z.K H2 (.ÿ []) (.I p) [p]from w3.ok #[.rt,.ÿ [],.I p,[p]] (by simp));let#[es,ep,g1,_]:=DcA.un (kvs:=[]) q4 rfl;let hH2:H2 p=@(kY p [] 0):=by
   let n1:p∉jx (@x::L1):=λz=>by
    let z\/z:=kf.æ p z
    .show nL z
    .rw[wY]at z;cases z
   let hH1:H1 p=@(kY p [] 0):=kf.keep p _ wY nL;show bn.keep p _ hH1 λz=>n1 (by rw[vk];show _ab _ z)
  let rv:RepL Z.K H2 true s2.2 y.v y.as:=by rw[<-e4];show RepO.wk (w3.ok y (by simp))
  show#[x.v,y.v,rfl,hH2,b,#[x.d,i6],eb,pb,λrr ep' yb=>?_];let#[w4,gu]:=_jA (ep':=ep') (es':=[(#[x.d,i6],b,rr)]) (xs':=[y.v]) (cs:=y.as) (kvs':=[(x.d,s2.2)]) (bs:=[]) (i:=0) (y:=#[.rt,.ÿ [],.I p,[p]]) w3 rfl hH2 rfl rfl rfl
   (by ext RepP;show#[y.v,[],y.as,[],rfl,by simp,rv,by ext RepP;show#[rfl,rfl]])
   (λc i9=>.Z (by
    let z\/z:=Sl.as_of i9
    .show .R (~~~(.Z z))
    .show .Z (~~~(.Z z)))) hs (by change(1:Nat)<=sizeLine;decide) (List.nodup_cons.å #[Y8,Xr]) rfl (λn hn=>by rw[aC hn];show pb) (.ä yb .nil)
  let stA:Step (upd H p (kY p [] 0)) ([@#[.rt,.ÿ [],.I p,[p]]]++L) _ _:=cu.H gu;show k _ _ rfl #[.rt,.ÿ [(x.d,s2.2)],.I p,p::y.as] L2 _ rfl (congrArg (λd=>D.ÿ [(d,s2.2)]) e2) m2 w4 ?_ λhq=>?_
  .show#[λc ob h hn=>stA.keep c ob (t8 c ob h) λz=>?_,λc i9=>?_,λc i9=>?_]
   .rw[List.singleton_append,vk]at z;let z\/z:=aA z
    .let:c=p:=by simpa [Sl.æ]using z
     rw[this,hp]at h;cases h
    .show hn z
   .let z\/z:=stA.æ c i9
    .rw[List.singleton_append,vk]at z;let z\/z:=aA z
     .let:c=p:=by simpa [Sl.æ]using z
      show .Z (this▸hp)
     .show .R z
    .show .Z (by
      cases u9:H c with
      |none=>rfl
      |some ob=>rw[t8 c ob u9]at z;cases z)
   .let hcp:c=p->H c=none:=λz=>z▸hp
    let z\/z\/z:=stA.ú c i9
    .rw[List.singleton_append,Vj]at z;let z\/z:=aA z
     .simp[Sl.ú]at z
     .show .R z
    .rw[List.singleton_append,vk]at z;let z\/z:=aA z
     .let:c=p:=by simpa [Sl.æ]using z
      show .Z (.Z (this▸hp))
     .show .Z (.R z)
    .show .Z (.Z (by
      cases u9:H c with
      |none=>rfl
      |some ob=>rw[t8 c ob u9]at z;cases z))
  .show#[λc ob h=>?_,λc i9=>?_]
   .let be:c≠p:=λz=>by rw[z,hp]at h;cases h
    rw[qz be];show(cw hq).1 c ob ((jr hq).1 c ob (t8 c ob h))
   .let:c=p:=by simpa [Sl.æ]using i9
    show this▸hp
 .rw[Xe ue]at h2;cases h2
end
section
def _jI(hs:(a==sysModules)=false)(hd:VW s.G a ts ep)
  (q:Q (.I ↥s) {s with heap:=s.G.í {cls:=.h "dict_keyiterator",data:=.ù %[.I a,.C 0 0,.C ts.B 0,.C ep 0|0]}}):wpAny (model prog w) A (pyIter (.I a)) Q E s:=by
 let#[ob,ij,g1,g2,g3,g4]:=hd;let ty:s.TypeIs (.I a) "dict":=#[ob,g1,g2.1];let hl:ij.O=ts.B:=by rw[<-g4];rfl
 show wpAny_pyIter_slot ty F.slot_dict_iter (Y0 F.slot_dict_iter ty F.entry_dict_iter ?_ (F.args_dict_iter_1 _));ext Builtin.«dict.__iter__» Builtin.Dict.dictSlotNone;show X0 (X0 (wpAny_notOrdered_dict ty ?_));change wpAny _ _ (pure (Value.I a)) _ _ s;show X6 ?_;change wpAny _ _ (Builtin.Dict.showsAll a >>= _) _ _ s;ext Builtin.Dict.showsAll;rw[Xe (by rw[hs];show Bool.false_ne_true)];show X0 (X6 (X0 (wpAny_dictEntries g1 g3 (X0 (wpAny_dictEpoch g1 g3 ?_)))));show X0 (Y7 (X6 #[_,rfl,"dict_keyiterator",_,#[_,X9 _ rfl,rfl],F.slot_dict_keyiterator_next.U,?_]))
 simpa [rawInt,hl]using q
def _jJ(hi:s.G.IsKeyIter it a i ts.B ep)(hd:VW s.G a ts ep)(hx:ts[i]?=@en)
  (q:∀h',h'.IsKeyIter it a (i+1) ts.B ep->Heap.SameBut it s.G h'->Q @en.key {s with heap:=h' }):wpAny (model prog w) A (pyNext (.I it)) Q E s:=by
 let ty:=hi.õ;let#[o,h1,h2,h3]:=hi;let#[ob,ij,g1,g2,g3,g4]:=hd;let hl:ij.O=ts.B:=by rw[<-g4];rfl
 let bf:i<ij.O:=by rw[hl];show(aF hx).1
 let hen:ij[i]=en:=by
  rw[<-g4,Ye,Y5 bf]at hx;show _aa hx
 let ow:Builtin.Dict_items.ownsTuple "dict_keyiterator"=false:=by rfl
 ext pyNext;show X0 (wpAny_attempt (Yc (name:=Str.ofString "__next__") ty F.slot_dict_keyiterator_next (Y0 F.slot_dict_keyiterator_next ty F.entry_dict_keyiterator_next ?_ (F.args_dict_keyiterator_next_1 _))));show X0 (X6 (X0 (X0 ?_)))
 first
  |show X0 (Z5 ty (X6 (X0 (Zj h1 h3 ?_))))
  |show X0 (wpAny_typeNameOf_keyiter ty (X6 (X0 (Zj h1 h3 ?_))))
 rw[ow,Xe Bool.false_ne_true];change wpAny _ _ (if(Value.I a==Value.ã)=true then _ else _) _ _ s;rw[Xe (show ¬((Value.I a==Value.ã)=true)from nofun)];show X0 (X6 (X0 (wpAny_dictEntries g1 g3 ?_)));rw[Xe (by rw[hl];simp)];show X0 (X6 (X0 (wpAny_dictEpoch g1 g3 ?_)));rw[Xe (by simp)];show X6 ?_;dsimp[show ¬((i:Int)<0)from by simp,if_false,Xp,Y5 bf,hen];show X0 ?_
 first
  |show X0 (Z5 ty (X6 (X0 (wpAny_isOneOf_keyiter ty ?_))))
  |show X0 (wpAny_typeNameOf_keyiter ty (X6 (X0 (wpAny_isOneOf_keyiter ty ?_))))
 change wpAny _ _ (setField (.I it) 1 (rawInt ((i:Int)+1)) >>= _) _ _ s;show X0 (Ym h1 h3 (by simp) ?_);let jd:(s.G.update it (Obj.mapFields (·.ö 1 (rawInt ((i:Int)+1))))).IsKeyIter it a (i+1) ts.B ep:=⟨_,Xx _ h1 (Z0 (Yr h3 _)),(Obj.cls_mapFields ..).H h2,by rw[Yr h3];simp[rawInt]⟩;show X0 (Yd (X0 (wpAny_isOneOf_keyiter (s:={s with heap:=s.G.update it (Obj.mapFields (·.ö 1 (rawInt ((i:Int)+1))))}) jd.õ ?_)));change wpAny _ _ (pure en.key) _ _ _;show X6 (X6 ⟨_,rfl,X6 (q _ jd (Xw ..))⟩)
def _jK(hh:A.ü=none)(hi:s.G.IsKeyIter it a i ts.B ep)(hd:VW s.G a ts ep)(hx:ts.B<=i)(q:∀h',Heap.ExtBut it s.G h'->Q none {s with heap:=h' }):wpAny (model prog w) A (pyNext (.I it)) Q E s:=by
 let ty:=hi.õ;let#[o,h1,h2,h3]:=hi;let#[ob,ij,g1,g2,g3,g4]:=hd;let hl:ij.O=ts.B:=by rw[<-g4];rfl
 let ow:Builtin.Dict_items.ownsTuple "dict_keyiterator"=false:=by rfl
 ext pyNext;show X0 (wpAny_attempt (Yc (name:=Str.ofString "__next__") ty F.slot_dict_keyiterator_next (Y0 F.slot_dict_keyiterator_next ty F.entry_dict_keyiterator_next ?_ (F.args_dict_keyiterator_next_1 _))));show X0 (X6 (X0 (X0 ?_)))
 first
  |show X0 (Z5 ty (X6 (X0 (Zj h1 h3 ?_))))
  |show X0 (wpAny_typeNameOf_keyiter ty (X6 (X0 (Zj h1 h3 ?_))))
 rw[ow,Xe Bool.false_ne_true];change wpAny _ _ (if(Value.I a==Value.ã)=true then _ else _) _ _ s;rw[Xe (show ¬((Value.I a==Value.ã)=true)from nofun)];show X0 (X6 (X0 (wpAny_dictEntries g1 g3 ?_)));rw[Xe (by rw[hl];simp)];show X0 (X6 (X0 (wpAny_dictEpoch g1 g3 ?_)));rw[Xe (by simp)];show X6 ?_;dsimp[show ¬((i:Int)<0)from by simp,if_false,Xp,Array.getElem?_eq_none (show ij.O<=i by symm)];show X0 ?_
 first
  |show X0 (Z5 ty (X6 ?_))
  |show X0 (wpAny_typeNameOf_keyiter ty (X6 ?_))
 change wpAny _ _ (setField (.I it) 0 .ã >>= _) _ _ s;show X0 (Ym h1 h3 (by simp) ?_);change wpAny _ _ (newExc (.h "StopIteration") [] >>= _) _ _ _;show X0 ?_;dsimp[newExc,newTuple];show X0 (Y7 (X0 (m:=firstArgMember _ _) (wpAny_of_eq (a:=Value.ã) (by first|rfl|(lia;rfl)) (Y7 ?_ (by size_fits)))) (by size_fits));dsimp[raiseNew];show X0 (wpAny_handled ?_);rw[show A.in1.ü=none from hh];let tyS:∀(hq:Heap) (ob:Obj),ob.cls=.h "StopIteration"->(hq.í ob).get? hq.objs.O=@ob->Shared.TypeIs {s with heap:=hq.í ob} (.I hq.objs.O) "StopIteration":=λhq ob h1 h2=>#[_,h2,h1]
 show X0 (X6 (wpAny_throw ?_));show X0 (Zq (b:=true) (tyS _ _ rfl (X9 _ rfl)) isSubtype_stop ?_);show X6 (q _ (((Xw ..).extBut.í _).í _))
def _jL(hd:VW h a ts ep)(k:∀o,h.get? a=@o->h'.get? a=@o):VW h' a ts ep:=by
 let#[ob,ij,g1,g]:=hd;show#[ob,ij,k ob g1,g]
def _jM(hd:VW h a ts ep):a<h.objs.O:=by
 let#[ob,ij,g1,g]:=hd;show Xg g1
def _jN(hh:A.ü=none)(I:Addr)(be:a≠I):PySem.Walks prog w A I [I,a] [I] ts.B (λi v=>∃en,ts[i]?=@en/\v=en.key) (λi h=>h.IsKeyIter I a i ts.B ep/\VW h a ts ep) where
 sub:=λb hb=>by simp at hb;simp[hb]
 frame:=λ_ _ _ st hk=>#[st.1.at λo e=>hk I (by simp) o e,_jL st.2 λo e=>hk a (by simp) o e]
 item:=λi s Q E hi st hQ=>_jJ st.1 st.2 (X1 hi) λh' jd jf=>
  hQ _ h' s.ë #[_,X1 hi,rfl] #[jd,_jL st.2 λo e=>jf.extBut a o be e] λb o hb e=>jf.extBut b o (λh=>hb (by simp[h])) e
 done:=λs Q E st hQ=>_jK hh st.1 st.2 (X8 _) λh' he'=>hQ h' s.ë λb o hb e=>he' b o (λh=>hb (by simp[h])) e
 self:=λ_ _ _ _ st hQ=>wpAny_pyIter_keyiter st.1 hQ
def _jO(lo:(a==sysModules)=false):PySem.W.KdlSrc prog w "dict" a a ts.B (λi v=>∃en,ts[i]?=@en/\v=en.key) (λh=>VW h a ts ep) where
 type:=λ_ hm=>by let#[ob,ij,g1,g2,_]:=hm;show#[ob,g1,g2.1]
 there:=λ_ hm=>#[_jM hm,_jM hm]
 keep:=λ_ _ hm hk=>_jL hm λo e=>hk a (.R rfl) o e
 notList:=by rfl
 notTuple:=by rfl
 hint:=λ_ _ _ _ hm hq=>PySem.W.kdl_hint_dict (by let#[ob,ij,g1,g2,_]:=hm;show#[ob,g1,g2.1]) hq
 iter:=λ_ _ hh hm=>#[_,_,(λ_ _ hq=>_jI lo hm hq),_jN hh _ (Xl (_jM hm)),#[#[_,X9 _ rfl,rfl,rfl],_jL hm λo e=>X4 _ e]]
end
def _jP(K:Frag):List V->Hp->VK->Prop:=λxs H Q=>∃a es ep,xs=[.I a]/\H a=@(kY a es ep)/\(a==sysModules)=false/\es.B<=sizeLine/\∀l,H l=none->Q (.I l) (upd H l (.S (es.E λn=>V.I n.2.1)))
def _jQ:∀(es:List Ent),Vals (es.E λn=>V.I n.2.1) (es.E λn=>Value.I n.2.1)
 |[]=>.nil|n::es=>.ä rfl (_jQ es)
def _jR{K:Frag}(hc:X.calm=true<|>Ŕ):CallR X (.h "list") (_jP K):=by
 intro a8 s σ H xs us Q I r h;let#[a,es,ep,rfl,hH,hs,hl,q]:=h;let#[u,rfl,rx]:=wZ r;cases rx;show PySem.W.kdl_call (_jO (ts:=es.E λx=>(#[V8 X.w x.1.1,.I x.2.1,x.2.2]:DictEntry)) (ep:=ep) hs) (I.ok.hd hc) (_jD I hH) (by rw[X3];show hl) λh' tk ae c kp e av=>?_
 let he:ae.p=es.E λn=>Value.I n.2.1:=by
  show List.ext_getElem? λi=>?_
  rw[X7];let hn:ae.O=es.B:=by let:=av.1;simpa using this
  cases hv:ae[i]? with
  |none=>rw[Ye,hv,Xz (by let:=Array.getElem?_eq_none_iff.mp hv;symm)];rfl
  |some v=>
   let#[en,h1,h2]:=av.2 i v hv;rw[Ye,hv,h2];rw[X7]at h1;cases hes:es[i]? with|none=>rw[hes]at h1;cases h1|some n=>rw[hes]at h1;cases _aa h1;rfl
 show#[.I ↥s,_,I.laid kp (X8 _) (show ObjOk X.â X.w _ h' _ (.S (es.E λn=>V.I n.2.1))from#[by rw[X3];show hl,es.E λn=>Value.I n.2.1,c,_jQ es,by rw[<-he];simpa using e]),rfl,q _ (I.ô.û (X8 _))]
def _jS{K:Frag}:∀{es:List Ent},(∀n>es,PuR K H n.1.1 (.I n.2.1))->RepA K H true (es.E (·.1.1)) (es.E λn=>V.I n.2.1) []
 |[],_=>by ext RepA;show#[rfl,rfl]
 |n::es,h=>by
  rw[List.V,List.V];ext RepA;show#[_,_,[],[],rfl,rfl,_jE (h n X5),_jS λm hm=>h m (_ad _ hm)]
#where in
def _jT{K:Frag}:Ad1 K (λv H Q=>_jP K [v] H Q) Zz:=by
 intro H x s Q ok hf k;unfold Zz at hf;cases hx:x.d with
 | dct kvs=>
  rw[show(x.o,x.d).2=D.ÿ kvs from hx]at hf;let hf:(if kvs.B<=big/\unm kvs=true then @(Own.rt,D.S (kvs.E (·.1)))else none)=@s:=hf
  split at hf
  rotate_left
  .cases hf
  revert ai;cases _aa hf;let okL:RepL K H true (.ÿ kvs) x.v x.as:=by rw[<-hx];show JX ok
  unfold RepL at okL;let#[a,xs,bs,ev,rp,q4,eas]:=okL;let#[es,ep,g1,g2,g3,g4,g5,g6,g7]:=DcA.un q4 ai.2;show#[a,es,ep,by rw[ev],g1,g2,g3,λl hl=>k #[.rt,.S (kvs.E (·.1)),.I l,[l]] _ rfl rfl #[wV hl,#[l,_,[],rfl,?_,wY,rfl],λb hb=>?_,by simp[Sl.æ],λb hb=>?_]]
  .rw[g5];show(_jS g6).kp (Kp.of_same (wV hl))
  .let:b=l:=by simpa [Sl.æ]using hb
   show this▸hl
  .simp[Sl.ú]at hb
 |_=>rw[show(x.o,x.d).2=_ from hx]at hf;cases hf
def RepA.put{K}(hx:RepL K H g d x cs):∀{ds xs bs} (n),RepA K H g ds xs bs->∃es,RepA K H g (ds.à n d) (xs.à n x) es/\∀a>es,a>bs\/a>cs
 | [],_,bs,n,h=>by
  let h0:=h;let#[rfl,rfl]:=h0;show#[[],~~~h,nofun]
 | e::ds,_,_,n,h=>by
  let#[y,r,b1,b2,rfl,rfl,h1,h2]:=h;cases n with
  | zero=>
   show#[cs++b2,?_,λa ha=>?_]
   .ext RepA;show#[x,r,cs,b2,rfl,rfl,hx,h2]
   .let z\/z:=aA ha
    .show .Z z
    .show .R (_ab _ z)
  | succ n=>
   let#[es,i1,i2]:=RepA.put hx n h2;show#[b1++es,?_,λa ha=>?_]
   .ext RepA;show#[y,r.à n x,b1,es,rfl,rfl,h1,i1]
   .let z\/z:=aA ha
    .show .R (_ac _ z)
    .show(i2 a z).imp (_ab _) id
section
#where in
def _jU(ho:PE X o (z4 i))(hk:QV X Z true kc ke)(hv:QE X Z q vc ve)(hs:swapsWithSole [.ì o ke bb] ve pos.line X.Y=pure false<|>Ŕ)(hw:swappedStores [.ì o ke bb] ve X.Y=pure none<|>Ŕ)
  (h1:(assignEach [.ì o ke bb] X.Y).E (·.2)=[assign (.ì o ke bb) X.Y]<|>Ŕ)
  (ha:autoParam (∀v,assign (.ì o ke bb) X.Y v=(do
   let ov <-holding [v] (eval o X.Y)
   let iv <-holding [v,ov] (eval ke X.Y)
   standAt bb
   holding [v,ov,iv] (setItem ov iv v)
   release [v,ov,iv] [])) Ŗ):
  QS X Z pn (_h3 i kc vc) (.Assign [.ì o ke bb] ve pos):=_g5 (W:=_cd) (_aU hv (_aT ho hk _ce ha) hs hw h1) #[rfl,rfl] fun {H L y x z d} {C} hy w mq ef k=>by
 unfold _h2 at ef
 split at ef
 .revert o xs j heq hz;injection heq with h2 h3
  split at ef
  .cases ef
  .revert ie;let#[n,hj,rfl]:=Option.map_eq_some_iff.mp ef;let#[l,vs,bs,c1,c2,c3,c4,c5]:=_gZ (w.tail.ok y (vQ hy)) h3 (h2▸ie);let c6:RepA Z.K H true xs vs bs:=by
    cases hb:(y.o != .dp)with|true=>rw[hb]at c5;show c5|false=>rw[hb]at c5;show c5.wk
   let#[es,g1,g2]:=RepA.put (RepO.wk (w.ok x X5)) n c6;let#[w4,gu]:=_g0 (T:=[@x]) (o':=.rt) (ds':=xs.à n x.d) (xs':=vs.à n x.v) w hy c2 c3 c4 c1 g1 (.R #[rfl,λa ha=>(g2 a ha).imp id λz=>by
    let z\/z:=Sl.as_of z
    .show .R (~~~z)
    .show .Z (~~~z)])
   show#[l,vs,j,n,c1,qj mq hz,c2,by rw[<-c6.len,<-_gS];show hj,k _ _ w4 gu]
 .cases ef
def _jV(hN:X.N.l)(hi:X.N[i]?=@y)(hx:Loc X.Y.ó y)(ho:PIp X op (ipI f))(h:QE X Z q vc ve)(hp:i∉pn<|>ŕ)(hf:X.fn y=true\/X.Y.ó.ê.U y=@.local<|>Ř):
  QS X Z pn (_h4 f i vc) (.AugAssign (.ç y bb) op ve pos):=Qw (_aW hN hi hx h ho hf) λD σ H au=>ex7 au λE L r m w hr k=>by
 unfold _h4 at hr;cases hE:E[i]? with
 | none=>rw[hE]at hr;cases hr
 | some s0=>
  cases s0 with
  | none=>rw[hE]at hr;cases hr
  | some s0=>
   let#[oo,dd]:=s0;rw [hE]at hr;cases dd with
   | int a=>
    dsimp only at hr;let#[x0,a1,a2,a3,a4]:=m.get hE;let ha:x0.v=.C a:=qj (w.ok x0 (vQ a1)) a3;show#[x0.v,a4,?_];show XY m w hr k λE1 s h1 x L1 H1 e1 e2 m1 w1 st _=>?_
    cases hs:s.2 with
    | int b=>
     rw[hs]at h1;cases _aa h1;show#[a,b,ha,qj w1.head (by rw[e2];show hs),?_];let w2:World Z.K H1 (@#[.dp,.C (f a b),.C (f a b),[]]::L1):=w1.tail.ä (show RepL Z.K H1 false (.C (f a b)) (.C (f a b)) []from vj) Xr (nofun) (nofun) (nofun) (nofun);let s2:Step H L H1 (@#[.dp,.C (f a b),.C (f a b),[]]::L1):=by
      show#[st.keep,λb hb=>st.æ b ?_,λb hb=>st.ú b ?_]
      .rw[vk]at hb ⊢;let z\/z:=aA hb
       .show nomatch z
       .show _ab _ z
      .rw[Vj]at hb ⊢;let z\/z:=aA hb
       .show nomatch z
       .show _ab _ z
     show k (σ.à i @(.C (f a b))) (L1.à i @#[.dp,.C (f a b),.C (f a b),[]]) H1 (Pn.î.à hp) (_fl (x:=#[.dp,.C (f a b),.C (f a b),[]]) m1 rfl rfl) w2.à (s2.H Step.à)
    |_=>rw[hs]at h1;cases h1
   |_=>cases hr
end
abbrev dkI(kv:List (Int×Int)):List (Key×V):=kv.E λp=>(Sum.R p.1,V.C p.2)
def _jW kv k:zX (dkI kv) (Sum.R k)=(jW kv k).E V.C:=by
 induction kv with
 | nil=>rfl
 | cons p r ih=>
  unfold zX jW at ih ⊢;rw[show dkI _=_::dkI r from rfl,List.find?_cons,List.find?_cons]
  by_cases h:p.1=k
  .let h1:decide ((Sum.R p.1:Key)=Sum.R k)=true:=Xh (by rw[h]);let h2:=Xh h;dsimp[h1,h2];rfl
  .let h1:decide ((Sum.R p.1:Key)=Sum.R k)=false:=Xm λz=>h (Sum.R.inj z)
   let h2:=Xm h;dsimp[h1,h2];show ih
def _jX kv (k v):xJ (dkI kv) (Sum.R k) (V.C v)=dkI (v4 kv k v):=by
 let ha:((dkI kv).è λp=>decide (p.1=(Sum.R k:Key)))=kv.è λp=>decide (p.1=k):=by
  rw[List.any_map]
  congr 1
  funext p;change decide ((Sum.R p.1:Key)=Sum.R k)=decide _;show decide_eq_decide.å #[λz=>Sum.R.inj z,λz=>by rw[z]]
 ext xJ v4;rw[ha]
 by_cases h:(kv.è λp=>decide (p.1=k))=true
 .rw[Xa h,Xa h];ext dkI;rw[Xi,Xi];show Yg λp _=>?_
  by_cases z:p.1=k
  .grind
  .lia
 .rw[Xe h,Xe h];ext dkI;rw[Xd];rfl
def _jY:∀{kvs kv},_h5 kvs=@kv->kvs=kv.E λp=>(D.C p.1,D.C p.2):=by
 intro kvs
 induction kvs with
 |nil=>intro kv h;cases _aa h;rfl
 |cons e r ih=>
  intro kv h;let#[a,b]:=e;cases a<;>first|(cases h;done)|(cases b<;>first|(cases h;done)|skip)
  let#[q,hq,rfl]:=Option.map_eq_some_iff.mp (show(_h5 r).E _=@kv from h);rw[List.V,<-ih hq]
def _jZ:∀kv,_h5 (kv.E λp=>(D.C p.1,D.C p.2))=@kv
 |[]=>rfl
 |_::r=>by
  change(_h5 _).E _=_;rw[_jZ r];rfl
def _j0 kv:zK (wX kv)=@kv:=_jZ kv
def _j1{K}:∀{kv:List (Int×Int)} {xs bs},RepP K H g (kv.E λp=>(D.C p.1,D.C p.2)) xs bs->xs=kv.E λp=>V.C p.2
 |[],_,_,h=>by
  show h.1
 |p::r,_,_,h=>by
  let#[y,rr,b1,b2,rfl,_,h1,h2]:=h;rw[h1.1,_j1 h2,List.V]
def _j2{K}:∀(kv:List (Int×Int)),RepP K H g (kv.E λp=>(D.C p.1,D.C p.2)) (kv.E λp=>V.C p.2) []
 |[]=>#[rfl,rfl]
 |p::r=>by
  show#[_,_,[],[],rfl,rfl,vj,_j2 r]
def _j3{K}(kv:List (Int×Int)):RepP K H g (mkD::kv.E λp=>(D.C p.1,D.C p.2)) (V.j::kv.E λp=>V.C p.2) []:=by
 show#[_,_,[],[],rfl,rfl,#[rfl,rfl],_j2 kv]
def _j4{K} kv:RepR K (upd H p (.dK (dkI kv))) (wX kv) (.I p) [p]:=
 #[p,_,[],rfl,_j3 _,.Z #[kv.E λp=>(p.1,V.C p.2),"",by rw[wY,Xi];rfl,by rw[List.V,Xi,Xi];rfl,by rw[Xi];rfl],rfl]
abbrev wDK:V->V->V->Hp->(Hp->Prop)->Prop:=λx y v H C=>∃a H4,x=.I a/\DPut H a y v H4/\C H4
def _j5{K}(hy:L[i]?=some @y)(w:World K H (@x::L))(ho:y.o=.rt)(h:∃a,y.v=.I a/\H a=@(.dK kvs)/\∃bs,y.as=a::bs)(hz:zv=.C j)(hx:x.v=v)(hp:xJ kvs (.R j) v=kvs')(hl:kvs.B<sizeLine)
  (rep:∀{H p},RepR K (upd H p (.dK kvs')) d (.I p) [p]) (k:∀H' as,World K H' (L.à i @#[.rt,d,y.v,as])->Step H (@x::L) H' (L.à i @#[.rt,d,y.v,as])->C H'):wDK y.v zv x.v H C:=by
 let#[l,c1,c2,bs,c3]:=h;subst hz hx hp;let hlo:l>y.æ:=by ext Sl.æ;rw[ho,c3];simp
 let#[w4,gu]:=World.writeAt (T:=[@x]) (ob:=.dK (xJ kvs (.R j) x.v)) (y':=#[.rt,d,y.v,[l]]) w hy hlo (by rw[c1];show rep) (by simp[Sl.æ]) (λa h=>by simp_all [Sl.æ]) (λa h=>by simp[Sl.ú]at h) (λa h z=>by simp[Sl.ú]at z);show#[l,_,c1,DPut.k (k:=Sum.R j) c2 hl,k _ _ w4 gu]
def _j6:∀{a:List (Int×V)} {kv},(kv.E λp=>D.C p.1)=a.E (λp=>D.C p.1)->(kv.E λp=>V.C p.2)=a.E (·.2)->(a.E λp=>((Sum.R p.1:Key),p.2))=dkI kv
 |[],[],_,_=>rfl|[],_::_,h,_=>by simp at h
 |p::a,q::kv,h,h'=>by
  rw[List.V,List.V]at h h';injection h with h1 h2;injection h' with h3 h4;injection h1 with h1;ext dkI;rw[List.V,List.V,_j6 h2 h4,<-h1,<-h3]
def _j7{d kv}(hd:zK d=@kv):∃m,d=.ÿ ((.e m,.j)::kv.E λp=>(.C p.1,.C p.2)):=by
 unfold zK at hd
 split at hd
 .show#[_,by rw[_jY hd]]
 .cases hd
def _j8{K}{y:Sl}(ok:y.ok K H)(hd:zK y.d=@kv):∃a,y.v=.I a/\H a=@(.dK (dkI kv))/\∃bs,y.as=a::bs:=by
 let#[m,e]:=_j7 hd;let h:=RepO.wk ok;rw[e]at h;let#[a,xs,bs,ev,rp,qa,eas]:=h;show#[a,ev,?_,bs,eas];let#[es,ep,_,_,_,_,g5,g6,_]\/#[kvn,mm,g1,g2,g3]:=qa
 .exfalso;rw[List.V]at g5;cases es with
  |nil=>cases g5
  |cons n es=>
   rw[List.V]at g5;injection g5 with g5 _;let:=g6 n X5;rw[<-g5]at this;unfold PuR at this
   symm
 .rw[g1]
  congr 2
  let#[y1,rr,_,_,rfl,_,_,r2]:=rp;rw[List.V,Xi]at g2;injection g2 with _ g2;injection g3 with _ g3;show _j6 g2 ?_
  rwa [<-(_j1 r2)]
section
def _j9(lz:Bool):R2:=λx y H Q=>∃(k:Int) (a:Addr) (kv:List (Int×Int)),x=.C k/\y=.I a/\H a=@(.dK (dkI kv))/\Q (.bl (if lz then !(jW kv k).isSome else(jW kv k).isSome)) H
def _ka k (e:H a=@(.dK (dkI kv))):DGet H a (.C k) ((jW kv k).E V.C):=by
 rw[<-_jW];show DGet.k (k:=Sum.R k) e
def _kb(hu:X.A.u+64<cLine):OpR X (compareOp .In) (_j9 false):=by
 intro a8 s σ H x y u v Q I rx ry h;let#[k,a,kv,rfl,rfl,hd,q]:=h;cases ry;show d_in .q I (_ka k hd) rx λs' I'=>#[.bl _,H,I',rfl,?_]
 rwa [Yt]
def _kc(hu:X.A.u+64<cLine):OpR X (compareOp .NotIn) (_j9 true):=by
 intro a8 s σ H x y u v Q I rx ry h;let#[k,a,kv,rfl,rfl,hd,q]:=h;cases ry;show _cI .q I (_ka k hd) rx λs' I'=>#[.bl _,H,I',rfl,?_]
 rwa [Yt]
def _kd{K}:Ad2 K (_j9 false) (pu2 _h7):=by
 intro H x y s Q ox oy hf k;unfold pu2 _h7 at hf;dsimp only at hf;cases hx:x.d with
 | int j=>
  rw[hx]at hf;cases hi:zK y.d with
  |none=>rw[hi]at hf;cases hf
  |some kv=>
   rw[hi]at hf;cases _aa hf;let#[a,e,q,_]:=_j8 oy hi;show#[j,a,kv,qj ox hx,e,q,k _ H rfl rfl wJ]
 |_=>rw[hx]at hf;cases hf
def _ke{K}:Ad2 K (_j9 true) (pu2 _h8):=by
 intro H x y s Q ox oy hf k;unfold pu2 _h8 at hf;dsimp only at hf;cases hx:x.d with
 | int j=>
  rw[hx]at hf;cases hi:zK y.d with
  |none=>rw[hi]at hf;cases hf
  |some kv=>
   rw[hi]at hf;cases _aa hf;let#[a,e,q,_]:=_j8 oy hi;show#[j,a,kv,qj ox hx,e,q,k _ H rfl rfl wJ]
 |_=>rw[hx]at hf;cases hf
def _kf(x y s)(h:pu2 _h7 x y=@s):∃k,s.2=.bl k:=by
 unfold pu2 _h7 at h;cases hx:x.2 with
 |int j=>
  rw[hx]at h;cases hi:zK y.2 with|none=>rw[hi]at h;cases h|some kv=>rw[hi]at h;cases _aa h;show#[_,rfl]
 |_=>rw[hx]at h;cases h
end
section
def _kg(hu:X.A.u+64<cLine)(ha:QV X Z qa a ea)(hb:QV X Z true b eb)(hs:_cN eb):QV X Z qa (_ia a b) (.ì ea eb pos):=
 q9 (_cQ .q ha hb hs) fun σ H Q au=>ex8 au λE L r m w hc xc k=>by
  show qK m w (hc) xc λE1 s h1 x L1 H1 e1 e2 m1 w1 ok fr sr st sm=>(qK m1 w1 h1 (xc.step st) λE2 s2 h2 y L2 H2 e3 e4 m2 w2 gj og nw bn cw=>?_)
  let#[z,hz,rfl]:=xK h2;unfold _h9 at hz;cases hy:s2.2 with
  | int j=>
   rw [hy]at hz;cases hi:zK s.2 with
   | none=>rw[hi]at hz;cases hz
   | some kv=>
    rw[hi]at hz;dsimp only at hz;cases hv:jW kv j with
    | none=>rw[hv]at hz;cases hz
    | some v=>
     rw[hv]at hz;cases _aa hz;let#[l,e,q,_]:=_j8 (Q1 ok fr bn (cw rfl)).1 (e2▸hi);show#[l,.C v,e,?_,?_]
     .rw[qj gj (e4▸hy)];let:=_ka j q;rw[hv]at this;show this
     .show k _ _ rfl #[.dp,.C v,.C v,[]] L2 H2 rfl rfl m2 w2 (show RepL Z.K H2 false _ _ []from vj) (nofun) (nofun) (st.H bn) λhq=>kX (sm hq) (cw rfl)
  |_=>rw[hy]at hz;cases hz
def _kh:QE X Z true _h6 (.Dict [] [] pos):=_g4 (C:=λ_=>True) (ob:=λ_=>.dK []) (q9 _cT λ_ _ _ h p hp=>h p hp trivial) .q λ_ p _=>_j4 (p:=p) []
def _ki kv (k v):(v4 kv k v).B<=kv.B+1:=by
 ext v4
 split
 .rw[X3];simp
 .rw[Xb];simp
#where in
def _kj(hu:X.A.u+64<cLine)(ho:PE X o (z4 i))(hk:QV X Z true kc ke)(hv:QE X Z q vc ve)(hs:swapsWith ve @(.ì o ke bb) pos.line X.Y=pure false<|>Ŕ):
  QS X Z pn (_if i kc vc) (.Assign [.ì o ke bb] ve pos):=_g5 (W:=wDK) (_cR .q ho hk hv hs) #[rfl,rfl] fun {H L y x z d} {C} hy w mq ef k=>by
 unfold _ie at ef
 split at ef
 .revert heq hz hx;injection heq with h2 h3;let#[kv,hi,ef]:=Option.bind_eq_some_iff.mp ef
  split at ef
  .revert hl;cases _aa ef;show _j5 hy w h2 (_j8 (w.tail.ok y (vQ hy)) (h3▸hi)) (qj mq hz) (qj (w.ok x X5) hx) (_jX _ _ _) (by change(kv.E _).B<sizeLine;rw[X3];show hl) (_j4 _) k
  .cases ef
 .cases ef
def _kk(hu:X.A.u+64<cLine)(ha:QV X Z qa a ea)(hb:QV X Z true b eb)(hc:QV X Z true c ec)(hm:M2 X ea "get" apos eb ec am:=by show#[rfl,rfl,rfl,rfl]):QV X Z qa (_id a b c) (.þ (.Attribute ea "get" apos) [eb,ec] [] am):=
 q9 (_cZ .q ha hb hc hm) fun σ H Q au=>ex8 au λE L r m w hc xc k=>by
  show qK m w (hc) xc λE1 s h1 x L1 H1 e1 e2 m1 w1 ok fr sr st sm=>?_
  by_cases hI:_ic s.2=true
  .rw [Xa hI]at h1;let#[kv,hi]:=Option.isSome_iff_exists.mp hI;let#[l,el,ql,_]:=_j8 ok (e2▸hi);show#[l,el,.R #[_,.R ql],(qK m1 w1 h1 (xc.step st) λE2 s2 h2 y L2 H2 e3 e4 m2 w2 gj og nw bn cw=>(qK m2 w2 h2 (xc.step (st.H bn)) λE3 s3 h3 t L3 H3 e5 e6 m3 w3 qy oq sr3 cu mz=>?_))];let#[z,hz,rfl]:=xK h3;let s13:=kX (cw rfl) (mz rfl);unfold _ib at hz;cases hy:s2.2 with
   | int j=>
    cases ht:s3.2 with
    | int d=>
     rw[hy,ht,hi]at hz;cases _aa hz;show#[_,by rw[(qj gj (e4▸hy))];show _ka j (s13 _ _ ql),?_];let e7:((jW kv j).E V.C).s t.v=.C ((jW kv j).s d):=by
      rw[(qj qy (e6▸ht))];cases jW kv j<;>rfl
     rw[e7];show k _ _ rfl #[.dp,.C _,.C _,[]] L3 H3 rfl rfl m3 w3 (show RepL Z.K H3 false _ _ []from vj) (nofun) (nofun) ((st.H bn).H cu) λhq=>kX (sm hq) s13
    |_=>rw[hy,ht]at hz;cases hz
   |_=>rw[hy]at hz;cases hz
  .grind
end
end Q
namespace PySem
def _kl:typeLookup (.h "list") "keys"=pure none:=am_miss_of_fast (by decide +kernel)
def _km
  (hx:s.G.get? a=@o) (hc:o.cls=.h "list") (ip:o.data=.seq xs k) (hd:o.dict=none) (hA:A.ü=none)
  (h:∀h' tk,(∀b ob,s.G.get? b=@ob->h'.get? b=@ob)->Q none {s with heap:=h',toks:=tk}):
  wpAny (model prog w) A (getAttr? (.I a) "keys") Q E s:=by
 let#[c,dct,dat,sl]:=o;simp only at hc ip hd;subst hc ip hd;let#[hp,g,d,tk,os]:=s;let hT:∀oz,(#[hp,g,d,oz,os]:Shared).TypeIs (.I a) "list":=λ_=>#[_,hx,rfl]
 let f1:=sub_AttributeError;let f3:=F.slot_list_getattribute.U;let f4:=F.slot_list_getattribute.bind (.I a);let f5:=am_list_getattr_none;ext getAttr? getAttrBy? getAttrBy
 repeat (any_goals (first|assumption|show hT _|((with_reducible change wpAny _ _ (call (Value.x "list.__getattribute__") _ _) _ _ _);show call_meets F.slot_list_getattribute (hT _) am_entry_list_getattribute (F.args_list_getattribute_2 _ _) (meets_getattribute_miss_list a xs k sl "keys" _ _kl (by rfl) .q) #[hx,hA,λh' oz e hx'=>?_])|wp_step))
 let#[t',u',he]:=hx'.there;change wpAny _ _ (getattributeRaised _ _ _ _ _ _ _) _ _ _;ext getattributeRaised
 repeat (any_goals (first|assumption|wp_step))
 show h _ _ hx'.keeps
namespace F
def _Ed:entryFor table "dict.update.loop"=@Builtin.«dict.update.loop»:=entryFor_of_tree (by kernel_rfl)
def _Pd:plainId "dict.update.loop"=true:=by decide +kernel
end F
section
variable [DecidableEq K]{knd:KeyKind prog w K}
def _kn(h:s.G.IsTuple T %[u,v|0])(hq:Q [u,v] s):wpAny (model prog w) A (Builtin.Dict.pairItems (.I T)) Q E s:=by
 let#[o,ho,hc,m,hd]:=h;let#[cls,dct,dat,sl]:=o;subst hc hd
 repeat (any_goals (first|assumption|wp_step))
def _ko(W:WalksS prog w A.in1 I fp wr G n P St)(S)(qc:S∉fp){h₀:Heap}(hn:more.B=n)(hz:n<=sizeLine)
  (j':∀i v,P i v->∃T u x k,v=.I T/\T∉S::wr/\h₀.IsTuple T %[u,x|0]/\more[i]?=@(k,x)/\knd.is k u=true):
  ∀k i (c) (s),n - i=k->i<=n->St i s->(∀b o,b∉S::wr->h₀.get? b=@o->s.G.get? b=@o) ->
   s.G.DictOf knd S (merged [] (more.take i)) ->
   (∀s',Moved (S::wr) G s s'->s'.G.DictOf knd S (merged [] more)->R (.ok (.ret .ã)) s') ->
   codeAny (model prog w) A (.x "dict.update.loop" #[[.I S,.I I,.C i c,.ã],[]]) R s:=by
 let hSw:=λh=>qc (W.sub _ h)
 let fe:∀b>wr,b>S::wr:=λb hb=>_ad _ hb
 intro k
 induction k with
 | zero=>
  intro i c s hk hi b6 hh hS hR;let cp:i=n:=.q
  subst cp;show Z8 F._Ed (X0 (W.done s _ _ b6 λs' hm=>(X0 (X6 (X6 (hR s' (hm.ý fe) ?_))))));rw[<-hn,List.take_length]at hS;let#[o,es,ep,ho,ac]:=hS;show#[o,es,ep,hm.G S _ hSw ho,ac]
 | succ k ih=>
  intro i c s hk hi b6 hh hS hR;let bf:i<n:=.q
  show Z8 F._Ed (X0 (W.item i s _ _ bf b6 λv s' hP qg hm=>?_));let#[T,u,x,kk,rfl,hTn,hT,hmo,ff]:=j' i v hP;let lw:s'.G.DictOf knd S (merged [] (more.take i)):=by
   let#[o,es,ep,ho,ac]:=hS;show#[o,es,ep,hm.G S _ hSw ho,ac]
  let xy:s'.G.IsTuple T %[u,x|0]:=by
   let#[o,ho,ac]:=hT;show#[o,hm.G T o (λz=>hTn (_ad _ z)) (hh T o hTn ho),ac]
  let gw:(merged [] (more.take i)).B<=sizeLine:=by
   let e1:=merged_length_le ([]:List _) (more.take i);let e2:(more.take i).B<=more.B:=by rw[Zf];symm
   let e3:([]:List (K×Value)).B=0:=rfl;lia
  show X0 (Yd (X0 (wpAny_tryCatch (_kn xy (Yd (wpAny_dictSet_pairs ff lw λh' pe jf=>(X6 #[plainId_quiet F._Pd _,(ih (i+1) 0 _ (by grind) bf (W.frame _ s' _ _ qg (Zc _) λb hb o e=>?_) (λb o hb e=>?_) (by rw[merged_take_succ [] more i _ hmo];show pe) λln rg t6=>?_)])))))))
  .rw[jf.2 b (λh:b=S=>qc (h▸hb))];show e
  .let hbS:b≠S:=λz=>hb (z▸X5)
   rw[jf.2 b hbS];show hm.G b o (λz=>hb (_ad _ z)) (hh b o hb e)
  .show hR ln (Moved.H W.gtrans ((hm.ý fe).then_heap (Zc _) λb o hb e=>?_) rg) t6;rw[jf.2 b (λh:b=S=>hb (h▸X5))];show e
def _kp
  (hh:A.ü=none) (ho:s.G.get? l=@o) (hc:o.cls=.h "list") (ip:o.data=.seq items m) (hd:o.dict=none) (hn:more.B=items.O) (hz:items.O<=sizeLine)
  (j':∀(i:Nat) (v),items[i]?=@v->∃T u x k,v=.I T/\s.G.IsTuple T %[u,x|0]/\more[i]?=@(k,x)/\knd.is k u=true)
  (h:∀h' (tk),h'.DictOf knd ↥s (merged [] more)->(∀b o,b<↥s->s.G.get? b=@o->h'.get? b=@o)->Q (.I ↥s) {s with heap:=h',toks:=tk}):
  wpAny (model prog w) A (call (.h "dict") [.I l]) Q E s:=by
 show callType_codes (Q₁:=λobj s₁=>obj=Value.I ↥s/\s₁={s with heap:=s.G.í {cls:=Value.h "dict",data:=Data.dict (List.J [])}}) F.kt_called_dict (F.kt_typeCall_dict_1 _) F.entry_dict_init (kt_code_dict_new _ #[rfl,rfl]) ?_;rintro obj s₁ ⟨rfl,rfl⟩;let fi:(s.G.í {cls:=.h "dict",data:=.dict (List.J [])}).DictOf knd ↥s []:=Heap.DictOf.new s.G;let ju:(s.G.í {cls:=.h "dict",data:=.dict (List.J [])}).get? l=@o:=X4 _ ho;let hT:Shared.TypeIs {s with heap:=s.G.í {cls:=.h "dict",data:=.dict (List.J [])}} (.I l) "list":=#[_,ju,hc];let xr:=Xg ho;show#[fi.õ,F.args_dict_init_2 _ _,(X0 (X0 (wpAny_notOrdered_dict fi.õ (X6 (X0 (wpAny_typeOf hT (X0 (_km ju hc ip hd (by simp[hh]) λh' tk hk=>?_))))))))];let hkS:=λb q e=>hk b q (X4 _ e)
 let ib:h'.IsList l items:=#[o,hkS _ _ ho,hc,m,ip];let hS1:h'.DictOf knd ↥s []:=by
  let#[q,es,ep,hq,ac]:=fi;show#[q,es,ep,hk _ _ hq,ac]
 let oj:↥s<h'.objs.O:=by
  let#[q,es,ep,hq,ac]:=hS1;show Xg hq
 show X0 (Zi (X0 (Z6 ib (X6 #[plainId_quiet F._Pd _,?_]))));show _ko (h₀:=s.G) ((Walks.list (by simp[hh]) h'.objs.O l (Xl (Nat.lt_trans xr oj)) items).toS) ↥s ?_ hn hz (λi v hv=>?_) (items.O - 0) 0 0 _ (by simp) (Ya _)
  #[#[_,X9 _ rfl,rfl,rfl],ib.í _] (λb q hb e=>X4 _ (hkS b q e)) (hS1.í _) λs' hm lw=>?_
 .simp;show#[Xl oj,Zr xr]
 .let#[T,u,x,k,e1,e2,e3,e4]:=j' i v hv;show#[T,u,x,k,e1,?_,e2,e3,e4];let#[q,hq,_]:=e2;let:=Xg hq;simp;show#[Xl this,Xl (Nat.lt_trans this oj)]
 .let#[h2,g',d',oz,sy]:=s';let eg:g'=s.gens:=hm.gens;let ed:d'=s.drawn:=hm.drawn;let eo:sy=s.os:=hm.os;subst eg;subst ed;subst eo;show#[rfl,h h2 oz lw λb q hb e=>(hm.G b q ?_ (X4 _ (hkS b q e)))];simp;show#[Xl hb,Xl (Nat.lt_trans hb oj)]
end
end PySem
namespace Q
open PySem PySem.Spec PyProof.Rows L2 L3
def _kq(K:Frag):List V->Hp->VK->Prop:=λxs H Q=>∃(a:Addr) (ts:List V) (ps:List (Int×Int)),xs=[.I a]/\SqL K H a ts/\ts.B=ps.B /\
 (∀i (h:i<ps.B),∃T,ts[i]?=@(.I T)/\SqT K H T [.C ps[i].1,.C ps[i].2])/\ps.B<big/\∀l,H l=none->Q (.I l) (upd H l (.dK (dkI (ps.foldl (λkv p=>v4 kv p.1 p.2) []))))
def _kr:∀(ps kv:List (Int×Int)),(ps.foldl (λkv p=>v4 kv p.1 p.2) kv).B<=kv.B+ps.B
 |[],kv=>by simp
 |p::ps,kv=>by
  rw[Yy,Xk];let:=_kr ps (v4 kv p.1 p.2);let:=_ki kv p.1 p.2;lia
#where in
def _ks:∀ps (more) (kv) (vs),KV (dkI ps) more->KV (dkI kv) vs->KV (dkI (ps.foldl (λkv p=>v4 kv p.1 p.2) kv)) (more.foldl (λae kv=>stored ae kv.1 kv.2) vs)
 | [],_,kv,vs,h,h'=>by cases h;show h'
 | p::ps,_,kv,vs,h,h'=>by
  cases h with
  |cons h1 h2=>
   revert m more;let#[k,x]:=m;let#[e,rx]:=h1;subst e;show _ks ps more _ _ h2 ?_;rw[<-_jX];show KV.put h' _ rx
#where in
def _kt(I:Inv X a8 σ H s):∀ps (ts) (ab),ts.B=ps.B ->
  (∀i (h:i<ps.B),∃T,ts[i]?=@(.I T)/\SqT X.K H T [.C ps[i].1,.C ps[i].2])->Vals ts ab ->
  ∃ more,more.B=ab.B/\KV (dkI ps) more/\∀(i:Nat) (v),ab[i]?=@v->∃T u x k,v=.I T/\s.G.IsTuple T %[u,x|0]/\more[i]?=@(k,x)/\(xx X.â X.w).is k u=true:=by
 intro ps
 induction ps with
 | nil=>
  intro ts ab hl _ hv;cases ts with| nil=>cases hv;show#[[],rfl,.nil,λi v h=>by simp at h]| cons=>cases hl
 | cons p ps ih=>
  intro ts ab hl hp hv;cases hv with
  | nil=>cases hl
  | cons h1 h2=>
   revert t u ts us;let#[T,e1,e2]:=hp 0 (by simp);let e1:t=.I T:= ~~~e1
   subst e1;cases h1;let#[ii,rv,tp,_]:=I.tuple e2;let#[u1,u2,rfl,r1,r2]:=rv.two;let#[more,m1,m2,m3]:=ih ts us (~~~hl) (λi h=>by
    let#[T,a,b]:=hp (i+1) (~~~h);show#[T,~~~a,~~~b]) h2
   show#[(Sum.R p.1,u2)::more,by rw[Xk,Xk,m1],.ä #[rfl,r2] m2,λi v h=>?_];cases i with
   |zero=>
    let h:Value.I T=v:= ~~~h
    subst h;show#[T,u1,u2,Sum.R p.1,rfl,tp,rfl,WY r1]
   |succ i=>show m3 i v (~~~h)
def _ku(hc:X.calm=true<|>Ŕ):CallR X (.h "dict") (_kq X.K):=by
 rintro a8 s σ H xs us Q I r ⟨a,ts,ps,rfl,hq,hl,hp,hb,q⟩;let#[u,rfl,rx]:=wZ r;cases rx;let#[ab,rv,#[o,n,ho,dy,hd,ip],hz]:=I.list hq;let#[more,m1,m2,m3]:=_kt I ps ts ab hl hp rv;show _kp (I.ok.hd hc) ho dy ip hd (by rw[m1];rfl) (by rw[Xf,<-rv.B];show hz) (λi v hv=>m3 i v (~~~hv)) λh' tk dd kp=>(#[.I ↥s,_,I.laid (t':=tk) (λb ob e=>kp b ob (Xg e) e) (X8 _) (_cK ?_ (Yf (Zr I.big)) (_ks ps more [] [] m2 .nil) dd),rfl,q _ (I.ô.û (X8 _))])
 rw[X3];let:=_kr ps []
 grind
def _kv:∀{ds ps},W4 ds=@ps->ds=ps.E λp=>D.M [.C p.1,.C p.2]
 | [],ps,h=>by cases _aa h;rfl
 | .M [.C a,.C b]::r,ps,h=>by
  let h:(W4 r).E _=@ps:=h;cases hr:W4 r with
  |none=>symm
  |some q=>
   rw[hr]at h;cases _aa h;rw[List.V,<-_kv hr]
def _kw:∀ps,W4 (ps.E λp=>D.M [.C p.1,.C p.2])=@ps
 |[]=>rfl
 |_::r=>by
  change(W4 _).E _=_;rw[_kw r];rfl
def _kx{K}:Ad1 K (λv H Q=>_kq K [v] H Q) _ig:=by
 intro H x s Q ok hf k;unfold _ig at hf;cases hx:x.d with
 | lst ds=>
  rw [show(x.o,x.d).2=D.S ds from hx]at hf;dsimp only at hf;cases hp:W4 ds with
  | none=>rw[hp]at hf;cases hf
  | some ps=>
   rw[hp]at hf;dsimp only at hf
   by_cases hl:ps.B<big
   .rw[Xa hl]at hf;cases _aa hf;let e:=_kv hp;subst e;let#[a,xs,bs,ev,q1,ra]:=items ok (.R hx);let hq:SqL K H a xs:=by
     let#[_,z]\/#[z,_]:=q1
     .show z.sq
     .symm
    show#[a,xs,ps,by rw[ev],hq,by rw[<-ra.1.len,X3],λi hi=>?_,hl,λl hl'=>k #[.rt,wX _,.I l,[l]] _ rfl rfl #[wV hl',#[l,_,[],rfl,_j3 _,.Z #[(ps.foldl (λkv p=>v4 kv p.1 p.2) []).E λp=>(p.1,V.C p.2),"",by rw[wY,Xi];rfl,by rw[List.V,Xi,Xi];rfl,by rw[Xi];rfl],rfl],λb hb=>?_,by simp[Sl.æ],λb hb=>?_]]
    .let#[v,cs,g1,g2,_]:=RepA.get ra.1 (by rw[X7,X1 hi];rfl);let#[T,ys,e1,e2,e3]:=g2;show#[T,by rw[g1,e1],?_];let#[y1,r1,_,_,rfl,_,f1,f2]:=e3;let#[y2,r2,_,_,rfl,_,f3,f4]:=f2;let#[rfl,_]:=f4;rw[f1.1,f3.1]at e2;show e2
    .let:b=l:=by simpa [Sl.æ]using hb
     show this▸hl'
    .simp[Sl.ú]at hb
   .rw[Xe hl]at hf;cases hf
 |_=>rw[show(x.o,x.d).2=_ from hx]at hf;cases hf
def _ky K (hK:X.K=K<|>Ŕ)(hc:X.calm=true<|>Ŕ):CallR X (.h "dict") (_kq K):=by subst hK;show _ku hc
def _kz{X Z q}:QA X Z q [] []:=ZZ x5 fun σ H Q au=>ex8 au λE L r m w hc xc k=>by
 cases _aa hc;show k _ _ rfl [] L H rfl m w Step.î λ_=>#[λ_ _ z=>z,λ_ z=>(nomatch z)]
def _kA{X Z q c o e z apos am}(ho:PE X o (tC (.e z)))(hc:QV X Z q c e)(hK:X.K=Z.K<|>Ŕ)
  (dh:attributeBase o "join" X.Y (eval o X.Y)=eval o X.Y<|>Ŕ)
  (gl:autoParam (((backTo am (starEach [e] X.Y)).all (λx=>!x.1)&&(backToKw am (keywordEach [] X.Y)).all (λx=>x.1.isSome)
   && decide ([e].B+([]:List Keyword).B+(if([]:List Keyword).ï then 0 else 1)<30))=true) Ŕ)
  (dg:Abe apos am<|>Ŕ) (hs:Abs e [] X<|>Ŕ) (bq:Abb am [] X<|>Ŕ):
  QE X Z q (_ii z c) (.þ (.Attribute o "join" apos) [e] [] am):=
 q9 (_cm PySem.F.plainAttrs_str PySem.F.slot_str_join PySem.F.type_str_join _dt ho (x3 hc x5 hs) dh gl dg hs bq) fun σ H Q au=>ex8 au λE L r m w ld xc k=>by
  show#[?_,?_]
  .rfl
  .show qK m w (ld) xc λE1 s h1 x L1 H1 e1 e2 m1 w1 ok fr sr st sm=>?_
   let#[y,hz,rfl]:=xK h1;unfold _ih at hz;cases hx:s.2 with
   | lst ds=>
    rw [hx]at hz;dsimp only at hz;cases hp:Kq ds with
    | none=>rw[hp]at hz;cases hz
    | some ys=>
     rw[hp]at hz;dsimp only at hz
     by_cases hl:(ys.E (·.B)).sum+ys.B*z.B<=100000
     .rw[Xa hl]at hz;cases _aa hz;let#[a,xs,bs,ev,q1,ra]:=items ok (.R (e2▸hx));let hq:SqL Z.K H1 a xs:=by
       let#[_,t]\/#[t,_]:=q1
       .show t.sq
       .grind
      let ex:=(_iD hp ra.1).1;subst ex;let ai:(Txt.join z ys).B<=sizeLine:=joinOk_length (joinOk_of .q);show#[z,a,ys,rfl,by rw[ev],by rw[hK];show hq,.q,(k _ _ rfl _ L1 H1 rfl rfl m1 (w1.consPu (x:=#[.dp,.e _,.e _,[]]) (show RepL Z.K H1 false _ _ []from Q9 ai) rfl) (J6 st (nofun) rfl) λhq=>#[sm hq,λ_ t=>(nomatch t)])]
     .rw[Xe hl]at hz;cases hz
   |_=>rw[hx]at hz;cases hz
end Q
namespace PySem
section
def _kB(hh:A.ü=none)(it t)(be:t≠it)(items):Draws prog w A it [it,t] items.O (λi v=>items[i]?=@v) (λi h=>h.IsTupleIter it t i/\h.IsTuple t items) where
 live:=λ_ _ st=>let ⟨o,ho,_⟩:=st.1;#[o,ho]
 frame:=λ_ _ _ st hk=>by
  let#[#[o,ho,r],o2,lh,r2]:=st;show#[#[o,hk it (by simp) o ho,r],o2,hk t (by simp) o2 lh,r2]
 item:=λi s Q E hi st hQ=>by
  let#[fm,ht]:=st;let#[o,ho,hc,hd]:=id fm;let#[o2,lh,pz,n2,kt]:=id ht;let hx:items[i]?=@items[i]:=by simp
  show X0 (Yc (name:=Str.ofString "__next__") fm.õ F.slot_tuple_iterator_next (Y0 F.slot_tuple_iterator_next fm.õ F.entry_tuple_iterator_next ?_ (F.args_tuple_iterator_next_1 _)));change wpAny _ _ (field (.I it) 0 >>= _) _ _ s;show X0 (Yx ho hd (x:=.I t) rfl (X0 (Yx ho hd (x:=.C i 0) rfl (X0 (wpAny_seqItems lh kt ?_)))));dsimp[Xp,hx];show X0 (Ym ho hd (by simp) (X6 #[items[i],rfl,X6 (hQ _ _ s.ë hx #[#[_,Xx _ ho (Z0 (Yr hd _)),(Obj.cls_mapFields ..).H hc,by rw[Yr hd];simp[rawInt]],o2,(Za _ _ (Ne.i be)).H lh,pz,n2,kt] (Xw ..))]))
 done:=λs Q E st hE=>by
  let#[fm,ht]:=st;let#[o,ho,hc,hd]:=id fm;let#[o2,lh,pz,n2,kt]:=id ht;let hx:items[items.O]?=none:=by simp
  show X0 (Yc (name:=Str.ofString "__next__") fm.õ F.slot_tuple_iterator_next (Y0 F.slot_tuple_iterator_next fm.õ F.entry_tuple_iterator_next ?_ (F.args_tuple_iterator_next_1 _)));change wpAny _ _ (field (.I it) 0 >>= _) _ _ s;show X0 (Yx ho hd (x:=.I t) rfl ?_);rw[Xe (show ¬((Value.I t==Value.ã)=true)from Bool.false_ne_true)];change wpAny _ _ (field (.I it) 1 >>= _) _ _ s;show X0 (Yx ho hd (x:=.C items.O 0) rfl ?_);change wpAny _ _ (seqItems? (.I t) >>= _) _ _ s;show X0 (wpAny_seqItems lh kt ?_);dsimp[Xp,hx];show X0 (Zi (X0 (Ym ho hd (by simp) ?_)));change wpAny _ _ (newExc (.h "StopIteration") [] >>= _) _ _ _;show X0 ?_;dsimp[newExc,newTuple];show X0 (Y7 (X0 (m:=firstArgMember _ _) (wpAny_of_eq (a:=Value.ã) (by first|rfl|(lia;rfl)) (Y7 ?_ (by size_fits)))) (by size_fits));dsimp[raiseNew];show X0 (wpAny_handled ?_)
  first|rw[show A.in1.ü=none from hh]|rw[hh]
  show X0 (X6 (wpAny_throw (hE _ _ (((Xw ..).extBut.í _).í _) #[_,X9 _ rfl,rfl])))
def _kC(t)(items)(n:Nat)(dct:Option Addr)(sl:Array (Option Value)):
  Meets (Builtin.«enumerate.__new__» #[[.h "enumerate",.I t],[]]) (λ_ R s=>s.G.get? t=some {cls:=.h "tuple",dict:=dct,data:=.seq items n,slots:=sl} /\
   R (.ok (.ret (.I (s.G.í {cls:=.h "tuple_iterator",data:=.ù %[.I t,.C 0 0|0]}).objs.O)))
    {s with heap:=(s.G.í {cls:=.h "tuple_iterator",data:=.ù %[.I t,.C 0 0|0]}).í {cls:=.h "enumerate",data:=.ù %[.ã,.bool false,.I ↥s,rawInt 0,.ã,.ã|0]}}):=
 .of_wp λprog w A R s h=>by
  let#[hp,g,d,tk,os]:=s;let#[hl,h]:=h;let fe:=sub_enumerate;let hL:Heap.IsTuple (Shared.G #[hp,g,d,tk,os]) t items:=#[_,hl,rfl,n,rfl]
  wp_walk using AutoSeq1.wpAny_loadPart' hl
  show wpAny_stack_any λst=>X6 ?_
  generalize Builtin.SmallTypes.calledThroughType.match_1 (λ_=>Bool) _ _ _=c;cases c <;>
  .wp_walk using AutoSeq1.wpAny_loadPart' hl,wpAny_pyIter_tuple hL
   show#[_,rfl,h]
def _kD(hL:s.G.IsTuple t items)
  (h:∀h',IsEnum h' (↥s+1) ↥s 0 .ã->h'.IsTupleIter ↥s t 0->h'.objs.O=↥s+2 ->
   (∀b o,s.G.get? b=@o->h'.get? b=@o)->Q (.I (↥s+1)) {s with heap:=h' }):
  wpAny (model prog w) A (call (.h "enumerate") [.I t]) Q E s:=by
 let#[#[c,dct,dt,sl],hl,hc,n,hd]:=hL;subst hc hd;show callType_new F.called_enumerate (by rfl) (F.typeCall_enumerate_1 _) (F.newCall_enumerate_1 _) (λobj=>F.args_object_init_2 obj _) F.entry_enumerate_new (_kC t items n dct sl) #[hl,?_];let hz:(s.G.í {cls:=.h "tuple_iterator",data:=.ù %[.I t,.C 0 0|0]}).objs.O=↥s+1:=Zh ..;rw[hz];let he:IsEnum ((s.G.í {cls:=.h "tuple_iterator",data:=.ù %[.I t,.C 0 0|0]}).í {cls:=.h "enumerate",data:=.ù %[.ã,.bool false,.I ↥s,rawInt 0,.ã,.ã|0]}) (↥s+1) ↥s 0 .ã:=by
  let:=X9 (s.G.í {cls:=.h "tuple_iterator",data:=.ù %[.I t,.C 0 0|0]}) (o:={cls:=.h "enumerate",data:=.ù %[.ã,.bool false,.I ↥s,rawInt 0,.ã,.ã|0]}) rfl;rw[hz]at this;show this
 show#[#[_,he,rfl],h _ he #[_,X4 _ (X9 _ rfl),rfl,rfl] (by rw[Zh,hz]) λb o x=>X4 _ (X4 _ x)]
end
end PySem
namespace Q
open PySem PySem.Spec PyProof.Rows L2 L3
abbrev ItT(K:Frag)(l:Addr):It:=ItE (SqT K · l)
def _kE{P w K elts k1 pos}(n1:e≠it)(n2:l≠e)(n3:l≠it):Turn P w K (.Tuple elts k1 pos) (ItT K l) [e,it] e (λi h=>(∃dw,IsEnum h e it i dw)/\h.IsTupleIter it l i):=
 _iZ (K:=K) (IS:=λh ab=>h.IsTuple l ab) n1 n2 (λA hh ab=>_kB hh it l n3 ab) λX a8 s σ H hK I xs q=>by
  subst hK;let#[ab,rv,p,_]:=I.tuple q;show#[#[ab,rv,p],λzs hz=>I.tuple_inj hz q]
abbrev iEnT(K:Frag)(ta:TA):TI:=fun σ H R=>ta σ H λvs H1=>∃l,vs=[.I l]/\(∃xs,SqT K H1 l xs/\(xs.B<=sizeLine->R (ItT K l) H1))
section
def _kF K (hg:Gl X "enumerate")(hm:X.mg "enumerate"=none)(ha:PA X [e] ta)(hK:X.K=K<|>Ŕ)
  (hs:starEach [e] X.Y=[(false,eval e X.Y)]<|>Ŕ):PI X (.Tuple elts k1 nv) (.þ (.ç "enumerate" p) [e] [] pos) (iEnT K ta):=by
 subst hK;intro a8 s σ H R I h;show Call_ (JK I hg hm _i1 (Y6 (thn (ha pos a8 s σ H _ I h) λus s1 hz=>?_) (by rw[hs];rfl) rfl));let#[vs,H1,I1,r1,q1]:=hz;let#[l,rfl,xs,q1,q]:=q1;let#[u1,rfl,e1]:=wZ r1;cases e1;let#[je,ur,p1,tu]:=I1.tuple q1;let lt:l<↥s1:=by let#[_,ee,_]:=p1;show Xg ee
 show _kD p1 λh' g1 g2 gs gk=>?_
 show wpAny_pyIter_enum g1 #[_,[_,↥s1],_,_,H1,rfl,I1.kept (t':=s1.ë) gk,
  _kE (Nat.succ_ne_self _) (Xl (Z7 lt)) (Xl lt),#[#[_,g1],g2],λb hb=>?_,q tu]
 let gw:↥s1<=b:=by
  simp at hb;let rfl\/rfl:=hb<;>simp
 show I1.fpOk gw (I1.ô.û gw)
def _kG(h:QE X Z q c e)(hg:Gl X "enumerate")(hm:X.mg "enumerate"=none)(hK:X.K=Z.K<|>Ŕ)(hs:starEach [e] X.Y=[(false,eval e X.Y)]<|>Ŕ):QI X Z q (.Tuple elts k1 nv) (_ik c) (.þ (.ç "enumerate" p) [e] [] pos):=λa8 s σ H R I au=>ex8 au λE L r m w hc xc k=>by
 show(_kF Z.K hg hm (x3 h x5 hs) hK hs) a8 s σ H R I (Wk m w (show bnd (c E) _=@r from hc) xc λE1 s h1 x L1 H1 e1 e2 m1 w1 st sm=>?_);let#[ds,hd,rfl]:=xK h1;let#[wT,sT]:=_hc w1 st;cases hx:x.d with
 |tup es=>
  rw[<-e2,hx]at hd;cases _aa hd;let#[a,_,_,ev,_]:=items w1.head (.Z hx);let ag:=_hb (K:=Z.K) hx ev;let#[xs,bs,q3,r3,_]:=ag H1 (JX w1.head);show#[a,by rw[ev],xs,q3,λai=>k _ _ rfl (ItT Z.K a) [x.let] L1 H1 m1 wT sT (by rw[_i3,r3.len];show ai) (λhq=>(sm hq).1) (_i6 ag)]
 |_=>rw[<-e2,hx]at hd;cases hd
end
def _kH:∀{ds} {i:Nat} {d},D.pures ds=true->ds[i]?=@d->d.pure=true
 |[],_,_,_,h=>by simp at h
 |a::ds,0,d,h,e=>by
  let e:a=d:= ~~~e
  subst e;unfold D.pures at h;rw[Bool.é]at h;show h.1
 |a::ds,i+1,d,h,e=>by
  unfold D.pures at h;rw[Bool.é]at h;show _kH h.2 (~~~e)
def _kI(h:PE X e (z4 i))(hK:X.K=Z.K<|>Ŕ):QIS X Z true tg (itV i) e:=λa8 s σ H R I au=>ex8 au λE L r m w hc xc k=>by
 show(hK▸_g9 h) a8 s σ H R I ?_;unfold itV at hc;cases hE:E[i]? with
 | none=>rw[hE]at hc;cases hc
 | some s0=>
  cases s0 with
  | none=>rw[hE]at hc;cases hc
  | some s0=>
   let#[oo,dd]:=s0;rw [hE]at hc;cases dd with
   | lst ds=>
    dsimp only at hc
    by_cases hp:D.pures ds=true
    .rw[Xa hp]at hc;cases _aa hc;let#[x,a1,a2,a3,a4]:=m.get hE;let ou:=w.ok x (vQ a1);let#[a,xs,bs,ev,q3,r3,h3,_]:=items ou (.R a3);let q3:LsR Z.K H a xs:=by let#[_,z]\/#[z,_]:=q3;show z;rw[a3]at z;cases z
     let again:∀H2,kJ H H2->∃g ys cs,SqL Z.K H2 a ys/\RepA Z.K H2 g ds ys cs:=λH2 hs=>by
      let#[a',ys,cs,vf,q4,r4,h4,_]:=items (RepO.kp ou (Kp.of_same hs):x.ok Z.K H2) (.R a3);let:a'=a:=by let:=vf.i.H ev;show V.I.inj this
      subst this;let#[_,z]\/#[z,_]:=q4
      .show#[_,ys,cs,z.sq,r4]
      .symm
     show#[x.v,a4,.R #[a,xs,ev,q3.sq,λai=>k _ _ rfl _ [] L H m (by rw[List.map_nil,Xv];show w) (by rw[List.map_nil,Xv];show Step.î) (r3.len▸ai) (λ_=>z6) #[λt ht=>(nomatch ht),λj H2 _ hs hj=>?_,λH2 _ hs=>?_,λj H2 v H3 d _ hs hy jy=>?_]]]
     .let#[g,ys,cs,s1,s2]:=again H2 (hs rfl);let hl:=s2.len;show#[ys,ys[j]'_,s1,X1 (by symm)]
     .let#[g,ys,cs,s1,s2]:=again H2 (hs rfl);show#[ys,s1,by rw[s2.len];show X8 _]
     .let#[g,ys,cs,s1,s2]:=again H2 (hs rfl);let#[e3,hy]:=hy;subst e3;let#[v',fq,f1,f2,f3]:=s2.get jy;let:v'=v:=by let:=hy ys s1;rw[f1]at this;show _aa this
      subst this;show#[#[.X,d,v',[]],rfl,rfl,rfl,z6,(RepL.pu (g':=true) f2 (_kH hp jy)).2,λb hb=>(nomatch hb)]
    .rw[Xe hp]at hc;cases hc
   |_=>cases hc
end Q
namespace PySem
section
variable {prog:Program}{w:World}{K:Type}[DecidableEq K]{knd:HeapKind prog w K}{A:Around}{E:VP9}{s:Shared}
def _kJ{d a:Addr}{xs:List (K×Addr×Value)}{k:K}{v:Value}{Q:VP9}(hu:knd.room A)(ff:knd.is s.G k a)(hm:s.G.DictOfH knd d xs)
  (h1:∀p,atKey xs k=@p->Q p.2 {s with toks:=s.ë+knd.draws k})
  (h2:atKey xs k=none->∀h',h'.DictOfH knd d (storedH xs k a v)->Heap.SameBut d s.G h'->Q v {s with heap:=h',toks:=s.ë+knd.draws k})
  (hsz:xs.B<=sizeLine:=by size_fits):
  wpAny (model prog w) A (dictSetDefault d (.I a) v) Q E s:=by
 let#[o,es,ep,ho,hc,hd,he,his,hn]:=hm;ext dictSetDefault
 try with_reducible show Yd ?_
 show X0 (knd.pyHash hu ff ?_);show X0 (wpAny_dictFind_heap (s:={s with toks:=s.ë+knd.draws k}) hu ff ho hd he his hn ?_ ?_)
 .intro ie;let hnot:k∉xs.E (·.1):=not_mem_keys_of_get ie;show X0 (Zi (X0 (wpAny_updateDictKeys (hz:=by let e:=size_of_entries he;lia) (s:={s with toks:=s.ë+knd.draws k}) ho hd (X6 (h2 (atKey_none_of_get ie) _ #[_,_,ep+1,Xx _ ho (Obj.isFreed_of_dict (Obj.data_mapDictKeys hd _)),
   hc.mapDictKeys _,Obj.data_mapDictKeys hd _,?_,?_,?_] (Xw ..))))))
  .rw[storedH_new (atKey_none_of_get ie)];simp[he,entryOfKey]
  .rw[storedH_new (atKey_none_of_get ie)];intro x hx;let hx\/hx:=aA hx
   .show knd.keeps (his x hx) ho hd (Xw ..)
   .dsimp[List.mem_singleton]at hx;subst hx;show knd.keeps ff ho hd (Xw ..)
  .rw[storedH_new (atKey_none_of_get ie)];rw[Xd,Xj];show#[hn,by simp,?_];intro x hx y hy;dsimp[List.V,List.map_nil,List.mem_singleton]at hy;subst hy;show λe=>hnot (e▸hx)
 .intro j p hj;show X0 (wpAny_dictEntries (s:={s with toks:=s.ë+knd.draws k}) ho hd ?_);rw[entry_at he j,hj];show X0 (Zi (X6 (h1 _ (atKey_of_get hn hj))))
def _kK(knd:HeapKind prog w K)(d a:Addr)(hd:(d==sysModules)=false)(ll:Value):
  MeetsIn prog w (Builtin.«dict.setdefault» #[[.I d,.I a,ll],[]]) (λA R s=>knd.room A.in1/\∃k xs,knd.is s.G k a/\s.G.DictOfH knd d xs/\xs.B<=sizeLine /\
   (∀p,atKey xs k=@p->R (.ok (.ret p.2)) {s with toks:=s.ë+knd.draws k}) /\
   (atKey xs k=none->∀h',h'.DictOfH knd d (storedH xs k a ll)->Heap.SameBut d s.G h'->R (.ok (.ret ll)) {s with heap:=h',toks:=s.ë+knd.draws k})):=
 .of_wp λA R s hz=>by
  let#[hu,k,xs,ff,hm,hz,h1,h2]:=hz;ext Builtin.«dict.setdefault»;show X0 ?_;ext Builtin.Dict.keyAndDefault;show X0 (wpAny_notOrdered_dict hm.õ ?_);change wpAny _ _ (pure (d,Value.I a,@ll)) _ _ s;show X6 ?_;change wpAny _ _ (if(d==sysModules)=true then _ else(dictSetDefault d (.I a) ll >>= _)) _ _ s;rw[Xe (by rw[hd];show Bool.false_ne_true)];show X0 (_kJ (hsz:=hz) hu ff hm (λp hp=>X6 #[p.2,rfl,h1 p hp]) λhn h' pr jf=>X6 #[ll,rfl,h2 hn h' pr jf])
end
end PySem
namespace Q
open PySem PySem.Spec PyProof.Rows L2 L3
section
def _kL{K}{x:Sl}(ok:x.ok K H)(h:x.d.pure=true):RepL K H false x.d x.v []:=(RepL.pu (g':=false) (RepO.wk ok) h).2
end
end Q
namespace PySem
section
variable {prog:Program}{w:World}{A:Around}{E:VP9}{s:Shared}
def _kM(h:Heap)(d:Addr)(n:Nat):Prop:=∃o es ep,h.get? d=@o/\o.cls=.h "dict"/\o.data=.dict es ep/\es.O=n
def _kN(d)(hd:(d==sysModules)=false):
  MeetsIn prog w (Builtin.«dict.__len__» #[[.I d],[]]) (λ_ R s=>∃n,_kM s.G d n/\R (.ok (.ret (.C n s.ë))) {s with toks:=s.ë+1}):=
 .of_wp λA R s hz=>by
  let#[n,#[o,es,ep,ho,hc,ip,hz],h]:=hz;change wpAny _ _ (dictSize d >>= _) _ _ s;show X0 (X0 (wpAny_dictEntries ho ip (X6 (X0 (wpAny_pendingCount_other hd (wpAny_ret_mkInt ?_))))));rw[hz];show h
def _kO{d n}{Q:VP9}(hd:(d==sysModules)=false)(hm:_kM s.G d n)(i7:(n:Int)<2 ^ 63)
  (h:Q (.C n (s.ë+1)) {s with toks:=s.ë+1+1}):wpAny (model prog w) A (Builtin.«len» #[[.I d],[]]) (λfin s'=>∃r,fin=.done (.ret r)/\Q r s') E s:=by
 let ht:s.TypeIs (.I d) "dict":=by let#[o,es,ep,ho,hc,_]:=hm;show#[o,ho,hc]
 show X0 (m:=callSpecial? _ _) (Yc ht F.slot_dict_len
  (call_meetsIn F.slot_dict_len ht F.entry_dict_len (F.args_dict_len_1 _) (_kN d hd) #[n,hm,?_]))
 change wpAny _ _ (if _>=2 ^ 63 then _ else _) _ _ _;rw[Xe .q];show X0 (wpAny_mkInt (X6 #[_,rfl,h]))
def _kP{d n Q}(hd:(d==sysModules)=false)(hm:_kM s.G d n)(i7:(n:Int)<2 ^ 63)
  (h:Q (.C n (s.ë+1)) {s with toks:=s.ë+1+1}):wpAny (model prog w) A (call (.x "len") [.I d]) Q E s:=
 Calls.call_function_entry kind_len plain_len entry_len (args_len1 _) (_kO hd hm i7 h)
end
end PySem
namespace Q
open PySem PySem.Spec PyProof.Rows L2 L3
def _kQ(K:Frag):List V->Hp->VK->Prop:=λxs H Q=>∃a ks vs,xs=[.I a]/\DcN K H a ks vs/\Q (.C ks.B) H
def _kR{X} K:CallR X (.x "len") (_kQ K):=by
 intro a8 s σ H xs us Q I r ⟨a,ks,vs,e,⟨es,ep,hH,hs,hl,_,hk,_⟩,q⟩;subst e;cases r with
 | cons r1 r2=>
  cases r2;cases r1;let#[ob,ij,g1,g2,g3,g4]:=_jD I hH;let ai:ks.B=ij.O:=by
   let:=congrArg List.B g4;rw[X3]at this;rw[hk,X3];show this.i
  let hz:es.B=ks.B:=by rw[hk,X3]
  show _kP hs #[ob,ij,ep,g1,g2.1,g3,ai.i] (by rw[sizeLine_eq]at hl;lia) #[.C ks.B,H,I.tok _,#[_,rfl],q]
def _kS{K}:Ad1 K (λv H Q=>_kQ K [v] H Q) (pu1 ZJ):=by
 intro H x s Q ok hf k;let hf:(ZJ x.d).E _=@s:=hf;cases hd:x.d with
 | dct kvs=>
  rw[hd]at hf;unfold ZJ at hf;dsimp only at hf
  by_cases hu:unm kvs=true
  .rw[Xa hu]at hf;cases _aa hf;let#[a,xs,e,dn]:=_jl ok hd hu;show#[a,kvs.E _,xs,by rw[e],dn,?_];rw[X3];show k _ H rfl rfl (_eT (λ_ _ h=>h) vj)
  .rw[Xe hu]at hf;cases hf
 |_=>rw[hd]at hf;cases hf
section
variable {X:Cx}{a8:LA9}{σ:L2.St}{H:Hp}{s:Shared}{a b:Addr}{es:List Ent}{A:Around}{E:VP9}{k:Kd}{r:Value}
def _kT{ep Q}(hu:A.u+64<cLine)(I:Inv X a8 σ H s)(e:H a=@(kY a es ep))(hs:(a==sysModules)=false)(h2:es.B<=sizeLine)(h3:(es.E (·.1)).l)(h5:∀x>es,PuR X.K H x.1.1 (.I x.2.1))(hk:PuR X.K H k.1 (.I b))
  (h1:∀p,atKey es k=@p->∀s',Inv X a8 σ H s'->Q p.2 s') (h4:atKey es k=none->∀ep' s',Inv X a8 σ (upd H a (kY a (storedH es k b r) ep')) s'->Q r s'):
  wpAny (model X.â X.w) A (call (.x "dict.setdefault") [.I a,.I b,r]) Q E s:=by
 let dd:=_jd I e h3 h5;show call_meetsIn PySem.F.slot_dict_setdefault dd.õ PySem.F.entry_dict_setdefault (PySem.F.args_dict_setdefault_3 _ _ _) (_kK _ a b hs r) #[?_,k,es,Wx I hk rfl,dd,h2,λp hp=>h1 p hp _ (I.tok _),λhn h' tq qh=>?_]
 .show _jf hu
 .let#[q,ds,ep',hq,g2,g3,g4,_,_]:=tq;show h4 hn ep' _ (_cJ I (e▸Zg) qh #[q,hq] #[#[q,ds,hq,g2,g3,g4],#[q,hq],λh1 h2 hz k=>by let#[o,ds,a1,a2]:=hz;show#[o,ds,k o a1,a2]])
end
abbrev vzc(K:Frag)(td ty tx:TE):TE:=fun σ H Q=>td σ H λx H1=>∃a,x=.I a/\(∃es ep,H1 a=@(kY a es ep))/\ty σ H1 λy H2=>tx σ H2 λz H3=>∃b k es ep,y=.I b/\H3 a=@(kY a es ep)/\(a==sysModules)=false/\es.B<=sizeLine/\(es.E (·.1)).l/\(∀x>es,PuR K H3 x.1.1 (.I x.2.1))/\PuR K H3 k.1 (.I b) /\
 (∀p,atKey es k=@p->∃v,RelV v p.2/\Q v H3)/\(atKey es k=none->∀r ep',RelV z r->Q z (upd H3 a (kY a (storedH es k b r) ep')))
section
variable {X:Cx}{o e f:Expr}{apos am:Pos}{td ty tx:TE}
def _kU(hu:X.A.u+64<cLine)(ho:PE X o td)(he:PE X e ty)(hf:PE X f tx)(m:M2 X o "setdefault" apos e f am):PE X (.þ (.Attribute o "setdefault" apos) [e,f] [] am) (vzc X.K td ty tx):=by
 intro a8 s σ H Q I h;show wpAny_Call_method m.ò m.few m.line PySem.F.plainAttrs_dict PySem.F.slot_dict_setdefault PySem.F.type_dict_setdefault (thn (ho a8 s σ H _ I h) λu s1 hz=>?_);let#[x,H1,I1,rx,a,ex,#[es0,ep0,d],q1]:=hz;subst ex;obtain rfl:u=Value.I a:=rx;let#[ob,ij,g1,g2,g3,g4]:=_jD I1 d;show#[#[ob,g1,g2.1],λb z=>by cases z;show#[ob,g1,g2.2.1],?_];rw[m.trees];show Zb rfl (Calls.evalArgs_plain (Z1 (thn (he a8 s1 σ H1 _ I1 q1) λiv s2 hz=>?_)));let#[y,H2,I2,ry,q2]:=hz;show Z1 (thn (hf a8 s2 σ H2 _ I2 q2) λfv s3 hz=>Calls.spliced_nil ?_);let#[z,H3,I3,rz,b,k,es,ep,ey,ea,hs,hl,hn,h5,hk,q4,q5]:=hz;subst ey;obtain rfl:iv=Value.I b:=ry;show _kT hu I3 ea hs hl hn h5 hk (λp hp s4 I4=>by let#[v,rv,q3]:=q4 p hp;show#[v,H3,I4,rv,q3]) λbe ep' s4 I4=>#[z,_,I4,rz,q5 be fv ep' rz]
end
def _kV {K H k}: ∀{kvs xs bs} {es : List Ent},RepP K H true kvs xs bs -> kvs.E (·.1) = es.E (·.1.1) -> Vals xs (es.E (·.2.2)) -> D.pures (kvs.E (·.2)) = true ->
    (∀ p,atKey es k = @p -> ∃d v,xk kvs k.1 = @d /\ RelV v p.2 /\ RepL K H false d v [] /\ d.pure = true) /\ (atKey es k = none -> xk kvs k.1 = none)
  | [],_,_,[],_,_,_,_=>#[λp h=>(by cases h),λ_=>rfl]| [],_,_,_::_,_,h,_,_=>by cases h| _ :: _,_,_,[],_,h,_,_=>by cases h
  | (q,d)::kvs,xs,bs,e::es,hr,hk,hv,hp=>by
    let#[x,r,b1,c1,rfl,_,h1,h2]:= hr;injection hk with k1 k2;rw [List.V]at hv hp;cases hv with
    | cons v1 v2=>
      unfold D.pures at hp;rw [Bool.é]at hp;let k1 : q = e.1.1:= k1
      by_cases he : e.1 = k
      . let hq : q = k.1:= by rw[k1,he]
        let hg : xk ((q,d)::kvs) k.1 = @d:= by ext xk; rw[List.find?_cons_of_pos (by simp[hq])]; rfl
        let ha : atKey (e::es) k = @e.2:= by
          let#[ek,ev]:= e;let he : ek = k:= he;simp[atKey,he]
        show#[λp uo=> ?_,λhn=> ?_]
        . rw[ha]at uo
          cases _aa uo;show#[d,x,hg,v1,(RepL.pu (g':= false) h1 hp.1).2,hp.1]
        . grind
      . let hq : q≠k.1:= λz=>he (Subtype.ext (k1▸z))
        let hg : xk ((q,d)::kvs) k.1 = xk kvs k.1:= by ext xk; rw[List.find?_cons_of_neg (by simp[hq])]
        let ha : atKey (e::es) k = atKey es k:= by
          simp[atKey,he]
        rw[hg,ha];show(_kV h2 k2 v2 hp.2)
section
variable {X:Cx}{Z:Fx0}{pn:List Nat}{q qa:Bool}{kc vc a b:Ex}{o ke ve ea eb:Expr}{pos bb apos am:Pos}
#where in
def _kW{i}(hu:X.A.u+64<cLine)(ho:PE X o (z4 i))(hk:QV X Z true kc ke)(hv:QV X Z true vc ve)(hK:X.K=Z.K<|>Ŕ)(hm:M2 X o "setdefault" apos ke ve am:=by show#[rfl,rfl,rfl,rfl]):QE X Z false (_im i kc vc) (.þ (.Attribute o "setdefault" apos) [ke,ve] [] am):=
 q9 (hK▸_kU hu ho hk hv hm) fun σ H Q au=>ex8 au λE L r m w hc xc k=>by
  unfold _im at hc
  by_cases hD:_il E[i]?=true
  rotate_left
  .rw[Xe hD]at hc;cases hc
  rw[Xa hD]at hc;obtain⟨kvs0,h0,hu0⟩:∃kvs,E[i]?=some @(.rt,.ÿ kvs)/\unm kvs=true:=by
   unfold _il at hD
   split at hD
   .revert kvs h;show#[kvs,h,hD]
   .cases hD
  let#[x0,a1,a2,a3,a4]:=m.get h0;let#[l0,xs0,el0,#[es0,ep0,hH0,_]]:=_jl (w.ok x0 (vQ a1)) a3 hu0;show#[x0.v,a4,l0,el0,#[es0,ep0,hH0],(qK m w hc xc λE2 s2 h2 y L2 H2 e3 e4 m2 w2 gj og nw bn cw=>(qK m2 w2 h2 (xc.step bn) λE3 s3 h3 t L3 H3 e5 e6 m3 w3 qy oq sr3 cu mz=>?_))]
  split at h3
  rotate_left
  .cases h3
  revert kvs hE
  split at h3
  rotate_left
  .grind
  revert hcond;let#[ff,ai,hunm,hpv,hps]:=hcond;let#[z,b1,b2,b3,b4]:=m3.get hE;let hzv:z.v=x0.v:=by rw[a4]at b4;show(_aa (_aa b4)).i
  let mq:RepR Z.K H3 (.ÿ kvs) z.v z.as:=by
   let:=w3.ok z (vQ b1);unfold Sl.ok at this;rw[b2,b3]at this;show this
  let#[l,xs,bs,c1,c2,c3,c4]:=mq;let uy:l=l0:=by
   let:V.I l=V.I l0:=by rw[<-c1,hzv,el0]
   injection this
  subst uy;let#[es,ep,d1,d2,d3,d4,d5,d6,d7]:=DcA.un c3 hunm;let#[b,eb,pb]:=_jm (RepO.kp gj (Kp.of_same (mz rfl))) (e4▸ff);let i6:qJ 6 y.d=true:=by
   let:qV y.d=true:=by rw[e4];show ff
   unfold qV at this;rw[Bool.é]at this;show this.1
  let#[g1,g2]:=_kV (k:=#[y.d,i6]) c2 d5 d7 hps;let hyk:(#[y.d,i6]:Kd).1=s2.2:=e4;let gw:es.B<sizeLine:=by
   let:=congrArg List.B d5;rw[X3,X3]at this;rw[<-this];show ai
  show#[b,#[y.d,i6],es,ep,eb,d1,d2,d3,d4,d6,pb,λp hp=>?_,λhn rr ep' yb=>?_]
  .let#[d,v',q1,q2,q3,q4]:=g1 p hp;rw[hyk]at q1;rw[q1]at h3;cases _aa h3;show#[v',q2,k _ _ rfl #[.dp,d,v',[]] L3 H3 rfl rfl m3 (w3.consPu q3 rfl) (J6 (x:=#[.dp,d,v',[]]) (bn.H cu) (nofun) rfl) nofun]
  .let q1:=g2 hn;rw[hyk]at q1;rw[q1]at h3;cases _aa h3;let hmem:=_je es (#[y.d,i6]:Kd);rw[hn]at hmem;let hnm:y.d∉es.E (·.1.1):=of_decide_eq_false hmem.i;rw[storedH_new hn];let rt:RepL Z.K H3 true s3.2 t.v []:=by rw[<-e6];show(RepL.pu (g':=true) (RepO.wk qy) (e6▸hpv)).2
   let rp:=_jw (q:=s2.2) rt c2;rw[Xv]at rp;let#[w4,gu]:=_jA (ep':=ep') (T:=[]) (i:=i) (y:=z) (es':=es++[(#[y.d,i6],b,rr)]) (xs':=xs++[t.v]) (cs:=bs) (kvs':=kvs++[(s2.2,s3.2)]) (~~~w3) b1 d1 b2 c4 c1 rp (λa h=>.R h) d2 (by rw[Xb,Xy];lia) (by
    rw[Xd,Xj];show#[d4,List.nodup_cons.å #[Y8,Xr],λp uo q hq e=>?_];let:q=#[y.d,i6]:=aC hq;subst this e;let#[n,ux,my]:=aE uo;show hnm (List.mem_map.å #[n,ux,by rw[my]])) (by rw[Xd,Xd,d5,<-e4];rfl) (λn me=>by
    let z\/z:=aA me
    .show d6 n z
    .rw[aC z];show pb) (Xd▸_jx d7 yb)
   let ht2:RepL Z.K (upd H3 l (kY l (es++[(#[y.d,i6],b,rr)]) ep')) false s3.2 t.v []:=by
    rw[<-e6];show(_kL qy (e6▸hpv)).kp #[λa zs e=>?_,λa o u e=>?_,nofun]
    .rw[qz (λz=>by subst z;rw[d1]at e;cases e)];show e
    .rw[qz (λz=>by subst z;rw[d1]at e;cases e)];show e
   let mm:=m3.à (x:=#[.rt,.ÿ (kvs++[(s2.2,s3.2)]),z.v,l::bs]) i;rw[WZ b4]at mm;show k _ _ rfl #[.dp,s3.2,t.v,[]] _ _ rfl rfl mm (w4.consPu ht2 rfl) (J6 (x:=#[.dp,s3.2,t.v,[]]) ((bn.H cu).H (~~~gu)) (nofun) rfl) nofun
end
def spM(K:Frag)(mg:Str->Option Value)(n:Nat)(f:Fn):Sp:=λvs H Q E=>∃(xs:List Sl) (y:Sl) (r:Res Sd),vs=xs.E Sl.v++[y.v]/\xs.B=n/\World K H ((xs++[y]).E some)/\f ((xs++[y]).E Sl.sd)=@r /\
 (∀E' c,r=.exc E' c->∀C H',mg c=@(.I C)->Step H ((xs++[y]).E some) H' []->E (.I C) none H') /\
 ∀E' a,r=.ok E' a->∃sd,E'[n]?=some @sd/\∀(x y':Sl) H',x.o=a.1->x.d=a.2->y'.o=sd.1->y'.d=sd.2->y'.v=y.v->World K H' [@x,@y']->Step H ((xs++[y]).E some) H' [@x,@y']->Q x.v H'
def _kX{K:Frag}{mg:Str->Option Value}{n:Nat}{f:Fn}{ps:List Str}(hn:ps.B=n+1):∀vs H Q E,spM K mg n f vs H Q E->vs.B=ps.B:=λvs H Q E hz=>by let#[xs,y,r,e,hl,_]:=hz;rw[e,Xb,X3,hl,hn];rfl
def _kY{L:Ls}{x y:Sl}{i:Nat}(h:L[i]?=some @y):(sls [@x,@y]).Sublist (sls (@x::L)):=by
 let:y>sls L:=mem_sls.å (vQ h);change(x::[y]).Sublist (x::sls L);show(List.singleton_sublist.å this).cons₂ x
def _kZ{X:Cx}{K:Frag}{mg:Str->Option Value}{N:List Str}{n nn:Nat}{B:Sm}{body:List Stmt}{H:Hp}{vs:List V}{Q:VK}{E:XK}(hN:N.B=nn)(t:QSs X #[K,mg,E] [n] B body)(h:spM K mg n (fn nn B) vs H Q E):
  ∃t,PSs X body t/\t {nx:=λ_ H'=>Q .j H',rt:=Q} (L2.start N vs) H:=by
 show#[_,t,?_];let#[xs,y,r,rfl,hl,w,hf,hx,hk]:=h;unfold fn at hf;rw[X3,Xi]at hf;let m:=_gp (xs++[y]) (nn - (xs++[y]).B);let e1:L2.start N (xs.E Sl.v++[y.v])=(xs++[y]).E (λx=>@x.v)++List.r (nn - (xs++[y]).B) none:=by
  ext L2.start;rw[show xs.E Sl.v++[y.v]=(xs++[y]).E Sl.v by simp,Xi,X3,hN];rfl
 let hy0:(L2.start N (xs.E Sl.v++[y.v]))[n]?=@(@y.v):=by
  rw[e1,Xn (by simp[hl])];simp[hl]
 let wL:World K H ((xs++[y]).E some++List.r (nn - (xs++[y]).B) none):=w.same (by simp);let sL:Step H ((xs++[y]).E some) H ((xs++[y]).E some++List.r (nn - (xs++[y]).B) none):=Step.î.same (List.á.î _) (by simp);let fin:∀{E1:En} {σ':L2.St} {L':Ls} {sd:Sd},E1[n]?=@(@sd)->Pn [n] (L2.start N (xs.E Sl.v++[y.v])) σ'->Mt E1 σ' L'->∃y':Sl,L'[n]?=some @y'/\y'.o=sd.1/\y'.d=sd.2/\y'.v=y.v:=λhE p m'=>by
  let#[y',a1,a2,a3,a4]:=m'.get hE;show#[y',a1,a2,a3,?_];let:=p n (aB rfl);rw[a4,hy0]at this;show _aa (_aa this)
 cases hB:B ((xs++[y]).E (λx=>@x.sd)++List.r (nn - (xs++[y]).B) none)with
 | none=>rw[show(some∘Sl.sd)=(λx:Sl=>@x.sd)from rfl,hB]at hf;cases hf
 | some g=>
  rw[show(some∘Sl.sd)=(λx:Sl=>@x.sd)from rfl,hB]at hf;show#[_,_,g,e1▸m,wL,hB,?_];cases g with
  |nx E1=>
   cases _aa hf;intro σ' L' H' p m' w' s';let#[sd,hE,hk]:=hk _ _ rfl;let#[y',b1,b2,b3,b4]:=fin hE p m';let wx:World K H' (@(#[.dp,.j,.j,[]]:Sl)::L'):=w'.consPu (show RepL K H' false .j .j []from _e0) rfl;let sx:Step H ((xs++[y]).E some) H' (@(#[.dp,.j,.j,[]]:Sl)::L'):=J6 (x:=#[.dp,.j,.j,[]]) (sL.H s') (λb hb=>(nomatch hb)) rfl;show hk #[.dp,.j,.j,[]] y' H' rfl rfl b2 b3 b4 (wx.sub (_kY b1)) (sx.sub (_kY b1))
  |rt E1 a=>
   cases _aa hf;intro x σ' L' H' e2 e3 p m' w' s';let#[sd,hE,hk]:=hk _ _ rfl;let#[y',b1,b2,b3,b4]:=fin hE p m';show hk x y' H' e2 e3 b2 b3 b4 (w'.sub (_kY b1)) ((sL.H s').sub (_kY b1))
  |xc E1 c=>
   cases _aa hf;intro C σ' L' H' hm _ m' w' s';show hx _ _ rfl C H' hm ((sL.H s').sub (by simp))
  |ct E1=>cases hf|bk E1=>cases hf
def tAM(Z:Fx0)(q:Bool)(cs:List Ex)(i:Nat):TA:=fun σ H Q=>∃E L r,Mt E σ L/\World Z.K H L/\vW cs E=@r/\Xc Z σ H L r /\
 ∀E' ys,r=.ok E' ys->∀(xs:List Sl) L' H',xs.E Sl.sd=ys->Mt E' σ L'->World Z.K H' (xs.E some++L')->Step H L H' (xs.E some++L')->(q=true->kJ H H'/\∀b>jx (xs.E some),H b=none)->∃v,σ[i]?=some @v/\Q (xs.E Sl.v++[v]) H'
section
variable {X:Cx}{Z:Fx0}{q:Bool}{c:Ex}{cs:List Ex}{e:Expr}{es:List Expr}{pos p:Pos}{x:Str}{ps:List Str}{k n i:Nat}{f:Fn}
def _k0(h:PE X e (z4 i))(b6:Abs e [] X<|>Ŕ):PA X [e] (tAM Z q [] i):=ZZ (x3 h x5 b6) fun σ H Q au=>ex8 au λE L r m w hc xc k=>by
 cases _aa hc;let#[v,hv,q]:=k _ _ rfl [] L H rfl m w Step.î λ_=>#[λ_ _ z=>z,λ_ z=>(nomatch z)]
 show#[v,hv,q]
def _k1(h:QE X Z q c e)(hs:PA X es (tAM Z q cs i))(b6:Abs e es X<|>Ŕ):PA X (e::es) (tAM Z q (c::cs) i):=
 ZZ (x3 h hs b6) fun σ H Q au=>ex8 au λE L r m w hc xc k=>by
  show Wk m w (show bnd (c E) _=@r from hc) xc λE1 s h1 x L1 H1 e1 e2 m1 w1 st sm=>?_
  let s1:Step H L H1 L1:=st.H Step.ñ;let#[E2,ys,h2,h3]\/#[E2,cc,h2,h3]:=wK h1
  .cases _aa h3;show#[E1,L1,_,m1,w1.tail,h2,(λ_ _ z=>by cases z),λE' ys' z xs L2 H2 e3 m2 w2 bn cw=>?_];injection z with z1 z2;subst z1 z2;let#[w3,cu]:=_eJ (T:=[@x]) w1 bn w2;show k _ _ rfl (x::xs) L2 H2 (by rw[List.V,e3];simp[Sl.sd,e1,e2]) m2 w3 (st.H cu) λhq=>?_
   let#[a1,a2]:=sm hq;let#[b1,b2]:=cw hq;show#[kX a1 b1,λb hb=>?_];rw[List.V,vk]at hb;let z\/z:=aA hb
   .show a2 b z
   .show zx a1 (b2 b z)
  .show#[E1,L1,_,m1,w1.tail,h2,(xc.step s1).E h3,λE' s' z=>by cases z]
def _k2{L:Ls}{y:Sl}(h:L[i]?=some @y):(sls L).á (y::sls (L.à i none)):=by
 let:=(_eR h).filterMap id;show this
#where in
def _k3(D:k5 X.â X.w X.K X.mg X.ò k x ps (spM Z.K Z.mg n f))(hr:Room k X.A)(g:xw X Z.EX)(ha:PA X (e::es) (tAM Z q cs i))(hn:cs.B=n<|>Ŕ)(hg:Gl X x<|>Ŕ)(fu:Abd x<|>ŕ)
  (he:Abs e es X<|>Ŕ) (bu:Abb pos es X<|>Ŕ):
  QE X Z false (_in f i cs) (.þ (.ç x p) (e::es) [] pos):=q9 (_d5 D hr g ha hg fu he bu) fun σ H Q au=>ex8 au λE L r m w hc xc kk=>by
 let#[E1,ys,h1,h2]\/#[E1,cc,h1,h2]:=wK (show bnd (vW cs E) _=@r from hc)
 rotate_left
 .show#[E,L,_,m,w,h1,xc.E h2,λE' s' z=>by cases z]
 show#[E,L,_,m,w,h1,(λ_ _ z=>by cases z),λE' ys' z xs L1 H1 e1 m1 w1 st sm=>?_];injection z with z1 z2;subst z1 z2;let ai:xs.B=n:=by rw[<-hn,<-_gd h1,<-e1,X3]
 let hyl:ys.B=n:=by rw[<-hn];show _gd h1
 split at h2
 rotate_left
 .cases h2
 revert x0 hE;let#[o0,d0]:=x0;let#[y,a1,a2,a3,a4]:=m1.get hE;show#[y.v,a4,?_];right;rw [Xv];let#[wl,sl]:=_gt w1;let pm:(sls ((xs.E Sl.let).E some++L1)).á (sls ((xs.E Sl.let++[y]).E some++L1.à i none)):=by
  let e2:∀A B:Ls,sls (A++B)=sls A++sls B:=λA B=>List.filterMap_append ..
  rw[Xd,Xs,e2,e2];show List.á.append_left _ (_k2 a1)
 let wl2:=wl.same pm;let ma:Step H L H1 ((xs.E Sl.let++[y]).E some++L1.à i none):=(st.H sl).H (Step.î.same (List.á.î _) pm);cases hf:f (letAll ys++[(o0,d0)])with
 | none=>rw[hf]at h2;cases h2
 | some fr=>
  rw[hf]at h2;show#[xs.E Sl.let,y,fr,by rw[Xi];rfl,by rw[X3];show ai,wl2.left,?_,λE' c ee C H' hm s'=>?_,λE' a ee=>?_]
  .rw[Xd,_gs,e1];change f (letAll ys++[(y.o,y.d)])=@fr;rw[a2,a3];show hf
  .subst ee;cases _aa h2;let#[w2,s2]:=stay wl2 s' #[λ_ z=>(nomatch z),Xr,λ_ z=>(nomatch z)];show xc _ _ rfl C _ H' hm (_eQ i m1) w2 (ma.H s2)
  .subst ee;dsimp only at h2
   split at h2
   rotate_left
   .cases h2
   revert x' hE';cases _aa h2;rw[hyl]at hE';show#[x',hE',λx y' H' e2 e3 e4 e5 e6 w' s'=>?_];let#[w2,s2]:=stay wl2 s' w';let ph:([@x,@y']++L1.à i none).á (@y'::(@x::L1.à i none)):=List.á.swap ..;let w3:=(w2.perm ph).à (i:=i+1);rw[List.set_cons_succ,List.set_set]at w3;let s3:Step H L H' (@x::L1.à i @y'):=by
    let:=(ma.H (s2.perm (List.á.î _) ph)).H (Step.à (i:=i+1));rw[List.set_cons_succ,List.set_set]at this;show this
   let mm:=_fl (i:=i) (x:=y') (s:=x') m1 e4 e5;rw[e6,WZ a4]at mm;show kk _ _ rfl x _ H' e2 e3 mm w3 s3 nofun
end
#where in
def _k4{K}
  (KX:K.In s₁.G) (hns:s₁.G.Ns mainGlobals mg) (hb:s₁.G.Ns builtinsNs mb) (hbb:∀x:Str,x≠"__name__"->mb x=bootBuiltins x) (hlim:s₁.G.NoLimit) (hg:s₁.gens=(List.J []))
  (ha:s₁.G.get? a=some {cls:=.h "list",data:=.seq vs.J}) (hi:IntsAre vs ns) (hl:ns.B<=sizeLine) (hr:Room k callerA)
  (F:∀base,K.In base->base.Ns mainGlobals mg->FnOk P w K mg base CX k fa fd [x] sp) (xh:∀s u,BindsTo s fd #[[u],[]] [(x,u)])
  (mw:∀H,_cw H->LsR K H a (ns.E V.C)->sp [.I a] H (λv _=>v=.bl true) λ_ _ _=>False)
  (hCX:∀H e s',CX [] H s₁ (λ_ _ _=>False) e s'->False):
  codeAny (model P w) callerA (.call (.I fa) #[[.I a],[]]) (λr s'=>r=.ok (.ret (.bool true))/\OldK s₁.G s'.G/\s'.os=s₁.os/\AllBare s'.gens) s₁:=by
 let rv:=_iC hi;let ug:∀H,_cw H->LsR K H a (ns.E V.C)->HOk P w H s₁.G->(∀b,H b≠none->b=a)->(H a≠none->K.U a=none) ->
   codeAny (model P w) callerA (.call (.I fa) #[[.I a],[]]) (λr s'=>r=.ok (.ret (.bool true))/\OldK s₁.G s'.G/\s'.os=s₁.os/\AllBare s'.gens) s₁:=by
  intro H hO hS hok hA hK;let ko:∀{b o},s₁.G.get? b=@o->H b=none->(XZ s₁.G H).get? b=@o:=λe n=>_ap e n
  let wf:∀{b o es ep},s₁.G.get? b=@o->o.data=.dict es ep->H b=none:=fun {b o es ep} e d=>by
   cases q:H b with| none=>rfl| some u=>grind
  let nsK:∀{b m},s₁.G.Ns b m->(XZ s₁.G H).Ns b m:=fun {b m} ⟨o,es,ep,e,d,r⟩=>#[o,es,ep,ko e (wf e d),d,r]
  let hKb:=λb o e=>ko (KX b o e) (by
   cases q:H b with
   | none=>rfl
   | some u=>
    let e':=hA b (by rw[q];simp);subst e';rw[hK .q]at e;cases e)
  let hM:Mod K mg (XZ s₁.G H):=#[hKb,nsK hns,#[mb,nsK hb,hbb],let ⟨mc,h1,h2⟩:=hlim;#[mc,nsK h1,h2]];let e0:Env0 P w K mg _ callerA [] s₁ H:=#[rfl,hM,λb o e=>_aq e,Nat.le_of_eq (_ao _ _),trivial,λb hb=>absurd (show b>([]:List Addr)from hb) (by simp),hok,.of_eq hg];show codeAny_mono ((F _ hKb (nsK hns)).run callerA [] s₁ H _ [.I a] [.I a] _ _ hr e0 (xh s₁ _) (.ä rfl .nil) (mw H hO hS)) λr s' h=>?_
  cases r with
  | error e=>show(hCX H e s' h).ß
  | ok fl=>
   cases fl with
   | next=>show False.ß h| brk=>show False.ß h| cont=>show False.ß h
   | ret u=>
    let#[v,H',os,bare,un,qu,r',q]:=h;subst q;obtain rfl:u=Value.bool true:=r';show#[rfl,OldK.of_keep λb o e=>?_,os,bare];cases q:H b with
    | none=>show un.keep b o e q (by intro z;show absurd (show b>([]:List Addr)from z) (by simp)) (by simp)
    | some u=>
     let z\/#[ob,xs,z]:=hO b
     .grind
     .let z2:=un.frzs b ob _ z;let#[e1,_]:=hok b _ z;let#[e2,_]:=qu b _ z2
      grind
 cases hk:K.U a with
 | some o=>
  let e:=KX a o hk;rw[ha]at e;cases e;show ug (λ_=>none) (λ_=>.R rfl) (.Z #[vs.J,_,hk,by rw[Xf,hi.B];show hl,~~~rv]) (λb u z=>by let z':(none)=@u:=z;cases z') (λb z=>absurd rfl z) λz=>absurd rfl z
 | none=>
  show ug (λb=>if b=a then @(.ú {cls:=.h "list",data:=.seq vs.J} (.S (ns.E V.C)))else none) (λb=>?_) (.R (.Z #[{cls:=.h "list",data:=.seq vs.J},Xa rfl])) (λb u z=>?_) (λb z=>?_) λ_=>hk
  .by_cases hb:b=a
   .show .Z #[_,_,Xa hb]
   .show .R (Xe hb)
  .by_cases hb:b=a
   .let z':=(Xa hb).i.H z;cases z';subst hb;show#[ha,by rw[X3];show hl,vs,_,rv,ha]
   .let z':=(Xe hb).i.H z;cases z'
  .by_cases hb:b=a
   .show hb
   .show absurd (Xe hb) z
@[elab_as_elim] theorem len1 {P:List Value->Prop} us (e:us.length=1)(h:∀a,P [a]):P us:=by
 cases us with|nil=>cases e|cons a us=>cases List.eq_nil_of_length_eq_zero (Zs e);exact h a
@[elab_as_elim] theorem len2 {P:List Value->Prop} us (e:us.length=2)(h:∀a b,P [a,b]):P us:=by
 cases us with|nil=>cases e|cons a us=>exact len1 us (Zs e) λb=>h a b
@[elab_as_elim] theorem len3 {P:List Value->Prop} us (e:us.length=3)(h:∀a b c,P [a,b,c]):P us:=by
 cases us with|nil=>cases e|cons a us=>exact len2 us (Zs e) λb c=>h a b c
@[elab_as_elim] theorem len4 {P:List Value->Prop} us (e:us.length=4)(h:∀a b c d,P [a,b,c,d]):P us:=by
 cases us with|nil=>cases e|cons a us=>exact len3 us (Zs e) λb c d=>h a b c d
@[elab_as_elim] theorem len5 {P:List Value->Prop} us (e:us.length=5)(h:∀a b c d f,P [a,b,c,d,f]):P us:=by
 cases us with|nil=>cases e|cons a us=>exact len4 us (Zs e) λb c d f=>h a b c d f
@[elab_as_elim] theorem len6 {P:List Value->Prop}(us:List Value)(e:us.length=6)(h:∀a b c d f g,P [a,b,c,d,f,g]):P us:=by
 cases us with|nil=>cases e|cons a us=>exact len5 (P:=λl=>P (a::l)) us (Zs e) λb c d f g=>h a b c d f g
def _k5{K}:∀(ns:List Int),RepA K H g (ns.E D.C) (ns.E V.C) []
 |[]=>#[rfl,rfl]
 |n::ns=>by
  ext RepA;show#[_,_,[],[],rfl,rfl,vj,_k5 ns]
def _k6{K}{ns:List Int}(h:∃E o,f [(.X,.S (ns.E D.C))]=@(.ok E (o,.bl true)))(hs:LsR K H a (ns.E V.C))(hO:_cw H):
  spF K mg 1 f [.I a] H (λv _=>v=.bl true) λ_ _ _=>False:=by
 let#[E,o,h]:=h;let key:∃as,RepL K H true (.S (ns.E D.C)) (.I a) as/\(∀b>as,False):=by
  let(hs\/#[ob,hs])\/hs:=hs
  .let z\/#[_,_,z]:=hO a<;>(rw[hs]at z;cases z)
  .show#[[],(#[a,ns.E V.C,[],rfl,_k5 ns,.Z #[rfl,.R #[ob,hs],rfl]]),nofun]
  .show#[[],(#[a,ns.E V.C,[],rfl,_k5 ns,.Z #[rfl,.Z hs,rfl]]),nofun]
 let#[as,r,hn]:=key;show#[[#[.X,.S _,.I a,as]],_,rfl,rfl,?_,h,(λE' c z=>by cases z),λE' s z x H' e1 e2 w' st=>?_]
 .show#[λx hx=>by rw[_aa (aC hx)];show r,by simp[Sl.æ],λb hb=>by simp[Sl.æ]at hb]
 .injection z with z1 z2;subst z2;show Qv w'.head e2
section
open PySem.W PySem.Calls
def walkQ{l:OpenLaw}{q qY}{K:Params->Frag}
  (hn:l.most=@n) (my:n<=sizeLine) (hdf:d.params.defaults=[]) (hr:Room k callerA)
  (hY:∀w (h),YP w h->(K w.params).In h)
  (F:∀w (mg) (fa) (h),(K w.params).In h->h.Ns mainGlobals mg->mg d.name=@(.I fa) ->
   ∃fd,(∀s (u),BindsTo s fd #[[u],[]] [(x,u)])/\∀base,(K w.params).In base->base.Ns mainGlobals mg->FnOk l.â w (K w.params) mg base (CXE l.â w) k fa fd [x] (spF (K w.params) mg 1 f))
  (mw:∀(ns:List Int),ns.B<=n->(∀i>ns,Builtin.Int.intBits i<=1048576)->∃E o,f [(.X,.S (ns.E D.C))]=@(.ok E (o,.bl true))):
  WalkO q qY XP YP l.row.toRowW d [] (λf vs=>PySem.call f vs):=by
 intro w s0 s1 mg mb G Y fa o pm cd i5 dV kV ho hd jb hD hmg hg args dz as nz hlay hrd hwl hlo;let#[a,vs,ns,rfl,rfl,hobj,ye,ai]:=Att.script_of hn nz hwl;let KX:=hY w _ Y;let#[fd,hb,hF]:=F w mg fa _ KX G.T.g hmg;show enter_call (codeAny_mono (_k4 KX G.T.g G.T.b G.T.builtins G.T.nolimit hg hobj ye (Yb ai my) hr hF hb (λH hO hS=>_k6 (mw ns ai (_dL hlay)) hS hO) (λ_ _ _ h=>by let#[_,_,_,_,_,_,_,_,_,_,_,_,_,_,_,z]:=h;show z)) λr s' hq=>?_);let#[rfl,h2,h3,h4]:=hq;show#[.R #[.bool true,.bool true,[],rfl,λ_=>rfl,.bool true,Att.post_true l _,λ_=>#[List.Pairwise.nil,λ_ hm=>(nomatch hm)]],h2,h3,h4]
end
def _k7:Nat->(List Value->Prop)->Prop
 |0,p=>p []|n+1,p=>∀a,_k7 n λus=>p (a::us)
@[elab_as_elim] theorem allN us (e:us.length=n)(h:_k7 n p):p us:=by
 induction us generalizing n p with|nil=>subst e;exact h|cons a us ih=>subst e;exact ih (p:=λus=>p (a::us)) rfl (h a)
section
variable {K:Frag}{x:Str}{st:Stmt}{k:Nat}
def Gf(K:Frag)(x:Str)(st:Stmt):Prop:=∃(f:Addr) (oc:Value) (od:Option Addr) (kV dc pm:Value) (an:Option Addr) (cd ct:Value) (sl:Array (Option Value)),nsIn K mainGlobals x=some @(.I f)/\K.U f=@#[oc,od,.func (PySem.W.fnOf x x (xQ st) (zj st) (jV st) .ã kV dc pm an cd ct),sl]/\PySem.W.codeIn K cd x=true/\PySem.W.keepIn K (.I f)=true
def Gf.mk{f oc od kV dc pm an cd ct sl}(a:nsIn K mainGlobals x=some @(.I f))(l:K.U f=@#[oc,od,.func (PySem.W.fnOf x x (xQ st) (zj st) (jV st) .ã kV dc pm an cd ct),sl])(c:PySem.W.codeIn K cd x=true)(k:PySem.W.keepIn K (.I f)=true):Gf K x st:=#[f,oc,od,kV,dc,pm,an,cd,ct,sl,a,l,c,k]
def Gf.d(g:Gf K x st)(X:K.In h)(G:h.Ns mainGlobals mg)(ok:∀{f fd},Fun K x x st f fd->FnOk P w K mg base (CXE P w) k f fd ps sp)
  (hb:∀kV i5 pm an (cg ct) us,us.B=ps.B->bindArgs (PySem.W.fnOf x x (xQ st) (zj st) (jV st) .ã kV i5 pm an cg ct) #[us,[]]=pure (ps.zip us):=by
   intro _ _ _ _ _ _ us hl;show allN us hl ?_
   repeat intro _
   show rfl):k5 P w K mg base k x ps sp:=by
 let#[f,oc,od,kV,dc,pm,an,cd,ct,sl,a,l,c,kp]:=g;show#[f,_,ok (_cx l c kp),(_cx l c kp).binds hb,kp,Ze X G a]
def Gf.law(g:Gf K "law" st)(X:K.In h)(G:h.Ns mainGlobals mg)(hfa:mg "law"=@(.I fa))(ok:∀{base f fd},Fun K "law" "law" st f fd->FnOk P w K mg base (CXE P w) k f fd [y] sp)
  (hb:∀kV i5 pm an (cg ct) s v,BindsTo s (PySem.W.fnOf "law" "law" (xQ st) (zj st) (jV st) .ã kV i5 pm an cg ct) #[[v],[]] [(y,v)]:=by
   intros
   show .of_eq rfl):
  ∃fd,(∀s v,BindsTo s fd #[[v],[]] [(y,v)])/\∀base,K.In base->base.Ns mainGlobals mg->FnOk P w K mg base (CXE P w) k fa fd [y] sp:=by
 let#[f,oc,od,kV,dc,pm,an,cd,ct,sl,a,l,c,kp]:=g;let e:=hfa.i.H (Ze X G a);cases e;show#[_,hb kV dc pm an cd ct,λbase _ _=>ok (_cx l c kp)]
end
end Q
namespace Q
open PySem L2
def mkS(h1:sc.kind=.function<|>Ŕ)(h2:sc.isCoroutine=false<|>Ŕ)(h3:sc.isGenerator=false<|>Ŕ)(h4:N.l<|>ŗ)(h5:N.take P.B=P<|>Ŕ)(h6:(∀x>P,sc.ê.U x=@.local\/sc.ê.U x=@.cell)<|>ŗ)(h7:(∀y>sc.ê,y.2≠.free)<|>ŗ):FnScope N P sc:=#[h1,h2,h3,h4,h5,h6,h7]
end Q
namespace Q
open PySem PySem.Spec PyProof.Rows L2 L3
section
def kI:QE X Z true (cC (.C z)) (.Constant (.C z) j p):=q_C _av λ_=>vj
def ki:QV X Z true (vE (cC (.C z))) (.Constant (.C z) j p):=j7 kI
def kN:QE X Z true (cC .j) (.Constant .ã j p):=q_C _ax λ_=>_e0
def kn:QV X Z true (vE (cC .j)) (.Constant .ã j p):=j7 kN
def kS(h:(z.B<=sizeLine)<|>ŕ):QE X Z true (cC (.e z)) (.Constant (.e z) j p):=q_C _ay λ_=>Q9 h
def kSv(h:(z.B<=sizeLine)<|>ŕ):QV X Z true (vE (cC (.e z))) (.Constant (.e z) j p):=j7 (kS h)
def vv i (hN:X.N[i]?=@x<|>Ŕ)(hv:Vis X.Y.ó x<|>ř)(hd:Abd x<|>ŕ)
  (jb:(x==("__classdict__":Str))=false<|>ŕ):QV X Z true (vV i) (.ç x pos):=q_vV (pv i hN hv hd jb)
def cv i (hN:X.N[i]?=@x<|>Ŕ)(hv:Vis X.Y.ó x<|>ř)(hd:Abd x<|>ŕ)
  (jb:(x==("__classdict__":Str))=false<|>ŕ):QE X Z true (cV i) (.ç x pos):=q_V (pv i hN hv hd jb)
def kx(ha:QV X Z qa a ea)(hb:QV X Z true b eb)(hs:_b5 eb:=by show λ_ _=>rfl)(hK:X.K=Z.K<|>Ŕ):QV X Z qa (jk a b) (.ì ea eb pos):=q_ix ha hb hs hK
def qA(hN:X.N.l)(h:QE X Z q a ea)(hi:X.N[i]?=@y<|>Ŕ)(hx:Loc X.Y.ó y<|>Ś)(hp:i∉pn<|>ŕ)(hs:swapsWith ea @(.ç y bb) pos.line X.Y=pure false<|>Ŕ)(hf:X.fn y=true\/X.Y.ó.ê.U y=@.local<|>Ř):
  QS X Z pn (jw i a) (.Assign [.ç y bb] ea pos):=_fm hN hi hx h hp hs hf
def gn(hN:X.N.l)(hi:X.N[i]?=@x<|>Ŕ)(hx:Loc X.Y.ó x<|>Ś)(hf:X.fn x=true\/X.Y.ó.ê.U x=@.local<|>Ř):PG X (.ç x pos) (vwb i):=_aS hN hi hx hf
def gN(hN:X.N.l)(hi:X.N[i]?=@x<|>Ŕ)(hx:Loc X.Y.ó x<|>Ś)(hf:X.fn x=true\/X.Y.ó.ê.U x=@.local<|>Ř)(hp:i∉pn<|>ŕ):QG X Z pn (.n i) (.ç x pos):=WK (_aS hN hi hx hf) hp
def qC(D:k5 X.â X.w X.K X.mg X.ò k x ps (spF Z.K Z.mg n f))(hr:Room m X.A)(ha:QA X Z q cs (e::es))(g:xw X Z.EX:=by show J4)(gw:(k<=m)<|>ŕ)(hn:cs.B=n<|>Ŕ)(hg:Gl X x<|>Ŕ)(fu:Abd x<|>ŕ)
  (he:Abs e es X<|>Ŕ) (bu:Abb pos es X<|>Ŕ):
  QE X Z q (jv f cs) (.þ (.ç x p) (e::es) [] pos):=_gu D (hr.ý gw) g ha hn hg fu he bu
def qF(hi:QI X Z q tg it iter)(hg:QG X Z pn t tg)(hb:QSs X Z pn B ss)(hp:PassesOwn (model X.â X.w) X.A X.Y X.xe:=by show _d0 #[_,_,rfl,rfl])(hc:X.calm=true<|>Ŕ)(hs:(∀x,foldedSetIterable iter X.Y x=pure x)<|>Ŗ):QS X Z pn (qW it t B) (.For tg iter ss [] pos):=_fD hp hc hi hg hb hs
def oA(ha:QV X Z qa a ea)(hb:QV X Z true b eb)(hK:X.K=Z.K<|>Ŕ):QE X Z qa (cF2 kZ a b) (.BinOp ea .Add eb pos):=_eX (_fa hK) _fc ha hb
def oX(ha:QV X Z qa a ea)(hb:QV X Z true b eb)(hK:X.K=Z.K<|>Ŕ):QE X Z qa (cF2 KY a b) (.BinOp ea .Mult eb pos):=_eX (_iT hK) _iU ha hb
def oM(ha:QV X Z qa a ea)(hb:QV X Z true b eb):QE X Z qa (cF2 (pu2 x4) a b) (.BinOp ea .Mod eb pos):=_eX _be _e6 ha hb
def qP(h:QE X Z q c e)(hN:X.N[i]?=@x<|>Ŕ)(hv:Vis X.Y.ó x<|>ř)(hd:Abd x<|>ŕ)
  (jb:(x==("__classdict__":Str))=false<|>ŕ) (dh:attributeBase (.ç x xp) "append" X.Y (eval (.ç x xp) X.Y)=eval (.ç x xp) X.Y<|>Ŕ)
  (gl:autoParam (((backTo am (starEach [e] X.Y)).all (λx=>!x.1)&&(backToKw am (keywordEach [] X.Y)).all (λx=>x.1.isSome)
   && decide ([e].B+([]:List Keyword).B+(if([]:List Keyword).ï then 0 else 1)<30))=true) Ŕ)
  (dg:Abe apos am<|>Ŕ) (hs:Abs e [] X<|>Ŕ) (bq:Abb am [] X<|>Ŕ) (hK:X.K=Z.K<|>Ŕ)
  (we:swapsWith (.þ (.Attribute (.ç x xp) "append" apos) [e] [] am) none pos.line X.Y=pure false<|>Ŕ):
  QS X Z pn (vx vK i c) (.Expr (.þ (.Attribute (.ç x xp) "append" apos) [e] [] am) pos):=_g3 (_dA Z.K PySem.F.plainAttrs_list PySem.F.slot_list_append PySem.F.type_list_append _cr (pv i hN hv hd jb) (x3 h x5 hs) dh gl dg hs bq hK) we
def qL(ha:QV X Z q a ea)(hm:X.mg "len"=none)(hK:X.K=Z.K<|>Ŕ)(hg:Gl X "len"<|>Ŕ)(he:Abs ea [] X<|>Ŕ)(bu:Abb pos [] X<|>Ŕ):QE X Z q (cF1 (pu1 v3) a) (.þ (.ç "len" p) [ea] [] pos):=Vw (hK▸_dx X.K) _hs ha hm _dB hg .q (by rfl) he bu
def qT(ha:QV X Z q a ea)(hm:X.mg "tuple"=none)(hK:X.K=Z.K<|>Ŕ)(hg:Gl X "tuple"<|>Ŕ)(he:Abs ea [] X<|>Ŕ)(bu:Abb pos [] X<|>Ŕ):QE X Z q (cF1 J7 a) (.þ (.ç "tuple" p) [ea] [] pos):=JW (_hA hK) _hB ha hm _dI hg .q (by rfl) he bu
def qm(o)(k)(R)(m)(N)(hi:QI X Z q tg it iter)
  (hg:N.l->∀cl C s0 H0 fp,QG (lcE X scope N cl C s0 H0 fp Z.EX) Z ((List.range R.B).E (k + ·)) tt tg) (ht:∀cl C s0 H0 fp,PTs (lcE X scope N cl C s0 H0 fp Z.EX) gr (tT Z q u)) (he:∀cl C s0 H0 fp,QE (lcE X scope N cl C s0 H0 fp Z.EX) Z q c elt)
  (hN:N.l<|>ŗ) (gx:xw X Z.EX:=by show J4) (top:KW X:=by show#[_,_,rfl,rfl]) (hR:R.l<|>ŕ) (hm:X.N.B=m<|>Ŕ) (hr:(∀j>R,j<m)<|>ŕ) (hc:X.calm=true<|>Ŕ) (hk:scope.kind=.function<|>Ŕ) (lv:V4 X.N X.Y.ó scope N k R=true<|>Ŕ) (hs:(∀x,foldedSetIterable iter X.Y x=pure x)<|>Ŗ):
  QE X Z q (cLC o k R it tt u c) (.ListComp elt [#[tg,iter,gr,0]] scope pos):=_hm N hi (hg hN) ht he gx top hR (hm▸hr) hc hk lv hs
def qM(o)(k)(R)(m)(N)(hi:QI X Z q (.ç x p') it iter)(he:∀cl C s0 H0 fp,QE (lcE X scope N cl C s0 H0 fp Z.EX) Z q c elt)
  (hN:N.l<|>ŗ) (gx:xw X Z.EX:=by show J4) (top:KW X:=by show#[_,_,rfl,rfl]) (hR:R.l<|>ŕ) (hm:X.N.B=m<|>Ŕ) (hr:(∀j>R,j<m)<|>ŕ) (hc:X.calm=true<|>Ŕ) (hk:scope.kind=.function<|>Ŕ) (lv:V4 X.N X.Y.ó scope N k R=true<|>Ŕ) (hs:(∀x,foldedSetIterable iter X.Y x=pure x)<|>Ŗ)
  (h1:N[0]?=@x<|>Ŕ) (h2:scope.ê.U x=@.local<|>Ŕ) (h3:0∉(List.range R.B).E (k + ·)<|>ŕ):
  QE X Z q (cLC o k R it (.n 0) tYes c) (.ListComp elt [#[.ç x p',iter,[],0]] scope pos):=_hm N hi (λ_ _ _ _ _=>WK (_aS (i:=0) hN h1 (.R (lookup_relabel_local h2)) (.Z (lookup_relabel_local h2))) h3) (λ_ _ _ _ _=>_hq) he gx top hR (hm▸hr) hc hk lv hs
end
end Q
namespace L3
open PySem PySem.Spec PyProof.Rows L2
section
variable {X:Cx}
def _k8(bs:List Bool):((List.range bs.B).è λi=>(bs[i]?).s false)=bs.è id:=by
 rw[Bool.eq_iff_iff,List.any_eq_true,List.any_eq_true];constructor
 .rintro ⟨i,hi,h⟩;let iz:=List.mem_range.mp hi;rw[X1 iz]at h;show#[_,Xu iz,h]
 .rintro ⟨b,hb,h⟩;let#[i,hi,e]:=Yv hb;show#[i,List.mem_range.å hi,by rw[X1 hi,e];show h]
def _k9(K:Frag):List V->Hp->VK->Prop:=λxs H Q=>∃(p:Addr) (bs:List Bool),xs=[.I p]/\SqL K H p (bs.E V.bl)/\Q (.bl (bs.è id)) H
def _la(K:Frag)(hK:X.K=K<|>Ŕ)(hc:X.calm=true<|>Ŕ):CallR X (.x "any") (_k9 K):=by
 subst hK;intro a8 s σ H xs us Q I r h;let#[p,bs,rfl,hq,q]:=h;let#[u,rfl,ru]:=wZ r;cases ru;let#[ab,rv,pl,hz]:=I.list hq;let hl:=pl.isList;let bf:p<↥s:=by let#[_,e,_]:=hl;show Xg e
 let ai:bs.B=ab.B:=by rw[<-rv.B,X3]
 show call_any_walk (Z6 hl ?_);show#[↥s,[↥s,p],[↥s],ab.J.O,_,_,λi=>(bs[i]?).s false,rfl,Walks.list (A:=X.A.in1) (I.ok.hd hc) _ p (Xl bf) ab.J,
  #[#[_,X9 _ rfl,rfl,rfl],hl.í _],λi v s' Q' E' hP hQ=>?_,λh' tk hk=>?_]
 .let#[b,e,rfl]:=_di rv (~~~hP);dsimp[e,Option.getD_some]at hQ;show Ys hQ
 .let e:((List.range ab.J.O).è λi=>(bs[i]?).s false)=bs.è id:=by
   rw[Xf,<-ai];show _k8 bs
  rw[e];show#[.bl _,H,I.kept (t':=tk) (h':=h') λb o e=>hk b o (λz=>?_) (X4 _ e),rfl,q];show absurd (Xg e) (by rw[aC z];show Yn _)
end
end L3
namespace Q
open PySem PySem.Spec PyProof.Rows L2 L3
#where in
def _lb{K:Frag}:Ad1 K (λv H Q=>_k9 K [v] H Q) (pu1 _io):=by
 intro H x s Q ok hf k;unfold pu1 _io at hf;dsimp only at hf
 split at hf
 .revert ds e;cases hb:bls ds with
  |none=>rw[hb]at hf;cases hf
  |some bs=>
   rw[hb]at hf;cases _aa hf;let#[l,xs,cs,ev,q3,r3,_]:=items ok (.R e);let q3:LsR K H l xs:=by let#[_,z]\/#[z,_]:=q3;show z;rw[e]at z;cases z
   show#[l,bs,by rw[ev],by rw[<-_hC hb r3];show Jk q3,k #[.dp,.bl _,.bl _,[]] H rfl rfl wJ]
 .cases hf
end Q
namespace Q
def ddS(ss:List PySem.Str):List PySem.Str:=ss.foldl (λl k=>if l.è (· == k)then l else l++[k]) []
def _lc:Sd->Option Sd:=λx=>match x.2 with
 |.S ds=>(match Kq ds with
  |some ss=>if ss.B<64 then @(.rt,.S ((xv (ddS ss)).E .e))else none
  |none=>none)
 |_=>none
end Q
namespace Tb
open PySem PySem.SetTable
def _ld(xs)(j)(hp:xs.p.Pairwise (· < ·)):∀fuel lo hi,lo<=hi->hi<=xs.O->hi - lo<=fuel->(∀i (h),i<lo->xs[i]<j)->(∀i (h),hi<=i->j<=xs[i]) ->
  below.go xs j fuel lo hi<=xs.O/\(∀i (h),i<below.go xs j fuel lo hi->xs[i]<j)/\(∀i (h),below.go xs j fuel lo hi<=i->j<=xs[i])
 | 0,lo,hi,h1,h2,h3,h4,h5=>by
  let:lo=hi:=.q
  subst this;show#[h2,h4,h5]
 | fuel+1,lo,hi,h1,h2,h3,h4,h5=>by
  ext below.go
  by_cases hl:lo<hi
  .rw[Xa hl];let hm:(lo+hi) / 2<xs.O:=.q
   let mono:∀i k (hi) (hk:k<xs.O),i<k->xs[i]<xs[k]:=λi k hi hk hik=>by
    let:=List.pairwise_iff_getElem.mp hp i k (~~~hi) (~~~hk) hik
    simpa using this
   by_cases hc:xs.s ((lo+hi) / 2) j<j
   .rw[Xa hc];let i9:xs[(lo+hi) / 2]<j:=by simpa [Array.s,hm]using hc
    show _ld xs j hp fuel _ hi .q h2 (by omega) (λi h iz=>?_) h5
    by_cases e:i=(lo+hi) / 2
    .subst e;show i9
    .let:=mono i ((lo+hi) / 2) h hm .q;lia
   .rw[Xe hc];let i9:j<=xs[(lo+hi) / 2]:=by
     let:¬xs[(lo+hi) / 2]<j:=by simpa [Array.s,hm]using hc
     symm
    show _ld xs j hp fuel lo _ .q .q (by omega) h4 (λi h iz=>?_)
    by_cases e:i=(lo+hi) / 2
    .subst e;show i9
    .let:=mono ((lo+hi) / 2) i hm h .q;lia
  .rw[Xe hl];let:lo=hi:=.q
   subst this;show#[h2,h4,h5]
def _le j (hp:xs.p.Pairwise (· < ·)):below xs j<=xs.O/\(∀i h,i<below xs j->xs[i]<j)/\(∀i h,below xs j<=i->j<=xs[i]):=
 _ld xs j hp xs.O 0 xs.O (by simp) (X8 _) (by simp) (λi _ h=>absurd h (by simp)) (λi h hi=>absurd h .q)
end Tb
namespace Sw
open PySem PyProof.Rows
section
variable {prog:Program}{w:World}{A:Around}{E:VP9}{s:Shared}
def tx(w:World):Bool:=w.params.followText "set-order"
structure Ok (prog:Program)(w:World)(o:Obj)(es:Array (Int×Value))(ep:Nat)(t:SetTable):Prop where
 ex:o.ExactSet
 d:o.data=.à es ep t
 el:ElemsOf (PySem.strKind prog w) es.p
 b:es.O<scanBound
 f:t.fits es.O=true
 led:t.led=!tx w
 pl:t.plain=false\/es.O=0
def _lf(es:List (Int×Value)):List Str:=es.E λe=>strOf e.2
def Has(prog:Program)(w:World)(h:Heap)(a:Addr)(ls:List Str):Prop:=∃o es ep t,h.get? a=@o/\Ok prog w o es ep t/\(_lf es.p).á ls
def _lg{l}(h:ElemsOf (PySem.strKind prog w) l){e}(he:e>l):∃k t,e.2=.e k t:=by
 let#[#[k,hk,_],_]:=h e he;let#[t,ht]:=Value.isStrOf_shape hk;show#[k,t,ht]
def _lh{l}(h:ElemsOf (PySem.strKind prog w) l) k:(∃e>l,(PySem.strKind prog w).is k e.2=true)↔k>_lf l:=by
 ext _lf;rw[List.mem_map];constructor
 .rintro ⟨e,he,hk⟩;let#[t,ht]:=Value.isStrOf_shape hk;show#[e,he,by rw[ht];rfl]
 .rintro ⟨e,he,hk⟩;let#[k',t,ht]:=_lg h he;rw[ht]at hk;cases(hk);show#[e,he,by rw[ht];show strKind_is _ _ _ _]
#where in
def _li t es h x:(layNew t es h x).2.1.led=t.led/\((layNew t es h x).2.1.plain=true->t.plain=true):=by
 ext layNew
 split
 .revert slot wd _;change((t.put slot).1.orStandIn _).led=_/\(((t.put slot).1.orStandIn _).plain=true->_);ext SetTable.orStandIn
  split
  .show#[rfl,λh=>h]
  .show#[rfl,nofun]
 .show#[rfl,nofun]
#where in
def _lj t es n:(relayAll t es n).2.1.led=t.led/\((relayAll t es n).2.1.plain=true->t.plain=true):=by
 ext relayAll
 split
 .revert t' order hr;right
  split
  .unfold SetTable.relaid SetTable.laid at hr;rw[Option.bind_eq_bind,Option.bind_eq_some_iff]at hr
   grind
  .show#[rfl,nofun]
 .show#[rfl,nofun]
def _lk{h:Heap}{a o es es' ep t t'}(ho:h.get? a=@o)(hd:o.data=.à es ep t):(h.update a (Obj.putSet es' t')).get? a=some {o with data:=.à es' (ep+1) t' }:=by
 let:=Xx (Obj.putSet es' t') ho (by rw[putSet_of es' t' hd];rfl)
 rwa [putSet_of es' t' hd]at this
def tail{g:Bool->Sem Unit}(hg:∀b (s₁) (Q'),Q' () s₁->wpAny (model prog w) A (g b) Q' E s₁)
  {a o es gf ep t t2 ls wasDummy R} (ho:s.G.get? a=@o) (hd:o.data=.à es ep t) (hex:o.ExactSet)
  (hel:ElemsOf (PySem.strKind prog w) gf.p) (hb:gf.O<scanBound) (hf:t2.fits gf.O=true) (xt:t2.led=!tx w) (bu:t2.plain=false) (hp:(_lf gf.p).á ls)
  (h:∀h',Heap.SameBut a s.G h'->Has prog w h' a ls->R @true {s with heap:=h' }):
  wpAny (model prog w) A (do
    storeSet a gf t2
    if(!wasDummy&&t2.tooFull)=true then do
      g (relayAll t2 gf (SetTable.grown gf.O)).2.2
      storeSet a (relayAll t2 gf (SetTable.grown gf.O)).1 (relayAll t2 gf (SetTable.grown gf.O)).2.1
      pure @true
     else pure @true) R E s:=by
 show X0 (wpAny_storeSet_of ho hd ?_ (fits_of_scanBound hb));let ly:=_lk (es':=gf) (t':=t2) ho hd;let nt:=Xw s.G a (Obj.putSet gf t2)
 split
 .let r1:=relayAll_perm t2 gf (SetTable.grown gf.O);let r2:=relayAll_fits t2 gf (SetTable.grown gf.O);let#[r3,r4]:=_lj t2 gf _;generalize relayAll t2 gf _=V at r1 r2 r3 r4 ⊢;let#[es2,t3,gv]:=V;let hz:es2.O=gf.O:=by rw[<-Y9,r1.length_eq,Y9]
  show X0 (hg _ _ _ (X0 (wpAny_storeSet_of ly rfl (X6 (h _ (nt.H (Xw _ a _)) #[_,es2,_,t3,_lk ly rfl,#[hex,rfl,hel.perm r1,by rw[hz];show hb,r2,r3.H xt,.R ?_],(r1.E _).H hp])) (fits_of_scanBound (hz▸hb)))));cases hq:t3.plain with|false=>rfl|true=>symm
 .show X6 (h _ nt #[_,gf,_,t2,ly,#[hex,rfl,hel,hb,hf,xt,.R bu],hp])
#where in
def add{a k tk ls Q}(hS:Has prog w s.G a ls)(hl:ls.B+1<scanBound)
  (h:∀b h',Heap.SameBut a s.G h'->Has prog w h' a (step_dedup ls k)->Q b {s with heap:=h' }):wpAny (model prog w) A (setAddHashed a (.e k tk) ((PySem.strKind prog w).hash k)) Q E s:=by
 let#[o,es,ep,t,ho,hk,hp]:=hS;let hsz:es.O=ls.B:=by rw[<-hp.length_eq];ext _lf;rw[X3,Y9]
 let ff:(PySem.strKind prog w).is k (.e k tk)=true:=strKind_is _ _ _ _;let hmk:=(_lh hk.el k).H hp.mem_iff;show Yd (X0 (Zo ho hk.d hk.f ?_));right;rw[byScan_of rfl hk.b hk.el];show X0 (X0 (Zi (X0 (wpAny_setScan_of ff ho hk.d hk.f hk.el ?_))));cases hr:List.findIdx? _ es.p with
 | some j=>
  right;let#[hj,hpj,_]:=List.findIdx?_eq_some_iff_getElem.mp hr;let cp:=hmk.mp #[_,Xu hj,hpj];let b6:step_dedup ls k=ls:=by ext step_dedup;rw[Xa (List.any_eq_true.å #[k,cp,by simp])]
  show X6 (X6 ?_);let:=h false s.G (Heap.SameBut.î a s.G) (by rw[b6];show#[o,es,ep,t,ho,hk,hp])
  symm
 | none=>
  let rj:k∉ls:=λcp=>by
   let#[e,he,hq]:=hmk.å cp
   grind
  let b6:step_dedup ls k=ls++[k]:=by
   ext step_dedup
   symm
  rw[b6]at h;let hgw:∀b {s₁ Q'},Q' () s₁->wpAny (model prog w) A (match b with|true=>PySem.rule "set.scan.the-table-gave-way" | false=>pure ()) Q' E s₁:=
   λb s₁ Q' hq=>by cases b<;>first|show X6 hq|show Zi hq
  let l1:=layNew_perm t es ((PySem.strKind prog w).hash k) (.e k tk);let l2:=layNew_fits t es ((PySem.strKind prog w).hash k) (.e k tk);let#[l3,l4]:=_li t es _ _;generalize layNew t es _ _=V at l1 l2 l3 l4 ⊢;let#[gf,t1,wd,gv]:=V;rw[Array.toList_push]at l1;let uj:=(hk.el.í ff rfl).perm l1;let tu:gf.O=ls.B+1:=by rw[<-Y9,l1.length_eq,Xb,Y9,hsz];rfl
  let hp1:(_lf gf.p).á (ls++[k]):=by
   show(l1.E λe=>strOf e.2).H ?_;rw[Xd];show hp.append (List.á.î _)
  show X0 (hgw _ ?_)
  split
  .show X0 (X6 (tail ?_ ho hk.d hk.ex uj (tu▸hl) (SetTable.fits_plain_off l2) (l3.H hk.led) rfl hp1 λh' a1 a2=>?_))
   .intro b s₁ Q' hq;cases b<;>first|show X6 hq|show Zi hq
   .show X6 (h true h' a1 a2)
  .revert bu;show X0 (X6 (tail ?_ ho hk.d hk.ex uj (tu▸hl) l2 (l3.H hk.led) (Bool.eq_false_iff.å bu) hp1 λh' a1 a2=>?_))
   .intro b s₁ Q' hq;cases b<;>first|show X6 hq|show Zi hq
   .show X6 (h true h' a1 a2)
def dd(ss:List Str):List Str:=ss.foldl step_dedup []
def _ll{ss:List Str}{i x}(h:ss[i]?=@x):dd (ss.take (i+1))=step_dedup (dd (ss.take i)) x:=by
 ext dd;rw[List.take_succ,h,List.foldl_append];rfl
def _lm ss:(dd ss).B<=ss.B:=foldl_step_dedup_nil_length_le ss
def _ln:∀{vs ss},StrsAre vs ss->∀(i:Nat) (v),vs[i]?=@v->∃x t,v=.e x t/\ss[i]?=@x
 |_,_,.nil,i,v,h=>by cases i<;>cases h|_,_,.ä x t r,0,v,h=>by cases _aa h;show#[x,t,rfl,rfl]|_,_,.ä x t r,i+1,v,h=>_ln r i v h
def _lo:∀{vs ss},StrsAre vs ss->vs.B=ss.B
 |_,_,.nil=>rfl|_,_,.ä x t r=>congrArg _ (_lo r)
def Has.same'{h h' a ls}(x:Has prog w h a ls)(e:∀b o,h.get? b=@o->o.cls≠.h "list_iterator"->h'.get? b=@o):Has prog w h' a ls:=by
 let#[o,es,ep,t,ho,r]:=x;show#[o,es,ep,t,e _ _ ho (by rw[r.1.ex.1];decide),r]
def fresh(w:World):Obj:={cls:=.h "set",dict:=none,data:=.à (List.J []) 0 (.û 0 0 (!tx w))}
def _lp{h a}(e:h.get? a=@(fresh w)):Has prog w h a []:=
 #[_,(List.J []),0,.û 0 0 _,e,#[#[rfl,rfl,rfl],rfl,(nofun),.q,by rfl,rfl,.Z rfl],.î _]
def made(a){Q₁}(h:Q₁ (.I ↥s) {s with heap:=s.G.í (fresh w)}):
  codeAny (model prog w) A (.call (.x "set.__new__") #[[.h "set",a],[]]) (wants Q₁ E) s:=by
 show codeAny_of_tree (X0 (wpAny_of_eq (F.newCall_set_1 a) (X6 #[plainId_quiet F.plain_set_new _,Z8 F.entry_set_new ?_])));ext Builtin.«set.__new__» Builtin.Frozenset.newClass;let fe:=sub_set_self
 wp_walk
 show wpAny_askSetting (X6 (X0 (wpAny_alloc (X6 (X6 h)))))
def _lq{R I fp wr G n P St}{C:Nat->Heap->Prop}(W:WalksS prog w A.in1 I fp wr G n P St)(S)(qc:S∉fp)
  (hwr:∀i s,St i s->∀b>wr,∀ob,s.G.get? b=@ob->ob.cls=.h "list_iterator")
  (same:∀{i h h'},C i h->(∀b o,h.get? b=@o->o.cls≠.h "list_iterator"->h'.get? b=@o)->C i h')
  (step:∀{i v} {s:Shared} {Q E},P i v->i<n->C i s.G->(∀b h' tk,s.ë<=tk->Heap.SameBut S s.G h'->C (i+1) h'->Q b {s with heap:=h',toks:=tk})->wpAny (model prog w) A.in1 (setAdd S v) Q E s):
  ∀k i (s),n - i=k->i<=n->St i s->C i s.G->(∀s',Moved (S::wr) G s s'->C n s'.G->R (.ok (.ret .ã)) s')->codeAny (model prog w) A (.x "set.update.loop" #[[.I S,.I I],[]]) R s:=by
 let fe:∀b>wr,b>S::wr:=λb hb=>_ad _ hb
 intro k
 induction k with
 | zero=>
  intro i s hk hi b6 hS hR;cases(show i=n by lia);show Z8 F.entry_set_update_loop (X0 (W.done s _ _ b6 λs' hm=>(X6 (hR s' (hm.ý fe) (same hS λb o e c=>hm.G b o (λz=>c (hwr _ _ b6 b z o e)) e)))))
 | succ k ih=>
  intro i s hk hi b6 hS hR;show Z8 F.entry_set_update_loop (X0 (W.item i s _ _ .q b6 λv s' hP qg hm=>?_));show X0 (Yd (step hP .q (same hS λb o e c=>hm.G b o (λz=>c (hwr _ _ b6 b z o e)) e) λb h' tk ht a1 a2=>?_));show X6 #[plainId_quiet F.plain_set_update_loop _,ih _ _ (by omega) .q (W.frame _ s' _ _ qg ht λb hb o e=>?_) a2 λln rg t6=>?_]
  .rw[a1.2 b (λh:b=S=>qc (h▸hb))];show e
  .show hR ln (Moved.H W.gtrans ((hm.ý fe).then_heap ht λb o hb e=>?_) rg) t6;rw[a1.2 b (λh:b=S=>hb (h▸X5))];show e
set_option maxHeartbeats 8000000 in
def _lr{l}{items:Array Value}{C:Nat->Heap->Prop}{Q}(hh:A.ü=none)(hl:s.G.IsList l items)
  (h0:∀h',(∀b o,s.G.get? b=@o->h'.get? b=@o)->h'.get? ↥s=@(fresh w)->C 0 h')
  (same:∀{i h h'},C i h->(∀b o,h.get? b=@o->o.cls≠.h "list_iterator"->h'.get? b=@o)->C i h')
  (step:∀{i v} {s':Shared} {Q E},items[i]?=@v->i<items.O->C i s'.G->(∀b h' tk,s'.ë<=tk->Heap.SameBut ↥s s'.G h'->C (i+1) h'->Q b {s' with heap:=h',toks:=tk})->wpAny (model prog w) A.in1.in1.in1 (setAdd ↥s v) Q E s')
  (h:∀h' (tk:Nat),C items.O h'->(∀b o,b<↥s->s.G.get? b=@o->h'.get? b=@o)->Q (.I ↥s) {s with heap:=h',toks:=tk}):
  wpAny (model prog w) A (call (.h "set") [.I l]) Q E s:=by
 let#[c,tl,hmro]:=F.called_set.mro;let hmade:=F.called_set.made;let fe:=F.called_set.sub;show wpAny_call (codeAny_of_tree ?_);change wpAny _ _ (callAny (.h "set") _) _ _ _;show X6 #[Code.quiet_builtin _ (by decide +kernel),Z8 F.entry_type_call ?_];rw [Around.under_plain (weight_type_call_type "set" [.I l] []) rfl];let h1:=F.called_set.notType;let h2:=F.called_set.canCreate;let hct:=F.typeCall_set_1 (.I l)
 repeat (any_goals (first|assumption|wp_step))
 show codeAny_mono (made (.I l) (E:=E) (Q₁:=λobj s₁=>obj=.I ↥s/\s₁={s with heap:=s.G.í (fresh w)}) #[rfl,rfl]) λr s₁ hr=>?_
 cases r with
 | error e=>show hr
 | ok fl=>
 cases fl with
 | ret obj=>
  let#[rfl,rfl]:=hr;let hS:(s.G.í (fresh w)).get? ↥s=@(fresh w):=X9 _ rfl;let hT:Shared.TypeIs {s with heap:=s.G.í (fresh w)} (.I ↥s) "set":=#[_,hS,rfl];let hli:=F.called_set.init.U;let hbi:=F.called_set.init.bind (.I ↥s)
  repeat (any_goals (first|assumption|wp_step))
  show codeAny_mono (codeAny_call_builtin (R:=wants (λr s₂=>r=.ã/\∃h' tk,s₂={s with heap:=h',toks:=tk}/\C items.O h' /\
    (∀b o,b<↥s->s.G.get? b=@o->h'.get? b=@o)) E) F.called_set.init.plain F.entry_set_init (check_set_init_1 hT ?_)) λr₂ s₂ hr₂=>?_
  .let#[ol,hol,dy,nl,hdl]:=hl;let#[ocls,wc,odata,rq]:=ol;simp only at dy hdl;subst dy;subst hdl;let hol':(s.G.í (fresh w)).get? l=some {cls:=.h "list",dict:=wc,data:=.seq items nl,slots:=rq}:=X4 _ hol;let hsls:=F.sub_list_set;let hslf:=F.sub_list_frozenset;let be:(Value.h "list" == Value.h "dict")=false:=by rfl
   let ib:(s.G.í (fresh w)).IsList l items:=#[_,hol',rfl,nl,rfl];let xr:l<↥s:=Xg hol;let tw:({cls:=.h "set",dict:=none,data:=.à (List.J []) 0 (.û 0 0 (!tx w))}:Obj)=fresh w:=rfl;ext Builtin.«set.__init__» noKeywords Builtin.Frozenset.updateFrom;generalize hPI:pyIter=PI
   wp_walk
   subst hPI;show Z6 ib ?_;show X0 (wpAny_runValue ?_);let hh3:A.in1.in1.in1.ü=none:=by simp[hh]
   let hsz:(s.G.í (fresh w)).objs.O=↥s+1:=Zh ..;show _lq (C:=C) ((Walks.list hh3 _ l (by rw[hsz];show Xl (Z7 xr)) items).toS) ↥s (by rw[hsz];dsimp[Yp,Y8,or_false,not_or];show#[Xl (Nat.lt_succ_self _),Zr xr]) (λi s b6 b hbm ob on=>?_) same step (items.O - 0) 0 _ (by simp) (Ya _)
    #[#[_,X9 _ rfl,rfl,rfl],ib.í _] (h0 _ (λb o e=>X4 _ (X4 _ e)) (X4 _ hS)) ?_
   .rw[aC hbm]at on;let#[#[o',ju,i9,_],_]:=b6;rw[ju]at on;cases on;show i9
   .intro s' hm lw;let#[h',g',d',oz,sy]:=s';let eg:g'=s.gens:=hm.gens;let ed:d'=s.drawn:=hm.drawn;let eo:sy=s.os:=hm.os;subst eg;subst ed;subst eo;change wpAny _ _ _ _ _ _;show X6 ?_;change wpAny _ _ (ret Value.ã) _ _ _;show X6 #[rfl,h',oz,rfl,lw,λb o hb e=>?_];show hm.G b o (by dsimp[Yp,Y8,or_false,not_or];rw[hsz];show#[Xl hb,Xl (Z7 hb)]) (X4 _ (X4 _ e))
  .cases r₂ with
   | error e=>show hr₂
   | ok fl₂=>
    cases fl₂ with
    |ret r=>
     let#[rfl,h',tk,rfl,lw,aj]:=hr₂
     repeat (any_goals (first|assumption|wp_step))
     show h _ _ lw aj
    |_=>show hr₂.ß
 |_=>show hr.ß
def _ls{l items ss Q}(hh:A.ü=none)(hl:s.G.IsList l items)(hi:StrsAre items.p ss)(hb:items.O+1<scanBound)
  (h:∀h' (tk:Nat),Has prog w h' ↥s (dd ss)->(∀b o,b<↥s->s.G.get? b=@o->h'.get? b=@o)->Q (.I ↥s) {s with heap:=h',toks:=tk}):
  wpAny (model prog w) A (call (.h "set") [.I l]) Q E s:=by
 show _lr (C:=λi h=>Has prog w h ↥s (dd (ss.take i))) hh hl (λh' _ e=>_lp e) (λhS e=>hS.same' e) (fun {i v s'} {Q E} hv iz hS hQ=>?_) λh' tk hS=>h h' tk ?_
 .let#[x,t,rfl,hx]:=_ln hi i v (by rw[Ye];show hv);show Yd (X0 ((PySem.strKind prog w).pyHash (strKind_is _ _ _ _) ?_));let gw:(dd (ss.take i)).B+1<scanBound:=by let:=_lm (ss.take i);rw[Zf]at this;lia
  show add hS gw λb h' a1 a2=>?_
  rw[<-_ll hx]at a2;show hQ b h' _ (Zc _) a1 a2
 .rwa [show items.O=ss.B by rw[<-_lo hi,Y9],List.take_length]at hS
end
def slot_next:Slot "set_iterator" "__next__" "set_iterator.__next__" :=
 .of (owner:="set_iterator") (n:="__next__") (by kernel_rfl) (by decide +kernel) (by decide +kernel) (by decide +kernel)
  (by first|show .R (by decide +kernel)|show .Z (by decide +kernel)) (by kernel_rfl)
def _lt:Slot "set_iterator" "__iter__" "set_iterator.__iter__" :=
 .of (owner:="set_iterator") (n:="__iter__") (by kernel_rfl) (by decide +kernel) (by decide +kernel) (by decide +kernel)
  (by first|show .R (by decide +kernel)|show .Z (by decide +kernel)) (by kernel_rfl)
def _lu:entryFor table "set_iterator.__next__"=@Builtin.«set_iterator.__next__»:=entryFor_of_tree (by kernel_rfl)
def _lv:entryFor table "set_iterator.__iter__"=@Builtin.«dict_keyiterator.__iter__»:=entryFor_alias (id':="dict_keyiterator.__iter__") (by kernel_rfl) rfl (by decide +kernel) (by kernel_rfl)
def _lw:entryFor table "set.__iter__"=@Builtin.«frozenset.__iter__»:=entryFor_alias (id':="frozenset.__iter__") (by kernel_rfl) rfl (by decide +kernel) (by kernel_rfl)
def _lx(a):argsOk "set_iterator.__next__" #[[a],[]]:=by kernel_rfl
def _ly(a):argsOk "set_iterator.__iter__" #[[a],[]]:=by kernel_rfl
def _lz(a):argsOk "set.__iter__" #[[a],[]]:=by kernel_rfl
section
def _lA(hn:n≠0)(h:∀i d,i<n->Q i {s with drawn:=d}):wpAny (model prog w) A (choose src n) Q E s:=
 λ_ _ _=>#[hn,h _ _ (Nat.mod_lt _ (Nat.pos_of_ne_zero hn))]
def _lB:∀{l:List α} {i} (h),(l[i]::l.ø i).á l
 |a::l,0,h=>List.á.î _
 |a::l,i+1,h=>by
  show(List.á.swap a _ _).H ((_lB (Nat.lt_of_succ_lt_succ h)).ä a)
def drawn:∀n xs s {Q:List α->Shared->Prop},xs.B=n->(∀ys d,ys.á xs->Q ys {s with drawn:=d})->wpAny (model prog w) A (drawOrder n xs) Q E s
 | 0,xs,s,Q,hl,h=>by
  cases xs with|nil=>show X6 (h [] s.drawn (.î _))|cons=>cases hl
 | n+1,xs,s,Q,hl,h=>by
  cases xs with
  |nil=>cases hl
  |cons x xs=>
   show X0 (_lA (by simp) λi d hi=>?_);rw[X1 hi];show X0 (drawn n _ _ (by rw[List.length_eraseIdx,Xa hi];show Zs hl) λys d' hp=>(X6 (h _ d' ((hp.ä _).H (_lB hi)))))
def _lC(f):∀n k (l) (out:Array α),l.B=n->(pickOrder.go f n k l out).p.á (out.p++l)
 |0,k,l,out,hl=>by
  cases l with|nil=>change out.p.á _;simp|cons=>cases hl
 |n+1,k,l,out,hl=>by
  let hi:f k % l.B<l.B:=Nat.mod_lt _ (by symm);ext pickOrder.go;rw[X1 hi];show(_lC f n _ _ _ (by rw[List.length_eraseIdx,Xa hi];symm)).H ?_;rw[Array.toList_push,Xs];show(List.á.î _).append (_lB hi)
def _lD f (xs:Array α):(pickOrder f xs).p.á xs.p:=by
 show _lC f _ 0 _ (List.J []) (by rfl)
end
section
def It(h:Heap)(I a:Addr)(f:Value)(i n ep:Nat):Prop:=∃o,h.get? I=@o/\o.cls=.h "set_iterator"/\o.data=.ù %[f,.C i 0,.I a,.C n 0,.C ep 0|0]
def It.at'(x:It h I a f i n ep)(e:∀o,h.get? I=@o->h'.get? I=@o):It h' I a f i n ep:=by
 let#[o,ho,r]:=x;show#[o,e _ ho,r]
def Stn(h:Heap)(a:Addr)(n ep:Nat):Prop:=∃o es t,h.get? a=@o/\o.data=.à es ep t/\t.fits es.O=true/\es.O=n
def _lE(fm:It s.G I a f i n ep)(h:Q (.I I) s):wpAny (model prog w) A (pyIter (.I I)) Q E s:=by
 let#[o,ho,hc,hd]:=fm;let hT:s.TypeIs (.I I) "set_iterator":=#[o,ho,hc];show wpAny_pyIter_slot hT _lt (Y0 _lt hT _lv ?_ (_ly _));show X6 #[_,rfl,"set_iterator",_,hT,slot_next.U,h]
def _lF{sl nx i n ep:Nat}(fm:It s.G I a (.C sl 0) i n ep)(hs:Stn s.G a n ep)
  (hN:∀(A':Around) (E':VP9) (R:Option (Value×Nat)->Shared->Prop),R @(v,nx) s->wpAny (model prog w) A' (setNext a sl i ep) R E' s)
  (hQ:∀h',It h' I a (.C nx 0) (i+1) n ep->Heap.SameBut I s.G h'->Q @v {s with heap:=h' }):wpAny (model prog w) A (pyNext (.I I)) Q E s:=by
 let#[o,ho,hc,hd]:=fm;let#[os,es,t,lu,bc,hf,hn]:=hs;let hT:s.TypeIs (.I I) "set_iterator":=#[o,ho,hc];show X0 (wpAny_attempt (Yc hT slot_next (Y0 slot_next hT _lu ?_ (_lx _))));change wpAny _ _ (fieldsOf _ >>= _) _ _ s;show X0 (Zj ho hd ?_);show X0 (wpAny_setEntries_of lu bc hf ?_);rw[Xe (by rw[hn];simp)];change wpAny _ _ _ _ _ s;show X0 (hN _ _ _ ?_);show X0 (Ym ho hd (by simp) ?_);let u4:=Yr hd (·.ö 0 (rawInt nx));let ly:=Xx _ ho (Z0 u4);show X0 (Ym ly u4 (by simp) (X6 #[v,rfl,X6 (hQ _ ?_ ((Xw ..).H (Xw ..)))]));let kt:=Yr u4 (·.ö 1 (rawInt (i+1)));show#[_,Xx _ ly (Z0 kt),(Obj.cls_mapFields ..).H ((Obj.cls_mapFields ..).H hc),?_];rw[kt];rfl
def _lG{pl:List Nat}(fm:It s.G I a (.I T) i n ep)(hs:Stn s.G a n ep)(xy:∃o k,s.G.get? T=@o/\o.data=.seq (pl.E λ(j:Nat)=>rawInt j).J k)
  (hp:pl[i]?=@p)
  (hN:∀(A':Around) (E':VP9) (R:VP9),R v s->wpAny (model prog w) A' (setNextDrawn a p ep) R E' s)
  (hQ:∀h',It h' I a (.I T) (i+1) n ep->Heap.SameBut I s.G h'->Q @v {s with heap:=h' }):wpAny (model prog w) A (pyNext (.I I)) Q E s:=by
 let#[o,ho,hc,hd]:=fm;let#[os,es,t,lu,bc,hf,hn]:=hs;let#[oT,kT,hoT,t9]:=xy;let hT:s.TypeIs (.I I) "set_iterator":=#[o,ho,hc];show X0 (wpAny_attempt (Yc hT slot_next (Y0 slot_next hT _lu ?_ (_lx _))));change wpAny _ _ (fieldsOf _ >>= _) _ _ s;show X0 (Zj ho hd ?_);show X0 (wpAny_setEntries_of lu bc hf ?_);rw[Xe (by rw[hn];simp)];show X0 (wpAny_seqItems hoT t9 ?_);let hg:(pl.E λ(j:Nat)=>rawInt j).J[((i:Int)).L]?=@(.C p 0):=by
  rw[Xp,List.getElem?_toArray,X7,hp];rfl
 right;rw[hg];change wpAny _ _ _ _ _ s;show X0 (hN _ _ _ ?_);let kt:=Yr hd (·.ö 1 (rawInt (i+1)));show X0 (Ym ho hd (by simp) (X6 #[v,rfl,X6 (hQ _ ?_ (Xw ..))]));show#[_,Xx _ ho (Z0 kt),(Obj.cls_mapFields ..).H hc,?_];rw[kt];rfl
def _lH{sl i n ep:Nat}(hh:A.ü=none)(fm:It s.G I a (.C sl 0) i n ep)(hs:Stn s.G a n ep)
  (hN:∀(A':Around) (E':VP9) (R:Option (Value×Nat)->Shared->Prop),R none s->wpAny (model prog w) A' (setNext a sl i ep) R E' s)
  (hQ:∀h',Heap.ExtBut I s.G h'->Q none {s with heap:=h' }):wpAny (model prog w) A (pyNext (.I I)) Q E s:=by
 let#[o,ho,hc,hd]:=fm;let#[os,es,t,lu,bc,hf,hn]:=hs;let hT:s.TypeIs (.I I) "set_iterator":=#[o,ho,hc];show X0 (wpAny_attempt (Yc (name:=Str.ofString "__next__") hT slot_next (Y0 slot_next hT _lu ?_ (_lx _))));change wpAny _ _ (fieldsOf (.I I) >>= _) _ _ s;show X0 (Zj ho hd ?_);show X0 (wpAny_setEntries_of lu bc hf ?_);rw[Xe (by rw[hn];simp)];change wpAny _ _ (setNext a ((sl:Int)).L ((i:Int)).L ((ep:Int)).L >>= _) _ _ s;show X0 (hN _ _ _ ?_);show X0 (Ym ho hd (by simp) ?_);show X0 ?_;show X0 (m:=firstArgMember _ _) (wpAny_of_eq (a:=Value.ã) (by first|rfl|(lia)) ?_);show Y7 ?_ (by size_fits);show X0 (wpAny_handled ?_);rw[show A.in1.ü=none from hh];show X0 (X6 (wpAny_throw ?_));show X0 (Zq (T:="StopIteration") (b:=true) #[_,X9 _ rfl,rfl] isSubtype_stop ?_);show X6 (hQ _ (((Xw ..).extBut.í _).í _))
def _lI{pl:List Nat}(hh:A.ü=none)(fm:It s.G I a (.I T) i n ep)(hs:Stn s.G a n ep)(xy:∃o k,s.G.get? T=@o/\o.data=.seq (pl.E λ(j:Nat)=>rawInt j).J k)
  (hp:pl[i]?=none) (hQ:∀h',Heap.ExtBut I s.G h'->Q none {s with heap:=h' }):wpAny (model prog w) A (pyNext (.I I)) Q E s:=by
 let#[o,ho,hc,hd]:=fm;let#[os,es,t,lu,bc,hf,hn]:=hs;let#[oT,kT,hoT,t9]:=xy;let hT:s.TypeIs (.I I) "set_iterator":=#[o,ho,hc];show X0 (wpAny_attempt (Yc (name:=Str.ofString "__next__") hT slot_next (Y0 slot_next hT _lu ?_ (_lx _))));change wpAny _ _ (fieldsOf (.I I) >>= _) _ _ s;show X0 (Zj ho hd ?_);show X0 (wpAny_setEntries_of lu bc hf ?_);rw[Xe (by rw[hn];simp)];show X0 (wpAny_seqItems hoT t9 ?_);let hg:(pl.E λ(j:Nat)=>rawInt j).J[((i:Int)).L]?=none:=by
  rw[Xp,List.getElem?_toArray,X7,hp];rfl
 right;rw[hg];let u4:=Yr hd (·.ö 0 (rawInt 0));let ly:=Xx (Obj.mapFields (·.ö 0 (rawInt 0))) ho (Z0 u4);show X0 (Ym ho hd (by simp) ?_);show X0 (Ym ly u4 (by simp) ?_);show X0 ?_;simp;show X0 (m:=firstArgMember _ _) (wpAny_of_eq (a:=Value.ã) (by first|rfl|(lia;rfl)) ?_);show Y7 ?_ (by size_fits);show X0 (wpAny_handled ?_);rw[show A.in1.ü=none from hh];show X0 (X6 (wpAny_throw ?_));show X0 (Zq (T:="StopIteration") (b:=true) #[_,X9 _ rfl,rfl] isSubtype_stop ?_);show X6 (hQ _ ((((Xw ..).H (Xw ..)).extBut.í _).í _))
end
section
def _lJ(hh:A.ü=none)(I a)(be:a≠I)(hd:o.data=.à es ep t)(hf:t.fits es.O=true){dz:List Value}(hl:dz.B=es.O)(sl:Nat->Nat)
  (hN:∀i (s) (A') (E') (R),s.G.get? a=@o->i<=es.O->R (dz[i]?.E λv=>(v,sl (i+1))) s->wpAny (model prog w) A' (setNext a (sl i) i ep) R E' s):
  Walks prog w A I [I,a] [I] es.O (λi v=>dz[i]?=@v) (λi h=>It h I a (.C (sl i) 0) i es.O ep/\h.get? a=@o) where
 sub:=λb hb=>by simp at hb;simp[hb]
 frame:=λ_ _ _ st hk=>#[st.1.at' λo e=>hk I (by simp) o e,hk a (by simp) _ st.2]
 item:=λi s Q E hi st hQ=>by
  let hv:dz[i]?=@(dz[i]'(by symm)):=X1 _;show _lF st.1 #[o,es,t,st.2,hd,hf,rfl] (λA' E' R hR=>hN i s A' E' R st.2 (Nat.le_of_lt hi) (hv▸hR)) λh' jd jf=>(hQ _ h' s.ë hv #[jd,(jf.extBut a o be st.2)] λb o hb e=>jf.extBut b o (λh=>hb (by simp[h])) e)
 done:=λs Q E st hQ=>by
  show _lH hh st.1 #[o,es,t,st.2,hd,hf,rfl] (λA' E' R hR=>hN es.O s A' E' R st.2 (X8 _) (by rw[Xz (by symm)];show hR)) λh' he=>?_
  show hQ h' s.ë λb o hb e=>he b o (λh=>hb (by simp[h])) e
 self:=λ_ _ _ _ st hQ=>_lE st.1 hQ
def _lK(hh:A.ü=none)(I a T)(be:a≠I)(hneT:T≠I)(hd:o.data=.à es ep t)(hf:t.fits es.O=true){pl:List Nat}(hp:pl.á (List.range es.O))(t9:oT.data=.seq (pl.E λ(j:Nat)=>rawInt j).J k):
  Walks prog w A I [I,a,T] [I] es.O (λi v=>(pl.E λj=>(es.s j (0,.ã)).2)[i]?=@v) (λi h=>It h I a (.I T) i es.O ep/\h.get? a=@o/\h.get? T=@oT) where
 sub:=λb hb=>by simp at hb;simp[hb]
 frame:=λ_ _ _ st hk=>#[st.1.at' λo e=>hk I (by simp) o e,hk a (by simp) _ st.2.1,hk T (by simp) _ st.2.2]
 item:=λi s Q E hi st hQ=>by
  let ai:pl.B=es.O:=by rw[hp.length_eq,Y2]
  let hv:pl[i]?=@(pl[i]'(by symm)):=X1 _;let bf:pl[i]'⋯<es.O:=List.mem_range.mp (hp.mem_iff.mp (Xu _));show _lG (v:=(es.s (pl[i]'⋯) (0,.ã)).2) st.1 #[o,es,t,st.2.1,hd,hf,rfl] #[oT,k,st.2.2,t9] hv (λA' E' R hR=>?_) λh' jd jf=>?_
  .show X0 (Zo st.2.1 hd hf ?_);right;rw[Xe (by simp),Y5 bf];show X6 ?_;rw[Array.getD_eq_getD_getElem?,Y5 bf]at hR;show hR
  .show hQ _ h' s.ë (by rw[X7,hv];rfl) #[jd,(jf.extBut a o be st.2.1),(jf.extBut T oT hneT st.2.2)] λb o hb e=>jf.extBut b o (λh=>hb (by simp[h])) e
 done:=λs Q E st hQ=>by
  let ai:pl.B=es.O:=by rw[hp.length_eq,Y2]
  show _lI hh st.1 #[o,es,t,st.2.1,hd,hf,rfl] #[oT,k,st.2.2,t9] (Xz (by symm)) λh' he=>?_
  show hQ h' s.ë λb o hb e=>he b o (λh=>hb (by simp[h])) e
 self:=λ_ _ _ _ st hQ=>_lE st.1 hQ
def _lL(pj:tx w=true)(hd:o.data=.à es ep t)(hf:t.fits es.O=true):
  ∀i s (A') (E') R,s.G.get? a=@o->i<=es.O->R (((pickOrder (w.params.setOrder a ep) es).p.E (·.2))[i]?.E λv=>(v,0)) s->wpAny (model prog w) A' (setNext a 0 i ep) R E' s:=by
 intro i s A' E' R ho hi hR;show X0 (Zo ho hd hf ?_);change wpAny _ _ (if tx w=true then _ else _) _ _ _;rw[Xa pj,Xe (by simp)];show X0 (X0 (Zo ho hd hf ?_));change wpAny _ _ (if tx w=true then _ else _) _ _ _;rw[Xa pj];show X0 (wpAny_askSetting (X6 (X6 ?_)));rw[X7,Ye,Option.map_map]at hR;show hR
end
section
def _lM{t:SetTable}(h:t.fits n=true):t.place.O=n:=by
 dsimp[SetTable.fits,Bool.é,beq_iff_eq]at h;show h.1
def _lN{es:Array (Int×Value)}{pl:List Nat}(hp:pl.á (List.range es.O)):(pl.E λj=>(es.s j (0,.ã)).2).á (es.p.E (·.2)):=by
 show(hp.E _).H (.of_eq ?_);apply List.ext_getElem
 .simp
 .intro i h1 h2;simp at h1;simp[h1]
end
end Sw
namespace Sw
open PySem PyProof.Rows Tb
section
variable {w:World}
structure IT (w:World)(o:Obj)(es:Array (Int×Value))(ep:Nat)(t:SetTable):Prop where
 c:o.cls=.h "set"
 d:o.data=.à es ep t
 f:t.fits es.O=true
 led:t.led=!tx w
 pw:t.plain=true\/es.O<=1->t.place.p.Pairwise (· < ·)
 z:es.O<=sizeLine
def slP(t:SetTable)(i:Nat):Nat:=if i=0 then 0 else t.place.s (i - 1) 0+1
def _lO(hp:xs.p.Pairwise (· < ·))(hi:i<=xs.O):SetTable.below xs (if i=0 then 0 else xs.s (i - 1) 0+1)=i:=by
 let#[b1,b2,b3]:=_le (xs:=xs) (if i=0 then 0 else xs.s (i - 1) 0+1) hp;generalize hb:SetTable.below xs (if i=0 then 0 else xs.s (i - 1) 0+1)=b at b1 b2 b3
 by_cases h0:i=0
 .subst h0;let c\/c:=Nat.eq_zero_or_pos b
  .show c
  .let:=b2 0 .q c
   symm
 .rw[Xe h0]at b2 b3;let hg:xs.s (i - 1) 0=xs[i - 1]'⋯:=by simp[Array.s,show i - 1<xs.O by lia]
  rw[hg]at b2 b3;let c\/c\/c:=Nat.lt_trichotomy b i
  .let:=b3 (i - 1) .q .q;lia
  .show c
  .let h1:=b2 i .q c;let h2:=List.pairwise_iff_getElem.mp hp (i - 1) i (by simp;grind) (by simp;lia) .q;let h2:xs[i - 1]'(by grind)<xs[i]'⋯:= ~~~h2
   grind
def _lP(pj:tx w=false)(hk:IT w o es ep t)(bu:t.plain=false->¬1<es.O):
  ∀i s (A') (E') R,s.G.get? a=@o->i<=es.O->R ((es.p.E (·.2))[i]?.E λv=>(v,slP t (i+1))) s->wpAny (model prog w) A' (setNext a (slP t i) i ep) R E' s:=by
 intro i s A' E' R ho hi hR;let hsz:=_lM hk.f;show X0 (Zo ho hk.d hk.f ?_);change wpAny _ _ (if tx w=true then _ else _) _ _ _;rw[Xe (by symm)];change wpAny _ _ (if(!t.plain&&decide (1<es.O))=true then _ else _) _ _ _;rw[Xe (by
  cases hp:t.plain with
  |true=>simp
  |false=>simpa using bu hp)]
 change wpAny _ _ ((if _=true then _ else pure ()) >>= _) _ _ _;rw[Xe (by rw[hk.led,pj];simp)];show X6 ?_;let hbl:SetTable.below t.place (slP t i)=i:=_lO (hk.pw (by cases hp:t.plain<;>simp;let:=bu hp;symm)) (hsz▸hi);rw[hbl]
 by_cases bf:i<es.O
 .let xn:i<t.place.O:=by rw[hsz];show bf
  rw[Y5 bf,Y5 xn];rw[X7,Ye,Y5 bf]at hR;let hs:slP t (i+1)=t.place[i]+1:=by ext slP;simp[xn]
  rw[hs]at hR;show hR
 .rw[Array.getElem?_eq_none .q];rw[Xz (by rw[X3,Y9];lia)]at hR;show hR
def _lQ(ho:s.G.get? a=@o)(hk:IT w o es ep t)(h:Q (!tx w&&(!t.plain&&decide (1<es.O))) s):wpAny (model prog w) A (setDrawn a) Q E s:=by
 show X0 (Zo ho hk.d hk.f (X0 (X0 (wpAny_askSetting (X6 (X6 h))))))
def _lR(ho:s.G.get? a=@o)(hk:IT w o es ep t)
  (h:∀h' (d) (I:Addr) (fp) (dz:List Value) (St),(∀b o,s.G.get? b=@o->h'.get? b=@o)->↥s<=I->(∀b>fp,b=a\/↥s<=b) ->
   (∀A',A'.ü=none->Walks prog w A' I fp [I] es.O (λi v=>dz[i]?=@v) St)->St 0 h'->dz.á (es.p.E (·.2))->Q (.I I) {s with heap:=h',drawn:=d}):wpAny (model prog w) A (pyIter (.I a)) Q E s:=by
 let hT:s.TypeIs (.I a) "set":=#[o,ho,hk.c];let p9:=Xg ho;show wpAny_pyIter_slot hT F.slot_set_iter (Y0 F.slot_set_iter hT _lw ?_ (_lz _));ext Builtin.«frozenset.__iter__» Builtin.Frozenset.slot0 slotArgs;dsimp[List.isEmpty_nil,Bool.not_true,Bool.false_eq_true,↓reduceIte,bind_assoc,List.length_nil,bne_self_eq_false];show X0 (X6 (X0 (X6 (X0 (X0 (wpAny_setEntries_of ho hk.d hk.f (X6 (X0 (_lQ ho hk ?_)))))))))
 by_cases u3:(!tx w&&(!t.plain&&decide (1<es.O)))=true
 .rw [Xa u3];show X0 (drawn es.O _ s (by simp) λpl d hp=>(X0 (wpAny_newTuple (X0 (wpAny_setEpoch_of (X4 _ ho) hk.d hk.f ?_)) (hsz:=by rw[X3,hp.length_eq,Y2];show hk.z))));show X0 (Y7 (X6 #[_,rfl,"set_iterator",_,#[_,X9 _ rfl,rfl],slot_next.U,?_]));let hsz:(s.G.í (seqObj "tuple" (pl.E λ(i:Nat)=>rawInt i).J 0)).objs.O=↥s+1:=Zh ..;show h _ d _ [_,a,↥s] (pl.E λj=>(es.s j (0,.ã)).2) _ (λb o e=>X4 _ (X4 _ e)) (hsz▸Zc _) (λb hb=>?_)
   (λA' hh=>_lK hh _ a ↥s (by rw[hsz];show Xl (Z7 p9)) (by rw[hsz];show Xl (Nat.lt_succ_self _)) (o:=o) (oT:=seqObj "tuple" (pl.E λ(i:Nat)=>rawInt i).J 0) hk.d hk.f hp rfl)
   #[#[_,X9 _ rfl,rfl,rfl],X4 _ (X4 _ ho),X4 _ (X9 _ rfl)] (_lN hp)
  let rfl\/hb:=aD hb
  .show .Z (hsz▸Zc _)
  let rfl\/hb:=aD hb
  .show .R rfl
  .rw[aC hb];show .Z (X8 _)
 .rw [Xe u3];show X0 (X6 (X0 (wpAny_setEpoch_of ho hk.d hk.f (X0 (Y7 (X6 #[_,rfl,"set_iterator",_,#[_,X9 _ rfl,rfl],slot_next.U,?_]))))));let hfp:∀b>[↥s,a],b=a\/↥s<=b:=λb hb=>by
   let rfl\/hb:=aD hb
   .show .Z (X8 _)
   .show .R (aC hb)
  cases pj:tx w with
  | true=>
   show h _ s.drawn _ [_,a] ((pickOrder (w.params.setOrder a ep) es).p.E (·.2)) _ (λb o e=>X4 _ e) (X8 _) hfp
    (λA' hh=>_lJ hh _ a (Xl p9) (o:=o) hk.d hk.f (by rw[X3,(_lD _ es).length_eq,Y9]) (λ_=>0) (_lL pj hk.d hk.f))
    #[#[_,X9 _ rfl,rfl,rfl],X4 _ ho] ((_lD _ es).E _)
  | false=>
   show h _ s.drawn _ [_,a] (es.p.E (·.2)) _ (λb o e=>X4 _ e) (X8 _) hfp
    (λA' hh=>_lJ hh _ a (Xl p9) (o:=o) hk.d hk.f (by simp) (slP t) (_lP pj hk (by
     rw[pj]at u3
     simpa using u3)))
    #[#[_,X9 _ rfl,rfl,rfl],X4 _ ho] (.î _)
def _lS(hT:s.TypeIs (.I a) "set")(h:Q false s):wpAny (model prog w) A (Builtin.List.listLengthHint (.I a)) Q E s:=by
 show X0 (Yz hT F.slot_set_len.U ?_);generalize pq:_=id0
 wp_delta
 subst pq;show X0 (Zq hT sub_set_self ?_);show wpAny_ite_split (λvt=>absurd vt .q) (λ_=>?_);show X0 (wpAny_typeOf hT ?_);show X6 h
def _lT(hh:A.ü=none)(ho:s.G.get? a=@o)(hk:IT w o es ep t)
  (h:∀h' (d) (tk) (vs),(∀b o,s.G.get? b=@o->h'.get? b=@o)->↥s<h'.objs.O->vs.á (es.p.E (·.2))->Q vs {s with heap:=h',drawn:=d,toks:=tk}):
  wpAny (model prog w) A (collect (.I a)) Q E s:=by
 let p9:a<↥s:=Xg ho;ext collect;show X0 (wpAny_runValue (Z8 F.entry_proto_collect ?_));rw[Around.under_plainId F.plain_proto_collect _];change wpAny _ A.in1 (newList [] >>= λl=>again (.x "list.__iadd__" #[[l,.I a],[]])) _ _ s;show X0 (Y7 (X6 #[plainId_quiet F.plain_list_iadd _,Z8 F.entry_list_iadd ?_]));rw[Around.under_plainId F.plain_list_iadd _];let ly:(s.G.í {cls:=.h "list",data:=.seq ([]:List Value).J}).get? a=@o:=X4 _ ho;let hT1:Shared.TypeIs {s with heap:=s.G.í {cls:=.h "list",data:=.seq ([]:List Value).J}} (.I a) "set":=#[o,ly,hk.c];change wpAny _ A.in1 (Builtin.List.listExtendWith (.I ↥s) (.I a) (.I ↥s)) _ _ _;ext Builtin.List.listExtendWith;show X0 (wpAny_typeOf hT1 ?_);let h1:Builtin.List.listSameRef (.I ↥s) (.I a)=false:=by simp[Builtin.List.listSameRef];show Zr p9
 let h2:(Value.h "set" == Value.h "list")=false:=by rfl
 let h3:(Value.h "set" == Value.h "tuple")=false:=by rfl
 dsimp[h1,h2,h3,Bool.or_false,Bool.false_eq_true,if_false];show X0 (_lR ly hk λh' d I fp dz St dw hI hfp W st0 hv=>(X0 (Yd (_lS #[o,dw _ _ ly,hk.c] ?_))));change wpAny _ A.in1 (PySem.rule "list.extend.makes-room" >>= λ_=>Builtin.List.listTouch (.I ↥s) >>= λ_=>
  again (.x "list.extend.loop" #[[.I ↥s,.I I,.I ↥s],[]])) _ _ _
 show X0 (Zi ?_);let hsz:(s.G.í {cls:=.h "list",data:=.seq ([]:List Value).J}).objs.O=↥s+1:=Zh ..;let hI':↥s+1<=I:=by rw[<-hsz];show hI
 let qc:↥s∉fp:=λhm=>by
  let e\/e:=hfp _ hm
  .show absurd e (Zr p9)
  .grind
 let hS₁:h'.get? ↥s=some {cls:=.h "list",data:=.seq ([]:List Value).J}:=dw _ _ (X9 _ rfl);show X0 ?_;change wpAny _ A.in1 (updateSeq ↥s (·.í .ã) >>= λ_=>updateSeq ↥s (·.pop)) _ _ _;show X0 (wpAny_updateSeq hS₁ rfl ?_);let hS₂:=Xx (Obj.mapSeq (·.í Value.ã)) hS₁ rfl;show wpAny_updateSeq hS₂ rfl ?_;let oth:∀b o,b≠↥s->h'.get? b=@o->((h'.update ↥s (Obj.mapSeq (·.í Value.ã))).update ↥s (Obj.mapSeq (·.pop))).get? b=@o:=
  λb o hb e=>(Za _ _ (Ne.i hb)).H ((Za _ _ (Ne.i hb)).H e)
 let WW:=W A.in1 hh;let ai:dz.B=es.O:=by rw[hv.length_eq,X3,Y9]
 show X6 #[plainId_quiet F.plain_extend_loop _,codeAny_extend_loopS WW.toS hk.z _ qc _ es.O 0 _ _ _ rfl (Ya _) (WW.frame 0 h' _ st0 λb hb o e=>oth b o (λe'=>qc (e'▸hb)) e) (Xx (Obj.mapSeq (·.pop)) hS₂ rfl) (ItemsOf.nil _) λs' lr c' hm lw av=>?_];change wpAny _ A (load ↥s >>= _) _ _ s';show X0 (wpAny_load lw ?_);let hac:lr.p=dz:=by
  apply List.ext_getElem?;intro j
  by_cases hj:j<es.O
  .let hj1:j<lr.O:=by rw[av.1];show hj
   rw[Ye,Y5 hj1];show(av.2 j _ (Y5 hj1)).i
  .rw[Xz (by rw[Y9,av.1];symm),Xz (by symm)]
 show X6 ?_;rw[hac,Moved.eq_with hm];show h _ d _ dz (λb o e=>?_) (Xg lw) hv;let hb:b<↥s:=Xg e;let hbS:b≠↥s:=Xl hb;show hm.G b o (λhmem=>?_) (oth b o hbS (dw b o (X4 _ e)));let e'\/hmem:=aD hmem
 .show hbS e'
 .rw[aC hmem]at hb;show absurd hb (Nat.not_lt.å (Nat.le_of_succ_le hI'))
def _lU:∀{vs},(∀v>vs,∃x t,v=Value.e x t)->StrsAre vs (vs.E strOf)
 |[],_=>.nil
 |v::vs,h=>by
  let#[x,t,rfl]:=h v X5;show .ä x t (_lU λv hv=>h v (_ad _ hv))
def _lV(hh:A.ü=none)(hS:Has prog w s.G a ls)
  (h:∀h' (d) (tk) (vs) (ss),(∀b o,s.G.get? b=@o->h'.get? b=@o)->↥s<h'.objs.O->StrsAre vs ss->ss.á ls->Q vs {s with heap:=h',drawn:=d,toks:=tk}):
  wpAny (model prog w) A (collect (.I a)) Q E s:=by
 let#[o,es,ep,t,ho,hk,hp]:=hS;let hsz:=_lM hk.f;show _lT hh ho #[hk.ex.1,hk.d,hk.f,hk.led,λh1=>?_,fits_of_scanBound hk.b] λh' d tk vs dw hz hv=>h h' d tk vs (vs.E strOf) dw hz (_lU λv hvm=>?_) ?_
 .show List.pairwise_iff_getElem.å λi j hi hj nr=>?_
  let:=hk.pl;simp at hi hj;let h1\/h1:=h1<;>grind
 .let#[e,he,rfl]:=aE (hv.mem_iff.mp hvm);show _lg hk.el he
 .show((hv.E strOf).H (.of_eq ?_)).H hp;rw[Xi];rfl
end
end Sw
namespace Sw
open PySem PyProof.Rows
section
def _lW(hh:A.ü=none)(hS:Has prog w s.G a ls)(h64:ls.B<64)
  (h:∀h' d (tk l e) out ss,(∀b o,s.G.get? b=@o->h'.get? b=@o)->↥s<=l->h'.get? l=@(seqObj "list" out e)->StrsAre out.p ss->ss.á ls->sortedS ss=true->Q (.I l) {s with heap:=h',drawn:=d,toks:=tk}):
  wpAny (model prog w) A (call (.x "sorted") [.I a]) Q E s:=by
 show Calls.call_function_entry kind_sorted plain_sorted entry_sorted (args_sorted1 _) ?_;show X0 (X6 ?_);show X0 (_lV (~~~hh) hS λh' d tk vs ss dw hsz hv hp=>?_);let h64':vs.B<64:=by rw[_lo hv,hp.length_eq];show h64
 show X0 (wpAny_newList ?_ (hsz:=by rw[sizeLine_eq];lia));let xu:(h'.í _).get? h'.objs.O=@(seqObj "list" vs.J 0):=X9 _ rfl;show X0 (Yd (Y0 slot_list_sort #[_,xu,rfl] entry_list_sort (list_sort_treeK strKind_oneLt xu hv.keysOf (λv₁ v₂ ac e=>keyKind_strs (by rw[<-e];show hv)) h64' λfj a1 a2=>#[_,rfl,?_]) (args_list_sort _)));let#[ss',h1,h2,h3]:=sorted_out_str hv a1 a2;let#[e,he]:=sortedHeap_at xu;show X6 #[_,rfl,h _ d tk _ e _ ss' (λb o q=>?_) (Nat.le_of_lt hsz) he h1 (h2.H hp) h3];let hb:=Xg (dw b o q);rw[sortedHeap_old (Xl hb) (by rw[size_push'];show Z7 hb)];show X4 _ (dw b o q)
end
end Sw
namespace Q
open PySem PySem.Spec PyProof.Rows L2 L3 Sw
section
def Inv.dr(I:L2.Inv X a8 σ H s):L2.Inv X a8 σ H {s with drawn:=d}:=#[I.ok,I.os,I.bare,I.ò,I.loc,I.cell,I.free,I.freeC,I.pin,I.ô,I.len]
def _lX(X:Cx)(f:Value)(r:List Str->Hp->VK->Prop):Prop:=
 ∀(a8:LA9) (s:Shared) (σ:L2.St) (H:Hp) (b:Addr) (ls:List Str) (Q:VK),L2.Inv X a8 σ H s->Has X.â X.w s.G b ls->r ls H Q->∅ (call f [.I b]) (EP X a8 σ Q) X.xe s
def _lY(K:Frag)(r:List Str->Hp->VK->Prop):List V->Hp->VK->Prop:=λxs H Q=>∃p ss,xs=[.I p]/\SqL K H p (ss.E V.e)/\ss.B<4000/\r (dd ss) H Q
def _lZ{id}(hc:X.calm=true)(hf:_lX X (.x id) r)(hg:Gl X x)(hm:X.mg x=none)(hv:bootBuiltins x=@(.x id))(yc:Gl X "set")(vm:X.mg "set"=none)(hv2:bootBuiltins "set"=@(.h "set"))
  (ha:PE X e t) (hn:x≠"__name__"<|>ŕ) (fu:Abd x<|>ŕ) (my:("set":Str)≠"__name__"<|>ŕ) (hdb2:(("set":Str)==("__debug__":Str))=false<|>ŕ)
  (he:Abs e [] X<|>Ŕ):
  PE X (.þ (.ç x p) [.þ (.ç "set" p2) [e] [] cj] [] pos) (fun σ H Q=>t σ H λv H1=>_lY X.K r [v] H1 Q):=by
 intro a8 s σ H Q I h;show Z2 (JK I hg hm hv (PyProof.Rows.callWith_builtin1 ?_ rfl rfl) hn fu);change wpAny _ _ (spliced (_::[])) _ _ s;show Z1 (Z2 (JK I yc vm hv2 (Y6 (thn (x3 ha x5 he cj a8 s σ H (λvs H1=>_lY X.K r vs H1 Q) I ?_) λus s1 #[vs,H1,I1,r1,q1]=>?_) he rfl) my hdb2))
 .show h
 let#[b,ss,rfl,hq,hl,q]:=q1;let#[u,rfl,rx]:=wZ r1;cases rx;let#[ab,r',pl,hz]:=I1.list hq;let ai:=r'.B;rw[X3]at ai hz;show _ls (I1.ok.hd hc) pl.isList (~~~(_iA r')) (by simp;ext scanBound;lia) λh' tk hS dw=>?_
 let I2:L2.Inv X a8 σ H1 {s1 with heap:=h',toks:=tk}:=I1.kept λb u q=>dw b u (Xg q) q
 show Calls.spliced_nil (hf a8 _ σ H1 _ _ Q I2 hS q)
def _l0(hc:X.calm=true):_lX X (.x "sorted") (λls H Q=>ls.B<64/\∀l,H l=none->Q (.I l) (upd H l (.S ((xv ls).E V.e)))):=by
 intro a8 s σ H b ls Q I hS h;show _lW (I.ok.hd hc) hS h.1 λh' d tk l e out ss dw hl hg h1 h2 h3=>?_
 let e1:=_iz h2 h3;subst e1;let hz:(xv ls).B<=sizeLine:=by rw[(_ir ls).length_eq,sizeLine_eq];lia
 show#[.I l,_,Inv.dr (I.laid (t':=tk) dw hl ?_),rfl,h.2 l (I.ô.û hl)];show#[by rw[X3];show hz,out.p,e,_iB h1,~~~hg]
end
section
variable {K:Frag}
def _l1(h:z>ddS ss):z>ss:=by
 let:∀(l ae:List Str),z>l.foldl (λl k=>if l.è (· == k)then l else l++[k]) ae->z>ae\/z>l:=by
  intro l
  induction l with
  | nil=>intro ae h;show .R h
  | cons k l ih=>
   intro ae h;let h\/h:=ih _ h
   .dsimp only at h
    split at h
    .show .R h
    .let h\/h:=aA h
     .show .R h
     .show .Z (aC h▸X5)
   .show .Z (_ad _ h)
 let h\/h:=this ss [] h
 .symm
 .show h
def rSS(K:Frag):List V->Hp->VK->Prop:=_lY K λls H Q=>ls.B<64/\∀l,H l=none->Q (.I l) (upd H l (.S ((xv ls).E V.e)))
#where in
def _l2:Ad1 K (λv H Q=>rSS K [v] H Q) _lc:=by
 intro H x s Q ok hf k;unfold _lc at hf;dsimp only at hf;cases hx:x.d with
 | lst ds=>
  rw[hx]at hf;dsimp only at hf;let#[l,xs,bs,ev,q3,r3,_]:=items ok (.R hx);let q3:LsR K H l xs:=by let#[_,z]\/#[z,_]:=q3;show z;rw[hx]at z;cases z
  cases hs:Kq ds with
  | some ss=>
   rw[hs]at hf;dsimp only at hf
   split at hf
   .revert hl;cases _aa hf;let#[e1,e2]:=_iD hs r3;subst e1;show#[l,ss,by rw[ev],Jk q3,.q,Nat.lt_of_le_of_lt (_lm ss) hl,λp hp=>(k _ _ rfl rfl (V0 hp (_iF λz hz=>e2 z (_l1 ((_ir _).mem_iff.mp hz))) nofun))]
   .cases hf
  |none=>rw[hs]at hf;cases hf
 |_=>rw[hx]at hf;cases hf
def _l3(hK:X.K=Z.K)(hc:X.calm=true)(ha:QV X Z q a ea)(hm:X.mg "sorted"=none)(vm:X.mg "set"=none)(hg:Gl X "sorted"<|>Ŕ)(yc:Gl X "set"<|>Ŕ)(he:Abs ea [] X<|>Ŕ):
  QE X Z q (cF1 _lc a) (.þ (.ç "sorted" p) [.þ (.ç "set" p2) [ea] [] cj] [] pos):=
 q9 (_lZ hc (_l0 hc) hg hm rfl yc vm rfl ha (he:=he)) fun σ H Q h=>by
  let:=_eV _l2 h
  rwa [hK]
end
end Q
namespace Q
open PySem PySem.Spec PyProof.Rows L2 L3
section
variable {X:Cx}{Z:Fx0}{K:Frag}{H:Hp}{q g:Bool}{a:Ex}{e:Expr}{p2 pos:Pos}{x:Str}{d:D}{ds:List D}{v:V}{vs:List V}
def _l4(o:Obj)(xs:List V):Prop:=o.cls=.h "tuple"/\o.dict=none/\∃ab n,o.data=.seq ab n/\ab.O<=sizeLine/\Vals xs ab.p
def _l5{b:Addr}{o:Obj}(h:K.U b=@o)(m:_l4 o vs):SqT K H b vs:=by
 let#[m1,m2,ab,n,m3,m4,m5]:=m;show .Z #[o,ab,n,h,m1,m2,m3,m4,m5]
def _l6:RepA K H g [] [] []:=by ext RepA;show#[rfl,rfl]
def ZW(h:RepL K H g d v [])(r:RepA K H g ds vs []):RepA K H g (d::ds) (v::vs) []:=by
 ext RepA;show#[v,vs,[],[],rfl,rfl,h,r]
def _l7{b:Addr}(h:SqT K H b vs)(r:RepA K H g ds vs []):RepL K H g (.M ds) (.I b) []:=by
 ext RepL;show#[b,vs,rfl,h,r]
def _l8(K:Frag)(mg:Str->Option Value)(x:Str)(d:D):Prop:=∃v,Cst mg x v/\∀H,RepL K H false d v []
def _l9(c:_l8 Z.K X.mg x d)(hg:Gl X x<|>Ŕ)(hd:Abd x<|>ŕ):QE X Z true (cC d) (.ç x pos):=by
 let#[v,c,r]:=c;show q_C (QY c hg hd) r
end
end Q
namespace Q
open PySem
def _ma:Sd->Option Sd:=λx=>match x.2 with
 |.S xs=>if qY x then @(.rt,.S xs.reverse)else none|_=>none
def _mb:D->D->Option D:=λy x=>match y with
 |.ÿ kvs=>if qV x=true/\unm kvs=true/\D.pures (kvs.E (·.2))=true then xk kvs x else none|_=>none
def _mc(a b:Ex):Ex:=λE=>bnd (a E) λE x=>bnd (b E) λE y=>val E ((_mb x.2 y.2).E λd=>(.dp,d))
end Q
namespace PySem
section
variable {prog:Program}{w:World}{A:Around}{E:VP9}{s:Shared}
def _md:typeLookup (.h "list_reverseiterator") "__len__"=pure none:=am_miss_of_fast (by decide +kernel)
def _me:typeLookup (.h "list_reverseiterator") "__length_hint__"=pure (@(.x "list_reverseiterator.__length_hint__")):=by
 rw[typeLookup_type,builtinLookup_eq_fast];let h:fastLookup "list_reverseiterator" "__length_hint__"=@(@(.x "list_reverseiterator.__length_hint__")):=by kernel_rfl
 dsimp[h]
def Wz{α:Type}{c:Prop}[Decidable c]{M:Model}{t e:Sem α}{Q:α->Shared->Prop}(h:¬c)(k:wpAny M A e Q E s):wpAny M A (if c then t else e) Q E s:=by rw[Xe h];show k
def _mf{α:Type}{c:Prop}[Decidable c]{M:Model}{t e:Sem α}{Q:α->Shared->Prop}(h:c)(k:wpAny M A t Q E s):wpAny M A (if c then t else e) Q E s:=by rw[Xa h];show k
def _mg{r l:Addr}{i:Int}{Q:Bool->Shared->Prop}(hr:s.G.IsRevIter r l i)(h:Q false s):wpAny (model prog w) A (Builtin.List.listLengthHint (.I r)) Q E s:=by
 let hT:=hr.õ;ext Builtin.List.listLengthHint;show X0 (Yz hT _md ?_);right;show Wz .q (Wz .q (X0 (Yz hT _me ?_)));let sp:splitId "list_reverseiterator.__length_hint__"=@("list_reverseiterator","__length_hint__"):=by decide +kernel
 right;dsimp[sp];show X0 (Zq (b:=true) hT (by first|show F.sub_lri_self|show isSubtype_self _|rfl) ?_);show Wz .q (_mf (by decide +kernel) (Wz .q (X6 h)))
def _mh{Q:VP9}{I l:Addr}{items:Array Value}(hh:A.ü=none)(hI:s.G.IsRevIter I l (items.O - 1))(hl:s.G.IsList l items)(be:l≠I)(hz:items.O<=sizeLine)
  (h:∀(h':Heap) (tk:Nat) (ae:Array Value) (c:Nat),(∀b o,b≠I->s.G.get? b=@o->h'.get? b=@o)->h'.get? ↥s=some {cls:=.h "list",data:=.seq ae c}->ItemsOf (λi v=>items[items.O - 1 - i]?=@v) ae items.O->Q (.I ↥s) {s with heap:=h',toks:=tk}):
  wpAny (model prog w) A (call (.h "list") [.I I]) Q E s:=by
 show callType_codes (Q₁:=λobj s₁=>obj=Value.I ↥s/\s₁={s with heap:=s.G.í {cls:=Value.h "list",data:=Data.seq (List.J [])}}) F.called_list (F.typeCall_list_1 _) F.entry_list_init (code_list_new _ #[rfl,rfl]) ?_;rintro obj s₁ ⟨rfl,rfl⟩;let fi:(s.G.í {cls:=Value.h "list",data:=Data.seq (List.J [])}).get? ↥s=some {cls:=Value.h "list",data:=Data.seq (List.J [])}:=X9 _ rfl;let hT:Shared.TypeIs {s with heap:=s.G.í {cls:=Value.h "list",data:=Data.seq (List.J [])}} (.I ↥s) "list":=#[_,fi,rfl];let hI':(s.G.í {cls:=Value.h "list",data:=Data.seq (List.J [])}).IsRevIter I l (items.O - 1):=hI.at λo e=>X4 _ e
 show#[hT,F.args_list_init_2 _ _,?_];let hm:∃n,Obj.mapSeq (λ_=>(List.J [])) ({cls:=Value.h "list",data:=Data.seq (List.J [])}:Obj)={cls:=Value.h "list",data:=Data.seq (List.J []) n}:=#[_,by ext Obj.mapSeq;rfl];let#[n0,hm]:=hm;let rh:↥s≠I:=λe=>by
  let#[o,ho,_]:=hI;show absurd (Xg ho) (by rw[e];show Yn _)
 let vp:↥s≠l:=λe=>by
  let#[o,ho,_]:=hl;show absurd (Xg ho) (by rw[e];show Yn _)
 ext Builtin.«list.__init__»;show Wz (nofun) (Wz (λz=>absurd z (by simp)) (X0 (PyProof.Rows.listItems_at fi rfl (X0 (PyProof.Rows.listUpdate_at fi rfl ?_)))));let sb:=Xw (s.G.í {cls:=Value.h "list",data:=Data.seq (List.J [])}) ↥s (Obj.mapSeq (λ_=>(List.J [])));let hS:=Xx (Obj.mapSeq (λ_=>((List.J []):Array Value))) fi rfl;rw[hm]at hS;generalize (s.G.í {cls:=Value.h "list",data:=Data.seq (List.J [])}).update ↥s (Obj.mapSeq (λ_=>(List.J [])))=h1 at sb hS;let hI1:h1.IsRevIter I l (items.O - 1):=hI'.at λo e=>sb.extBut I o (Ne.i rh) e
 let ib:h1.IsList l items:=by
  let#[o,ho,r]:=hl;show#[o,sb.extBut l o (Ne.i vp) (X4 _ ho),r]
 show X0 (wpAny_letGo ?_);change wpAny _ _ (Builtin.List.listExtendWith (.I ↥s) (.I I) .ã) _ _ _;ext Builtin.List.listExtendWith;let hT1:Shared.TypeIs {s with heap:=h1} (.I I) "list_reverseiterator":=hI1.õ;show X0 (wpAny_typeOf hT1 (Wz ?_ ?_))
 .let e1:Builtin.List.listSameRef (.I ↥s) (.I I)=false:=by
   change(↥s==I)=false;show Yf rh
  rw[e1];decide
 show X0 (wpAny_pyIter_revIter hI1 (X0 (Yd (_mg hI1 ?_))));show Wz .q ?_;let W:=(Walks.listRev (prog:=prog) (w:=w) (A:=A.in1.in1) (by simp[hh]) I l be items).toS;show X6 #[plainId_quiet (by decide +kernel) _,?_];show codeAny_extend_loopS (A:=A.in1) W hz ↥s ?_ .ã (items.O - 0) 0 _ (List.J []) n0 rfl (Ya _) #[Ya _,~~~hI1,ib] hS #[rfl,λj v e=>by simp at e] λs' lr c' pr lw av=>?_
 .dsimp[Yp,Y8,or_false,not_or];show#[rh,vp]
 .let#[h2,g',d',oz,sy]:=s';let eg:g'=s.gens:=pr.gens;let ed:d'=s.drawn:=pr.drawn;let eo:sy=s.os:=pr.os;subst eg;subst ed;subst eo;show#[rfl,h h2 oz lr c' (λb o hb e=>?_) lw av];let bf:=Xg e;show pr.G b o ?_ (sb.extBut b o (Xl bf) (X4 _ e));dsimp[Yp,Y8,or_false,not_or];show#[Xl bf,hb]
end
end PySem
namespace Q
open PySem PySem.Spec PyProof.Rows L2 L3
section
variable {X:Cx}{Z:Fx0}{pn:List Nat}{q:Bool}{a b:Ex}{e ea:Expr}{p pos:Pos}
def _mi{ta:TE}{p2 cj:Pos}(ha:PE X ea ta)(su:X.mg "reversed"=none)(xb:X.mg "list"=none)(hc:X.calm=true<|>Ŕ)(qd:Gl X "reversed"<|>Ŕ)(ul:Gl X "list"<|>Ŕ)
  (b6:Abs ea [] X<|>Ŕ) (bu:Abb cj [] X<|>Ŕ)
  (jp:starEach [.þ (.ç "reversed" p2) [ea] [] cj] X.Y=(false,eval (.þ (.ç "reversed" p2) [ea] [] cj) X.Y)::starEach [] X.Y<|>Ŕ) (mo:Abb pos [] X<|>Ŕ):
  PE X (.þ (.ç "list" p) [.þ (.ç "reversed" p2) [ea] [] cj] [] pos) (fun σ H Q=>ta σ H λv H1=>∃l ys,[v]=[.I l]/\SqL X.K H1 l ys/\∀pp,H1 pp=none->Q (.I pp) (upd H1 pp (.S ys.reverse))):=by
 intro a8 s σ H Q I h;show Z2 (JK I ul xb Qq ?_);show Y6 ?_ jp mo;rw[jp];change wpAny _ _ (spliced ((false,eval (.þ (.ç "reversed" p2) [ea] [] cj) X.Y)::backTo pos (starEach [] X.Y))) _ _ s;show Z1 (thn (Q:=λu s2=>∃(H1:Hp) (I0 l:Addr) (ys:List V) (ab:List Value),u=.I I0/\L2.Inv X a8 σ H1 s2/\x8 X a8 H1 I0/\s2.G.IsRevIter I0 l (ab.J.O - 1)/\s2.G.IsList l ab.J/\l≠I0/\Vals ys ab/\ys.B<=sizeLine/\∀pp,H1 pp=none->Q (.I pp) (upd H1 pp (.S ys.reverse))) ?_ λu s2 hu=>?_)
 .show Call_ (JK I qd su boot_reversed (Y6 (thn (x3 ha x5 b6 cj a8 s σ H (λvs H1=>∃l ys,vs=[.I l]/\SqL X.K H1 l ys/\∀pp,H1 pp=none->Q (.I pp) (upd H1 pp (.S ys.reverse))) I ?_) λus s1 #[vs,H1,I1,r1,l,ys,e,hq,q1]=>?_) b6 bu))
  .show h
  .subst e;let#[u,rfl,rx]:=wZ r1;cases rx;let#[ab,r',pl,hz]:=I1.list hq;show call_reversed_list pl.isList #[H1,↥s1,l,ys,ab,rfl,I1.kept (t':=s1.ë) (λb o e=>X4 _ e),I1.fpOk (X8 _) (I1.ô.û (X8 _)),#[_,X9 _ rfl,rfl,rfl],pl.isList.í _,?_,r',hz,q1];let#[o,ho,_]:=pl.isList;show Xl (Xg ho)
 .let#[H1,I0,l,ys,ab,rfl,I2,f0,hri,hls,be,hv,hz,hq]:=hu;show thn (Calls.spliced_nil (Q:=λus s3=>us=[]/\s3=s2) #[rfl,rfl]) ?_;rintro us s3 ⟨rfl,rfl⟩;show _mh (I.ok.hd hc) hri hls be (by rw[Xf,<-hv.B];show hz) λh' tk ae c kp e fm=>?_
  let fT:x8 X a8 H1 ↥s3:=I2.fpOk (X8 _) (I2.ô.û (X8 _));let I3:L2.Inv X a8 σ H1 {s3 with heap:=h',toks:=tk}:=_dO [I0] I2 (λb o hb ee=>kp b o (λz=>hb (by rw[z];show X5)) ee) (λb hb=>by rw[aC hb];show f0);let hva:Vals ys.reverse ae.p:=by
   let#[hs,hg]:=fm;let hs:ae.O=ab.B:= ~~~hs
   rw[Xf]at hg;let hl:=hv.B;show _hM (by simp[hs,hl]) λi x u ex eu=>?_
   rw[Ye]at eu;let hi:i<ab.B:=by rw[<-hs];show(Array.getElem?_eq_some_iff.mp eu).1
   let h2:=hg i u eu;rw[List.getElem?_reverse .q]at ex;let#[u',hu',ru']:=hv.get ex;rw[List.getElem?_toArray,show ab.B - 1 - i=ys.B - 1 - i by lia,hu']at h2;cases _aa h2;show ru'
  let I4:=_c9 (a:=↥s3) (o:=.S ys.reverse) I3 fT.1 fT.2.1 fT.2.2.2.1 fT.2.2.2.2.1 fT.2.2.2.2.2 (show ObjOk X.â X.w _ h' _ (.S ys.reverse)from#[by rw[List.length_reverse];show hz,ae.p,c,hva,~~~e]);show#[.I ↥s3,_,I4,rfl,hq _ fT.1]
def _mj{g:Bool}{K:Frag}{H:Hp}:∀{ds:List D} {xs:List V} {as:List Addr},RepA K H g ds xs as->∃tz,RepA K H g ds.reverse xs.reverse tz/\∀b>tz,b>as
 |[],xs,as,h=>by
  unfold RepA at h;let#[rfl,rfl]:=h;show#[[],by ext RepA;show#[rfl,rfl],λ_ z=>z]
 |d::ds,xs,as,h=>by
  unfold RepA at h;let#[x,r,bs,cs,rfl,rfl,h1,h2]:=h;let#[tz,i1,i2]:=_mj h2;show#[tz++bs,by rw[List.reverse_cons,List.reverse_cons];show RepA.snoc h1 i1,λb hb=>?_];let z\/z:=aA hb
  .show _ab _ (i2 b z)
  .show _ac _ z
def _mk(K:Frag):V->Hp->VK->Prop:=λv H Q=>∃l ys,[v]=[V.I l]/\SqL K H l ys/\∀pp,H pp=none->Q (.I pp) (upd H pp (.S ys.reverse))
#where in
def _ml{K:Frag}:Ad1 K (_mk K) _ma:=by
 intro H x s Q ok hf k;unfold _ma at hf;dsimp only at hf
 split at hf
 .revert ds e
  split at hf
  .revert hl;cases _aa hf;let#[l,xs,bs,ev,q3,r3,h3]:=J0 ok (.R e) hl;let q3:LsR K H l xs:=by let#[_,z]\/#[z,_]:=q3;show z;rw[e]at z;cases z
   let#[tz,i1,i2]:=_mj r3;show#[l,xs,by rw[ev],Jk q3,λp hp=>k #[.rt,.S ds.reverse,.I p,p::tz] _ rfl rfl (V0 hp i1 λb hb=>h3 b (i2 b hb))]
  .cases hf
 .cases hf
def _mm{p2 cj:Pos}(ha:QV X Z q a ea)(su:X.mg "reversed"=none)(xb:X.mg "list"=none)(hK:X.K=Z.K<|>Ŕ)(hc:X.calm=true<|>Ŕ)(qd:Gl X "reversed"<|>Ŕ)(ul:Gl X "list"<|>Ŕ)
  (b6:Abs ea [] X<|>Ŕ) (bu:Abb cj [] X<|>Ŕ)
  (jp:starEach [.þ (.ç "reversed" p2) [ea] [] cj] X.Y=(false,eval (.þ (.ç "reversed" p2) [ea] [] cj) X.Y)::starEach [] X.Y<|>Ŕ) (mo:Abb pos [] X<|>Ŕ):
  QE X Z q (cF1 _ma a) (.þ (.ç "list" p) [.þ (.ç "reversed" p2) [ea] [] cj] [] pos):=
 q9 (_mi ha su xb hc qd ul b6 bu jp mo) fun σ H Q h=>_eV (r:=_mk X.K) (hK▸_ml) h
end
section
variable {P:Program}{w:PySem.World}{K:Frag}{mg:Str->Option Value}{base h:Heap}{x:Str}{st:Stmt}{ps:List Str}{k:Nat}{sp:Sp}
def _mn(K:Frag)(x qual:Str)(st:Stmt)(f:Addr)(fd:FuncData):Prop:=∃(oc:Value) (od:Option Addr) (dV kV i5 pm:Value) (an:Option Addr) (cg ct:Value) (mr:Array (Option Value)),
  fd=PySem.W.fnOf x qual (xQ st) (zj st) (jV st) dV kV i5 pm an cg ct/\K.U f=@#[oc,od,.func fd,mr]/\PySem.W.codeIn K cg qual=true
def _mo{qual f fd N}(F:_mn K x qual st f fd)(S:FnScope N ps (jV st))(len:∀vs H Q E,sp vs H Q E->vs.B=ps.B)
  (i':∀cg (A) (outer) (s) (H) (vs) (Q) (E),Room k (A.deeper (envOfC qual (jV st) ↥s f cg))->sp vs H Q E ->
   ∃t,PSs (Cx.ex' (JV (CXE P w) P w K mg base N qual (jV st) f cg A outer s H E) E) (zj st) t/\t {nx:=λ_ H'=>Q .j H',rt:=Q} (L2.start N vs) H):FnOk P w K mg base (CXE P w) (k+1) f fd ps sp:=by
 let#[oc,od,dV,kV,i5,pm,an,cg,ct,mr,rfl,lk,jb]:=F;show _bM lk jb S len λA outer s H vs Q E hr mw=>?_
 let#[t,h,q]:=i' cg A outer s H vs Q E hr mw;show#[t,λa8 s' σ H' D I hw=>wpAny_mono (h a8 s' σ H' D (I.wish _) hw) (λf ln z=>z.unwish) λe ln z=>_d3 z,q]
def GfD(K:Frag)(x:Str)(st:Stmt):Prop:=∃(f dt:Addr) (oc:Value) (od:Option Addr) (kV dc pm:Value) (an:Option Addr) (cd ct:Value) (sl:Array (Option Value)) (ot:Obj) (n:Nat),nsIn K mainGlobals x=some @(.I f)/\K.U f=@#[oc,od,.func (PySem.W.fnOf x x (xQ st) (zj st) (jV st) (.I dt) kV dc pm an cd ct),sl]/\PySem.W.codeIn K cd x=true/\PySem.W.keepIn K (.I f)=true/\K.U dt=@ot/\ot.data=.seq %[.ã|0] n
def GfD.mk{f dt oc od kV dc pm an cd ct sl ot n}(a:nsIn K mainGlobals x=some @(.I f))(l:K.U f=@#[oc,od,.func (PySem.W.fnOf x x (xQ st) (zj st) (jV st) (.I dt) kV dc pm an cd ct),sl])(c:PySem.W.codeIn K cd x=true)(k:PySem.W.keepIn K (.I f)=true)(e1:K.U dt=@ot)(e2:ot.data=.seq %[.ã|0] n):GfD K x st:=#[f,dt,oc,od,kV,dc,pm,an,cd,ct,sl,ot,n,a,l,c,k,e1,e2]
end
def _mp{fd dt ot n}(hd:fd.defaults=.I dt)(h1:fd.params.posonlyargs=[])(h2:fd.params.args.E (·.arg)=(["one","other","pair"]:List Str))(h3:fd.params.vararg=none)(h4:fd.params.kwonlyargs=[])(h5:fd.params.kwarg=none)
  {s} (hs:s.G.get? dt=@ot) (ht:ot.data=.seq %[.ã|0] n) (a b):BindsTo s fd #[[a,b],[]] [("one",a),("other",b),("pair",.ã)]:=by
 intro M A E Q q;ext bindArgs;generalize fd.params=pm at *;let#[]:=pm;dsimp only at h1 h2 h3 h4 h5 ⊢;subst h1 h3 h4 h5;rw[h2,hd];show X0 (X6 (X0 (wpAny_seqItems hs ht (wpAny_of_eq (by rfl) q))))
section
variable {P:Program}{w:PySem.World}{K:Frag}{mg:Str->Option Value}{base h:Heap}{x:Str}{st:Stmt}{k:Nat}{sp:Sp}
def _mq{p:List Value->Prop}:∀us,us.B=1->(∀a,p [a])->p us:=λus h f=>by
 let#[a,rfl]:=List.length_eq_one_iff.mp h;show f a
def _mr{p:List Value->Prop}:∀us,us.B=2->(∀a b,p [a,b])->p us:=λus h f=>by
 let _\/#[a,us]:=us
 .cases h
 .show _mq (p:=λus=>p (a::us)) us (Zs h) (f a)
end
abbrev xk8(K:Frag)(td ty:TE):TE:=fun σ H Q=>td σ H λx H1=>ty σ H1 λy H2=>∃(a b:Addr) (k:Kd) (es:List Ent) (ep:Nat) (v:V) (p:Addr×Value),x=.I a/\y=.I b/\H2 a=@(kY a es ep)/\(es.E (·.1)).l/\(∀x>es,PuR K H2 x.1.1 (.I x.2.1))/\PuR K H2 k.1 (.I b)/\atKey es k=@p/\RelV v p.2/\Q v H2
section
def _ms(hu:X.A.u+64<cLine)(ho:PE X o td)(hi:PE X i ty)(hs:_cN i):PE X (.ì o i pos) (xk8 X.K td ty):=by
 intro a8 s σ H Q I h;show _cO PySem.F.slot_dict_getitem.U hs (thn (ho a8 s σ H _ I h) λu s1 hz=>?_);let#[x,H1,I1,rx,q1]:=hz;show thn (hi a8 s1 σ H1 _ I1 q1) λiv s2 hz=>?_
 let#[y,H2,I2,ry,a,b,k,es,ep,v,p,ex,ey,d,hn,hks,hk,hp,rv,q2]:=hz;subst ex ey;obtain rfl:u=Value.I a:=rx;obtain rfl:iv=Value.I b:=ry;let dd:=_jd I2 d hn hks;show#[dd.õ,wpAny_getItem_heap (_jf hu) (Wx I2 hk rfl) dd hp #[v,H2,I2.tok _,rv,q2]]
def _mt(hu:X.A.u+64<cLine)(ha:QV X Z qa a ea)(hb:QV X Z true b eb)(hs:_cN eb)(hK:X.K=Z.K<|>Ŕ):QV X Z qa (_mc a b) (.ì ea eb pos):=
 q9 (hK▸_ms hu ha hb hs) fun σ H Q au=>ex8 au λE L r m w hc xc k=>by
  show qK m w (hc) xc λE1 s h1 x L1 H1 e1 e2 m1 w1 ok fr sr st sm=>(qK m1 w1 h1 (xc.step st) λE2 s2 h2 y L2 H2 e3 e4 m2 w2 gj og nw bn cw=>?_)
  let#[z,hz0,rfl]:=xK h2;let#[d,hz,rfl]:=Option.map_eq_some_iff.mp hz0;unfold _mb at hz;cases hy:s.2 with
  | dct kvs=>
   rw[hy]at hz;dsimp only at hz
   by_cases hc:qV s2.2=true/\unm kvs=true/\D.pures (kvs.E (·.2))=true
   .rw[Xa hc]at hz;let#[b,eb,pb]:=_jm gj (e4▸hc.1);let i6:qJ 6 y.d=true:=by
     let:qV y.d=true:=by rw[e4];show hc.1
     unfold qV at this;rw[Bool.é]at this;show this.1
    let h:=RepO.wk (Q1 ok fr bn (cw rfl)).1;rw[e2,hy]at h;let#[l,xs,bs,e,rp,dc,_]:=h;let#[es,ep,d1,d2,d3,d4,d5,d6,d7]:=DcA.un dc hc.2.1;let#[g1,g2]:=_kV (k:=#[y.d,i6]) rp d5 d7 hc.2.2;let hyk:(#[y.d,i6]:Kd).1=s2.2:=e4;cases kr:atKey es #[y.d,i6]with
    |none=>grind
    |some p=>
     let#[d',v',q1,q2,q3,q4]:=g1 p kr;rw[hyk,hz]at q1;cases _aa q1;show#[l,b,_,es,ep,v',p,e,eb,d1,d4,d6,pb,kr,q2,k _ _ rfl #[.dp,d,v',[]] L2 H2 rfl rfl m2 w2 q3 (nofun) (nofun) (st.H bn) λhq=>kX (sm hq) (cw rfl)]
   .rw[Xe hc]at hz;cases hz
  |_=>rw[hy]at hz;cases hz
end
end Q
namespace Q
open PySem
def _mu(f:Fn)(cs:List Ex):Ex:=λE=>bnd (vW cs E) λE xs=>match f (letAll (xs++[(.X,.j)]))with
 |some (.ok _ y)=>@(.ok E y)|some (.exc _ c)=>@(.exc E c)|none=>none
end Q
namespace Q
open PySem PySem.Spec PyProof.Rows L2 L3
def _mv(P:Program)(w:PySem.World)(K:Frag)(mg:Str->Option Value)(base:Heap)(k:Nat)(x:Str)(ps:List Str)(sp:Sp):Prop:=
 ∃(f:Addr) (fd:FuncData),FnOk P w K mg base (CXE P w) k f fd ps sp/\Binds K fd ps [.ã]/\PySem.W.keepIn K (.I f)=true/\mg x=@(.I f)
def GfD.n{P w K mg base h x st k sp}(g:GfD K x st)(X:K.In h)(G:h.Ns mainGlobals mg)(ok:∀{f fd},_mn K x x st f fd->FnOk P w K mg base (CXE P w) k f fd ["one","other","pair"] sp)
  (h1:(xQ st).posonlyargs=[]<|>Ŕ) (h2:(xQ st).args.E (·.arg)=(["one","other","pair"]:List Str)<|>Ŕ) (h3:(xQ st).vararg=none<|>Ŕ) (h4:(xQ st).kwonlyargs=[]<|>Ŕ) (h5:(xQ st).kwarg=none<|>Ŕ):_mv P w K mg base k x ["one","other","pair"] sp:=by
 let#[f,dt,oc,od,kV,dc,pm,an,cd,ct,sl,ot,n,a,l,c,kp,e1,e2]:=g;show#[f,_,ok #[oc,od,.I dt,kV,dc,pm,an,cd,ct,sl,rfl,l,c],λs us kin hl=>?_,kp,Ze X G a];let hl:us.B=2:=by rw[Xb]at hl;show Nat.add_right_cancel hl
 obtain⟨u1,u2,rfl⟩:∃a b,us=[a,b]:=_mr (p:=λus=>∃a b,us=[a,b]) us hl λa b=>#[a,b,rfl]
 show _mp rfl h1 h2 h3 h4 h5 (kin dt _ e1) e2 u1 u2
def _mw{X x p pos e es t ps sp k E}(D:_mv X.â X.w X.K X.mg X.ò k x ps sp)(hr:Room k X.A)(g:xw X E)(ha:PA X (e::es) t)(hg:Gl X x<|>Ŕ)(fu:Abd x<|>ŕ)
  (he:Abs e es X<|>Ŕ) (bu:Abb pos es X<|>Ŕ):
  PE X (.þ (.ç x p) (e::es) [] pos) (ww9 sp [.j] E t):=by
 let#[f,fd,F,b,kp,m]:=D;show _bF F hr hg m kp b (.ä rfl .nil) (_d1 g) ha fu he bu
section
variable {X:Cx}{Z:Fx0}{q:Bool}{e:Expr}{es:List Expr}{p pos:Pos}
def _mx{k n x ps f cs}(D:_mv X.â X.w X.K X.mg X.ò k x ps (spF Z.K Z.mg n f))(hr:Room k X.A)(g:xw X Z.EX)(ha:QA X Z q cs (e::es))(hn:cs.B+1=n<|>Ŕ)(hg:Gl X x<|>Ŕ)(fu:Abd x<|>ŕ)
  (he:Abs e es X<|>Ŕ) (bu:Abb pos es X<|>Ŕ):
  QE X Z false (_mu f cs) (.þ (.ç x p) (e::es) [] pos):=q9 (_mw D hr g ha hg fu he bu) fun σ H Q au=>ex8 au λE L r m w hc xc kk=>
 _ge m w (hc) xc λE1 ys h1 hl xs L1 H1 e1 m1 w1 st sm=>by
  let ai:xs.B+1=n:=by rw[<-hn,<-hl,<-e1,X3]
  cases hf:f _ with
  | none=>rw[hf]at h1;cases h1
  | some fr=>
   rw[hf]at h1;let#[wl,sl]:=_gt w1
   show let nn:Sl:=#[.X,.j,.j,[]];?_
   let ev:xs.E Sl.v++[.j]=(xs.E Sl.let++[nn]).E Sl.v:=by rw[Xd,Xi];rfl
   let rn:RepL Z.K H1 true _root_.Q.D.j V.j []:=#[rfl,rfl];let wn:World Z.K H1 ((xs.E Sl.let++[nn]).E some):=by
    rw[Xd];show World.comm (wl.left.consPu rn rfl)
   let pm:(@nn::((xs.E Sl.let).E some++L1)).á ((xs.E Sl.let++[nn]).E some++L1):=by
    rw[Xd,Xs];show List.perm_middle.i
   let stn:Step H1 ((xs.E Sl.let).E some++L1) H1 (@nn::((xs.E Sl.let).E some++L1)):=#[λ_ _ z _=>z,λa z=>.R (by simpa [Sl.æ,nn]using z),λa z=>.R (by simpa [Sl.ú,nn]using z)];let wn2:=World.perm (wl.consPu (x:=nn) rn rfl) pm;let ma:=sl.H (stn.H (Step.î.perm (List.á.î _) pm));rw[ev];show#[xs.E Sl.let++[nn],fr,rfl,by rw[Xb,X3];show ai,wn,?_,λE' c ee C H' hm s'=>?_,λE' a ee y H' e2 e3 w' s'=>?_]
   .rw[<-e1]at hf;rw[<-hf,Xd];ext letAll;rw[Xd,Xi,Xi];rfl
   .subst ee;cases _aa h1;let#[w2,s2]:=stay wn2 s' #[λ_ z=>(nomatch z),Xr,λ_ z=>(nomatch z)];show xc _ _ rfl C L1 H' hm m1 w2 ((st.H ma).H s2)
   .subst ee;cases _aa h1;let#[w2,s2]:=stay wn2 s' w';show kk _ _ rfl y L1 H' e2 e3 m1 w2 ((st.H ma).H s2) nofun
end
@[irreducible] noncomputable def ShE (X:Cx) (Z:Fx0) (q:Bool) (c:Ex) (e:Expr):Prop:=QE X Z q c e
@[irreducible] noncomputable def ShA (X:Cx) (Z:Fx0) (q:Bool) (cs:List Ex) (es:List Expr):Prop:=QA X Z q cs es
@[irreducible] noncomputable def ShS (X:Cx) (Z:Fx0) (pn:List Nat) (c:Sm) (st:Stmt):Prop:=QS X Z pn c st
@[irreducible] noncomputable def ShB (X:Cx) (Z:Fx0) (pn:List Nat) (c:Sm) (ss:List Stmt):Prop:=QSs X Z pn c ss
end Q
namespace Q
open PySem
noncomputable def mkB:D×D:=(.e "b",.j)
def xY(ks:List Int):D:=.ÿ (mkB::ks.E λk=>(.C k,.bl true))
def _my : List (D × D) -> Option (List Int)
  |[]=>⇑[]|(.C k,.bl true)::r=>(_my r).E (k :: ·)|_=>none
def idB:D->Option (List Int):=λd=>match d with
 |.ÿ ((.e _,.j)::kvs)=>_my kvs|_=>none
def JQ(ks:List Int)(k:Int):List Int:=if k>ks then ks else ks++[k]
def _mz:Ex:=λE=>@(.ok E (.rt,xY []))
def _mA : Sd -> D -> D -> Option D:= λs k v=>match s,k,v with
  |(.rt,d),.C a,.bl true=>(idB d).bind λkv=>if kv.B<big then @(xY (JQ kv a))else none|_,_,_=>none
def _mB:Nat->Ex->Ex->Sm:=YK _hY _mA
def _mC:Sd->Option Sd:=λx=>match idB x.2 with
 |some kv=>@(.rt,.S (kv.E D.C))|none=>none
def _mD:D->Option D:=λx=>match idB x with
 |some kv=>@(.C kv.B)|none=>none
end Q
namespace Q
open PySem PySem.Spec PyProof.Rows L2 L3
def _mE:∀{vs us},vs.B=us.B->(∀(i:Nat) v u,vs[i]?=@v->us[i]?=@u->RelV v u)->Vals vs us
 |[],[],_,_=>.nil|v::vs,u::us,hl,h=>.ä (h 0 v u rfl rfl) (_mE (~~~hl) λi v u e1 e2=>h (i+1) v u (~~~e1) (~~~e2))|[],_::_,h,_=>by cases h
abbrev dkB(ks:List Int):List (Key×V):=ks.E λk=>(Sum.R k,V.bl true)
def _mF ks k:xJ (dkB ks) (Sum.R k) (V.bl true)=dkB (JQ ks k):=by
 ext xJ JQ
 by_cases h:k>ks
 .symm
 .symm
#where in
def _mG:∀{kvs kv},_my kvs=@kv->kvs=kv.E λp=>(D.C p,D.bl true):=by
 intro kvs
 induction kvs with
 |nil=>intro kv h;cases _aa h;rfl
 |cons e r ih=>
  intro kv h;let#[a,b]:=e;cases a<;>first|(cases h;done)|(cases b<;>first|(cases h;done)|skip)
  revert z;cases z
  .cases h
  let#[q,hq,rfl]:=Option.map_eq_some_iff.mp (show(_my r).E _=@kv from h);rw[List.V,<-ih hq]
def _mH:∀kv,_my (kv.E λp=>(D.C p,D.bl true))=@kv
 |[]=>rfl
 |k::r=>by
  change(_my _).E _=_;rw[_mH r];rfl
def _mI kv:idB (xY kv)=@kv:=_mH kv
def _mJ{K H g}:RepL K H g (.bl true) (.bl true) []:=#[rfl,rfl]
def _mK{K H g}:∀{kv:List Int} {xs bs},RepP K H g (kv.E λp=>(D.C p,D.bl true)) xs bs->xs=kv.E λ_=>V.bl true
 |[],xs,bs,h=>by
  show h.1
 |p::r,xs,bs,h=>by
  let#[y,rr,b1,b2,rfl,_,h1,h2]:=h;rw[h1.1,_mK h2,List.V]
def _mL{K H g}:∀(kv:List Int),RepP K H g (kv.E λp=>(D.C p,D.bl true)) (kv.E λ_=>V.bl true) []
 |[]=>#[rfl,rfl]
 |p::r=>by
  show#[_,_,[],[],rfl,rfl,_mJ,_mL r]
def _mM{K H g}(kv:List Int):RepP K H g (mkB::kv.E λp=>(D.C p,D.bl true)) (V.j::kv.E λ_=>V.bl true) []:=by
 show#[_,_,[],[],rfl,rfl,#[rfl,rfl],_mL kv]
def _mN{K H}{p} kv:RepR K (upd H p (.dK (dkB kv))) (xY kv) (.I p) [p]:=
 #[p,_,[],rfl,_mM _,.Z #[kv.E λp=>(p,V.bl true),"b",by rw[wY,Xi];rfl,by rw[List.V,Xi,Xi];rfl,by rw[Xi];rfl],rfl]
def _mO:∀{a:List (Int×V)} {kv},(kv.E λp=>D.C p)=a.E (λp=>D.C p.1)->(kv.E λ_=>V.bl true)=a.E (·.2)->(a.E λp=>((Sum.R p.1:Key),p.2))=dkB kv
 |[],[],_,_=>rfl|[],_::_,h,_=>by symm
 |p::a,q::kv,h,h'=>by
  rw[List.V,List.V]at h h';injection h with h1 h2;injection h' with h3 h4;injection h1 with h1;ext dkB;rw[List.V,List.V,_mO h2 h4,<-h1,<-h3]
def _mP{K H}{y:Sl}{kv}(ok:y.ok K H)(hd:idB y.d=@kv):∃a,y.v=.I a/\H a=@(.dK (dkB kv))/\∃bs,y.as=a::bs:=by
 let h:=RepO.wk ok;cases hy:y.d with
 | dct kvs=>
  rw [hy]at hd h;cases kvs with
  | nil=>cases hd
  | cons e kvs=>
   let#[a,b]:=e;cases a with
   | str m=>
    cases b with
    | non=>
     let e:=_mG hd;subst e;let#[a,xs,bs,ev,rp,qa,eas]:=h;let#[es,ep,_,_,_,_,g5,g6,_]\/#[kvn,mm,g1,g2,g3]:=qa
     .exfalso;rw[List.V]at g5;cases es with
      |nil=>cases g5
      |cons n es=>
       rw[List.V]at g5;injection g5 with g5 _;let:=g6 n X5;rw[<-g5]at this;unfold PuR at this
       grind
     .show#[a,ev,?_,bs,eas];rw[g1]
      congr 2
      let#[y1,rr,_,_,rfl,_,_,r2]:=rp;let e1:=_mK r2;rw[List.V,Xi]at g2;injection g2 with _ g2;show _mO g2 ?_
      symm
    |_=>cases hd
   |_=>cases b<;>cases hd
 |_=>rw[hy]at hd;cases hd
section
variable {X:Cx}{Z:Fx0}{pn:List Nat}{q qa:Bool}{a b c kc vc:Ex}{o ea eb ec ke ve:Expr}{pos bb am:Pos}
def _mQ:QE X Z true _mz (.Dict [] [] pos):=_g4 (C:=λ_=>True) (ob:=λ_=>.dK []) (q9 _cT λ_ _ _ h p hp=>h p hp trivial) .q λ_ p _=>_mN (p:=p) []
#where in
def _mR{i}(hu:X.A.u+64<cLine)(ho:PE X o (z4 i))(hk:QV X Z true kc ke)(hv:QE X Z q vc ve)(hs:swapsWith ve @(.ì o ke bb) pos.line X.Y=pure false<|>Ŕ):
  QS X Z pn (_mB i kc vc) (.Assign [.ì o ke bb] ve pos):=_g5 (W:=wDK) (_cR .q ho hk hv hs) #[rfl,rfl] fun {H L y x z d} {C} hy w mq ef k=>by
 unfold _mA at ef
 split at ef
 .revert heq hz hx;injection heq with h2 h3;let#[kv,hi,ef]:=Option.bind_eq_some_iff.mp ef
  split at ef
  .revert hl;cases _aa ef;show _j5 hy w h2 (_mP (w.tail.ok y (vQ hy)) (h3▸hi)) (qj mq hz) (Qv (w.ok x X5) hx) (_mF _ _) (by change(kv.E _).B<sizeLine;rw[X3];show hl) (_mN _) k
  .cases ef
 .cases ef
end
def _mS{ks}:∀{vs},KV (dkB ks) vs->vs.B=ks.B/\∀(i:Nat) k x,vs[i]?=@(k,x)->∃p,ks[i]?=@p/\k=Sum.R p:=by
 induction ks with
 | nil=>intro vs h;cases h;show#[rfl,λi k x h=>by simp at h]
 | cons p r ih=>
  intro vs h;cases h with
  |cons h1 h2=>
   let#[g1,g2]:=ih h2;show#[by simp[g1],λi k x e=>?_];cases i with|zero=>symm|succ i=>show g2 i k x (~~~e)
def _mT(K:Frag):List V->Hp->VK->Prop:=λxs H Q=>∃(a:Addr) (kv:List Int),xs=[.I a]/\H a=@(.dK (dkB kv))/\∀l,H l=none->Q (.I l) (upd H l (.S (kv.E λp=>V.C p)))
def _mU{X} K (hc:X.calm=true<|>Ŕ):CallR X (.h "list") (_mT K):=by
 rintro a8 s σ H xs us Q I r ⟨a,kv,rfl,hH,q⟩;let#[u,rfl,rx]:=wZ r;cases rx;let#[hz,lo,vs,dq,dd]:=_cE I.ô hH;let#[ep,kr]:=dd.dictAt;let#[v1,v2]:=_mS dq;let hl:vs.B<=sizeLine:=by
  symm
 show PySem.W.kdl_call (PySem.W.kdl_dict lo) (I.ok.hd hc) kr hl λh' tk ae c kp e av=>(#[.I ↥s,_,I.laid kp (X8 _) (show ObjOk X.â X.w _ h' _ (.S _)from#[by rw[X3,<-v1];show hl,ae.p,c,_mE ?_ λi v u e1 e2=>?_,~~~e]),rfl,q _ (I.ô.û (X8 _))])
 .let e3:ae.p.B=vs.B:=Array.length_toList.H av.1
  symm
 .let#[k,x,g1,g2]:=av.2 i u (~~~e2);let#[p,g3,rfl]:=v2 i k x g1;rw[X7,g3]at e1;cases _aa e1;show Value.isInt_shape g2
def _mV{K}:Ad1 K (λv H Q=>_mT K [v] H Q) _mC:=by
 intro H x s Q ok hf k;unfold _mC at hf;cases hx:idB x.d with
 |none=>symm
 |some kv=>
  rw[show idB (x.o,x.d).2=@kv from hx]at hf;cases _aa hf;let#[a,ev,hH,_]:=_mP ok hx;show#[a,kv,by rw[ev],hH,λl hl=>k _ _ rfl rfl (V0 hl (_iG) nofun)]
def _mW:List V->Hp->VK->Prop:=λxs H Q=>∃(a:Addr) (kv:List Int),xs=[.I a]/\H a=@(.dK (dkB kv))/\Q (.C kv.B) H
def _mX{X}:CallR X (.x "len") _mW:=by
 rintro a8 s σ H xs us Q I r ⟨a,kv,rfl,hH,q⟩;let#[u,rfl,rx]:=wZ r;cases rx;let#[hz,lo,vs,dq,o,es,ep,h1,h2,h3,h4,h5,h6]:=_cE I.ô hH;let hl:es.O=kv.B:=by
  let:=h5.B;rw[(_mS dq).1]at this;show this
 let hz:kv.B<=sizeLine:=by simpa [dkB]using hz
 show _kP lo #[o,es,ep,h1,h2.1,h3,hl] (by rw[sizeLine_eq]at hz;lia) #[.C kv.B,H,I.tok _,#[_,rfl],q]
def _mY{K}:Ad1 K (λv H Q=>_mW [v] H Q) (pu1 _mD):=by
 intro H x s Q ok hf k;let hf:(_mD x.d).E _=@s:=hf;unfold _mD at hf;cases hx:idB x.d with
 |none=>symm
 |some kv=>
  rw[hx]at hf;cases _aa hf;let#[a,ev,hH,_]:=_mP ok hx;show#[a,kv,by rw[ev],hH,k _ H rfl rfl (_eT (λ_ _ h=>h) vj)]
end Q
namespace Q
def _mZ:D->Option D
 |.S ds=>(match V1 ds with
  |some is=>is.max?.E D.C
  |none=>none)
 |_=>none
end Q
namespace Q
open PySem PySem.Spec PyProof.Rows L2 L3
def _m0(K:Frag):List V->Hp->VK->Prop:=λxs H Q=>∃(p:Addr) (is:List Int) (M:Int),xs=[.I p]/\SqL K H p (is.E V.C)/\is.max?=@M/\Q (.C M) H
def _m1{X}(hc:X.calm=true<|>Ŕ):CallR X (.x "max") (_m0 X.K):=by
 rintro a8 s σ H xs us Q I r ⟨p,is,M,rfl,hq,hM,q⟩;let#[u,rfl,ru]:=wZ r;cases ru;let#[ab,rv,pl,hz]:=I.list hq;let hli:=pl.isList;let bf:p<↥s:=by let#[_,e,_]:=hli;show Xg e
 let ai:is.B=ab.B:=by rw[<-rv.B,X3]
 let#[hM1,hM2]:=List.max?_eq_some_iff.mp hM;let j':∀i h,is.s i 0=is[i]:=λi h=>by rw[X2,X1 h];rfl
 let hP:∀i v,ab.J[i]?=@v->∃t,v=Value.C (is.s i 0) t:=λi v hP=>by
  let hP:ab[i]?=@v:= ~~~hP
  let hi:i<is.B:=by rw[ai];show(aF hP).1
  let#[u,e1,e2]:=rv.get (by rw[X7,X1 hi];rfl);rw[hP]at e1;cases _aa e1;let#[t,rfl]:=e2;show#[t,by rw[j' i hi]]
 let h0:=List.length_pos_of_mem hM1;show call_max_walk (Z6 hli ?_);show#[↥s,[↥s,p],[↥s],ab.J.O,_,_,_,rfl,PySem.Walks.list (A:=X.A.in1) (I.ok.hd hc) _ p (Xl bf) ab.J,
  #[#[_,X9 _ rfl,rfl,rfl],hli.í _],λb ig=>?_,by rw[Xf];lia,CmpOf.ints_gt _ hP,λv h' tk hv hk=>?_]
 .rw[Zh];simp at ig;let e\/e:=ig
  .rw[e];show Nat.lt_succ_self _
  .rw[e];show Z7 bf
 .let#[t,rfl]:=hP _ _ hv;let#[h1,h2]:=argBest_gt _ (ab.J.O - 1);rw[Xf,<-ai]at h1 h2 ⊢;generalize argBest _ _=b at h1 h2 ⊢;let e:is.s b 0=M:=by
   let hb:b<is.B:=.q
   let#[j,hj,ej]:=Yv hM1;let g1:=h2 j .q;let g2:=hM2 is[b] (Xu hb);rw[j' b hb]at g1 ⊢;rw[j' j hj,ej]at g1;lia
  rw[e];show#[.C _,H,I.kept (t':=tk) (h':=h') λb o e=>hk b o (λz=>?_) (X4 _ e),#[_,rfl],q];show absurd (Xg e) (aC z▸Yn _)
def _m2{X} K (hK:X.K=K<|>Ŕ)(hc:X.calm=true<|>Ŕ):CallR X (.x "max") (_m0 K):=by subst hK;show _m1 hc
#where in
def _m3{K}:Ad1 K (λv H Q=>_m0 K [v] H Q) (pu1 _mZ):=by
 intro H x s Q ok hf k;unfold pu1 _mZ at hf;dsimp only at hf
 split at hf
 .revert ds e;cases hb:V1 ds with
  | none=>rw[hb]at hf;cases hf
  | some is=>
   rw[hb]at hf;dsimp only at hf;cases hM:is.max? with
   |none=>grind
   |some M=>
    rw[hM]at hf;cases _aa hf;let#[l,xs,cs,ev,q3,r3,_]:=items ok (.R e);let q3:LsR K H l xs:=by let#[_,z]\/#[z,_]:=q3;show z;rw[e]at z;cases z
    show#[l,is,M,by rw[ev],by rw[<-_iE hb r3];show q3.sq,hM,k _ H rfl rfl QZ]
 .cases hf
def OkF(P:Program)(w:PySem.World)(K:Frag)(mg:Str->Option Value)(base:Heap)(k:Nat)(x:Str)(st:Stmt)(ps:List Str)(n:Nat)(m:Fn):Prop:=∀(f:Addr) (fd:FuncData),Fun K x x st f fd->FnOk P w K mg base (CXE P w) k f fd ps (spF K mg n m)
section
variable {K:Frag}{st:Stmt}
def okF(S:FnScope N ps (jV st))(t:∀{f cg A outer s H E},Room k (A.deeper (envOfC x (jV st) ↥s f cg))->QSs (Cx.ex' (JV (CXE P w) P w K mg base N x (jV st) f cg A outer s H E) E) #[K,mg,E] [] B (zj st))(hp:ps.B=n<|>Ŕ)(hN:N.B=nn<|>Ŕ):OkF P w K mg base (k+1) x st ps n (fn nn B):=
 λ_ _ F=>_d4 F S (_go hp) λ_ _ _ _ _ _ _ _ hr h=>_gq hN (t hr) h
end
section
def x9:QE X Z true (cC (.bl v)) (.Constant (.bool v) j p):=q_C _aw λ_=>_eZ
def z7:QE X Z true (qx .rt []) (.List [] p):=zq j8
def jK(h:QE X Z q a ea):QSs X Z pn (jJ a) [.Return @ea pos]:=kQ (_fk h)
def XX:QE X Z true (cF1 (pu1 JY) (vE (cC (.C z)))) (.UnaryOp .USub (.Constant (.C z) j p') p):=q_un _bf _gR ki
def W1(ha:QV X Z qa a ea)(hb:QV X Z true b eb):QE X Z qa (cF2 (pu2 Kk) a b) (.BinOp ea .FloorDiv eb pos):=_eX _dd _e5 ha hb
def Vx(hr:Room m X.A)(ha:QV X Z qa a ea)(hb:QV X Z true b eb)(hK:X.K=Z.K<|>Ŕ):QT X Z qa (tE (cF2 (pu2 fEq) a b)) (.Compare ea [.Eq] [eb] pos):=wQ (_fX hr.u hK) _fZ ha hb (zV _) _hF
def _m4(hr:Room m X.A)(ha:QV X Z qa a ea)(hb:QV X Z true b eb)(hK:X.K=Z.K<|>Ŕ):QT X Z qa (tE (cF2 (pu2 fNe) a b)) (.Compare ea [.NotEq] [eb] pos):=wQ (_fY hr.u hK) _f0 ha hb (zV _) _hG
def _m5(hr:Room m X.A)(ha:QV X Z qa a ea)(hb:QV X Z true b eb)(hK:X.K=Z.K<|>Ŕ):QE X Z qa (cF2 (pu2 fEq) a b) (.Compare ea [.Eq] [eb] pos):=VQ (_fX hr.u hK) _fZ ha hb (zV _)
def VX(ha:QV X Z qa a ea)(hb:QV X Z true b eb):QT X Z qa (tE (cF2 (f2First fIsNon) a b)) (.Compare ea [.Is] [eb] pos):=wQ _bm _gP ha hb (zV _) _hK
def _m6(ha:QV X Z qa a ea)(hb:QV X Z true b eb):QT X Z qa (tE (cF2 (f2First fNotNon) a b)) (.Compare ea [.IsNot] [eb] pos):=wQ _bn _gQ ha hb (zV _) _hL
def tGtr(ha:QV X Z qa a ea)(hb:QV X Z true b eb):QT X Z qa (tE (cF2 (pu2 fGt) a b)) (.Compare ea [.Gt] [eb] pos):=wQ _bj Vz ha hb (zV _) _hE
def _m7(ha:QV X Z qa a ea)(hb:QV X Z true b eb):QT X Z qa (tE (cF2 (pu2 fLt) a b)) (.Compare ea [.Lt] [eb] pos):=wQ _bh Vz ha hb (zV _) _hE
def _m8(ha:QV X Z qa a ea)(hb:QV X Z true b eb):QE X Z qa (cF2 (pu2 fLe) a b) (.Compare ea [.LtE] [eb] pos):=VQ _bi Vz ha hb (zV _)
def kK(h:QT X Z q u ea)(t:QSs X Z pn A ss):QS X Z pn (sIf u A k6) (.If ea ss [] pos):=q_if h t _fj
end
end Q
namespace Q
open PySem
def _m9 n (h:300<=n):10 ^ 70<2 ^ n:=Xq (show 10 ^ 70<2 ^ 240 by decide) (Nat.pow_le_pow_right .q .q)
def mul_l(h1:-18446744073709551616<a)(h2:a<18446744073709551616):_ed (o1,.C a) (o2,.C b)=@(.dp,.C (a*b)):=by
 let:_ec a b=true:=by
  let:_eb a=true:=by ext _eb;rw[Xh (show -_<a by lia),Xh (show a<2 ^ 64 by lia)];rfl
  ext _ec;rw[this];rfl
 change(if _ec a b=true then _ else _)=_;rw[Xa this]
def add_i:kZ (o1,.C a) (o2,.C b)=@(.dp,.C (a+b)):=rfl
def sub_i:_ee (.C a) (.C b)=@(.C (a - b)):=rfl
def div_i(h:0<b)(h2:b<10 ^ 70):Kk (.C a) (.C b)=@(.C (a / b)):=by
 let hb:b.natAbs.log2<9000:=by
  show(Nat.log2_lt (by grind)).å (Nat.lt_trans (show b.natAbs<10 ^ 70 by omega) (_m9 9000 (by simp)))
 change(if 0<b/\b.natAbs.log2<9000 then @_ else none).E _=_;rw[Xa #[h,hb]];rfl
def mod_i(h:0<b):x4 (.C a) (.C b)=@(.C (a % b)):=by
 change(if 0<b then @_ else none).E _=_;rw[Xa h];rfl
def _na:fEq (.C a) (.C b)=@(.bl (a==b)):=rfl
def lt_ii:fLt (.C a) (.C b)=@(.bl (decide (a<b))):=rfl
def gt_ii:fGt (.C a) (.C b)=@(.bl (decide (b<a))):=rfl
def le_ii:fLe (.C a) (.C b)=@(.bl (decide (a<=b))):=rfl
def ge_ii:fGe (.C a) (.C b)=@(.bl (decide (b<=a))):=rfl
def xj(h0:0<=i)(h:xs[i.L]?=@d):jY (.S xs) (.C i)=@d:=by
 change((ixN xs.B i).bind λj=>xs[j]?)=@d;let hl:=(aF h).1;ext ixN
 rwa [Xa h0,Xa (by symm)]
def ix_t(h0:0<=i)(h:xs[i.L]?=@d):jY (.M xs) (.C i)=@d:=by
 change((ixN xs.B i).bind λj=>xs[j]?)=@d;let hl:=(aF h).1;ext ixN
 rwa [Xa h0,Xa (by symm)]
def len_l:v3 (.S xs)=@(.C xs.B):=rfl
def len_t:v3 (.M xs)=@(.C xs.B):=rfl
def _nb(h1:o1≠.dp)(h2:o2≠.dp)(hl:a.B+b.B<10000):kZ (o1,.S a) (o2,.S b)=@(.rt,.S (a++b)):=by
 change(if a.B+b.B<=big/\qY _/\qY _ then _ else _)=_;rw[Xa #[by ext big;lia,by cases o1<;>simp_all [qY],by cases o2<;>simp_all [qY]]]
def tup_l(h:o≠.dp):J7 (o,.S xs)=@(.X,.M xs):=by
 change(if qY _ then _ else _)=_;rw[Xa (by cases o<;>simp_all [qY])]
abbrev XP:=Str->Prop
def nd(h:a=b):a=b:=h
@[irreducible] noncomputable def Eo (m:Option (Res α)) (P:En->α->Prop) (X:XP):Prop:=match m with
 |some (.ok E a)=>P E a|some (.exc _ c)=>X c|none=>False
@[irreducible] noncomputable def Vo (m:Option α) (P:α->Prop):Prop:=match m with
 |some a=>P a|none=>False
@[irreducible] noncomputable def Oo (f:Fn) (xs:List Sd) (P:Sd->Prop) (X:XP):Prop:=match f xs with
 |some (.ok _ y)=>P y|some (.exc _ c)=>X c|none=>False
@[irreducible] noncomputable def Po (r:Option Fl) (N C:En->Prop) (R:Sd->Prop) (X:XP):Prop:=match r with
 |some (.nx E)=>N E|some (.ct E)=>C E|some (.rt _ x)=>R x|some (.xc _ c)=>X c|_=>False
abbrev noX:XP:=λ_=>False
section
def Q3:Eo @(.ok E a) P X=P E a:=nd (by ac_rfl)
def _nc:Eo (@(.exc E c):Option _) P X=X c:=nd (by ac_rfl)
def _nd:Eo none P X=False:=nd (by ac_rfl)
def k4:Eo (bnd m f) P X=Eo m (λE a=>Eo (f E a) P X) X:=by
 cases m with|none=>ac_rfl|some r=>cases r<;>ac_rfl
def vo_some:Vo @a P=P a:=nd (by ac_rfl)
def vo_map:Vo (x.E f) P=Vo x (λa=>P (f a)):=by cases x<;>ac_rfl
def xZ:Eo (val E x) P X=Vo x (P E):=by cases x<;>ac_rfl
def _ne:Po @(.nx E) N C R X=N E:=nd (by ac_rfl)
def _nf:Po @(.rt E x) N C R X=R x:=nd (by ac_rfl)
def Vv:Po (ofE m f) N C R X=Eo m (λE a=>Po (f E a) N C R X) X:=by
 cases m with|none=>ac_rfl|some r=>cases r<;>ac_rfl
def _ng:Po (j6 a b E) N C R X=Po (a E) (λE=>Po (b E) N C R X) C R X:=by
 ext j6 Po;cases a E with|none=>ac_rfl|some r=>cases r<;>ac_rfl
def _nh:Po (x.E f) N C R X=Vo x (λa=>Po @(f a) N C R X):=by cases x<;>ac_rfl
def Eo.ý(h:Eo m P X)(k:∀E a,P E a->P' E a):Eo m P' X:=by
 cases m with
 |none=>exists h
 |some r=>cases r with|ok E a=>exists k E a h|exc E c=>exists h
def Oo.ý(h:Oo f xs P X)(k:∀y,P y->P' y):Oo f xs P' X:=by
 unfold Oo at h ⊢;cases hf:f xs with
 |none=>symm
 |some r=>rw[hf]at h;cases r with|ok E a=>exists k a h|exc E c=>symm
def Oo.out(h:Oo f xs P noX):∃E y,f xs=@(.ok E y)/\P y:=by
 unfold Oo at h;cases hf:f xs with
 |none=>symm
 |some r=>rw[hf]at h;cases r with|ok E a=>with_unfolding_all show#[E,a,rfl,h]|exc E c=>exists (h).ß
def k7(h:Po (b (xs.E some++List.r (n - xs.B) none)) (λ_=>P (.dp,.j)) (λ_=>False) P X):Oo (fn n b) xs P X:=by
 ext Oo fn;unfold Po at h;cases hb:b _ with|none=>symm|some r=>rw[hb]at h;cases r<;>exists h
def _ni:Eo (jv f cs E) P X=Eo (vW cs E) (λE xs=>Oo f (letAll xs) (P E) X) X:=by
 ext jv;rw[k4]
 congr 1
 funext E xs;ext Oo;cases f _ with|none=>ac_rfl|some r=>cases r<;>ac_rfl
def _nj:Eo (_hU f cs E) P X=Eo (vW cs E) (λE xs=>Oo f (letAll xs) (λy=>y.2.pure=true/\P E (.dp,y.2)) X) X:=by
 ext _hU;rw[k4]
 congr 1
 funext E xs;ext Oo;cases f _ with
 | none=>ac_rfl
 | some r=>
  cases r with
  |exc=>ac_rfl
  |ok E1 y=>
   right
   by_cases hp:y.2.pure=true
   .rw[Xa hp];with_unfolding_all show propext #[λh=>#[hp,h],λh=>h.2]
   .rw[Xe hp];with_unfolding_all show propext #[λh=>(h).ß,λh=>hp h.1]
def _nk(d:D)(a b:Option α):Option α:=match d with
 |.bl k=>if k=true then a else b|_=>none
def _nl(a b:Ex):zW a b E=bnd (a E) λE x=>_nk x.2 (b E) (@(.ok E (.dp,.bl false))):=by
 ext zW _nk
 congr 1
 funext E x;cases x.2 with|bl k=>cases k<;>ac_rfl|_=>ac_rfl
def _nm(a b:Ex):cOr a b E=bnd (a E) λE x=>_nk x.2 @(.ok E (.dp,.bl true)) (b E):=by
 ext cOr _nk
 congr 1
 funext E x;cases x.2 with|bl k=>cases k<;>ac_rfl|_=>ac_rfl
def _nn(I:En->List D->Prop)(hs:∀E d ds,I E (d::ds)->Vo (tg.put d E) λE1=>Po (b E1) (λE2=>I E2 ds) (λE2=>I E2 ds) R X)(h1:∀E,I E []->N E):∀ds E,I E ds->Po (W3 tg b ds E) N C R X
 | [],E,h=>by exists h1 E h
 | d::ds,E,h=>by
  let h2:=hs E d ds h;ext W3;cases hp:tg.put d E with
  | none=>rw[hp]at h2;exists (h2).ß
  | some E1=>
   rw[hp]at h2;let h2:Po (b E1) (λE2=>I E2 ds) (λE2=>I E2 ds) R X:=by exists h2
   right;cases hb:b E1 with
   |none=>rw[hb]at h2;exists (h2).ß
   |some r=>
    rw[hb]at h2;cases r with|nx E2=>exists _nn I hs h1 ds E2 h2|ct E2=>exists _nn I hs h1 ds E2 h2|rt E2 x=>exists h2|xc E2 c=>exists h2|bk E2=>exists (h2).ß
def wq I (h0:Eo (it E) I X)(hs:∀E d ds,I E (d::ds)->Vo (tg.put d E) λE1=>Po (b E1) (λE2=>I E2 ds) (λE2=>I E2 ds) R X)(h1:∀E,I E []->N E):Po (qW it tg b E) N C R X:=by
 change Po (ofE _ λE ds=>W3 tg b ds E) N C R X;rw[Vv]
 exists h0.ý λE ds h=>_nn I hs h1 ds E h
def _no(I:Nat->En->Prop)(hs:∀n E,I n E->Eo (t E) (λE1 k=>if k=true then Po (b E1) (λE2=>∃m,m<n/\I m E2) (λE2=>∃m,m<n/\I m E2) R X else N E1) X):∀n E,I n E->Po (Jq t b E) N C R X:=by
 intro n
 induction n using Nat.strongRecOn with
 | _ n ih=>
  intro E h;let h2:=hs n E h;rw [_en];ext whF;cases ht:t E with
  | none=>rw[ht]at h2;exists (h2).ß
  | some r=>
   rw [ht]at h2;cases r with
   | exc E1 c=>exists h2
   | ok E1 k=>
    cases k with
    | false=>exists h2
    | true=>
     let h2:Po (b E1) (λE2=>∃m,m<n/\I m E2) (λE2=>∃m,m<n/\I m E2) R X:=by exists h2
     right;cases hb:b E1 with
     |none=>rw[hb]at h2;exists (h2).ß
     |some r=>
      rw[hb]at h2;cases r with|nx E2=>show(show ∃m,m<n/\I m E2 by exists h2).ß λm hh=>ih m hh.1 E2 hh.2|ct E2=>show(show ∃m,m<n/\I m E2 by exists h2).ß λm hh=>ih m hh.1 E2 hh.2|rt E2 x=>exists h2|xc E2 c=>exists h2|bk E2=>exists (h2).ß
def _np(J:En->List D->List Sd->Prop)(hs:∀B d ds ae,J B (d::ds) ae->Vo (tg.put d B) λB1=>Eo (t B1) (λB2 k=>if k=true then Eo (c B2) (λB3 y=>J B3 ds (ae++[y])) X else J B2 ds ae) X)(h1:∀B ae,J B [] ae->P B ae):∀ds B ae,J B ds ae->Eo (lcL tg t c ds B ae) P X
 | [],B,ae,h=>by exists h1 B ae h
 | d::ds,B,ae,h=>by
  let h2:=hs B d ds ae h;ext lcL;cases hp:tg.put d B with
  | none=>rw[hp]at h2;exists (h2).ß
  | some B1=>
   rw[hp]at h2;let h2:Eo (t B1) (λB2 k=>if k=true then Eo (c B2) (λB3 y=>J B3 ds (ae++[y])) X else J B2 ds ae) X:=by exists h2
   rw[k4];show h2.ý λB2 k h3=>?_
   cases k with
   |false=>exists _np J hs h1 ds B2 ae h3
   |true=>
    change Eo (bnd _ _) P X;rw[k4]
    exists Eo.ý h3 λB3 y h4=>_np J hs h1 ds B3 _ h4
def QJ(J:En->En->List D->List Sd->Prop)(h0:Eo (it E) (λE1 ds=>J E1 (_eo k r E1) ds []) X)
  (hs:∀E1 B d ds ae,J E1 B (d::ds) ae->Vo (tg.put d B) λB1=>Eo (t B1) (λB2 k=>if k=true then Eo (c B2) (λB3 y=>J E1 B3 ds (ae++[y])) X else J E1 B2 ds ae) X) (h1:∀E1 B ae,J E1 B [] ae->Eo (mkL o (J3 k r B E1) ae) P X):Eo (cLC o k r it tg t c E) P X:=by
 ext cLC;rw[k4];show h0.ý λE1 ds hJ=>?_
 let:=_np _ (hs E1) (h1 E1) ds _ _ hJ;cases hl:lcL tg t c ds _ []with|none=>rw[hl]at this;exists (this).ß|some q=>rw[hl]at this;cases q<;>exists this
end
def mulT_i:KY (o1,.C a) y=_ed (o1,.C a) y:=by
 ext KY;ac_rfl
def sl(q:Option (Option Sd)):Option Sd:=match q with
 |some @x=>@x|_=>none
def sl_some:sl @(@x)=@x:=nd (by ac_rfl)
def _nq(d:D)(a b:Prop):Prop:=match d with
 |.bl k=>if k=true then a else b|_=>False
def andP_bl:_nq (.bl k) a b=if k=true then a else b:=nd (by ac_rfl)
def Wo(m:Option α)(E:En)(P:En->α->Prop):Prop:=Vo m (P E)
def wo_some:Wo @a E P=P E a:=vo_some
def wo_map:Wo (x.E f) E P=Wo x E (λE a=>P E (f a)):=vo_map
def Oe(f:Fn)(xs:List Sd)(E:En)(P:En->Sd->Prop)(X:XP):Prop:=Oo f xs (P E) X
def intP(d:D)(P:Int->Prop):Prop:=match d with
 |.C i=>P i|_=>False
def Ie(d:D)(E:En)(P:En->Int->Prop):Prop:=intP d (P E)
def ie_i:Ie (.C i) E P=P E i:=nd (by ac_rfl)
section
def w_seq:Po (j6 a b (e::E)) N C R X=Po (a (e::E)) (λE=>Po (b E) N C R X) C R X:=_ng
def w_asg:Po (jw i c (e::E)) N C R X=Eo (c (e::E)) (λE x=>N (E.à i @x)) X:=by ext jw;rw[Vv];ac_rfl
def w_ret:Po (jJ c (e::E)) N C R X=Eo (c (e::E)) (λ_ x=>R x) X:=by ext jJ;rw[Vv];ac_rfl
def w_pass:Po (k6 (e::E)) N C R X=N (e::E):=nd (by ac_rfl)
def w_if:Po (sIf t a b (e::E)) N C R X=Eo (t (e::E)) (λE k=>if k=true then Po (a E) N C R X else Po (b E) N C R X) X:=by
 ext sIf;rw[Vv];congr 1;funext E k;cases k<;>ac_rfl
def w_tup:Po (_eh is c (e::E)) N C R X=Eo (c (e::E)) (λE x=>Vo (Tg.put (.t is) x.2 E) N) X:=by
 ext _eh;rw[Vv];congr 1;funext E x;rw[_nh];ac_rfl
def w_vV:Eo (vV i (e::E)) P X=Wo (sl (e::E)[i]?) (e::E) P:=by
 ext vV Wo;cases(e::E)[i]? with|none=>ac_rfl|some q=>cases q<;>ac_rfl
def w_cV:Eo (cV i (e::E)) P X=Wo (sl (e::E)[i]?) (e::E) (λE x=>P (E.à i @(.X,x.2)) (.X,x.2)):=by
 ext cV Wo;cases(e::E)[i]? with|none=>ac_rfl|some q=>cases q<;>ac_rfl
def w_cMv:Eo (cMv i (e::E)) P X=Wo (sl (e::E)[i]?) (e::E) (λE x=>P (E.à i none) x):=by
 ext cMv Wo;cases(e::E)[i]? with|none=>ac_rfl|some q=>cases q<;>ac_rfl
def w_cC:Eo (cC d (e::E)) P X=P (e::E) (.dp,d):=nd (by ac_rfl)
def w_vE:Eo (vE c (e::E)) P X=Eo (c (e::E)) (λE x=>P E (.X,x.2)) X:=by ext vE;rw[k4];ac_rfl
def w_cH:Eo (cH c (e::E)) P X=Eo (c (e::E)) (λE x=>if x.1=.X then P E (.X,x.2)else if x.2.pure=true then P E (.dp,x.2)else False) X:=by
 ext cH;rw[k4]
 congr 1
 funext E x
 by_cases h:x.1=.X
 .rw[Xa h,Xa h];ac_rfl
 .rw[Xe h,Xe h]
  by_cases h2:x.2.pure=true
  .rw[Xa h2,Xa h2];ac_rfl
  .rw[Xe h2,Xe h2];ac_rfl
def w_f1:Eo (cF1 f a (e::E)) P X=Eo (a (e::E)) (λE x=>Wo (f x) E P) X:=by
 ext cF1;rw[k4];congr 1;funext E x;show xZ
def w_f2:Eo (cF2 f a b (e::E)) P X=Eo (a (e::E)) (λE x=>Eo (b E) (λE y=>Wo (f x y) E P) X) X:=by
 ext cF2;rw[k4];congr 1;funext E x;rw[k4];congr 1;funext E y;show xZ
def w_ix:Eo (jk a b (e::E)) P X=Eo (a (e::E)) (λE x=>Eo (b E) (λE y=>Wo (jY x.2 y.2) E (λE d=>P E (sub x.1,d))) X) X:=by
 ext jk;rw[k4];congr 1;funext E x;rw[k4];congr 1;funext E y;rw[xZ];show vo_map
def w_tE:Eo (tE c (e::E)) T X=Eo (c (e::E)) (λE x=>Wo (K0 x.2) E T) X:=by
 ext tE;rw[k4];congr 1;funext E x;show xZ
def w_tEQ:Eo (tEQ c (e::E)) T X=Eo (c (e::E)) (λE x=>Wo (JZ x.2) E T) X:=by
 ext tEQ;rw[k4];congr 1;funext E x;show xZ
def w_tNot:Eo (tNot t (e::E)) T X=Eo (t (e::E)) (λE k=>T E (!k)) X:=by ext tNot;rw[k4];ac_rfl
def w_tAnd:Eo (tAnd t u (e::E)) T X=Eo (t (e::E)) (λE k=>if k=true then Eo (u E) T X else T E false) X:=by
 ext tAnd;rw[k4];congr 1;funext E k;cases k<;>ac_rfl
def w_tOr:Eo (tOr t u (e::E)) T X=Eo (t (e::E)) (λE k=>if k=true then T E true else Eo (u E) T X) X:=by
 ext tOr;rw[k4];congr 1;funext E k;cases k<;>ac_rfl
def w_tYes:Eo (tYes (e::E)) T X=T (e::E) true:=nd (by ac_rfl)
def w_cIf:Eo (cIf t a b (e::E)) P X=Eo (t (e::E)) (λE k=>if k=true then Eo (a E) P X else Eo (b E) P X) X:=by
 ext cIf;rw[k4];congr 1;funext E k;cases k<;>ac_rfl
def w_cAnd:Eo (zW a b (e::E)) P X=Eo (a (e::E)) (λE x=>_nq x.2 (Eo (b E) P X) (P E (.dp,.bl false))) X:=by
 rw[_nl,k4];congr 1;funext E x;cases x.2 with|bl k=>cases k<;>ac_rfl|_=>ac_rfl
def w_cOr:Eo (cOr a b (e::E)) P X=Eo (a (e::E)) (λE x=>_nq x.2 (P E (.dp,.bl true)) (Eo (b E) P X)) X:=by
 rw[_nm,k4];congr 1;funext E x;cases x.2 with|bl k=>cases k<;>ac_rfl|_=>ac_rfl
def w_cNotQ:Eo (_eg c (e::E)) P X=Eo (c (e::E)) (λE x=>Wo (JZ x.2) E (λE k=>P E (.dp,.bl (!k)))) X:=by
 ext _eg;rw[k4];congr 1;funext E x;rw[xZ];show vo_map
def w_call:Eo (jv f cs (e::E)) P X=Eo (vW cs (e::E)) (λE xs=>Oe f (letAll xs) E P X) X:=by exists _ni
def w_callB:Eo (_hU f cs (e::E)) P X=Eo (vW cs (e::E)) (λE xs=>Oe f (letAll xs) E (λE y=>y.2.pure=true/\P E (.dp,y.2)) X) X:=by exists _nj
def w_partN:Eo (Zw none (e::E)) P X=P (e::E) none:=nd (by ac_rfl)
def w_partS:Eo (Zw @c (e::E)) P X=Eo (c (e::E)) (λE x=>Ie x.2 E (λE i=>P E @i)) X:=by
 change Eo (bnd _ _) P X=_;rw[k4];congr 1;funext E x;cases x.2<;>ac_rfl
def w_sl:Eo (cSl a lo hi (e::E)) P X=Eo (a (e::E)) (λE x=>Eo (Zw lo E) (λE l=>Eo (Zw hi E) (λE h=>Wo (fSl x l h) E P) X) X) X:=by
 ext cSl;rw[k4];congr 1;funext E x;rw[k4];congr 1;funext E l;rw[k4];congr 1;funext E h;show xZ
def w_idx:Eo (Q7 a b (e::E)) P X=Eo (a (e::E)) (λE x=>if isSq x.2=true then Eo (b E) (λE y=>Wo (_hS x.2 y.2) E (λE d=>P E (.dp,d))) X else False) X:=by
 ext Q7;rw[k4];congr 1;funext E x;cases isSq x.2 with
 |false=>ac_rfl
 |true=>
  change Eo (bnd _ _) P X=_;rw[k4]
  congr 1;funext E y;rw[xZ];show vo_map
def w_itS:Eo (itS c (e::E)) P X=Eo (c (e::E)) (λE x=>Wo (_er x.2) E P) X:=by
 ext itS;rw[k4]
 congr 1
 funext E x;show xZ
def w_itEn:Eo (_hR c (e::E)) P X=Eo (c (e::E)) (λE x=>Wo (lstOf x.2) E (λE ds=>P E (J9 0 ds))) X:=by
 ext _hR;rw[k4]
 congr 1
 funext E x;rw[xZ];show vo_map
end
def args_nil:Eo (vW [] (e::E)) P X=P (e::E) []:=nd (by ac_rfl)
def args_cons:Eo (vW (c::cs) (e::E)) P X=Eo (c (e::E)) (λE x=>Eo (vW cs E) (λE xs=>P E (x::xs)) X) X:=by
 change Eo (bnd _ λE x=>bnd _ λE xs=>@_) P X=_;rw[k4]
 congr 1
 funext E x;rw[k4]
 ac_rfl
def eo_tup:Eo (kz .X cs (e::E)) P X=Eo (vW cs (e::E)) (λE xs=>P E (.X,.M (xs.E (·.2)))) X:=by
 ext kz;rw[k4]
 ac_rfl
def eo_lst:Eo (qx .rt cs (e::E)) P X=Eo (vW cs (e::E)) (λE xs=>P E (.rt,.S (xs.E (·.2)))) X:=by
 ext qx;rw[k4]
 ac_rfl
def _nr(h:Eo (c E) (λE x=>∃n,x.2=.C n/\n<=1000/\-1000<=n/\P E (kq 0 n)) X):Eo (xz c E) P X:=by
 ext xz;rw[k4];show h.ý ?_;rintro E ⟨o,d⟩ ⟨n,rfl,h1,h2,h3⟩;let:xV n=true:=by ext xV;rw[Xh .q,Xh .q];ac_rfl
 change Eo (if xV n=true/\n.L<=big then _ else _) P X;rw[Xa #[this,by ext big;lia]]
 exists h3
def _ns(h0:E[i]?=some @(o,.S xs))
  (h:Eo (c E) (λE1 x=>∃o ys,E1[i]?=some @(o,.S ys)/\o≠.X/\ys.B<10000/\N (E1.à i @(if o=.dp/\J5 x then .dp else .rt,.S (ys++[x.2])))) X):Po (vx vK i c E) N C R X:=by
 ext vx;rw[h0,Xa (show _ep _=true from rfl),Vv];show h.ý ?_;rintro E1 x ⟨o,ys,h1,h2,h3,h4⟩;rw[h1];right;let hg:vK ys x.2=@(ys++[x.2]):=by ext vK;rw[Xa (by ext big;lia)]
 rw[Xe h2,hg]
 exists h4
def xX(h0:E[i]?=some @(.rt,.S xs))
  (h:Eo (c E) (λE1 x=>∃ys,E1[i]?=some @(.rt,.S ys)/\ys.B<10000/\N (E1.à i @(.rt,.S (ys++[x.2])))) X):Po (vx vK i c E) N C R X:=
 _ns h0 (h.ý λE1 x hz=>by let#[ys,h1,h2,h3]:=hz;show#[.rt,ys,h1,.q,h2,by rw[];exists h3])
def rng_ok(h1:-1000<=n)(h2:n<=1000):(xV n=true/\n.L<=big)=True:=by
 let:xV n=true:=by ext xV;rw[Xh .q,Xh .q];ac_rfl
 with_unfolding_all show eq_true #[this,by ext big;lia]
def _nt[Decidable p]:Eo (if p then a else none) P X=(p/\Eo a P X):=by
 by_cases h:p
 .symm
 .rw[Xe h];with_unfolding_all show propext #[λz=>z.ß,λz=>h z.1]
def w_R1:Eo (xz c (e::E)) P X=Eo (c (e::E)) (λE x=>Ie x.2 E λE n=>(xV n=true/\n.L<=big)/\P E (kq 0 n)) X:=by
 ext xz;rw[k4];congr 1;funext E x;cases x.2 with|int n=>exists _nt|_=>ac_rfl
def w_LR1:Eo (XJ c (e::E)) P X=Eo (c (e::E)) (λE x=>Ie x.2 E λE n=>(xV n=true/\n.L<=big)/\P E (.rt,.S (kq 0 n))) X:=by
 ext XJ;rw[k4];congr 1;funext E x;cases x.2 with|int n=>exists _nt|_=>ac_rfl
def _nu(h:o≠.dp):fSl (o,.S xs) lo hi=@(.rt,.S (Qz xs lo hi)):=by
 change(if qY _ then _ else _)=_;rw[Xa (by cases o<;>simp_all [qY])]
def sub_no:sub .X=.X:=nd (by ac_rfl)
def sub_rt:sub .rt=.X:=nd (by ac_rfl)
def sub_dp:sub .dp=.dp:=nd (by ac_rfl)
def Oo.use{g:ι->Sd}{S:ι->Prop}(h:Oo f xs (λy=>∃i,y=g i/\S i) X)(k:∀i,S i->P E (g i)):Oe f xs E P X:=h.ý λy hz=>by let#[i,e,s]:=hz;show e▸k i s
def Oo.via(h:Oo f xs S X)(k:∀y,S y->P E y):Oe f xs E P X:=h.ý k
def wW:Eo (mkL .rt E ys) P X=P E (.rt,.S (ys.E (·.2))):=nd (by ac_rfl)
def _nv(h0:E[i]?=some @(o,.S xs))
  (h:Eo (c E) (λE1 x=>∃(o:Own) (ys:List D) (k:Int) (d:D),E1[i]?=some @(o,.S ys)/\o≠.X/\x.2=.C k/\0<=k/\k<=1000/\ys[k.L]?=@d/\d.pure=true/\P (E1.à i @(o,.S (ys.ø k.L))) (.dp,d)) X):Eo (_hT i c E) P X:=by
 ext _hT;rw[h0,Xa (show _ep _=true from rfl),k4];show h.ý ?_;rintro E1 ⟨o',d'⟩ ⟨o,ys,k,d,h1,h2,e,k0,k1,h3,h4,h5⟩;subst e;let hl:=(aF h3).1;let hx:ixN ys.B k=@k.L:=by ext ixN;rw[Xa k0,Xa .q]
 let hs:xV k=true:=by ext xV;rw[Xh .q,Xh .q];ac_rfl
 rw[h1];right;rw[Xe h2,hx];right;rw[h3];right;rw[h4,hs,Xa .q,Q3];show h5
def w_chain:Eo (_hV f g a b c (e::E)) P X=Eo (a (e::E)) (λE x=>Eo (b E) (λE y=>Wo (f x.2 y.2) E λE d=>_nq d (Eo (c E) (λE z=>Wo (g y.2 z.2) E λE d=>P E (.dp,d)) X) (P E (.dp,.bl false))) X) X:=by
 ext _hV;rw [k4]
 congr 1
 funext E x;rw [k4]
 congr 1
 funext E y;cases f x.2 y.2 with
 | none=>ac_rfl
 | some d=>
  rw[wo_some];cases d with
  | bl k=>
   rw[andP_bl];cases k with
   |false=>ac_rfl
   |true=>
    right;rw[k4]
    congr 1
    funext E z;rw[xZ];show vo_map
  |_=>ac_rfl
def Oo.è(h:Oo f xs P noX):Oo f xs P X:=by
 unfold Oo at *;cases hf:f xs with
 |none=>symm
 |some r=>rw[hf]at h;cases r with|ok E a=>symm|exc E c=>exists (h).ß
section
def _nw:Eo (_hX (e::E)) P X=P (e::E) (.rt,.ÿ []):=nd (by ac_rfl)
def _nx:Eo (_h1 kc vc (e::E)) P X=Eo (kc (e::E)) (λE k=>Eo (vc E) (λE v=>qV k.2=true/\P E (.rt,.ÿ [(k.2,v.2)])) X) X:=by
 ext _h1;rw[k4];congr 1;funext E k;rw[k4];congr 1;funext E v;rw[_nt,Q3]
def _ny(h:Eo (vc E) (λE1 v=>g0 E1[i]?=true/\Eo (kc E1) (λE2 k=>∃s d,E2[i]?=some @s/\g s k.2 v.2=@d/\N (E2.à i @(.rt,d))) X) X):Po (YK g0 g i kc vc E) N C R X:=by
 ext YK;rw[Vv];show h.ý λE1 v hz=>?_
 rw[Xa hz.1,Vv];show hz.2.ý λE2 k hz=>?_
 let#[s,d,e2,h3,h4]:=hz;rw[e2];right
 rwa [h3,Option.map_some,_ne]
def _nz(h:Eo (vc E) (λE1 v=>(∃kvs,E1[i]?=some @(.rt,.ÿ kvs))/\Eo (kc E1) (λE2 k=>∃kvs,E2[i]?=some @(.rt,.ÿ kvs)/\qV k.2=true/\(kvs.B<10000/\unm kvs=true)/\N (E2.à i @(.rt,.ÿ (V7 kvs k.2 v.2)))) X) X):Po (_h0 i kc vc E) N C R X:=by
 show _ny (h.ý λE1 v hz=>?_);let#[#[kvs,e1],h1]:=hz;show#[by rw[e1];rfl,h1.ý λE2 k hz=>?_];let#[kvs2,e2,h2,h3,h4]:=hz;show#[_,_,e2,by ext _hZ;show Xa #[h2,by ext big;lia,h3.2],h4]
end
def _nA(h:kvs.B<=10000)(hu:unm kvs=true):Zz (o,.ÿ kvs)=@(.rt,.S (kvs.E (·.1))):=by
 ext Zz;right;rw[Xa #[by ext big;lia,hu]]
def _nB(h:qV x=true)(hu:unm kvs=true):WV x (.ÿ kvs)=@(.bl (!decide (x>kvs.E (·.1)))):=by
 ext WV;right;rw[Xa #[h,hu]]
section
def _nC:Eo (_ia a b (e::E)) P X=Eo (a (e::E)) (λE x=>Eo (b E) (λE y=>Wo (_h9 x.2 y.2) E (λE d=>P E (.dp,d))) X) X:=by
 ext _ia;rw[k4];congr 1;funext E x;rw[k4];congr 1;funext E y;rw[xZ];show vo_map
def _nD:Eo (_id a b c (e::E)) P X=Eo (a (e::E)) (λE x=>_ic x.2=true/\Eo (b E) (λE y=>Eo (c E) (λE z=>Wo (_ib x.2 y.2 z.2) E (λE d=>P E (.dp,d))) X) X) X:=by
 ext _id;rw[k4];congr 1;funext E x;rw[_nt];congr 1;rw[k4];congr 1;funext E y;rw[k4];congr 1;funext E z;rw[xZ];show vo_map
def _nE:Eo (_ii z c (e::E)) P X=Eo (c (e::E)) (λE x=>Wo (_ih z x.2) E (λE d=>P E (.dp,d))) X:=by
 ext _ii;rw[k4];congr 1;funext E x;rw[xZ];show vo_map
def _nF:Eo (_ik c (e::E)) P X=Eo (c (e::E)) (λE x=>Wo (_ij x.2) E (λE ds=>P E (J9 0 ds))) X:=by
 ext _ik;rw[k4];congr 1;funext E x;rw[xZ];show vo_map
def v_is(h:E[i]?=some @(o,.S ds))(hp:D.pures ds=true)(k:P E ds):Eo (itV i E) P X:=by
 ext itV;rw[h];right
 rwa [Xa hp,Q3]
def _nG:Eo (_h6 (e::E)) P X=P (e::E) (.rt,wX []):=nd (by ac_rfl)
def _nH(h:Eo (vc E) (λE1 v=>_ep E1[i]?=true/\Eo (kc E1) (λE2 k=>∃(o:Own) (xs:List D) (j:Int) (n:Nat),E2[i]?=some @(o,.S xs)/\o≠.X/\k.2=.C j/\ixN xs.B j=@n/\N (E2.à i @(.rt,.S (xs.à n v.2)))) X) X):Po (_h3 i kc vc E) N C R X:=by
 show _ny (h.ý λE1 v hz=>#[hz.1,hz.2.ý λE2 k hz=>?_]);let#[o,xs,j,n,e2,ho,hk,hn,h4]:=hz;show#[_,_,e2,by ext _h2;rw[hk];right;rw[Xe ho,hn];rfl,h4]
def _nI(h:Eo (vc E) (λE1 v=>_hY E1[i]?=true/\Eo (kc E1) (λE2 k=>∃(kv:List _) (x y:Int),E2[i]?=some @(.rt,wX kv)/\k.2=.C x/\v.2=.C y/\kv.B<10000/\N (E2.à i @(.rt,wX (v4 kv x y)))) X) X):Po (_if i kc vc E) N C R X:=by
 show _ny (h.ý λE1 v hz=>#[hz.1,hz.2.ý λE2 k hz=>?_]);let#[kv,x,y,e2,hk,hv,hl,h4]:=hz;show#[_,_,e2,?_,h4];ext _ie;rw[hk,hv];right;rw[_j0,Option.bind_some,Xa (by ext big;lia)]
def _nJ(h0:E[i]?=some @(o,.C x))(h:Eo (vc E) (λE1 v=>∃y,v.2=.C y/\N (E1.à i @(.dp,.C (f x y)))) X):Po (_h4 f i vc E) N C R X:=by
 ext _h4;rw[h0,Vv];show h.ý ?_;rintro E1 v ⟨y,e1,h1⟩
 rwa [e1,_ne]
end
def _nK:_h7 (.C k) (wX kv)=@(.bl (jW kv k).isSome):=by
 ext _h7;rw[_j0]
def _nL(h:jW kv k=@v):_h9 (wX kv) (.C k)=@(.C v):=by
 ext _h9;rw[_j0];right;rw[h];rfl
def _nM:_ib (wX kv) (.C k) (.C z)=@(.C ((jW kv k).s z)):=by
 ext _ib;rw[_j0]
def _nN:_ic (wX kv)=true:=by
 ext _ic;rw[_j0];rfl
def _nO{ps:List (Int×Int)}(h:ps.B<10000):_ig (o,.S (ps.E λp=>D.M [.C p.1,.C p.2]))=@(.rt,wX (ps.foldl (λkv p=>v4 kv p.1 p.2) [])):=by
 ext _ig;right;rw[_kw];right;rw[Xa (by ext big;lia)]
section
variable {a b c kc vc:Ex}{cs:List Ex}{e:Option Sd}{E:En}{X:XP}{N C:En->Prop}{R:Sd->Prop}{P:En->Sd->Prop}{i r n:Nat}{t:Ts}
def _nP{kvs}(h:unm kvs=true):ZJ (.ÿ kvs)=@(.C kvs.B):=Xa h
def _nQ(h0:_il E[i]?=true)(h:Eo (kc E) (λE1 k=>Eo (vc E1) (λE2 v=>∃kvs,E2[i]?=some @(.rt,.ÿ kvs)/\(qV k.2=true/\kvs.B<10000/\unm kvs=true/\v.2.pure=true/\D.pures (kvs.E (·.2))=true) /\
  (∀d,xk kvs k.2=@d->P E2 (.dp,d))/\(xk kvs k.2=none->P (E2.à i @(.rt,.ÿ (kvs++[(k.2,v.2)]))) (.dp,v.2))) X) X):Eo (_im i kc vc E) P X:=by
 ext _im;rw[Xa h0,k4];show h.ý ?_;intro E1 k h1;rw[k4];show h1.ý ?_;rintro E2 v ⟨kvs,e2,hc,h3,h4⟩;rw[e2];right;rw[Xa #[hc.1,by ext big;omega,hc.2.2]];cases hg:xk kvs k.2 with|none=>right;rw[Q3];show h4 hg|some d=>right;rw[Q3];show h3 d hg
def _nR(s:Option (Option Sd))(Q:Sd->Prop):Prop:=match s with
 |some @x=>Q x|_=>False
def Om(m:Option Fl)(n:Nat)(N:En->Prop)(P:Sd->Sd->Prop)(X:XP):Prop:=match m with
 |some (.nx E)=>N E|some (.rt E x)=>_nR E[n]? (P x)|some (.xc _ c)=>X c|_=>False
def Oom(f:Fn)(xs:List Sd)(n:Nat)(P:Sd->Sd->Prop)(X:XP):Prop:=match f xs with
 |some (.ok E y)=>_nR E[n]? (P y)|some (.exc _ c)=>X c|none=>False
def _nS{nn b xs P}(h:Om (b (xs.E some++List.r (nn - xs.B) none)) n (λE=>_nR E[n]? (P (.dp,.j))) P X):Oom (fn nn b) xs n P X:=by
 ext Oom fn;cases hb:b _ with
 |none=>rw[hb]at h;show h.ß
 |some f=>
  rw[hb]at h;cases f with|nx E=>show h|rt E x=>show h|xc E c=>show h|ct E=>show h.ß|bk E=>show h.ß
def YV{a b P}(h:Om (a E) n (λE=>Om (b E) n N P X) P X):Om (j6 a b E) n N P X:=by
 ext j6;cases ha:a E with
 |none=>rw[ha]at h;show h.ß
 |some f=>
  rw[ha]at h;cases f with|nx E=>show h|rt E x=>show h|xc E c=>show h|ct E=>show h.ß|bk E=>show h.ß
def _nT{P}(h:Eo (c E) (λE x=>_nR E[n]? (P x)) X):Om (jJ c E) n N P X:=by
 ext jJ;cases hc:c E with
 |none=>rw[hc,_nd]at h;show h.ß
 |some f=>
  rw[hc]at h;cases f with|ok E x=>rw[Q3]at h;show h|exc E c=>rw[_nc]at h;show h
def _nU{a b P}(h:Eo (t E) (λE k=>if k=true then Om (a E) n N P X else Om (b E) n N P X) X):Om (sIf t a b E) n N P X:=by
 ext sIf;cases hc:t E with
 | none=>rw[hc,_nd]at h;show h.ß
 | some f=>
  rw[hc]at h;cases f with
  |ok E k=>
   rw[Q3]at h;cases k with|true=>rw[Xa rfl]at h;show h|false=>rw[Xe (by simp)]at h;show h
  |exc E c=>rw[_nc]at h;show h
def _nV{m P}(h:Po m N (λ_=>False) (λ_=>False) X):Om m n N P X:=by
 cases m with
 |none=>exists h
 |some f=>
  cases f with|nx E=>rw[_ne]at h;show h|rt E x=>rw[_nf]at h;show h.ß|xc E c=>exists h|ct E=>exists h|bk E=>exists h
def _nW{f}(h:Eo (vW cs E) (λE1 xs=>∃x,E1[i]?=some @x/\Oom f (letAll xs++[x]) xs.B (λy x'=>P (E1.à i @x') y) X) X):Eo (_in f i cs E) P X:=by
 ext _in;rw [k4];show h.ý ?_;rintro E1 xs ⟨x,e1,h1⟩;rw [e1];right;unfold Oom at h1;cases hf:f _ with
 | none=>rw[hf]at h1;show h1.ß
 | some rr=>
  rw[hf]at h1;cases rr with
  | exc E' c=>right;rw[_nc];show h1
  | ok E' y=>
   dsimp only at h1 ⊢;cases hs:E'[xs.B]? with
   |none=>rw[hs]at h1;show h1.ß
   |some s=>
    rw[hs]at h1;cases s with|none=>show h1.ß|some x'=>dsimp only at h1 ⊢;rw[Q3];show h1
def Oom.ý{f xs P Q X Y}(h:Oom f xs n P X)(hp:∀y x,P y x->Q y x)(hx:∀c,X c->Y c):Oom f xs n Q Y:=by
 unfold Oom at h ⊢;cases hf:f xs with
 | none=>rw[hf]at h;show h.ß
 | some rr=>
  rw[hf]at h;cases rr with
  | exc E' c=>show hx c h
  | ok E' y=>
   dsimp only at h ⊢;cases hs:E'[n]? with
   |none=>rw[hs]at h;show h.ß
   |some s=>
    rw[hs]at h;cases s with|none=>show h.ß|some x'=>show hp _ _ h
end
end Q
namespace C
open PySem Q
def m_read_by:Fn:=fn 8
  (j6 (sIf (tOr (tE (cF2 (f2First fIsNon) (vV 1) (vE (cC .j)))) (tE (cF2 (pu2 zw) (vV 2) (jk (vV 0) (C9 0))))) (jJ (cC .j)) k6)
  (j6 (jw 4 (cH (jk (vV 1) (C9 1))))
  (j6 (jw 5 (cH (jk (jk (jk (jk (vV 0) (C9 1)) (jk (vV 1) (C9 0))) (C9 2)) (vE (Q7 (jk (vV 0) (C9 0)) (vV 2))))))
  (j6 (jw 6 (cH (jk (vV 5) (vE (cIf (tE (cF2 (pu2 zY) (vV 3) (vV 4))) (Q7 (vV 4) (vV 3)) (cF1 (pu1 v3) (vV 4)))))))
  (j6 (sIf (tE (cF2 (f2First fIsNon) (vV 6) (vE (cC .j)))) (jJ (cC .j)) k6)
  (j6 (jw 7 (cF2 kZ (vV 4) (vE (kz .X [(cV 3)]))))
  (jJ (kz .X [(cH (jk (vV 6) (C9 0))),(cF1 J7 (vE (cLC .rt 1 [7] (itS (cH (jk (vV 6) (C9 1)))) (.n 0) tYes (cH (jk (vV 1) (vV 0))))))]))))))))
end C
namespace Q
def pu_non:D.pure .j=true:=rfl
def pu_bl:D.pure (.bl b)=true:=rfl
def pu_int:D.pure (.C i)=true:=rfl
def pu_str:D.pure (.e z)=true:=rfl
def pu_tup:D.pure (.M xs)=D.pures xs:=rfl
def pu_lst:D.pure (.S xs)=false:=rfl
def pu_dct:D.pure (.ÿ kv)=false:=rfl
def sa_nil:Jv [] [] E=@E:=rfl
def sa_cons:Jv (i::is) (d::ds) E=Jv is ds (E.à i @(.X,d)):=rfl
def tp_n:Tg.put (.n i) d E=@(E.à i @(.X,d)):=rfl
def tp_t:Tg.put (.t is) (.M ds) E=Jv is ds E:=rfl
def tp_l:Tg.put (.t is) (.S ds) E=Jv is ds E:=rfl
def so_l:_er (.S xs)=@xs:=rfl
def so_t:_er (.M xs)=@xs:=rfl
def so_s:_er (.e z)=if z.cps.O<=big then @(z.cps.p.E λc=>.e #[%[c|0]])else none:=rfl
def tr_bl:K0 (.bl b)=@b:=rfl
def tr_non:K0 .j=@false:=rfl
def tr_int:K0 (.C i)=@(i != 0):=rfl
def tr_str:K0 (.e z)=@(z.cps.O != 0):=rfl
def tr_lst:K0 (.S xs)=@(!xs.ï):=rfl
def tr_tup:K0 (.M xs)=@(!xs.ï):=rfl
def tr_dct:K0 (.ÿ kv)=@(!kv.ï):=rfl
def tq_bl:JZ (.bl b)=@b:=rfl
def tq_non:JZ .j=@false:=rfl
def tq_int:JZ (.C i)=@(i != 0):=rfl
def tq_str:JZ (.e z)=@(z.cps.O != 0):=rfl
def tq_lst:JZ (.S xs)=@(!xs.ï):=rfl
def tq_tup:JZ (.M xs)=@(!xs.ï):=rfl
end Q
local macro_rules
 | `(tactic| simp![$ts,*])=>
  let f:=λ(p s:String)(c:Array Lean.Syntax)=>(s.splitOn " ").foldl (λa s=>(a.push (kC9 "Tactic.simpLemma" (.mk [kB9 c,kB9 (.mk []),Lean.mkIdent (p++s).toName]))).push (kA9 ",")) (.mk [])
  let b:=Array.mk [kC9 "Tactic.simpPre" (.mk [kA9 "↓"])]
  let l:=f "_root_.Q." "w_seq w_asg w_ret w_pass w_if w_tup w_vV w_cV w_cMv w_cC w_vE w_cH w_f1 w_f2 w_ix w_tE w_tEQ w_tNot w_tAnd w_tOr w_tYes w_cIf w_cAnd w_cOr w_cNotQ w_call w_callB w_partN w_partS w_sl w_idx w_itS w_itEn w_chain w_R1 w_LR1 ie_i andP_bl vo_some vo_map wo_some wo_map args_nil args_cons eo_tup eo_lst" b++f "_root_." "Q.rng_ok true_and Q.isSq Q.sl_some Q.letAll Q.pu2 Q.pu1 Q.f2First Q.fIsNon Q.fNotNon Q.isNon List.map_cons List.map_nil List.cons_append List.nil_append _a.Xk List.length_nil _a.X3 List.replicate List.set_cons_zero List.set_cons_succ List.getElem?_cons_zero List.getElem?_cons_succ Q.len_l Q.len_t Q.lt_ii Q.gt_ii Q.le_ii Q.ge_ii Q.add_i Q.sub_i Q.div_i Q.mod_i Q.mulT_i Q.mul_l Option.map_some Q.tr_bl Q.tr_non Q.tr_int Q.tr_str Q.tr_lst Q.tr_tup Q.tr_dct Q.tq_bl Q.tq_non Q.tq_int Q.tq_str Q.tq_lst Q.tq_tup Q.pu_non Q.pu_bl Q.pu_int Q.pu_str Q.pu_tup Q.pu_lst Q.pu_dct if_true if_false ite_true ite_false Q.sub_no Q.sub_rt Q.sub_dp Bool.false_eq_true Bool.not_true Bool.not_false Q.tp_n Q.tp_t Q.tp_l Q.sa_nil Q.sa_cons Q.so_l Q.so_t Q.so_s Q.lstOf" (.mk [])++f "" "Nat.reduceAdd Nat.reduceSub reduceCtorEq" (.mk [])++f "" "reduceIte" b++ts.elemsAndSeps
  let i:=λs:String=>Lean.mkIdent s.toName
  let o:=λs:String=>kC9 "Tactic.configItem" (.mk [kC9 ("Tactic."++s++"ConfigItem") (.mk (if s=="neg" then [kA9 "-",i "failIfUnchanged"] else if s=="pos" then [kA9 "+",i "implicitDefEqProofs"] else [kA9 "(",i "maxSteps",kA9 ":=",Lean.Syntax.mkNumLit "1000000",kA9 ")"]))])
  let c:=kC9 "Tactic.lia" (.mk [kA9 "lia",kC9 "Tactic.optConfig" (.mk [kB9 (.mk [])])])
  pure (kC9 "Tactic.simp" (.mk [kA9 "simp",kC9 "Tactic.optConfig" (.mk [kB9 (.mk [o "neg",o "pos",o "val"])]),kB9 (.mk [kC9 "Tactic.discharger" (.mk [kA9 "(",.node .none `patternIgnore (.mk [.node .none `token.disch (.mk [kA9 "disch"])]),kA9 ":=",kC9 "Tactic.tacticSeq" (.mk [kC9 "Tactic.tacticSeq1Indented" (.mk [kB9 (.mk [c])])]),kA9 ")"])]),kB9 (.mk [kA9 "only"]),kB9 (.mk [kA9 "[",kB9 l,kA9 "]"]),kB9 (.mk [])]))
namespace C
open Q PySem
abbrev most:Int:=1000*10 ^ 64
abbrev iL(ns:List Int):D:=.S (ns.E D.C)
def Each(G:D->Sd->Prop):List D->List Sd->Prop
 |[],[]=>True|d::ds,y::ys=>G d y/\Each G ds ys|_,_=>False
def Each.snoc(h:G d y):∀{ds ys},Each G ds ys->Each G (ds++[d]) (ys++[y])
 |[],[],_=>#[h,trivial]|_::_,_::_,r=>#[r.1,Each.snoc h r.2]
def Kw(ac:En) G (h0:Eo (it E) (λE1 ds=>r.E (at' E1)=ac/\(∀d>ds,Eo (c (@(.X,d)::ac)) (λB y=>(∃q,B=q::ac)/\G d y) X)/\∀ys,Each G ds ys->Eo (mkL o (back r ac (clr r E1)) ys) P X) X):Eo (cLC o 1 r it (.n 0) tYes c E) P X:=by
 show QJ (λE1 B ds2 ae=>∃ds ds1 q,ds=ds1++ds2/\B=q::ac/\Each G ds1 ae/\(∀d>ds,Eo (c (@(.X,d)::ac)) (λB y=>(∃q,B=q::ac)/\G d y) X)/\∀ys,Each G ds ys->Eo (mkL o (back r ac (clr r E1)) ys) P X) ?_ ?_ ?_
 .show h0.ý λE1 ds hz=>by let#[h1,h2,h3]:=hz;show#[ds,[],none,rfl,by rw[<-h1];rfl,trivial,h2,h3]
 .rintro E1 B d ds2 ae ⟨ds,ds1,q,e,rfl,hE,h2,h3⟩;let hp:(Tg.n 0).put d (q::ac)=@_:=rfl;rw[hp,vo_some,show tYes _=@_ from rfl,Q3];show(h2 d (by rw[e];simp)).ý ?_;rintro B y ⟨⟨q',rfl⟩,hG⟩;show#[ds,ds1++[d],q',by rw[e];simp,rfl,hE.snoc hG,h2,h3]
 .rintro E1 B ae ⟨ds,ds1,q,e,rfl,hE,h2,h3⟩;rw[Xv]at e;subst e;show h3 ae hE
def _nX{S:Int->Prop}(hG:∀d y,G d y->∃i,y.2=.C i/\S i):∀{ds ys},Each G ds ys->∃ps:List Int,ys.E (·.2)=ps.E D.C/\ps.B=ds.B/\∀p>ps,S p
 |[],[],_=>#[[],rfl,rfl,nofun]
 |d::ds,y::ys,r=>by
  let#[i,e,s]:=hG d y r.1;let#[ps,h1,h2,h3]:=_nX hG r.2;show#[i::ps,by simp[e,h1],by simp[h2],λp hp=>(aD hp).ß (λz=>z▸s) (h3 p)]
def _nY:kq n n=[]:=by ext kq;rw[Int.sub_self];rfl
def _nZ(h:k<n):kq k n=.C k::kq (k+1) n:=by
 ext kq;let:(n - k).L=(n - (k+1)).L+1:=by
  let#[m,hm]:=Int.eq_ofNat_of_zero_le (show 0<=n - (k+1)by lia);rw[hm,show n - k=(m+1:Nat)by lia];rfl
 rw[this,List.range_succ_eq_map,List.V,Xi]
 congr 1
 .simp
 .apply Yg;intro i _
  grind
def QQ(hk:k<=n)(h:d::ds=kq k n):k<n/\d=.C k/\ds=kq (k+1) n:=by
 by_cases hl:k<n
 .rw[_nZ hl]at h;injection h with h1 h2;show#[hl,h1,h2]
 .let:k=n:=.q
  subst this;rw[_nY]at h
  symm
def Qk(hk:k<=n)(h:[]=kq k n):k=n:=by
 by_cases hl:k<n
 .rw[_nZ hl]at h;cases h
 .lia
def _n0(h:d>kq k n):∃i,k<=i/\i<n/\d=.C i:=by
 let#[j,hj,rfl]:=aE h;let:=List.mem_range.mp hj;show#[k+j,.q,by omega,rfl]
def _n1(h:k<=n):((kq k n).B:Int)=n - k:=by
 ext kq;rw[X3,Y2];lia
def _ca z i (h0:0<=i)(h1:i<z.cps.O):∃c,jY (.e z) (.C i)=@(.e #[%[c|0]]):=by
 let:i.L<z.cps.p.B:=by rw[Y9];symm
 show#[z.cps.p[i.L],?_];change((ixN z.cps.O i).bind λj=>(z.cps.p[j]?).E λc=>D.e #[%[c|0]])=_;ext ixN;rw[Xa h0,Xa h1];change((z.cps.p[i.L]?).E λc=>D.e #[%[c|0]])=_;rw[X1 this];rfl
def _n2(h:a.cps.O+b.cps.O<=10000):kZ (o1,.e a) (o2,.e b)=@(.dp,.e (a++b)):=by
 change(if a.cps.O+b.cps.O<=big then _ else _)=_;rw[Xa (by ext big;lia)]
def _n3(a b:Str):(a++b).cps.O=a.cps.O+b.cps.O:=by
 show Array.size_append
def _n4:∀ss,Kq (ss.E D.e)=@ss
 |[]=>rfl|s::ss=>by rw[List.V,Kq,_n4 ss];rfl
abbrev sL(ss:List Str):D:=.S (ss.E D.e)
def ixI ks (S:Int->Prop)(hS:∀k>ks,S k) i (h0:0<=i)(h1:i<ks.B):∃v,jY (iL ks) (.C i)=@(.C v)/\S v/\ks[i.L]?=@v:=by
 let hl:i.L<ks.B:=.q
 show#[ks[i.L],xj h0 (by rw[X7,X1 hl];rfl),hS _ (Xu hl),X1 hl]
def Q8:∀{ks},(∀k>ks,k.flat n=true)->D.flats n ks=true
 |[],_=>by cases n<;>rfl|k::ks,h=>by change(D.flat _ _&&D.flats _ _)=true;rw[h k X5,Q8 λe he=>h e (_ad _ he)];rfl
mutual
theorem _fK:∀{n} (d),d.flat n=true->peq d d=true
 |n,.non,_=>rfl|n,.bl b,_=>by show(b==b)=true;simp|n,.int b,_=>by show(b==b)=true;simp|n,.str b,_=>by show(b==b)=true;simp|n+1,.tup xs,h=>peqs_refl xs h|n+1,.lst xs,h=>peqs_refl xs h|n,.dct _,h=>by cases n<;>exact nomatch (show false=true from h)|n,.obj _ _,h=>by cases n<;>exact nomatch (show false=true from h)
theorem peqs_refl:∀{n} ds,D.flats n ds=true->peqs ds ds=true
 |_,[],_=>by rfl
 |n,d::ds,h=>by
  have h:(D.flat _ _&&D.flats _ _)=true:=h;rw[Bool.and_eq_true]at h;show(peq d d&&peqs ds ds)=true;rw[_fK d h.1,peqs_refl ds h.2];rfl
end
def eq_self(h:d.flat 40=true):fEq d d=@(.bl true):=by ext fEq;rw[h,_fK d h];rfl
def _n5(h:d.flat 40=true):fNe d d=@(.bl false):=by ext fNe;rw[h,_fK d h];rfl
def p0(a b:D):jY (.M [a,b]) (.C 0)=@a:=rfl
def p1(a b:D):jY (.M [a,b]) (.C 1)=@b:=rfl
def t0(a b c:D):jY (.M [a,b,c]) (.C 0)=@a:=rfl
def t1(a b c):jY (.M [a,b,c]) (.C 1)=@b:=rfl
def t2(a b c):jY (.M [a,b,c]) (.C 2)=@c:=rfl
def QX(hG:∀d y,G d y->y.2=h d):∀{ds ys},Each G ds ys->ys.E (·.2)=ds.E h
 |[],[],_=>rfl|d::ds,y::ys,r=>by rw[List.V,List.V,hG d y r.1,QX hG r.2]
abbrev jq(ss:List Str)(rs:List D):D:=.M [sL ss,.S rs]
def _n6{α:Type}[DecidableEq α]:∀{l m:List α},l.l->(∀x>l,x>m)->l.B<=m.B
 |[],_,_,_=>Ya _
 |a::l,m,nd,h=>by
  rw[Zm]at nd;let ha:=h a X5;let:=_n6 nd.2 λx hx=>(List.mem_erase_of_ne (by rintro rfl;show nd.1 hx)).å (h x (_ad _ hx))
  grind
def _n7{o xs}(h:o≠.dp):Wv (o,.S xs)=@(.rt,.S xs):=by
 change(if qY _ then _ else _)=_;rw[Xa (by cases o<;>simp_all [qY])]
def _n8{z ss}:zw (.e z) (sL ss)=@(.bl (!ss.è λw=>w==z)):=by
 change YQ _ _=_;ext YQ;let:fIn (.e z) (sL ss)=@(.bl (ss.è λw=>w==z)):=by
  change(if(D.e z).flat 30&&D.flats 30 _ then @_ else none)=_;rw[Q8 (λk hk=>by let#[w,_,rfl]:=aE hk;rfl),List.any_map];rfl
 rw[this];rfl
def XQ{ks:List Int}:zY (.C p) (.M (ks.E D.C))=@(.bl (ks.è λw=>w==p)):=by
 change(if(D.C p).flat 30&&D.flats 30 _ then @_ else none)=_;rw[Q8 (λk hk=>by let#[w,_,rfl]:=aE hk;rfl),List.any_map];rfl
def ZQ{ks:List Int}:(ks.è λw=>w==p)=decide (p>ks):=by
 rw[Bool.eq_iff_iff];simp
def z3(own k:Int):Int:=own+(if k=own then 1 else 0)
def Cs(kps:List Int)(b:Int)(c:D):Prop:=c=.j\/∃(to:Int) (fs:List Int),c=.M [.C to,.M (fs.E D.C)]/\0<=to/\to<kps.B/\(∀f>fs,0<=f/\f<b)/\fs.l/\(fs.B:Int)=kps.s to.L 0
def _lB:∀{l:List α} {i} (h),(l[i]::l.ø i).á l
 |a::l,0,h=>List.á.î _
 |a::l,i+1,h=>by
  let:=_lB (~~~h);show(List.á.swap ..).H (this.ä a)
def _n9(f:α->β):∀(l:List α) (i),(l.E f).ø i=(l.ø i).E f
 |[],_=>rfl|a::l,0=>rfl|a::l,i+1=>by rw[List.V,List.eraseIdx_cons_succ,List.eraseIdx_cons_succ,List.V,_n9 f l i]
def _oa(a b:Int):Q2 (.bl (a==b))=@(.C (if a=b then 1 else 0)):=by
 by_cases h:a=b
 .rw[Xa h,show(a==b)=true by simpa using h];rfl
 .rw[Xe h,show(a==b)=false by simpa using h];rfl
def Pr(kps:List Int)(n:Nat)(own:Int)(d:D):Prop:=∃(gd:Bool) (st:List D),d=.M [.C own,.bl gd,.S st]/\st.B=n/\∀c>st,∃cs:List D,c=.S cs/\(cs.B:Int)=own+1/\∀k:Nat,k<cs.B->∃z,cs[k]?=@z/\Cs kps (z3 own k) z
def Prs(kps:List Int)(n:Nat)(rs:List D):Prop:=rs.B=kps.B/\∀i:Nat,i<kps.B->∃r,rs[i]?=@r/\Pr kps n (kps.s i 0) r
def _ob:∀{l:List α},l.è p=true->l.findIdx? p=@(l.y p)
 | [],h=>by cases h
 | a::l,h=>by
  rw[List.findIdx?_cons,List.findIdx_cons];cases hp:p a with
  |true=>rfl
  |false=>
   rw[Zd,hp]at h;rw[_ob h];rfl
def _oc{l:List α}(h:l.è p=true):l.y p<l.B:=by
 let#[x,hx,hp]:=List.any_eq_true.mp h;show Yi #[x,hx,hp]
def _od{l:List α}(h:l.è p=false):l.y p=l.B:=by
 rw[List.findIdx_eq_length];intro x hx;cases hp:p x with|false=>rfl|true=>rw[List.any_eq_true.å #[x,hx,hp]]at h;cases h
def _oe(h:(ss.è λw=>w==z)=true):_hS (sL ss) (.e z)=@(.C (ss.y λw=>w==z:Nat)):=by
 change(if(D.e z).flat 30&&D.flats 30 _ then((ss.E D.e).findIdx? λw=>peq w _).E λ(j:Nat)=>D.C j else none)=_;rw[Q8 (λk hk=>by let#[w,_,rfl]:=aE hk;rfl),List.findIdx?_map];let:ss.findIdx? ((λw=>peq w (.e z))∘D.e)=ss.findIdx? λw=>w==z:=rfl
 rw[this,_ob h];rfl
def _of{ks:List Int}(h:(ks.è λw=>w==p)=true):_hS (.M (ks.E D.C)) (.C p)=@(.C (ks.y λw=>w==p:Nat)):=by
 change(if(D.C p).flat 30&&D.flats 30 _ then((ks.E D.C).findIdx? λw=>peq w _).E λ(j:Nat)=>D.C j else none)=_;rw[Q8 (λk hk=>by let#[w,_,rfl]:=aE hk;rfl),List.findIdx?_map];let:ks.findIdx? ((λw=>peq w (.C p))∘D.C)=ks.findIdx? λw=>w==p:=rfl
 rw[this,_ob h];rfl
def _og(hl:a.B+b.B<=10000):kZ (.X,.M a) (.X,.M b)=@(.X,.M (a++b)):=by
 change(if a.B+b.B<=big/\qY _/\qY _ then _ else _)=_;rw[Xa #[by ext big;lia,rfl,rfl]]
abbrev iT(ks:List Int):D:=.M (ks.E D.C)
def nameAt(ks:List Int)(p:Int)(f:Int):Int:=(ks++[p]).s f.L 0
def WJ(ks:List Int)(p:Int)(c:D):D:=match c with
 |.M [to,.M fs]=>.M [to,.M (fs.E λf=>match f with|.C i=>.C (nameAt ks p i)|_=>.j)]
 |_=>.j
def caseD_is:WJ ks p (.M [.C to,iT fs])=.M [.C to,iT (fs.E (nameAt ks p))]:=by
 ext WJ iT;simp
def wv(ss:List Str)(st:List D)(ks:List Int)(z:Str)(p:Int):D:=match st[ss.y λw=>w==z]? with
 |some (.S cs)=>cs.s (ks.y λw=>w==p) .j|_=>.j
def vX(ss:List Str)(st:List D)(ks:List Int)(z:Str)(p:Int):D:=if(ss.è λw=>w==z)=true then WJ ks p (wv ss st ks z p)else .j
def Cas(kps:List Int)(n:Nat)(own:Int)(st:List D):Prop:=st.B=n/\∀c>st,∃cs:List D,c=.S cs/\(cs.B:Int)=own+1/\∀k:Nat,k<cs.B->∃z,cs[k]?=@z/\Cs kps (z3 own k) z
def _oh{ks:List Int}:(ks.y λw=>w==p)<=ks.B:=List.findIdx_le_length
def _oi p (h:Cas kps ss.B ks.B st)(hz:(ss.è λw=>w==z)=true):∃cs,st[ss.y λw=>w==z]?=@(.S cs)/\(cs.B:Int)=ks.B+1/\cs[ks.y λw=>w==p]?=@(wv ss st ks z p)/\Cs kps (z3 ks.B (ks.y λw=>w==p:Nat)) (wv ss st ks z p):=by
 let hj:(ss.y λw=>w==z)<st.B:=by rw[h.1];show _oc hz
 let#[cs,e,hl,hc]:=h.2 st[ss.y λw=>w==z] (Xu hj);let hg:st[ss.y λw=>w==z]?=@(.S cs):=by rw[X1 hj,e]
 let gw:=_oh (ks:=ks) (p:=p);let#[c,e2,hC]:=hc (ks.y λw=>w==p) (by omega);let u7:wv ss st ks z p=c:=by ext wv;rw[hg];right;rw[X2,e2];rfl
 show#[cs,hg,hl,by rw[u7];show e2,by rw[u7];show hC]
def _oj(h0:0<=f)(h1:f<=ks.B):jY (.M (ks.E D.C++[.C p])) (.C f)=@(.C (nameAt ks p f)):=by
 show ix_t h0 ?_;rw[show ks.E D.C++[D.C p]=(ks++[p]).E D.C by simp,X7];ext nameAt;rw[X2,X1 (by simp;lia)];rfl
def _ok:z3 own k<=own+1:=by ext z3;split<;>lia
def _ol{a0 a1 a2 a5 a6 a7 o3 o4 ks p P X}:Eo (cIf (tE (cF2 (pu2 zY) (vV 3) (vV 4))) (Q7 (vV 4) (vV 3)) (cF1 (pu1 v3) (vV 4)) [a0,a1,a2,@(o3,.C p),@(o4,iT ks),a5,a6,a7]) P X=P [a0,a1,a2,@(o3,.C p),@(o4,iT ks),a5,a6,a7] (.dp,.C (ks.y λw=>w==p:Nat)):=by
 cases hp:(ks.è λw=>w==p)with|true=>simp![XQ,hp,_of hp]|false=>simp![XQ,hp,_od hp]
def _om(h0:0<=room)(hr:rs[room.L]?=@(.M [kp,gd,.S st]))(hc:Cas kps ss.B ks.B st)(hl:ks.B<=1000):
  Oo m_read_by [(.X,jq ss rs),(.X,.M [.C room,iT ks]),(.X,.e z),(.X,.C p)] (λy=>y.2=vX ss st ks z p) noX:=by
 let hi:jY (.S rs) (.C room)=@(.M [kp,gd,.S st]):=xj h0 hr;let hif:=λa5 a6 a7 P=>@@_ol @(.X,jq ss rs) @(.X,.M [.C room,iT ks]) @(.X,.e z) a5 a6 a7 .X .X ks p P noX
 ext vX m_read_by;generalize cIf _ _ _=I at hif ⊢;show k7 ?_;cases hz:(ss.è λw=>w==z)with
 | false=>simp![p0,_n8,hz]
 | true=>
  let#[cs,g1,g2,g3,g4]:=_oi p hc hz;let hx:jY (.S st) (.C (ss.y λw=>w==z:Nat))=@(.S cs):=xj (by simp) (by rw[Xp];show g1);let hy:jY (.S cs) (.C (ks.y λw=>w==p:Nat))=@(wv ss st ks z p):=xj (by simp) (by rw[Xp];show g3);let gz:=_og (a:=ks.E D.C) (b:=[.C p]) (by simp;lia);let nj:=_oe hz;let hb:=_ok (own:=ks.B) (k:=(ks.y λw=>w==p:Nat));generalize wv ss st ks z p=c at g4 hy;rw[Xa rfl];generalize hR:j6 (sIf (tE (cF2 _ (vV 6) _)) _ _) _=R;simp![p0,p1,_n8,hz,hi,t2,nj,hx,hif,hy];subst hR;let rfl\/#[to,fs,rfl,t0',t1',hfs,_]:=g4
  .simp![];rfl
  .simp![p0,p1,gz];show Kw [@(.X,.M (ks.E D.C++[.C p]))] (λf y=>y.2=match f with|.C i=>.C (nameAt ks p i)|_=>.j) ?_;simp![p1];show#[rfl,λf hf=>?_,λys hy=>?_]
   .let#[i,iz,rfl]:=aE hf;let:=hfs i iz;simp![_oj (ks:=ks) (p:=p) (f:=i) this.1 .q];show#[#[_,rfl],trivial]
   .rw[wW,QX (h:=λf=>match f with|.C i=>.C (nameAt ks p i)|_=>.j) (λd y h=>h) hy,Xi,show(_∘D.C)=D.C∘nameAt ks p from rfl,<-Xi];dsimp[back,clr,at',List.set_cons_zero,List.set_cons_succ];simp![tup_l (o:=.X) (xs:=(fs.E (nameAt ks p)).E D.C) .q];show caseD_is.i
def neg1:JY (.C 1)=@(.C (-1)):=rfl
def _on{xs c}(h0:0<=c)(h1:c<=xs.B):Qz xs none @c=xs.take c.L:=by
 ext Qz Zx;right;rw[Xe .q,List.drop_zero,Nat.sub_zero,Nat.min_eq_left (Int.toNat_le.å h1)]
def Ok2(kps:List Int)(s:D):Prop:=s=.j\/∃(room:Int) (ks:List Int),s=.M [.C room,iT ks]/\0<=room/\room<kps.B/\(ks.B:Int)=kps.s room.L 0
def Rd(kps:List Int)(ss:List Str)(rs:List D)(s:D)(w:Str×Int)(s':D):Prop:=(s=.j/\s'=.j)\/∃(room:Int) (ks:List Int) (st:List D) (kp gd:D),s=.M [.C room,iT ks]/\0<=room/\rs[room.L]?=@(.M [kp,gd,.S st])/\Cas kps ss.B ks.B st/\ks.B<=6/\s'=vX ss st ks w.1 w.2
abbrev _root_.Abk(l:List Int):Prop:=∀p>l,0<=p/\p<=3
def _cD w (hP:Prs kps ss.B rs)(hk:Abk kps)(h:Ok2 kps s):∃s',Rd kps ss rs s w s'/\Ok2 kps s'/\((ss.è λz=>z==w.1)=false->s'=.j):=by
 let rfl\/#[room,ks,rfl,r0,r1,hl]:=h
 .show#[.j,.R #[rfl,rfl],.R rfl,λ_=>rfl]
 .let#[r,er,gd,st,rfl,km,b6]:=hP.2 room.L .q;let hk3:=hk (kps.s room.L 0) (by rw[X2,X1 .q];show Xu _);let jc:Cas kps ss.B ks.B st:=#[km,by rw[hl];show b6];show#[vX ss st ks w.1 w.2,.Z #[room,ks,st,_,_,rfl,r0,er,jc,.q,rfl],?_,λhz=>?_]
  .ext vX;cases hz:(ss.è λz=>z==w.1)with
   |false=>show .R rfl
   |true=>
    let#[cs,g1,g2,g3,g4]:=_oi w.2 jc hz;let e\/#[to,fs,e,t0,t1,_,_,hfl]:=g4
    .rw[e];show .R rfl
    .rw[e,caseD_is];show .Z #[to,_,rfl,t0,t1,by rw[X3];show hfl]
  .ext vX;rw[hz];rfl
def _oo(h:Rd kps ss rs s w s'):Oo m_read_by [(.X,jq ss rs),(.X,s),(.X,.e w.1),(.X,.C w.2)] (λy=>y.2=s') noX:=by
 let#[rfl,rfl]\/#[room,ks,st,kp,gd,rfl,r0,er,hc,hl,rfl]:=h
 .show k7 ?_;simp![]
 .show _om r0 er hc .q
abbrev Lw:=List (Str×Int)
def Ch2(kps:List Int)(ss:List Str)(rs:List D):D->Lw->D->Prop
 |s,[],s'=>s=s'|s,x::r,s'=>∃m,Rd kps ss rs s x m/\Ch2 kps ss rs m r s'
def goodD(rs:List D)(s:D):Bool:=match s with
 |.M [.C room,_]=>(match rs[room.L]? with
  |some (.M [_,.bl b,_])=>b
  |_=>false)
 |_=>false
noncomputable section
def x6(K:List D)(d:D):List D:=if d>K then K else K++[d]
end
noncomputable section
end
end C
namespace B
open PySem Q
def m_keepers_in:Fn:=fn 2
  (jJ (cIf (tE (cF2 (pu2 fEq) (vV 1) (vE (cC (.C (-1)))))) (cC (.C 0)) (cH (jk (jk (jk (vV 0) (C9 1)) (vV 1)) (C9 0)))))
def m_standing_in:Fn:=fn 2
  (jJ (cIf (tE (cF2 (pu2 fEq) (vV 0) (vE (cC (.C (-1)))))) (cC .j) (kz .X [(cV 0),(cF1 J7 (vV 1))])))
def m_first_standings:Fn:=fn 7
  (j6 (jw 3 (jv m_keepers_in [(cV 0),(cH (jk (vV 2) (C9 0)))]))
  (j6 (jw 4 (cF1 _ig (vE (cLC .rt 2 [] (itS (cH (jk (vV 2) (C9 2)))) (.t [0,1]) tYes (kz .X [(cV 1),(cV 0)])))))
  (j6 (jw 5 (qx .rt []))
  (j6 (qW (xz (vE (jv m_keepers_in [(cV 1),(cH (jk (vV 2) (C9 1)))]))) (.n 6) (vx vK 5 (cIf (tE (cF2 (pu2 _h7) (vV 6) (vV 4))) (cH (_ia (vV 4) (vV 6))) (cF2 kZ (vV 3) (vE (cF1 (pu1 v3) (vE (cLC .rt 1 [3] (itV 5) (.n 0) (tE (cF2 (pu2 fGe) (vV 0) (vV 1))) (cV 0)))))))))
  (jJ (kz .X [(jv m_standing_in [(cH (jk (vV 2) (C9 0))),(XJ (vV 3))]),(_hU m_standing_in [(jk (vV 2) (C9 1)),(vV 5)])]))))))
def m_names_of:Fn:=fn 1
  (jJ (cIf (tE (cF2 (f2First fIsNon) (vV 0) (vE (cC .j)))) (kz .X []) (cH (jk (vV 0) (C9 1)))))
def m_room_of:Fn:=fn 1
  (jJ (cIf (tE (cF2 (f2First fIsNon) (vV 0) (vE (cC .j)))) (cC (.C (-1))) (cH (jk (vV 0) (C9 0)))))
def m_pair_of:Fn:=fn 4
  (j6 (jw 1 (jv m_names_of [(cH (jk (vV 0) (C9 0)))]))
  (j6 (jw 2 (jv m_names_of [(cH (jk (vV 0) (C9 1)))]))
  (j6 (jw 3 (cLC .rt 2 [2] (_ik (cV 1)) (.t [0,1]) (tE (cF2 (pu2 zY) (vV 1) (vV 2))) (kz .X [(cV 0),(Q7 (vV 2) (vV 1))])))
  (jJ (kz .X [(jv m_room_of [(cH (jk (vV 0) (C9 0)))]),(jv m_room_of [(cH (jk (vV 0) (C9 1)))]),(cF1 J7 (vV 3))])))))
def m_read_by_both:Fn:=fn 5
  (jJ (kz .X [(jv C.m_read_by [(cV 0),(cH (jk (vV 2) (C9 0))),(cV 3),(cV 4)]),(jv C.m_read_by [(cV 1),(cH (jk (vV 2) (C9 1))),(cV 3),(cV 4)])]))
def m_held_by_both:Fn:=fn 2
  (j6 (jw 1 (jv m_names_of [(cH (jk (vV 0) (C9 0)))]))
  (jJ (cF2 kZ (vV 1) (vE (cF1 J7 (vE (cLC .rt 1 [1] (itS (jv m_names_of [(cH (jk (vV 0) (C9 1)))])) (.n 0) (tE (cF2 (pu2 zw) (vV 0) (vV 1))) (cV 0))))))))
def m_is_good_in:Fn:=fn 2
  (jJ (zW (vE (cF2 (pu2 fNe) (vV 1) (vE (cC (.C (-1)))))) (cH (jk (jk (jk (vV 0) (C9 1)) (vV 1)) (C9 1)))))
def m_agrees:Fn:=fn 3
  (jJ (cF2 (pu2 fEq) (vE (jv m_is_good_in [(cV 0),(cH (jk (vV 2) (C9 0)))])) (vE (jv m_is_good_in [(cV 1),(cH (jk (vV 2) (C9 1)))]))))
end B
namespace B
open Q PySem C
abbrev Sn:=Option (Int×List Int)
def stn:Sn->D
 |none=>.j|some p=>.M [.C p.1,iT p.2]
def nms:Sn->List Int
 |none=>[]|some p=>p.2
def rmO:Sn->Int
 |none=>-1|some p=>p.1
def _op s:Oo m_names_of [(.X,stn s)] (λy=>y=(.X,iT (nms s))) noX:=by
 cases s with
 |none=>
  show k7 ?_;simp![stn];rfl
 |some p=>
  show k7 ?_;simp![stn,p1];rfl
def _oq s:Oo m_room_of [(.X,stn s)] (λy=>∃o',y=(o',.C (rmO s))/\True) noX:=by
 cases s with
 |none=>
  show k7 ?_;simp![stn];show#[_,rfl,trivial]
 |some p=>
  show k7 ?_;simp![stn,p0];show#[_,rfl,trivial]
def _or(h:Rd kps ss rs s w s')(h':Rd a9 ss rs' t w t'):Oo m_read_by_both [(.X,jq ss rs),(.X,jq ss rs'),(.X,.M [s,t]),(.X,.e w.1),(.X,.C w.2)] (λy=>y=(.X,.M [s',t'])) noX:=by
 show k7 ?_;simp![p0];show(_oo h).via ?_;rintro ⟨o,d⟩ e;cases(show d=s' from e);simp![p1];show(_oo h').via ?_;rintro ⟨o',d⟩ e;cases(e);simp![]
def jZ(o t:List Int):List Int:=o++t.filter λn=>!(o.è λw=>w==n)
def _os{ks:List Int}:zw (.C p) (.M (ks.E D.C))=@(.bl (!(ks.è λw=>w==p))):=by
 change YQ _ _=_;ext YQ;let:fIn _ (.M _)=@(.bl (ks.è λw=>w==p)):=XQ;rw[this];rfl
inductive HoA (P:D)(a b:Sn):En->En->List D->List Sd->Prop
 |mk {q:Option Sd} {ds:List D} {ae:List Sd} (f1 f2:List Int) (h1:nms b=f1++f2) (h2:ds=f2.E D.C) (h3:ae.E (·.2)=(f1.filter λn=>!(nms a).è λw=>w==n).E D.C):HoA P a b [@(.X,P),@(.X,iT (nms a))] [q,@(.X,iT (nms a))] ds ae
def _ot(a b)(ha:(nms a).B<=100)(hb:(nms b).B<=100):Oo m_held_by_both [(.X,.M [stn a,stn b])] (λy=>y=(.X,iT (jZ (nms a) (nms b)))) noX:=by
 show k7 ?_;simp![p0];show(_op a).via ?_;rintro _ rfl;simp![p1];show QJ (HoA (.M [stn a,stn b]) a b) ?_ ?_ ?_
 .simp![p1];show(_op b).via ?_;rintro _ rfl;simp![];show .mk [] (nms b) rfl rfl rfl
 .rintro E1 B d ds ae ⟨f1,f2,hf,bc,av⟩;cases f2 with
  | nil=>cases bc
  | cons z f2=>
   injection bc with e1 e2;subst e1 e2;simp![_os];cases hz:((nms a).è λw=>w==z)with
   |true=>
    show .mk (f1++[z]) f2 (by rw[hf];simp) rfl ?_;rw[av,Yl];simp[hz]
   |false=>
    show .mk (f1++[z]) f2 (by rw[hf];simp) rfl ?_;rw[Xd,av,Yl];simp[hz]
 .rintro E1 B ae ⟨f1,f2,hf,bc,av⟩;cases f2 with
  |cons=>symm
  |nil=>
   rw[Xv]at hf;subst hf;let gw:((nms b).filter λn=>!(nms a).è λw=>w==n).B<=100:=Yb (List.length_filter_le _ _) hb;rw[wW,av];simp![Q.tup_l (o:=.X) (xs:=((nms b).filter λn=>!(nms a).è λw=>w==n).E D.C) .q,_og (a:=(nms a).E D.C) (b:=((nms b).filter λn=>!(nms a).è λw=>w==n).E D.C) (by rw[X3,X3];lia)];ext jZ iT;rw[Xd]
def jX(t:List Int):Nat->List Int->List (Int×Int)
 |_,[]=>[]|k,n::o=>if(t.è λw=>w==n)=true then((k:Int),((t.y λw=>w==n:Nat):Int))::jX t (k+1) o else jX t (k+1) o
abbrev prs(l:List (Int×Int)):List D:=l.E λp=>.M [.C p.1,.C p.2]
def jQ(a b:Sn):D:=.M [.C (rmO a),.C (rmO b),.M (prs (jX (nms b) 0 (nms a)))]
inductive PoA (P:D)(a b:Sn):En->En->List D->List Sd->Prop
 |mk {q0 q1:Option Sd} {ds:List D} {ae:List Sd} (f1 f2:List Int) (h1:nms a=f1++f2) (h2:ds=J9 f1.B (f2.E D.C)) (h3:ae.E (·.2)++prs (jX (nms b) f1.B f2)=prs (jX (nms b) 0 (nms a))):PoA P a b [@(.X,P),@(.X,iT (nms a)),@(.X,iT (nms b)),none] [q0,q1,@(.X,iT (nms b))] ds ae
#where in
def _ou(a b)(ha:(nms a).B<=100)(hb:(nms b).B<=100):Oo m_pair_of [(.X,.M [stn a,stn b])] (λy=>y=(.X,jQ a b)) noX:=by
 show k7 ?_;simp![p0,p1];show(_op a).via ?_;rintro _ rfl;simp![p0,p1];show(_op b).via ?_;rintro _ rfl;simp![];show QJ (PoA (.M [stn a,stn b]) a b) ?_ ?_ ?_
 .simp![↓_nF,show _ij (iT (nms a))=@((nms a).E D.C)from rfl];show .mk [] (nms a) rfl rfl rfl
 .rintro E1 B d ds ae ⟨f1,f2,hf,bc,av⟩;cases f2 with
  | nil=>cases bc
  | cons z f2=>
   injection bc with e1 e2;subst e1 e2;simp![XQ];let ib:(f1++[z]).B=f1.B+1:=by simp
   cases hz:((nms b).è λw=>w==z)with
   |false=>
    show .mk (f1++[z]) f2 (by rw[hf];simp) (by rw[ib]) ?_;rw[<-av,ib]
    conv=>rhs;unfold jX
    rw[hz,Xe .q]
   |true=>
    simp![_of hz];show .mk (f1++[z]) f2 (by rw[hf];simp) (by rw[ib]) ?_;rw[<-av,ib,Xd,Xs]
    conv=>rhs;unfold jX
    rw[hz,Xa rfl];rfl
 .rintro E1 B ae ⟨f1,f2,hf,bc,av⟩;revert q0 q1;cases f2 with
  |cons=>cases bc
  |nil=>
   let av:ae.E (·.2)=prs (jX (nms b) 0 (nms a)):=by rw[<-av];simp[jX]
   rw[wW,av,show J3 2 [2] [q0,q1,@(Own.X,iT (nms b))] [@(Own.X,D.M [stn a,stn b]),@(Own.X,iT (nms a)),@(Own.X,iT (nms b)),none]=[@(Own.X,D.M [stn a,stn b]),@(Own.X,iT (nms a)),@(Own.X,iT (nms b)),none]from rfl];simp![p0,p1];show(_oq a).use ?_;intro o1 _;simp![p0,p1];show(_oq b).use ?_;intro o2 _;simp![Q.tup_l (o:=.rt) (xs:=prs (jX (nms b) 0 (nms a))) .q];rfl
def Kpr(rs:List D)(room k:Int):Prop:=(room=-1/\k=0)\/(0<=room/\∃g st,rs[room.L]?=@(.M [.C k,g,st]))
def eqi(h:(a==b)=k):fEq (.C a) (.C b)=@(.bl k):=by rw[<-h];rfl
def _ov(h:Kpr rs room k):Oo m_keepers_in [(.X,jq ss rs),(.X,.C room)] (λy=>∃o',y=(o',.C k)/\True) noX:=by
 show k7 ?_;let#[rfl,rfl]\/#[h0,g,st,hr]:=h
 .simp![eqi rfl];show#[_,rfl,trivial]
 .let be:(room == -1)=false:=Yf .q;simp![p1,eqi be,(xj h0 hr),show jY (.M [.C k,g,st]) (.C 0)=@_ from rfl];show#[_,rfl,trivial]
def wj(room:Int)(ks:List Int):Sn:=if room=-1 then none else @(room,ks)
def _ow room ks o (ho:o≠.dp):Oo m_standing_in [(.X,.C room),(o,iL ks)] (λy=>∃o',y=(o',stn (wj room ks))/\True) noX:=by
 ext m_standing_in wj;show k7 ?_
 by_cases h:room=-1
 .subst h;simp![eqi rfl];show#[_,rfl,trivial]
 .let be:_=false:=Yf h;rw[Xe h];simp![eqi be,Q.tup_l ho];show#[_,rfl,trivial]
def nmF(own:Int)(kv:List (Int×Int)):Nat->List Int
 |0=>[]
 |n+1=>nmF own kv n++[match jW kv n with
  |some i=>i
  |none=>own+((nmF own kv n).filter λx=>decide (own<=x)).B]
def _ox:∀(ks:List Int),D.pures (ks.E D.C)=true
 |[]=>rfl
 |k::ks=>by
  rw[List.V];ext D.pures;rw[_ox ks];rfl
def _oy own kv n:nmF own kv (n+1)=nmF own kv n++[match jW kv n with|some i=>i|none=>own+((nmF own kv n).filter λx=>decide (own<=x)).B]:=rfl
def _oz k:kq 0 k=(((List.range k.L).E λ(i:Nat)=>(i:Int)).E D.C):=by
 ext kq;rw[Xi,Int.sub_zero];show Yg λi _=>?_
 change D.C _=D.C i;rw[Int.zero_add]
def _oA s:(stn s).pure=true:=by
 cases s with
 |none=>rfl
 |some p=>
  change D.pures [.M _]=true;dsimp[D.pures,D.pure,_ox,Bool.and_self]
def Q5(own)(kv):∀n,(nmF own kv n).B=n
 |0=>rfl|n+1=>by ext nmF;rw[Xb,Q5 own kv n];rfl
def kvS(sh:List (Int×Int)):List (Int×Int):=(sh.E λp=>(p.2,p.1)).foldl (λkv p=>v4 kv p.1 p.2) []
inductive FsA (m m' P:D)(o1:Own)(k:Int)(sh:List (Int×Int)):En->En->List D->List Sd->Prop
 |mk {q0 q1:Option Sd} {ds:List D} {ae:List Sd} (f1 f2:List (Int×Int)) (h1:sh=f1++f2) (h2:ds=prs f2) (h3:ae.E (·.2)=prs (f1.E λp=>(p.2,p.1))):FsA m m' P o1 k sh [@(.X,m),@(.X,m'),@(.X,P),@(o1,.C k),none,none,none] [q0,q1] ds ae
inductive FsB (m m' P:D)(o1:Own)(k k':Int)(sh:List (Int×Int)):En->List D->Prop
 |mk {l6:Option Sd} {ac:List D} (j:Int) (h1:0<=j) (h2:j<=k') (h3:ac=kq j k'):FsB m m' P o1 k k' sh [@(.X,m),@(.X,m'),@(.X,P),@(o1,.C k),@(.rt,wX (kvS sh)),@(.rt,iL (nmF k (kvS sh) j.L)),l6] ac
inductive FsE (m m' P:D)(o1:Own)(k:Int)(sh:List (Int×Int))(j:Int):En->En->List D->List Sd->Prop
 |mk {q0:Option Sd} {ds:List D} {ae:List Sd} (f1 f2:List Int) (h1:nmF k (kvS sh) j.L=f1++f2) (h2:ds=f2.E D.C) (h3:ae.E (·.2)=(f1.filter λx=>decide (k<=x)).E D.C):FsE m m' P o1 k sh j [@(.X,m),@(.X,m'),@(.X,P),@(o1,.C k),@(.rt,wX (kvS sh)),@(.rt,iL (nmF k (kvS sh) j.L)),@(.X,.C j)] [q0,@(o1,.C k)] ds ae
#where in
def _oB (hp:Kpr rs p k) (hq:Kpr rs' q k') (hk:0<=k) (pc:k<=100) (aj:0<=k') (hk2':k'<=100) (li:sh.B<=100):
  Oo m_first_standings [(.X,jq ss rs),(.X,jq ss rs'),(.X,.M [.C p,.C q,.M (prs sh)])] (λy=>y=(.X,.M [stn (wj p ((List.range k.L).E λ(i:Nat)=>(i))),stn (wj q (nmF k (kvS sh) k'.L))])) noX:=by
 show k7 ?_;simp![t0,t1,t2];show (_ov hp).use ?_;intro o1 _;simp![t0,t1,t2];show QJ (FsA (jq ss rs) (jq ss rs') (.M [.C p,.C q,.M (prs sh)]) o1 k sh) ?_ ?_ ?_
 .simp![t2];show .mk [] sh rfl rfl rfl
 .rintro E1 B d ds ae ⟨f1,f2,hf,bc,av⟩;cases f2 with
  | nil=>cases bc
  | cons z f2=>
   let bc:d::ds=.M [.C z.1,.C z.2]::prs f2:=bc;injection bc with e1 e2;subst e1 e2;simp![];show .mk (f1++[z]) f2 (by rw[hf];simp) rfl ?_;rw [Xd,av,Xd];simp
 .rintro E1 B ae ⟨f1,f2,hf,bc,av⟩;revert q0 q1;cases f2 with
  | cons=>cases bc
  | nil =>
   rw [Xv]at hf;subst hf;rw [wW,av,show J3 2 [] [q0,q1] [@(Own.X,jq ss rs),@(Own.X,jq ss rs'),@(Own.X,D.M [D.C p,D.C q,D.M (prs sh)]),@(o1,D.C k),none,none,none]=[@(Own.X,jq ss rs),@(Own.X,jq ss rs'),@(Own.X,D.M [D.C p,D.C q,D.M (prs sh)]),@(o1,D.C k),none,none,none]from rfl];let jy:_ig (Own.X,D.S (prs (sh.E λp=>(p.2,p.1))))=@(.rt,wX (kvS sh)):=_nO (by rw[X3];lia);simp![jy];show wq (FsB (jq ss rs) (jq ss rs') (.M [.C p,.C q,.M (prs sh)]) o1 k k' sh) ?_ ?_ ?_
   .simp![t0,t1,t2];show(_ov hq).use ?_;intro o2 _;simp![];show .mk 0 .q aj rfl
   .rintro E d ds ⟨j,j0,j1,hr⟩;let#[hj,rfl,rfl]:=QQ j1 hr;let wp:(j+1).L=j.L+1:=.q
    let vy:((j.L:Nat):Int)=j:=by grind
    simp![];show xX rfl ?_;cases hv:jW (kvS sh) j with
    | some v=>
     simp![↓_nC,_nK,_nL hv,hv,Option.isSome_some];show#[_,rfl,by rw[X3,Q5];lia,?_];let e:(nmF k (kvS sh) j.L).E D.C++[.C v]=(nmF k (kvS sh) (j+1).L).E D.C:=by
      rw[wp,_oy,vy,hv];simp
     rw [e];show .mk (j+1) .q .q rfl
    | none=>
     simp![↓_nC,_nK,hv,Option.isSome_none];let hge:∀z,fGe (.C z) (.C k)=@(.bl (decide (k<=z))):=λz=>rfl
     show QJ (FsE (jq ss rs) (jq ss rs') (.M [.C p,.C q,.M (prs sh)]) o1 k sh j) ?_ ?_ ?_
     .show v_is rfl (_ox _) (.mk [] _ rfl rfl rfl)
     .rintro E1 B d ds ae ⟨f1,f2,hf,bc,av⟩;cases f2 with
      | nil=>cases bc
      | cons z f2=>
       rw[List.V]at bc;injection bc with e1 e2;subst e1 e2;simp![hge]
       by_cases hz:k<=z
       .let jh:decide (k<=z)=true:=Xh hz;simp![jh];show .mk (f1++[z]) f2 (by rw[hf];simp) rfl ?_;rw[Xd,av,Yl];simp[hz]
       .let jh:decide (k<=z)=false:=Xm hz;simp![jh];show .mk (f1++[z]) f2 (by rw[hf];simp) rfl ?_;rw[av,Yl];simp[hz]
     .rintro E1 B ae ⟨f1,f2,hf,bc,av⟩;cases f2 with
      | cons=>cases bc
      | nil=>
       rw[Xv]at hf;rw[wW,av,<-hf];simp![];show#[_,rfl,by rw[X3,Q5];lia,?_];let e:(nmF k (kvS sh) j.L).E D.C++[.C (k+((nmF k (kvS sh) j.L).filter λx=>decide (k<=x)).B)]=(nmF k (kvS sh) (j+1).L).E D.C:=by
        rw[wp,_oy,vy,hv];simp
       rw[e];show .mk (j+1) .q .q rfl
   .rintro E ⟨j,j0,j1,hr⟩;let:=Qk j1 hr;subst this;simp![t0,t1,t2];rw[_oz];show(_ow p ((List.range k.L).E λ(i:Nat)=>(i)) .X .q).use ?_;intro o3 _;simp![t0,t1,t2];show(_ow q (nmF k (kvS sh) j.L) .X .q).use ?_;intro o4 _;show#[_oA _,?_];simp![]
abbrev qv(k:Int):List Int:=(List.range k.L).E λ(i:Nat)=>(i:Int)
def _oC(p k:Int):Sn:=wj p (qv k)
def YZ(q k k':Int)(sh:List (Int×Int)):Sn:=wj q (nmF k (kvS sh) k'.L)
def v8(f:Int->Int):Sn->Sn:=Option.E λp=>(p.1,p.2.E f)
def Jw f s:nms (v8 f s)=(nms s).E f:=by cases s<;>rfl
def QK f s:rmO (v8 f s)=rmO s:=by cases s<;>rfl
section
variable {f:Int->Int}
def _oD(h:f x=f n->x=n):(f x==f n)=(x==n):=by
 rw[Bool.eq_iff_iff];simp;show#[h,λe=>by rw[e]]
def _oE:∀{t:List Int},(∀x>t,f x=f n->x=n)->((t.E f).è λw=>w==f n)=t.è λw=>w==n
 |[],_=>rfl
 |x::t,h=>by
  rw[List.V,Zd,Zd,_oD (h x X5),_oE λy hy=>h y (_ad _ hy)]
def _oF:∀{t:List Int},(∀x>t,f x=f n->x=n)->((t.E f).y λw=>w==f n)=t.y λw=>w==n
 |[],_=>rfl
 |x::t,h=>by
  rw[List.V,List.findIdx_cons,List.findIdx_cons,_oD (h x X5),_oF λy hy=>h y (_ad _ hy)]
def _oG:∀{o} (k),(∀n>o,∀x>t,f x=f n->x=n)->jX (t.E f) k (o.E f)=jX t k o
 |[],_,_=>rfl
 |n::o,k,h=>by
  let h1:=h n X5;rw[List.V];ext jX;rw[_oE h1,_oF h1,(_oG (k+1) λm hm=>h m (_ad _ hm))]
def _oH(h:∀n>nms s,∀x>nms t,f x=f n->x=n):jQ (v8 f s) (v8 f t)=jQ s t:=by
 ext jQ;rw[QK,QK,Jw,Jw,_oG 0 h]
def _oI(h:i.L<ks.B+1):C.nameAt (ks.E f) (f c) i=f (C.nameAt ks c i):=by
 ext C.nameAt;rw[show ks.E f++[f c]=(ks++[c]).E f by simp,X2,X2,X7,X1 (~~~h)];rfl
def _oJ(h:i.L<ks.B+1):C.nameAt ks c i>ks\/C.nameAt ks c i=c:=by
 ext C.nameAt;rw[X2,X1 _];let:(ks++[c])[i.L]'(~~~h)>ks++[c]:=Xu _;let q\/q:=aA this
 .show .R q
 .show .Z (~~~q)
def _oK(h:∀x>ks,f x=f c->x=c):wv ss st (ks.E f) z (f c)=wv ss st ks z c:=by
 ext wv;rw[_oF h]
def k8(kps:List Int)(s:Sn):Prop:=∀room ks,s=@(room,ks)->0<=room/\room<kps.B/\(ks.B:Int)=kps.s room.L 0
def _oL(hP:Prs kps ss.B rs)(hk:Abk kps)(hS:k8 kps S)(sk:∀x>nms S,f x=f c->x=c):
  ∃ s',Rd kps ss rs (stn S) (z,c) (stn s')/\Rd kps ss rs (stn (v8 f S)) (z,f c) (stn (v8 f s'))/\(∀n>nms s',n>nms S\/n=c)/\(nms s').B<=100/\k8 kps s':=by
 cases S with
 | none=>show#[none,.R #[rfl,rfl],.R #[rfl,rfl],λ_ h=>(nomatch h),Ya _,λ_ _ h=>(nomatch h)]
 | some P=>
  let#[room,ks]:=P;let#[r0,r1,hl]:=hS room ks rfl;let#[r,er,gd,st,rfl,km,b6]:=hP.2 room.L .q;let hk3:=hk (kps.s room.L 0) (by rw[X2,X1 .q];show Xu _);let jc:Cas kps ss.B ks.B st:=#[km,by rw[hl];show b6];let uh:Cas kps ss.B (ks.E f).B st:=by rw[X3];show jc
  let inj:∀x>ks,f x=f c->x=c:=sk;let done:∀s',vX ss st ks z c=stn s'->vX ss st _ z (f c)=stn _->_->(nms s').B<=100->k8 kps s'->∃s',Rd kps ss rs _ (z,c) _/\Rd kps ss rs _ (z,f c) (stn (v8 f s'))/\(∀n>nms s',n>nms (@(room,ks))\/n=c)/\(nms s').B<=100/\k8 kps s':=λs' h1 h2 h3 h4 h5=>
   #[s',.Z #[room,ks,st,_,_,rfl,r0,er,jc,.q,h1.i],.Z #[room,ks.E f,st,_,_,rfl,r0,er,uh,by rw[X3];lia,h2.i],h3,h4,h5]
  cases hz:(ss.è λw=>w==z)with
  | false=>
   show done none ?_ ?_ (λ_ h=>(nomatch h)) (Ya _) (λ_ _ h=>(nomatch h))
   .ext vX;rw[hz];rfl
   .ext vX;rw[hz];rfl
  | true=>
   let#[cs,g1,g2,g3,g4]:=_oi c jc hz;let e1:vX ss st ks z c=WJ ks c (wv ss st ks z c):=by ext vX;rw[hz,Xa rfl]
   let e2:vX ss st (ks.E f) z (f c)=WJ (ks.E f) (f c) (wv ss st ks z c):=by ext vX;rw[hz,Xa rfl,_oK inj]
   let e\/#[to,fs,e,t0,t1,hfs,_,hfl]:=g4
   .show done none ?_ ?_ (λ_ h=>(nomatch h)) (Ya _) (λ_ _ h=>(nomatch h))
    .rw[e1,e];rfl
    .rw[e2,e];rfl
   .let hb:=_ok (own:=ks.B) (k:=(ks.y λw=>w==c:Nat));let bf:∀i>fs,i.L<ks.B+1:=λi hi=>by let:=hfs i hi;lia
    show done @(to,fs.E (C.nameAt ks c)) ?_ ?_ (λn hn=>?_) ?_ (λkh n9 h=>?_)
    .rw[e1,e,caseD_is];rfl
    .rw[e2,e,caseD_is];change D.M [.C to,iT _]=D.M [.C to,iT ((fs.E _).E f)];rw[Xi]
     congr 4
     show Yg λi hi=>_oI (bf i hi)
    .let#[i,hi,rfl]:=aE hn;show _oJ (bf i hi)
    .change(fs.E _).B<=100;rw[X3];let:=hk (kps.s to.L 0) (by rw[X2,X1 .q];show Xu _);lia
    .injection h with h;injection h with h3 h4;subst h3 h4;show#[t0,t1,by rw[X3];show hfl]
end
end B
namespace B
open PySem Q
def m__law_cell_at:Fn:=fn 2
  (j6 (sIf (tE (cF2 (pu2 fLt) (vV 1) (vE (cF1 (pu1 v3) (vV 0))))) (jJ (cH (jk (vV 0) (vV 1)))) k6)
  (jJ (cC (.C 0))))
def m__law_whole:Fn:=fn 1
  (jJ (zW (vE (cF1 (pu1 (zZ "int")) (vV 0))) (_eg (vE (cF1 (pu1 (zZ "bool")) (vV 0))))))
def m__law_stream:Fn:=fn 5
  (j6 (jw 2 (qx .rt []))
  (j6 (sIf (tE (cF2 (pu2 fEq) (vE (cF2 (pu2 x4) (vV 0) (C9 2))) (C9 1))) (j6 (jw 0 (cF2 (pu2 Kk) (vV 0) (C9 2)))
  (j6 (qW (xz (vV 1)) (.n 3) (j6 (vx vK 2 (cF2 (pu2 x4) (vV 0) (C9 2147483647)))
  (jw 0 (cF2 (pu2 Kk) (vV 0) (C9 2147483647)))))
  (jJ (cMv 2)))) k6)
  (j6 (jw 4 (cF2 kZ (vE (cF2 (pu2 x4) (vE (cF2 (pu2 Kk) (vV 0) (C9 2))) (C9 2147483647))) (C9 48271)))
  (j6 (qW (xz (vE (cF2 kZ (vV 1) (C9 1)))) (.n 3) (j6 (jw 4 (cF2 (pu2 x4) (vE (cF2 kZ (vE (cF2 kZ (vE (cF2 KY (vV 4) (vV 4))) (vE (cF2 KY (C9 48271) (vV 4))))) (vV 3))) (C9 2147483647)))
  (vx vK 2 (cF2 (pu2 x4) (vE (cF2 kZ (vE (cF2 KY (vV 4) (C9 40692))) (vE (cF2 KY (C9 7) (vV 3))))) (C9 2147483399)))))
  (jJ (cSl (vV 2) @(C9 1) none))))))
def m__law_signs:Fn:=fn 7
  (j6 (jw 1 (cC (.e "abcdefghijklmnopqrstuvwxyz")))
  (j6 (jw 2 (jv m__law_stream [(cV 0),(cC (.C 9))]))
  (j6 (jw 3 (_ii "" (vE (cLC .rt 1 [1] (itS (cSl (vV 2) none @(vE (cF2 kZ (C9 1) (vE (cF2 (pu2 x4) (vV 0) (C9 8))))))) (.n 0) tYes (cH (jk (vV 1) (vE (cF2 (pu2 x4) (vV 0) (C9 26)))))))))
  (j6 (jw 4 (cF2 (pu2 x4) (vE (cF2 (pu2 Kk) (vV 0) (C9 8))) (vE (cF1 (pu1 v3) (vV 3)))))
  (j6 (jw 5 (qx .rt []))
  (j6 (qW (xz (jk (vE (qx .rt [(cC (.C 1)),(cC (.C 2)),(cC (.C 1)),(cC (.C 2)),(cC (.C 2)),(cC (.C 1)),(cC (.C 2)),(cC (.C 3))])) (vE (cF2 (pu2 x4) (vE (cF2 (pu2 Kk) (vV 0) (C9 64))) (C9 8))))) (.n 6) (vx vK 5 (cF2 kZ (vE (cF2 kZ (vE (cSl (vV 3) none @(vV 4))) (jk (vV 1) (vE (cF2 kZ (vE (cF2 (pu2 x4) (jk (vV 2) (C9 8)) (C9 24))) (vV 6)))))) (vE (cSl (vV 3) @(vE (cF2 kZ (vV 4) (C9 1))) none)))))
  (jJ (cMv 5))))))))
def m__law_fills:Fn:=fn 6
  (j6 (jw 3 (XJ (vV 2)))
  (j6 (jw 4 (qx .rt []))
  (j6 (qW (xz (vV 1)) (.n 5) (j6 (vx vK 4 (_hT 3 (vE (cF2 (pu2 x4) (vV 0) (vE (cF1 (pu1 v3) (vV 3)))))))
  (jw 0 (cF2 kZ (vE (cF2 (pu2 Kk) (vV 0) (C9 7))) (vE (cF2 KY (C9 5) (vV 5)))))))
  (jJ (cF1 J7 (vV 4))))))
def m__law_case:Fn:=fn 5
  (j6 (sIf (tE (cF2 (pu2 fEq) (vE (cF2 (pu2 x4) (vV 0) (C9 5))) (C9 4))) (jJ (cC .j)) k6)
  (j6 (jw 3 (cLC .rt 1 [1,2] (xz (vE (cF1 (pu1 v3) (vV 1)))) (.n 0) (tE (cF2 (pu2 fLe) (jk (vV 1) (vV 0)) (vV 2))) (cV 0)))
  (j6 (jw 4 (cH (jk (vV 3) (vE (cF2 (pu2 x4) (vE (cF2 (pu2 Kk) (vV 0) (C9 5))) (vE (cF1 (pu1 v3) (vV 3))))))))
  (jJ (kz .X [(cV 4),(jv m__law_fills [(cF2 (pu2 Kk) (vV 0) (C9 35)),(cH (jk (vV 1) (vV 4))),(cV 2)])])))))
def m__law_read:Fn:=fn 11
  (j6 (sIf (tE (cF2 (f2First fIsNon) (vV 1) (vE (cC .j)))) (jJ (cC .j)) k6)
  (j6 (_eh [4,5] (cV 1))
  (j6 (_eh [6,7,8] (cH (jk (jk (vV 0) (C9 1)) (vV 4))))
  (j6 (jw 9 (cV 6))
  (j6 (sIf (tE (cF2 (pu2 zY) (vV 3) (vV 5))) (jw 9 (Q7 (vV 5) (vV 3))) k6)
  (j6 (jw 10 (cH (jk (jk (vV 8) (vE (Q7 (jk (vV 0) (C9 0)) (vV 2)))) (vV 9))))
  (j6 (sIf (tE (cF2 (f2First fIsNon) (vV 10) (vE (cC .j)))) (jJ (cC .j)) k6)
  (jJ (kz .X [(cH (jk (vV 10) (C9 0))),(cF1 J7 (vE (cLC .rt 1 [5,3] (itS (cH (jk (vV 10) (C9 1)))) (.n 0) tYes (cH (jk (vE (cF2 kZ (vE (cF1 Wv (vV 1))) (vE (qx .rt [(cV 2)])))) (vV 0))))))])))))))))
def m__law_keepers:Fn:=fn 2
  (j6 (sIf (tE (cF2 (pu2 fEq) (vV 1) (vE (cF1 (pu1 JY) (C9 1))))) (jJ (cC (.C 0))) k6)
  (jJ (cH (jk (jk (jk (vV 0) (C9 1)) (vV 1)) (C9 0)))))
def m__law_pair:Fn:=fn 7
  (j6 (jw 2 (qx .rt [(kz .X []),(kz .X [])]))
  (j6 (jw 3 (qx .rt [(cF1 (pu1 JY) (C9 1)),(cF1 (pu1 JY) (C9 1))]))
  (j6 (qW (_hR (qx .rt [(cV 0),(cV 1)])) (.t [4,5]) (sIf (tE (cF2 (f2First fNotNon) (vV 5) (vE (cC .j)))) (j6 (_h3 3 (vV 4) (cH (jk (vV 5) (C9 0))))
  (_h3 2 (vV 4) (cH (jk (vV 5) (C9 1))))) k6))
  (j6 (jw 6 (cLC .rt 2 [2] (_ik (cH (jk (vV 2) (C9 0)))) (.t [0,1]) (tE (cF2 (pu2 zY) (vV 1) (jk (vV 2) (C9 1)))) (kz .X [(cV 0),(Q7 (jk (vV 2) (C9 1)) (vV 1))])))
  (jJ (kz .X [(cH (jk (vV 3) (C9 0))),(cH (jk (vV 3) (C9 1))),(cF1 J7 (vV 6))]))))))
def m__law_is_pair:Fn:=fn 3
  (j6 (sIf (tOr (tNot (tEQ (vE (cF1 (pu1 (zZ "tuple")) (vV 0))))) (tOr (tE (cF2 (pu2 fNe) (vE (cF1 (pu1 v3) (vV 0))) (C9 3))) (tNot (tEQ (vE (cF1 (pu1 (zZ "tuple")) (jk (vV 0) (C9 2)))))))) (jJ (cC (.bl false))) k6)
  (j6 (sIf (tOr (tNot (tEQ (vE (jv m__law_whole [(cH (jk (vV 0) (C9 0)))])))) (tNot (tEQ (vE (jv m__law_whole [(cH (jk (vV 0) (C9 1)))]))))) (jJ (cC (.bl false))) k6)
  (j6 (qW (itS (cH (jk (vV 0) (C9 2)))) (.n 2) (sIf (tOr (tNot (tEQ (vE (cF1 (pu1 (zZ "tuple")) (vV 2))))) (tOr (tE (cF2 (pu2 fNe) (vE (cF1 (pu1 v3) (vV 2))) (C9 2))) (tOr (tNot (tEQ (vE (jv m__law_whole [(cH (jk (vV 2) (C9 0)))])))) (tNot (tEQ (vE (jv m__law_whole [(cH (jk (vV 2) (C9 1)))]))))))) (jJ (cC (.bl false))) k6))
  (jJ (cF2 (pu2 fEq) (vV 0) (vV 1))))))
end B
namespace B
open Q PySem C
def _oM(ns:List Int)(k:Nat):Int:=ns.s k 0
def _oN ns (k:Nat)(hn:ns.B<=10000):Oo m__law_cell_at [(.X,iL ns),(.X,.C k)] (λy=>∃o',y=(o',.C (_oM ns k))/\True) noX:=by
 show k7 ?_;simp![]
 by_cases h:(k:Int)<ns.B
 .let hx:jY (iL ns) (.C k)=@(.C (_oM ns k)):=by
   show xj (by simp) ?_;ext _oM;rw[Xp,X7,X2,X1 (by symm)];rfl
  let hd:=Xh h;rw[Xa hd];simp![hx];show#[_,rfl,trivial]
 .let hd:¬decide ((k:Int)<ns.B)=true:=by rw[Xm h];decide
  rw[Xe hd];show#[.dp,?_,trivial];rw[show _oM ns k=0 by ext _oM;rw[X2,Xz (by symm)];rfl]
def _oO i:Oo m__law_whole [(.X,.C i)] (λy=>∃o',y=(o',.bl true)/\True) noX:=by
 show k7 ?_;simp![show zZ "int" (.C i)=@(.bl true)from rfl,show zZ "bool" (.C i)=@_ from rfl];show#[_,rfl,trivial]
def St(n:Int)(xs:List Int):Prop:=(xs.B:Int)=n/\∀x>xs,0<=x/\x<2147483647
def _oP(c n)(hn:0<=n)(my:n<=100):Oo m__law_stream [(.X,.C c),(.X,.C n)] (λy=>∃xs,y=(.rt,iL xs)/\St n xs) noX:=by
 show k7 ?_
 by_cases h:c % 2=1
 .let hd:(c % 2==1)=true:=by simp[h]
  simp![eqi hd];show wq (λE ac=>∃(j v:Int) (xs:List Int) (l3:Option Sd),E=[@(.dp,.C v),@(.X,.C n),@(.rt,iL xs),l3,none]/\0<=j/\j<=n/\ac=kq j n/\St j xs) ?_ ?_ ?_
  .simp![];show#[0,_,[],_,rfl,.q,hn,rfl,rfl,nofun]
  .rintro E d ds ⟨j,v,xs,l3,rfl,j0,j1,hr,hx⟩;let#[hj,rfl,rfl]:=QQ j1 hr;simp![];show xX rfl ?_;simp![];show#[_,rfl,by rw[X3];let:=hx.1;lia,(#[j+1,v / 2147483647,xs++[v % 2147483647],@(.X,.C j),by simp,.q,.q,rfl,by let:=hx.1;simp;lia,λx hm=>?_])];let z\/z:=aA hm
   .show hx.2 x z
   .rw[aC z];lia
  .rintro E ⟨j,v,xs,l3,rfl,j0,j1,hr,hx⟩;let:=Qk j1 hr;subst this;simp![];show#[xs,rfl,hx]
 .let hd:(c % 2==1)=false:=Yf h;simp![eqi hd];show wq (λE ac=>∃(j v:Int) (xs:List Int) (l3:Option Sd),E=[@(.X,.C c),@(.X,.C n),@(.rt,iL xs),l3,@(.dp,.C v)]/\0<=j/\j<=n+1/\ac=kq j (n+1)/\St j xs/\0<=v/\v<4294967296) ?_ ?_ ?_
  .simp![];show#[0,_,[],_,rfl,.q,.q,rfl,#[rfl,nofun],.q,.q]
  .rintro E d ds ⟨j,v,xs,l3,rfl,j0,j1,hr,hx,v0,v1⟩;let#[hj,rfl,rfl]:=QQ j1 hr;let hm:=mul_l (o1:=.dp) (o2:=.dp) (a:=v) (b:=v) .q .q;simp![hm];generalize hw:(v*v+48271*v+j) % 2147483647=u;show xX rfl ?_;simp![(mul_l (o1:=.dp) (o2:=.dp) (a:=u) (b:=40692) .q .q)];show#[_,rfl,by rw[X3];let:=hx.1;lia,(#[j+1,u,xs++[(u*40692+7*j) % 2147483399],@(.X,.C j),by simp,.q,.q,rfl,#[by let:=hx.1;simp;lia,λx hm=>?_],.q,.q])];let z\/z:=aA hm
   .show hx.2 x z
   .grind
  .rintro E ⟨j,v,xs,l3,rfl,j0,j1,hr,hx,v0,v1⟩;let:=Qk j1 hr;simp![_nu (o:=.rt) (xs:=xs.E D.C) (lo:=@1) (hi:=none) .q];let hl:=hx.1;let hcut:Qz (xs.E D.C) @1 none=(xs.ñ 1).E D.C:=by
    ext Qz Zx;right;rw[Xe .q,X3,show min (1:Int).L xs.B=1 by change min 1 xs.B=1;lia,<-List.map_drop,List.take_of_length_le (by rw[X3,List.length_drop];lia)]
   rw[hcut];show#[xs.ñ 1,rfl,by rw[List.length_drop];lia,λx hm=>hx.2 x (List.mem_of_mem_drop hm)]
def _oQ n:((List.range n).E λ(j:Nat)=>(j:Int)).l:=List.Pairwise.E _ (λa b h e=>h .q) List.nodup_range
def _oR(x need free)(h0:0<=need)(h1:need<=free)(h2:free<=100):Oo m__law_fills [(.X,.C x),(.X,.C need),(.X,.C free)] (λy=>∃fs:List Int,y=(.X,.M (fs.E D.C))/\(fs.B:Int)=need/\(∀f>fs,0<=f/\f<free)/\fs.l) noX:=by
 show k7 ?_;simp![];rw[_oz];show wq (λE ac=>∃(j v:Int) (o:Own) (sm fl:List Int) (l5:Option Sd),E=[@(o,.C v),@(.X,.C need),@(.X,.C free),@(.rt,iL sm),@(.rt,iL fl),l5]/\0<=j/\j<=need/\ac=kq j need/\(fl.B:Int)=j/\(sm.B:Int)+fl.B=free/\(fl++sm).l/\∀f>fl++sm,0<=f/\f<free) ?_ ?_ ?_
 .simp![];show#[0,x,.X,(List.range free.L).E λ(j:Nat)=>(j),[],none,rfl,.q,h0,rfl,rfl,?_,?_,?_]
  .simp;lia
  .rw[List.nil_append];show _oQ _
  .intro f hf;let#[j,hj,rfl]:=aE hf;let:=List.mem_range.mp hj;lia
 .rintro E d ds ⟨j,v,o,sm,fl,l5,rfl,j0,j1,hr,hl,hs,hn,hm⟩;let#[hj,rfl,rfl]:=QQ j1 hr;let u1:=Z3 v (show(0:Int)<sm.B by lia);let hi:(v % sm.B).L<sm.B:=.q
  simp![];show xX rfl (_nv rfl ?_);simp![mod_i (b:=(sm.B:Int)) _];show#[.rt,_,_,.C _,rfl,.q,rfl,(Zn v (show _≠0 by lia)),.q,by rw[X7,X1 hi];rfl,rfl,?_];show#[_,rfl,by rw[X3];lia,?_];let pm:(fl++[sm[(v % sm.B).L]]++sm.ø (v % sm.B).L).á (fl++sm):=by
   rw[Xs];show List.á.append_left fl (_lB hi)
  show#[j+1,v / 7+5*j,.dp,sm.ø (v % sm.B).L,fl++[sm[(v % sm.B).L]],@(.X,.C j),?_,.q,.q,rfl,?_,?_,pm.nodup_iff.å hn,λf hf=>hm f (pm.mem_iff.mp hf)]
  .dsimp[iL,Xd,List.V,List.map_nil,_n9]
  .rw[Xb];simp;lia
  .rw[List.length_eraseIdx_of_lt hi,Xb];simp;lia
 .rintro E ⟨j,v,o,sm,fl,l5,rfl,j0,j1,hr,hl,hs,hn,hm⟩;let:=Qk j1 hr;subst this;simp![Q.tup_l (o:=.rt) (xs:=fl.E D.C) .q];show#[fl,rfl,hl,λf hf=>hm f (_ac _ hf),(List.nodup_append.mp hn).1]
def _oS(x free)(kps)(hk:Abk kps)(ua:kps[0]?=@0)(hl:kps.B<=100)(hf:0<=free)(hf2:free<=100):Oo m__law_case [(.X,.C x),(.X,iL kps),(.X,.C free)] (λy=>Cs kps free y.2) noX:=by
 let ai:0<kps.B:=by
  cases kps with| nil=>cases ua| cons=>simp
 show k7 ?_
 by_cases h:x % 5=4
 .let hd:(x % 5==4)=true:=by simp[h]
  simp![eqi hd];show .R rfl
 .let hd:(x % 5==4)=false:=Yf h;simp![eqi hd];show QJ (λE1 B ds ae=>E1=[@(.X,.C x),@(.X,iL kps),@(.X,.C free),none,none]/\∃(j:Int) (q0:Option Sd) (fl:List Int),B=[q0,@(.X,iL kps),@(.X,.C free)]/\0<=j/\j<=kps.B/\ds=kq j kps.B/\ae.E (·.2)=fl.E D.C/\(∀t>fl,0<=t/\t<kps.B/\kps.s t.L 0<=free)/\(0<j->fl≠[])/\(fl.B:Int)<=j) ?_ ?_ ?_
  .simp![];show#[0,none,[],rfl,.q,.q,rfl,rfl,λ_ z=>(nomatch z),λz=>absurd z .q,by simp]
  .rintro E1 B d ds ae ⟨rfl,j,q0,fl,rfl,j0,j1,hr,av,hfl,be,gw⟩;let#[hj,rfl,rfl]:=QQ j1 hr;let hjl:j.L<kps.B:=.q
   let hx:jY (iL kps) (.C j)=@(.C (kps.s j.L 0)):=xj j0 (by rw[X7,X1 hjl,X2,X1 hjl];rfl)
   by_cases hz:kps.s j.L 0<=free
   .let jh:decide (kps.s j.L 0<=free)=true:=Xh hz;simp![hx,jh];show#[j+1,_,fl++[j],rfl,.q,.q,rfl,by rw[Xd,Xd,av];rfl,λt ht=>?_,λ_=>by simp,by simp;lia];let q\/q:=aA ht
    .show hfl t q
    .rw[aC q];show#[j0,.q,hz]
   .let jh:decide (kps.s j.L 0<=free)=false:=Xm hz;let hj0:0<j:=by
     let q\/q:=Int.lt_or_eq_of_le j0
     .show q
     .subst q;exfalso;apply hz;rw[X2];change(kps[0]?).s 0<=free
      rwa [ua]
    simp![hx,jh];show#[j+1,_,fl,rfl,.q,.q,rfl,av,hfl,λ_=>be hj0,.q]
  .rintro E1 B ae ⟨rfl,j,q0,fl,rfl,j0,j1,hr,av,hfl,be,gw⟩;let:=Qk j1 hr;subst this;let hfl0:0<fl.B:=List.length_pos_iff.å (be .q);let u1:=Z3 (x / 5) (show(0:Int)<fl.B by lia);let hi:(x / 5 % fl.B).L<fl.B:=.q
   obtain⟨t,et⟩:∃t,fl[(x / 5 % fl.B).L]?=@t:=#[_,X1 hi];let#[t0,t1,t2]:=hfl t (Yh et);let hx:jY (iL fl) (.C (x / 5 % fl.B))=@(.C t):=xj (Zn (x / 5) (show(fl.B:Int)≠0 by lia)) (by rw[X7,et];rfl);let htl:t.L<kps.B:=.q
   let hy:jY (iL kps) (.C t)=@(.C (kps.s t.L 0)):=xj t0 (by rw[X7,X1 htl,X2,X1 htl];rfl);rw[wW,av,show J3 1 [1,2] [q0,@(Own.X,iL kps),@(Own.X,D.C free)] [@(Own.X,D.C x),@(Own.X,iL kps),@(Own.X,D.C free),none,none]=[@(Own.X,D.C x),@(Own.X,iL kps),@(Own.X,D.C free),none,none]from rfl];simp![mod_i (a:=x / 5) (b:=(fl.B:Int)) .q,hx,hy];show(_oR (x / 35) (kps.s t.L 0) free (hk (kps.s t.L 0) (by rw[X2,X1 htl];show Xu _)).1 t2 hf2).use ?_;rintro fs ⟨f1,f2,f3⟩;simp![];show .Z #[t,fs,rfl,t0,t1,f2,f3,f1]
def Gdr(rs:List D)(room:Int)(g:Bool):Prop:=(room=-1/\g=false)\/(0<=room/\∃k st,rs[room.L]?=@(.M [k,.bl g,st]))
def nei(h:(a==b)=k):fNe (.C a) (.C b)=@(.bl !k):=by rw[<-h];rfl
def _oT(h:Gdr rs room g):Oo m_is_good_in [(.X,jq ss rs),(.X,.C room)] (λy=>∃o',y=(o',.bl g)/\True) noX:=by
 show k7 ?_;let#[rfl,rfl]\/#[h0,k,st,hr]:=h
 .simp![nei rfl];show#[_,rfl,trivial]
 .let be:(room == -1)=false:=Yf .q;simp![p1,nei be,(xj h0 hr),show jY (.M [k,.bl g,st]) (.C 1)=@_ from rfl];show#[_,rfl,trivial]
def eqb(a b):fEq (.bl a) (.bl b)=@(.bl (a==b)):=by cases a<;>cases b<;>rfl
def _oU(h:Gdr rs p g)(h':Gdr rs' q g'):Oo m_agrees [(.X,jq ss rs),(.X,jq ss rs'),(.X,.M [.C p,.C q,d])] (λy=>∃o',y=(o',.bl (g==g'))/\True) noX:=by
 show k7 ?_;simp![t0];show(_oT h).use ?_;intro o1 _;simp![t1];show(_oT h').use ?_;intro o2 _;simp![eqb];show#[_,rfl,trivial]
def neg1:JY (.C 1)=@(.C (-1)):=rfl
def _oV(h:Kpr rs room k):Oo m__law_keepers [(.X,jq ss rs),(.X,.C room)] (λy=>∃o',y=(o',.C k)/\True) noX:=by
 show k7 ?_;let#[rfl,rfl]\/#[h0,g,st,hr]:=h
 .simp![neg1,eqi rfl];show#[_,rfl,trivial]
 .let be:(room == -1)=false:=Yf .q;simp![neg1,p1,eqi be,(xj h0 hr),show jY (.M [.C k,g,st]) (.C 0)=@_ from rfl];show#[_,rfl,trivial]
def _oW{o xs}(h:o≠.dp):Wv (o,.M xs)=@(.rt,.S xs):=by
 cases o with|dp=>show absurd rfl h|no=>rfl|rt=>rfl
def _oX{kps}{ss:List Str}{rs st:List D}{gd:D}{room:Int}{ks:List Int}{z:Str}{p:Int}(h0:0<=room)(hr:rs[room.L]?=@(.M [.C ks.B,gd,.S st]))(hc:Cas kps ss.B ks.B st)(hl:ks.B<=1000)(hz:(ss.è λw=>w==z)=true):
  Oo m__law_read [(.X,jq ss rs),(.X,.M [.C room,iT ks]),(.X,.e z),(.X,.C p)] (λy=>y.2=vX ss st ks z p) noX:=by
 let hi:jY (.S rs) (.C room)=@(.M [.C ks.B,gd,.S st]):=xj h0 hr;ext vX;let#[cs,g1,g2,g3,g4]:=_oi p hc hz;let hx:jY (.S st) (.C (ss.y λw=>w==z:Nat))=@(.S cs):=xj .q (by rw[Xp];show g1);let hy:jY (.S cs) (.C (ks.y λw=>w==p:Nat))=@(wv ss st ks z p):=xj .q (by rw[Xp];show g3);let nj:=_oe hz;rw [Xa hz];generalize wv ss st ks z p=c at g4 hy;let gz:kZ (.X,.S (ks.E D.C)) (.X,.S [.C p])=@(.rt,.S ((ks++[p]).E D.C)):=by
  rw[show(ks++[p]).E D.C=ks.E D.C++[.C p]by simp];show _nb .q .q (by simp;lia)
 let mn:∀{i:Int},0<=i->i<=ks.B->jY (.S ((ks++[p]).E D.C)) (.C i)=@(.C (C.nameAt ks p i)):=fun {i} i0 i1=>by
  show xj i0 ?_;ext C.nameAt;rw[X7,X2,X1 (by simp;lia)];rfl
 let hb:=_ok (own:=ks.B) (k:=(ks.y λw=>w==p:Nat));ext m__law_read;generalize hR:j6 (jw 10 _) _=R;let key:∀o9,Po (R [@(.X,jq ss rs),@(.X,.M [.C room,iT ks]),@(.X,.e z),@(.X,.C p),@(.X,.C room),@(.X,iT ks),@(.X,.C ks.B),@(.X,gd),@(.X,.S st),@(o9,.C (ks.y λw=>w==p:Nat)),none]) (λ_=>D.j=WJ ks p c) (λ_=>False) (λy=>y.2=WJ ks p c) noX:=by
  subst hR;intro o9;let rfl\/#[to,fs,rfl,t0',t1',hfs,_]:=g4
  .simp![p0,nj,hx,hy];rfl
  .simp![p0,p1,nj,hx,hy];show Kw [@(.X,iT ks),@(.X,.C p)] (λf y=>y.2=match f with|.C i=>.C (C.nameAt ks p i)|_=>.j) ?_;simp![p1];show#[rfl,λf hf=>?_,λys xo=>?_]
   .let#[i,iz,rfl]:=aE hf;let:=hfs i iz;simp![_oW (o:=.X) (xs:=ks.E D.C) .q,gz,mn (i:=i) this.1 .q];show#[#[_,rfl],trivial]
   .rw[wW,QX (h:=λf=>match f with|.C i=>.C (C.nameAt ks p i)|_=>.j) (λd y h=>h) xo,Xi,show(_∘D.C)=D.C∘C.nameAt ks p from rfl,<-Xi];dsimp[back,clr,at',List.set_cons_zero,List.set_cons_succ];simp![Q.tup_l (o:=.X) (xs:=(fs.E (C.nameAt ks p)).E D.C) .q];show caseD_is.i
 show k7 ?_;cases hp:(ks.è λw=>w==p)with
 |true=>
  simp![p1,hi,XQ,hp,_of hp];show key _
 |false=>
  rw[_od hp]at key;simp![p1,hi,XQ,hp];show key _
inductive PSt (a b:Sn):List (List Int)->List Int->List D->Prop
 |a:PSt a b [[],[]] [-1,-1] [.M [.C 0,stn a],.M [.C 1,stn b]]
 |b:PSt a b [nms a,[]] [rmO a,-1] [.M [.C 1,stn b]]
 |c:PSt a b [nms a,nms b] [rmO a,rmO b] []
def PSt.step{a b n r d ds}(h:PSt a b n r (d::ds)):∃(k:Nat) (s:Sn),d=.M [.C k,stn s]/\Q.ixN (n.E iT).B k=@k/\Q.ixN (r.E D.C).B k=@k/\PSt a b (n.à k (nms s)) (r.à k (rmO s)) ds/\(s=none->n.à k []=n/\r.à k (-1)=r):=by
 cases h with|a=>show#[0,a,rfl,rfl,rfl,.b,λ_=>#[rfl,rfl]]|b=>show#[1,b,rfl,rfl,rfl,.c,λ_=>#[rfl,rfl]]
def _oY(a b)(ha:(nms a).B<=100)(hb:(nms b).B<=100):Oo m__law_pair [(.X,stn a),(.X,stn b)] (λy=>y=(.X,jQ a b)) noX:=by
 let sn:stn none=.j:=rfl;let ss:∀s,stn @s=.M [.C s.1,iT s.2]:=λs=>rfl
 ext m__law_pair;show k7 ?_;simp![neg1];show wq (λE ac=>∃(n:List (List Int)) (r:List Int) (l4 l5:Option Sd),E=[@(.X,stn a),@(.X,stn b),@(.rt,.S (n.E iT)),@(.rt,.S (r.E D.C)),l4,l5,none]/\PSt a b n r ac) ?_ ?_ ?_
 .simp![];show#[_,_,_,_,rfl,.a]
 .rintro E d ds ⟨n,r,l4,l5,rfl,h⟩;let#[k,s,rfl,h1,h2,h3,h4]:=h.step;cases s with
  | none=>
   let#[e1,e2]:=h4 rfl;let h3:PSt a b (n.à k []) (r.à k (-1)) ds:=h3;rw [e1,e2]at h3;simp![sn];show#[_,_,_,_,rfl,h3]
  | some s=>
   simp![ss];show _nH ?_;simp![p0];show#[rfl,.rt,_,k,k,rfl,.q,rfl,h2,_nH ?_];simp![p1];show#[rfl,.rt,_,k,k,rfl,.q,rfl,h1,?_];rw [show(n.E iT).à k (iT s.2)=(n.à k s.2).E iT from List.map_set.i,show(r.E D.C).à k (.C s.1)=(r.à k s.1).E D.C from List.map_set.i];show#[_,_,_,_,rfl,h3]
 .rintro E ⟨_,_,l4,l5,rfl,h⟩;cases h
  .let i0:jY (.S [iT (nms a),iT (nms b)]) (.C 0)=@(iT (nms a)):=rfl;let i1:jY (.S [iT (nms a),iT (nms b)]) (.C 1)=@(iT (nms b)):=rfl;let j0:jY (.S [.C (rmO a),.C (rmO b)]) (.C 0)=@(.C (rmO a)):=rfl;let j1:jY (.S [.C (rmO a),.C (rmO b)]) (.C 1)=@(.C (rmO b)):=rfl;simp![];show QJ (λE1 B ds ae=>E1=[@(.X,stn a),@(.X,stn b),@(.rt,.S [iT (nms a),iT (nms b)]),@(.rt,.S [.C (rmO a),.C (rmO b)]),l4,l5,none]/\∃(q0 q1:Option Sd) (f1 f2:List Int),B=[q0,q1,@(.rt,.S [iT (nms a),iT (nms b)])]/\nms a=f1++f2/\ds=J9 f1.B (f2.E D.C)/\ae.E (·.2)++prs (jX (nms b) f1.B f2)=prs (jX (nms b) 0 (nms a))) ?_ ?_ ?_
   .simp![i0,↓_nF,show _ij (iT (nms a))=@((nms a).E D.C)from rfl];show#[none,none,[],nms a,rfl,rfl,rfl,rfl]
   .rintro E1 B d ds ae ⟨rfl,q0,q1,f1,f2,rfl,hf,bc,av⟩;cases f2 with
    | nil=>cases bc
    | cons z f2=>
     let bc:d::ds=.M [.C f1.B,.C z]::J9 (f1.B+1) (f2.E D.C):=bc;injection bc with e1 e2;subst e1 e2;simp![i0,i1,XQ];let ib:(f1++[z]).B=f1.B+1:=by simp
     cases hz:((nms b).è λw=>w==z)with
     |false=>
      simp![];show#[_,_,f1++[z],f2,rfl,by rw[hf];simp,by rw[ib],?_];rw[<-av,ib]
      congr 2
      conv=>rhs;unfold jX
      rw[hz,Xe .q]
     |true=>
      simp![i0,i1,_of hz];show#[_,_,f1++[z],f2,rfl,by rw[hf];simp,by rw[ib],?_];rw[<-av,ib,Xd,Xs]
      congr 1
      conv=>rhs;unfold jX
      rw[hz,Xa rfl];rfl
   .rintro E1 B ae ⟨rfl,q0,q1,f1,f2,rfl,hf,bc,av⟩;cases f2 with
    |cons=>cases bc
    |nil=>
     let av:ae.E (·.2)=prs (jX (nms b) 0 (nms a)):=by rw[<-av];simp[jX]
     rw[wW,av,show J3 2 [2] [q0,q1,@(Own.rt,D.S [iT (nms a),iT (nms b)])] [@(Own.X,stn a),@(Own.X,stn b),@(Own.rt,D.S [iT (nms a),iT (nms b)]),@(Own.rt,D.S [D.C (rmO a),D.C (rmO b)]),l4,l5,none]=[@(Own.X,stn a),@(Own.X,stn b),@(Own.rt,D.S [iT (nms a),iT (nms b)]),@(Own.rt,D.S [D.C (rmO a),D.C (rmO b)]),l4,l5,none]from rfl];simp![j0,j1,Q.tup_l (o:=.rt) (xs:=prs (jX (nms b) 0 (nms a))) .q];rfl
def _oZ:∀l,D.flats 38 (prs l)=true
 |[]=>by simp[D.flats]
 |p::l=>by
  let ih:=_oZ l;unfold prs at ih ⊢;rw[List.V];dsimp[D.flats,D.flat,ih,Bool.and_self]
def _o0(r r') l:(D.M [.C r,.C r',.M (prs l)]).flat 40=true:=by
 let:=_oZ l;dsimp[D.flat,D.flats,this,Bool.and_self]
def _o1(r r')(l):Oo m__law_is_pair [(.X,.M [.C r,.C r',.M (prs l)]),(.X,.M [.C r,.C r',.M (prs l)])] (λy=>∃o',y=(o',.bl true)/\True) noX:=by
 let t0:jY (.M [.C r,.C r',.M (prs l)]) (.C 0)=@(.C r):=rfl;let t1:jY (.M [.C r,.C r',.M (prs l)]) (.C 1)=@(.C r'):=rfl;let t2:jY (.M [.C r,.C r',.M (prs l)]) (.C 2)=@(.M (prs l)):=rfl;let it:∀ds,zZ "tuple" (.M ds)=@(.bl true):=λds=>rfl
 ext m__law_is_pair;show k7 ?_;simp![t0,t1,t2,it,nei (a:=3) (b:=3) rfl,show((3:Nat):Int)=3 from rfl];rw[Xe .q];show(_oO r).use ?_;intro o1 _;simp![t0,t1,t2];show(_oO r').use ?_;intro o2 _;simp![t0,t1,t2];show wq (λE ac=>∃(l2:Option Sd) (m:List (Int×Int)),E=[@(.X,.M [.C r,.C r',.M (prs l)]),@(.X,.M [.C r,.C r',.M (prs l)]),l2]/\ac=prs m) ?_ ?_ ?_
 .simp![t0,t1,t2];show#[none,l,rfl,rfl]
 .rintro E d ds ⟨l2,m,rfl,hr⟩;cases m with
  |nil=>cases hr
  |cons z m=>
   let hr:d::ds=.M [.C z.1,.C z.2]::prs m:=hr;injection hr with e1 e2;subst e1 e2;simp![p0,p1,it,nei (a:=2) (b:=2) rfl,show((2:Nat):Int)=2 from rfl];rw[Xe .q];show(_oO z.1).use ?_;intro o3 _;simp![p0,p1];show(_oO z.2).use ?_;intro o4 _;simp![];show#[_,m,rfl,rfl]
 .rintro E ⟨l2,m,rfl,hr⟩;simp![(C.eq_self (_o0 r r' l))];show#[_,rfl,trivial]
def kvN(N:List Int)(sh:List (Int×Int)):List (Int×Int):=sh.foldl (λkv p=>v4 kv p.2 (N.s p.1.L 0)) []
def _o2(N:List Int)(k:Int)(sh:List (Int×Int))(n:Nat):List Int:=(List.range n).E λ(j:Nat)=>(jW (kvN N sh) (j:Int)).s (N.s (k.L+j) 0)
def _o3:D->D:=λd=>match d with
 |.M [.C r,x]=>if r=-1 then .j else .M [.C r,x]|_=>.j
def _o4 r ks:_o3 (.M [.C r,.M (ks.E D.C)])=stn (wj r ks):=by
 ext _o3 wj;right
 split<;>rfl
def _o5{m N N' C R X}(h:Po m N C R X)(k:∀E,N E->N' E):Po m N' C R X:=by
 cases m with
 |none=>exists h
 |some r=>cases r with|nx E=>exists k E h|bk E=>exists h|ct E=>exists h|rt E x=>exists h|xc E c=>exists h
def _o6{a b E N C R}{X} I (h1:Po (a E) I C R X)(h2:∀E,I E->Po (b E) N C R X):Po (j6 a b E) N C R X:=by
 rw[_ng];show _o5 h1 h2
def _o7{G}(hG:∀d y,G d y->∃c,y.2=.e #[%[c|0]]):∀{ds ys},Each G ds ys->∃ps:List Str,ys.E (·.2)=ps.E D.e/\ps.B=ds.B/\∀p>ps,p.B=1
 |[],[],_=>#[[],rfl,rfl,nofun]
 |d::ds,y::ys,r=>by
  let#[i,e]:=hG d y r.1;let#[ps,h1,h2,h3]:=_o7 hG r.2;show#[#[%[i|0]]::ps,by simp[e,h1],by simp[h2],λp hp=>(aD hp).ß (λz=>z▸rfl) (h3 p)]
def _o8:∀{ps:List Str},(∀p>ps,p.B=1)->(ps.E (·.B)).sum=ps.B
 |[],_=>rfl|p::ps,h=>by rw[List.V,List.sum_cons,h p X5,_o8 λq hq=>h q (_ad _ hq),Xk];lia
def _o9{y ys}(h:y.B=1):1<=(Str.join "" (y::ys)).B:=by
 cases ys with
 |nil=>change 1<=y.B;lia
 |cons z ys=>
  change 1<=(y++""++Str.join "" _).cps.O;rw[_n3,_n3];let:y.cps.O=1:=h;lia
def _pa{ps:List Str}(h:∀p>ps,p.B=1)(h0:1<=ps.B)(h1:ps.B<=100):∃z,_ih "" (.S (ps.E D.e))=@(.e z)/\1<=z.cps.O/\z.cps.O<=100:=by
 let hz:("":Str).B=0:=rfl;let hs:=_o8 h;show#[Txt.join "" ps,?_,?_,?_]
 .ext _ih;right;rw[_n4];right;rw[Xa (by rw[hs,hz];lia)]
 .ext Txt.join;rw[StrLaws.glued_eq_join];cases ps with|nil=>cases h0|cons y ys=>show _o9 (h y X5)
 .change(Txt.join "" ps).B<=100;ext Txt.join;rw[StrLaws.glued_eq_join];let:=StrLaws.join_length_le "" ps;rw[hs,hz]at this;lia
def _pb{o z lo hi}(h:z.cps.O<=100):fSl (o,.e z) lo hi=@(.dp,.e (Txt.slice z lo hi)):=by
 let hl:=Txt.slice_le z lo hi;let h:z.B<=100:=h;change(if(Txt.slice z lo hi).B<=big then _ else none)=_;rw[Xa (by ext big;lia)]
def _pc(c):Oo m__law_signs [(.X,.C c)] (λy=>∃ss,y=(.rt,sL ss)/\1<=ss.B/\ss.B<=3) noX:=by
 let m0:=Zn c (show(8:Int)≠0 by decide);let m1:=Z3 c (show(0:Int)<8 by decide);ext m__law_signs;show k7 ?_;simp![];show(_oP c 9 .q .q).use ?_;intro xs hx;let hxl:=hx.1;simp![↓_nE];let km:fSl (Own.X,iL xs) none @(1+c % 8)=@(.rt,iL (xs.take (1+c % 8).L)):=by
  rw[show iL xs=.S (xs.E D.C)from rfl,_nu (o:=.X) .q,_on .q (by rw[X3];lia),<-List.map_take]
 let hsl':fSl (Own.rt,iL xs) none @(1+c % 8)=@(.rt,iL (xs.take (1+c % 8).L)):=by
  rw[show iL xs=.S (xs.E D.C)from rfl,_nu (o:=.rt) .q,_on .q (by rw[X3];lia),<-List.map_take]
 show Kw [@(.dp,.e "abcdefghijklmnopqrstuvwxyz")] (λ_ y=>∃c,y.2=.e #[%[c|0]]) ?_;simp![km,hsl'];show#[rfl,λd hd=>?_,λys xo=>?_]
 .let#[t,ht,rfl]:=aE hd;let#[ch,hc]:=_ca "abcdefghijklmnopqrstuvwxyz" (t % 26) (Zn t (show(26:Int)≠0 by decide)) (Z3 t (show(0:Int)<26 by decide));simp![hc];show#[#[_,rfl],ch,rfl]
 let#[ps,h1,h2,h3]:=_o7 (λd y h=>h) xo;let bu:ps.B=(1+c % 8).L:=by rw[h2,X3,Zf];lia
 let#[z,hz,z0,z1]:=_pa h3 .q .q;rw[wW,h1];dsimp[back,clr,at',List.V,List.map_nil,List.set_cons_zero,List.set_cons_succ];let ai:v3 (.e z)=@(.C z.cps.O):=rfl;simp![hz,ai,mod_i (a:=c / 8) (b:=(z.cps.O:Int)) .q];generalize kr:c / 8 % (z.cps.O:Int)=a;obtain⟨m,em,mm0,mm1⟩:∃m,jY (.S [.C 1,.C 2,.C 1,.C 2,.C 2,.C 1,.C 2,.C 3]) (.C (c / 64 % 8))=@(.C m)/\1<=m/\m<=3:=by
  let q0:=Zn (c / 64) (show(8:Int)≠0 by decide);let q1:=Z3 (c / 64) (show(0:Int)<8 by decide);generalize c / 64 % 8=t at q0 q1;let:t=0\/t=1\/t=2\/t=3\/t=4\/t=5\/t=6\/t=7:=.q
  let rfl\/rfl\/rfl\/rfl\/rfl\/rfl\/rfl\/rfl:=this<;>show#[_,rfl,.q,.q]
 let#[v,ev,#[v0,_],_]:=ixI xs _ hx.2 8 .q .q;show wq (λE ac=>∃(j:Int) (ss:List Str) (l6:Option Sd) (o1 o3:Own),E=[@(.X,.C c),@(o1,.e "abcdefghijklmnopqrstuvwxyz"),@(.rt,iL xs),@(o3,.e z),@(.dp,.C a),@(.rt,sL ss),l6]/\0<=j/\j<=m/\ac=kq j m/\(ss.B:Int)=j) ?_ ?_ ?_
 .simp![em];show#[0,[],_,_,_,rfl,.q,.q,rfl,rfl]
 .rintro E d ds ⟨j,ss,l6,o1,o3,rfl,j0,j1,hr,hl⟩;let#[hj,rfl,rfl]:=QQ j1 hr;let u0:=Zn v (show(24:Int)≠0 by decide);let u1:=Z3 v (show(0:Int)<24 by decide);let#[ch,hc]:=_ca "abcdefghijklmnopqrstuvwxyz" (v % 24+j) .q (show v % 24+j<26 by lia);let s1:=_pb (o:=.X) (z:=z) (lo:=none) (hi:=@a) .q;let s2:=_pb (o:=.X) (z:=z) (lo:=@(a+1)) (hi:=none) .q;let s1':=_pb (o:=o3) (z:=z) (lo:=none) (hi:=@a) .q;let s2':=_pb (o:=o3) (z:=z) (lo:=@(a+1)) (hi:=none) .q;let g1:(Txt.slice z none @a).cps.O<=100:=Yb (Txt.slice_le z none @a) z1;let g2:(Txt.slice z @(a+1) none).cps.O<=100:=Yb (Txt.slice_le z @(a+1) none) z1;generalize Txt.slice z none @a=w1 at s1 s1' g1;generalize Txt.slice z @(a+1) none=w2 at s2 s2' g2;let nt:((#[%[ch|0]]:Str).cps.O)=1:=rfl;simp![];show xX rfl ?_;simp![s1,s2,s1',s2',ev,hc,(_n2 (o1:=.X) (o2:=.X) (a:=w1) (b:=#[%[ch|0]]) (by rw[nt];lia)),(_n2 (o1:=.X) (o2:=.X) (a:=w1++#[%[ch|0]]) (b:=w2) (by rw[_n3,nt];lia)),(_n2 (o1:=.X) (o2:=sub o1) (a:=w1) (b:=#[%[ch|0]]) (by rw[nt];lia))];show#[_,rfl,by rw[X3];lia,?_];rw[show ∀w,ss.E D.e++[D.e w]=(ss++[w]).E D.e from λw=>by simp];show#[j+1,ss++[_],_,_,_,rfl,.q,.q,rfl,by simp;lia]
 .rintro E ⟨j,ss,l6,o1,o3,rfl,j0,j1,hr,hl⟩;let:=Qk j1 hr;subst this;simp![];show#[ss,rfl,.q,.q]
def _pd(h:p>v4 kv k v):p>kv\/p=(k,v):=by
 unfold v4 at h
 split at h
 .let#[q,hq,rfl]:=aE h
  by_cases e:q.1=k
  .rw[Xa e];show .Z (by rw[e])
  .rw[Xe e];show .R hq
 .let z\/z:=aA h
  .show .R z
  .show .Z (aC z)
def _pe(h:Int->Int)(kv:List (Int×Int))(k v:Int):(v4 kv k v).E (λp=>(p.1,h p.2))=v4 (kv.E λp=>(p.1,h p.2)) k (h v):=by
 ext v4;rw[List.any_map];let:(kv.è λp=>decide (p.1=k))=kv.è ((λp=>decide (p.1=k))∘λ(p:Int×Int)=>(p.1,h p.2)):=rfl;rw[<-this]
 split
 .rw[Xi,Xi];show Yg λp _=>?_
  simp
  split<;>rfl
 .rw[Xd];rfl
def _pf(h:Int->Int)(k:Int):∀(kv:List (Int×Int)),jW (kv.E λp=>(p.1,h p.2)) k=(jW kv k).E h
 | []=>rfl
 | p::kv=>by
  let ih:=_pf h k kv;unfold jW at ih ⊢;rw[List.V,List.find?_cons,List.find?_cons]
  by_cases e:p.1=k
  .simp[e]
  .dsimp[Xm e];show ih
def _pg(h:jW kv k=@v):(k,v)>kv:=by
 unfold jW at h;cases hf:kv.find? λp=>decide (p.1=k)with|none=>symm|some p=>grind
def _ph(N:List Int):∀(sh kv mv:List (Int×Int)),mv=kv.E (λp=>(p.1,N.s p.2.L 0))->sh.foldl (λkv p=>v4 kv p.2 (N.s p.1.L 0)) mv=(((sh.E λp=>(p.2,p.1)).foldl (λkv p=>v4 kv p.1 p.2) kv).E λp=>(p.1,N.s p.2.L 0))
 |[],kv,mv,h=>h
 |p::sh,kv,mv,h=>by
  rw[List.V,Yy,Yy];show _ph N sh _ _ ?_;rw[h];show(_pe (λi=>N.s i.L 0) kv p.2 p.1).i
def _pi(N:List Int)(sh:List (Int×Int))(j:Int):jW (kvN N sh) j=(jW (kvS sh) j).E λi=>N.s i.L 0:=by
 ext kvN kvS;rw[_ph N sh [] [] rfl];show _pf (λi=>N.s i.L 0) j _
def _pj:∀(ps kv:List (Int×Int)) {p},p>ps.foldl (λkv p=>v4 kv p.1 p.2) kv->p>kv\/p>ps
 | [],kv,p,h=>.R h
 | q::ps,kv,p,h=>by
  let z\/z:=_pj ps _ h
  .let z\/z:=_pd z
   .show .R z
   .show .Z (z▸X5)
  .show .Z (_ad _ z)
def _pk(h:jW (kvS sh) j=@i):(i,j)>sh:=by
 let z\/z:=_pj _ _ (_pg h)
 .symm
 .grind
def qw(own:Int)(kv:List (Int×Int))(n:Nat):Nat:=((nmF own kv n).filter λx=>decide (own<=x)).B
section
def Ww{n:Nat}(h:jW kv n=@i):nmF own kv (n+1)=nmF own kv n++[i]:=by rw[_oy,h]
def Wj{n:Nat}(h:jW kv n=none):nmF own kv (n+1)=nmF own kv n++[own+qw own kv n]:=by rw[_oy,h];rfl
def _pl(ho:0<=own)(hv:∀j i,jW kv j=@i->0<=i/\i<own):∀n,∀x>nmF own kv n,0<=x/\x<own+qw own kv n
 | 0,x,h=>nomatch h
 | n+1,x,h=>by
  let ih:=_pl ho hv n;cases hc:jW kv n with
  | some i=>
   let hi:=hv _ _ hc;let qt:qw own kv (n+1)=qw own kv n:=by
    ext qw;rw[Ww hc,Yl];let:decide (own<=i)=false:=Xm (by symm);simp[this]
   rw[Ww hc]at h;rw[qt];let z\/z:=aA h
   .show ih x z
   .rw[aC z];lia
  | none=>
   let qt:qw own kv (n+1)=qw own kv n+1:=by
    ext qw;rw[Wj hc,Yl];let:decide (own<=own+(qw own kv n))=true:=Xh .q;simp[this]
   rw[Wj hc]at h;rw[qt];let z\/z:=aA h
   .let:=ih x z;lia
   .rw[aC z];lia
def _pm(n:Nat):∀m,∃r,nmF own kv (n+m)=nmF own kv n++r
 |0=>#[[],by simp]
 |m+1=>by
  let#[r,hr]:=_pm n m;show#[r++[match jW kv ((n+m:Nat):Int)with|some i=>i|none=>own+((nmF own kv (n+m)).filter λx=>decide (own<=x)).B],?_];change nmF own kv (n+m+1)=_;rw[_oy,<-Xs,<-hr]
  try rfl
def _pn:∀{l r:List Int},x∉l->((l++x::r).y λw=>w==x)=l.B
 |[],r,_=>by simp[List.findIdx_cons]
 |y::l,r,h=>by
  let hy:(y==x)=false:=Yf λe=>h (by rw[e];show X5)
  rw[List.cons_append,List.findIdx_cons,hy,_pn λz=>h (_ad _ z)];rfl
def _po{l:List Int}(h:x∉l):(l.y λw=>w==x)=l.B:=by
 show List.findIdx_eq_length.å λy hy=>?_
 show Yf λe=>h (e▸hy)
def _pp(ho:0<=own)(hv:∀j i:Int,jW kv j=@i->0<=i/\i<own){n m:Nat}(hc:jW kv n=none)(hm:n<m):((nmF own kv m).y λw=>w==own+qw own kv n)=n:=by
 let#[r,hr]:=_pm (own:=own) (kv:=kv) (n+1) (m - (n+1));rw[show n+1+(m - (n+1))=m by omega,Wj hc,Xs]at hr;rw[hr];change((nmF own kv n++(own+(qw own kv n:Int))::r).y _)=n;rw[_pn,Q5];intro z;let:=_pl ho hv n _ z
 symm
end
def ren(N:List Int)(k:Int)(T:List Int)(x:Int):Int:=if x<k then N.s x.L 0 else N.s (k.L+T.y λw=>w==x) 0
def ZY{N:List Int}(h:N.l)(ha:a<N.B)(hb:b<N.B)(e:N.s a 0=N.s b 0):a=b:=by
 rw[X2,X2,X1 ha,X1 hb]at e;let e:N[a]=N[b]:=e;let z\/z\/z:=Nat.lt_trichotomy a b
 .show absurd e (List.pairwise_iff_getElem.mp h a b ha hb z)
 .show z
 .show absurd e.i (List.pairwise_iff_getElem.mp h b a hb ha z)
def _pq{T:List Int}(h:x>T):T[T.y λw=>w==x]?=@x:=by
 let hl:(T.y λw=>w==x)<T.B:=Yi #[x,h,by simp];rw[X1 hl];let:=List.findIdx_getElem (w:=hl)
 congr 1
 simpa using this
def _pr(hk:0<=k)(hl:k<=N.B):(qv k).E (ren N k T)=N.take k.L:=by
 ext qv;rw[Xi];show List.ext_getElem? λi=>?_
 rw[X7]
 by_cases hi:i<k.L
 .rw[List.getElem?_take_of_lt hi,Yw hi,X1 .q];change @(ren N k T i)=_;ext ren;rw[Xa (by symm),X2,Xp,X1 .q];rfl
 .rw[Xz (by rw[Y2];symm),Xz (by rw[Zf];grind)];rfl
def _ps(h:j<n)(hx:nmF own kv (j+1)=nmF own kv j++[x]):(nmF own kv n)[j]?=@x:=by
 let#[r,hr]:=_pm (own:=own) (kv:=kv) (j+1) (n - (j+1));rw[show j+1+(n - (j+1))=n by omega,hx,Xs]at hr;rw[hr,Y1 (by rw[Q5];simp),Q5,Nat.sub_self];rfl
def _pt(hk:0<=k)(hv:∀j i:Int,jW (kvS sh) j=@i->0<=i/\i<k):(nmF k (kvS sh) n).E (ren N k (nmF k (kvS sh) n))=_o2 N k sh n:=by
 show List.ext_getElem? λj=>?_
 ext _o2;rw[X7,X7]
 by_cases hj:j<n
 .rw[Yw hj];change _=@((jW (kvN N sh) (j:Int)).s (N.s (k.L+j) 0));rw[_pi];cases hc:jW (kvS sh) j with
  |some i=>
   let:=hv _ _ hc;rw[_ps hj (Ww hc)];change @(ren N k _ i)=@(N.s i.L 0);ext ren;rw[Xa this.2]
  |none=>
   rw[_ps hj (Wj hc)];change @(ren N k _ (k+qw k (kvS sh) j))=@(N.s (k.L+j) 0);ext ren;rw[Xe .q,_pp hk hv hc hj]
 .rw[Xz (by rw[Q5];lia),Xz (by rw[Y2];lia)];rfl
def _pu(hk:0<=k)(hv:∀j i,jW (kvS sh) j=@i->0<=i/\i<k):((jZ (qv k) (nmF k (kvS sh) n)).B:Int)=k+qw k (kvS sh) n:=by
 ext jZ qw;rw[Xb,X3,Y2];let:(nmF k (kvS sh) n).filter (λm=>!(qv k).è λw=>w==m)=(nmF k (kvS sh) n).filter λx=>decide (k<=x):=by
  show List.filter_congr λx hx=>?_
  let h0:=(_pl hk hv n x hx).1;rw[ZQ]
  by_cases u5:k<=x
  .rw[Xh u5,Xm]
   .rfl
   .grind
  .rw[Xm u5,Xh]
   .rfl
   .show List.mem_map.å #[x.L,List.mem_range.å .q,.q]
 rw[this];lia
def _pv(hP:Prs kps ss.B rs)(hS:k8 kps S)(hz:(ss.è λw=>w==z)=true)(h:Rd kps ss rs (stn S) (z,c) d):
  Oo m__law_read [(.X,jq ss rs),(.X,stn S),(.X,.e z),(.X,.C c)] (λy=>y.2=d) noX:=by
 cases S with
 | none=>
  let hd:d=.j:=by
   let#[_,e]\/#[room,ks,st,kp,gd,e,_]:=h
   .show e
   .cases e
  subst hd;show k7 ?_;simp![show stn none=.j from rfl]
 | some P=>
  let#[room,ks]:=P;let#[r0,r1,hl]:=hS room ks rfl;let#[e,_]\/#[kh,n9,st,kp,gd,e,h0,hr,hc,hl3,hd]:=h
  .cases e
  .injection e with e;injection e with e1 e2;injection e1 with e1;injection e2 with e2 _;injection e2 with e2;let e2:ks=n9:=Yo (λ_ _ h=>by injection h)|>.mp e2
   subst e1 e2 hd;let#[r,er,gd',fj,rfl,_]:=hP.2 room.L .q;rw[er]at hr;let ji:rs[room.L]?=@(.M [.C ks.B,gd,.S st]):=by
    grind
   show _oX h0 ji hc .q hz
def _pw{p:Int}(hP:Prs kps n rs)(h0:-1<=p)(h1:p<kps.B):∃k g,Kpr rs p k/\Gdr rs p g/\(p=-1->k=0)/\(0<=p->k=kps.s p.L 0):=by
 by_cases h:p=-1
 .show#[0,false,.R #[h,rfl],.R #[h,rfl],λ_=>rfl,λz=>by symm]
 .let#[r,er,gd,st,rfl,_]:=hP.2 p.L .q;show#[_,gd,.Z #[.q,_,_,er],.Z #[.q,_,_,er],λz=>absurd z h,λ_=>rfl]
def _px(h:k8 kps s):-1<=rmO s/\rmO s<kps.B:=by
 cases s with|none=>show#[Int.le_refl _,by change(-1:Int)<_;lia]|some P=>let#[a,b]:=P;let#[h0,h1,_]:=h a b rfl;show#[by change -1<=a;lia,h1]
def _py(h0:-1<=p)(h1:p<kps.B)(h2:0<=p->(ks.B:Int)=kps.s p.L 0):k8 kps (wj p ks):=by
 intro room n9 e;unfold wj at e
 split at e
 .symm
 .injection e with e;injection e with e1 e2;subst e1 e2;show#[.q,h1,h2 .q]
#where in
def _pz(h:p=-1->ks=[]):nms (wj p ks)=ks:=by
 ext wj
 split
 .revert e;rw[h e];rfl
 .rfl
end B
namespace F
open Q PySem C
def ww:Nat->List D->List (D×D)
 |_,[]=>[]|n,d::K=>(d,.C n)::ww (n+1) K
def zipI(K:List D):List (D×D):=ww 0 K
def _pA:∀(a b:List D) (n:Nat),ww n (a++b)=ww n a++ww (n+a.B) b
 |[],b,n=>by simp[ww]
 |d::a,b,n=>by
  rw[List.cons_append,ww,ww,_pA a b (n+1),List.cons_append,Xk]
  congr 3
  lia
def zip_len:∀(K:List D) (n:Nat),(ww n K).B=K.B
 |[],_=>rfl|d::K,n=>by rw[ww,Xk,zip_len K,Xk]
def zip_keys:∀(K:List D) (n:Nat),(ww n K).E (·.1)=K
 |[],_=>rfl|d::K,n=>by rw[ww,List.V,zip_keys K]
def _pB:∀(K:List D) (n:Nat),D.pures ((ww n K).E (·.2))=true
 |[],_=>rfl
 |d::K,n=>by
  rw[ww,List.V];change(D.pure (.C n)&&D.pures ((ww (n+1) K).E (·.2)))=true;rw[_pB K];rfl
def _pC:∀(K:List D) (n:Nat) (p:D),xk (ww n K) p=if p>K then @(.C (n+K.idxOf p:Nat))else none
 | [],_,p=>by simp[ww,xk]
 | d::K,n,p=>by
  by_cases h:d=p
  .subst h;ext xk;rw[ww,List.find?_cons_of_pos (by simp),Xa X5];simp
  .let ih:=_pC K (n+1) p;let e:xk (ww n (d::K)) p=xk (ww (n+1) K) p:=by
    ext xk;rw[ww,List.find?_cons_of_neg (~~~h)]
   rw[e,ih]
   by_cases hm:p>K
   .rw[Xa hm,Xa (_ad _ hm),List.idxOf_cons,show(d==p)=false by simpa using h]
    congr 2
    simp;lia
   .rw[Xe hm,Xe (λz=>by let z\/z:=aD z;show h z.i;show hm z)]
def _pD(K:List D)(p:D):zipI (K++[p])=zipI K++[(p,.C K.B)]:=by
 ext zipI;rw[_pA,Nat.zero_add];rfl
def _pE(K:List D)(p:D):((x6 K p).idxOf p:Int)=if p>K then(K.idxOf p:Int)else K.B:=by
 ext x6
 by_cases h:p>K
 .rw[Xa h,Xa h]
 .rw[Xe h,Xe h,List.idxOf_append,Xe h];simp
end F
namespace J
open Q PySem C B F
def m_is_small:Fn:=fn 1
  (jJ (zW (vE (cF2 (pu2 fLe) (vE (cF1 (pu1 v3) (jk (vV 0) (C9 1)))) (C9 12))) (cF1 (pu1 _eq) (vE (cLC .rt 1 [] (itS (cH (jk (vV 0) (C9 1)))) (.n 0) tYes (cF2 (pu2 fLe) (jk (vV 0) (C9 0)) (C9 3)))))))
def m_is_good_by:Fn:=fn 3
  (j6 (sIf (tE (cF2 (pu2 fEq) (vV 0) (vE (cC (.e "both"))))) (jJ (zW (vV 1) (cV 2))) k6)
  (j6 (sIf (tE (cF2 (pu2 fEq) (vV 0) (vE (cC (.e "either"))))) (jJ (cOr (vV 1) (cV 2))) k6)
  (j6 (sIf (tE (cF2 (pu2 fEq) (vV 0) (vE (cC (.e "first"))))) (jJ (zW (vV 1) (_eg (vV 2)))) k6)
  (jJ (cF2 (pu2 fNe) (vV 1) (vV 2))))))
def m_joined_case:Fn:=fn 3
  (j6 (jw 2 (jv B.m_pair_of [(cV 0)]))
  (j6 (sIf (tE (cF2 (pu2 fEq) (vV 2) (vE (kz .X [(cC (.C (-1))),(cC (.C (-1))),(kz .X [])])))) (jJ (cC .j)) k6)
  (jJ (kz .X [(_im 1 (vV 2) (vE (cF1 (pu1 ZJ) (vV 1)))),(jv B.m_held_by_both [(cV 0)])]))))
def m_joined_room:Fn:=fn 10
  (j6 (jw 5 (jv B.m_first_standings [(cV 1),(cV 2),(cV 3)]))
  (j6 (jw 6 (cF1 (pu1 v3) (vE (jv B.m_held_by_both [(cV 5)]))))
  (j6 (jw 7 (qx .rt []))
  (j6 (qW (itS (cH (jk (vV 1) (C9 0)))) (.n 8) (j6 (jw 9 (cLC .rt 1 [1,2,5,8] (xz (vE (cF2 kZ (vV 6) (C9 1)))) (.n 0) tYes (jv B.m_read_by_both [(cV 1),(cV 2),(cV 3),(cV 4),(cV 0)])))
  (vx vK 7 (cLC .rt 1 [4] (itS (cV 9)) (.n 0) tYes (_in m_joined_case 1 [(cV 0)])))))
  (jJ (kz .X [(cV 6),(jv m_is_good_by [(cV 0),(jv B.m_is_good_in [(cV 1),(cH (jk (vV 3) (C9 0)))]),(jv B.m_is_good_in [(cV 2),(cH (jk (vV 3) (C9 1)))])]),(cV 7)]))))))
def VY:D->Int
 |.C i=>i|_=>0
def YW:D->Sn
 |.M [.C r,.M ks]=>@(r,ks.E VY)|_=>none
def rdF(ss:List Str)(rs:List D)(S:Sn)(z:Str)(c:Int):Sn:=match S with
 |none=>none
 |some (room,ks)=>(match rs[room.L]? with
  |some (.M [_,_,.S st])=>YW (vX ss st ks z c)
  |_=>none)
def _pF(h:Ok2 kps d):stn (YW d)=d/\k8 kps (YW d):=by
 let rfl\/#[room,ks,rfl,r0,r1,hl]:=h
 .show#[rfl,nofun]
 .let e:YW (.M [.C room,iT ks])=@(room,ks):=by
   change @_=_;rw[Xi]
   congr 2
   show List.map_id ks
  rw[e];show#[rfl,λa b e=>?_];cases e;show#[r0,r1,hl]
def _pG(h:k8 kps S):Ok2 kps (stn S):=by
 cases S with|none=>show .R rfl|some x=>let#[a,b,c]:=h x.1 x.2 rfl;show .Z #[x.1,x.2,rfl,a,b,c]
def zJ z c (hP:Prs kps ss.B rs)(hk:Abk kps)(hS:k8 kps S):Rd kps ss rs (stn S) (z,c) (stn (rdF ss rs S z c))/\k8 kps (rdF ss rs S z c):=by
 let#[s',h1,h2,_]:=_cD (z,c) hP hk (_pG hS);let#[g1,g2]:=_pF h2;let e:rdF ss rs S z c=YW s':=by
  let#[h3,rfl]\/#[room,ks,st,kp,gd,h3,_,hr,_,_,h4]:=id h1
  .cases S with| none=>rfl| some x=>cases h3
  .cases S with
   | none=>cases h3
   | some x=>
    injection h3 with h3;injection h3 with e1 h3;injection h3 with e2 _;injection e1 with e1;injection e2 with e2;change(match rs[x.1.L]? with
     |some (.M [_,_,.S st])=>YW _
     |_=>none)=_
    rw[e1,hr,((Yo λa b h=>by injection h).mp e2),h4]
 rw[e,g1];show#[h1,g2]
def kpF(rs:List D)(p:Int):Int:=if p=-1 then 0 else(match rs[p.L]? with
 |some (.M [.C k,_,_])=>k
 |_=>0)
def gdF(rs:List D)(p:Int):Bool:=if p=-1 then false else(match rs[p.L]? with
 |some (.M [_,.bl g,_])=>g
 |_=>false)
def _pH(h:Kpr rs p k):kpF rs p=k:=by
 let#[rfl,rfl]\/#[h0,g,st,e]:=h
 .rfl
 .ext kpF;rw[Xe .q,e]
def _pI(h:Gdr rs p g):gdF rs p=g:=by
 let#[rfl,rfl]\/#[h0,k,st,e]:=h
 .rfl
 .ext gdF;rw[Xe .q,e]
def J8{p:Int}(hP:Prs kps n rs)(hk:Abk kps)(h0:-1<=p)(h1:p<kps.B):Kpr rs p (kpF rs p)/\Gdr rs p (gdF rs p)/\0<=kpF rs p/\kpF rs p<=3/\(0<=p->kpF rs p=kps.s p.L 0):=by
 let#[k,g,a,b,c,d]:=_pw hP h0 h1;rw[_pH a,_pI b];show#[a,b,?_]
 by_cases hp:p=-1
 .rw[c hp];show#[.q,.q,λh=>by symm]
 .let hd:=d .q;let hm:kps.s p.L 0>kps:=by rw[X2,X1 .q];show Xu _
  rw[hd];show#[(hk _ hm).1,(hk _ hm).2,λ_=>rfl]
def vJ(K:List D)(x:Sn×Sn):List D×D:=if rmO x.1=-1/\rmO x.2=-1 then(K,.j)else(x6 K (jQ x.1 x.2),.M [.C ((x6 K (jQ x.1 x.2)).idxOf (jQ x.1 x.2):Nat),iT (jZ (nms x.1) (nms x.2))])
def _pJ:∀l,keyDs 4 (prs l)=true
 |[]=>rfl
 |p::l=>by
  change(qJ 4 _&&keyDs 4 _)=true;rw[_pJ l];rfl
def _pK(r r') l:qV (.M [.C r,.C r',.M (prs l)])=true:=by
 let:keyDs 5 [D.C r,.C r',.M (prs l)]=true:=by
  change(qJ 5 _&&(qJ 5 _&&(keyDs 4 _&&true)))=true;rw[_pJ];rfl
 change(keyDs 5 [D.C r,.C r',.M _]&&true)=true;rw[this];rfl
def IsP(d:D):Prop:=∃(r r':Int) (l:List (Int×Int)),d=.M [.C r,.C r',.M (prs l)]
def _pL(h:∀d>K,IsP d):unm (zipI K)=true:=by
 cases K with|nil=>rfl|cons d K=>let#[r,r',l,rfl]:=h d X5;rfl
def _pM(h:k8 kps S)(e:rmO S=-1):S=none:=by
 cases S with|none=>rfl|some x=>let:=(h x.1 x.2 rfl).1;let e:x.1=-1:=e;symm
noncomputable def xq(hk:Abk kps)(h:k8 kps S):(nms S).B<=3:=by
 cases S with
 |none=>show Ya _
 |some x=>
  let#[a,b,c]:=h x.1 x.2 rfl;let hm:kps.s x.1.L 0>kps:=by rw[X2,X1 (by symm)];show Xu _
  let:=(hk _ hm).2;change x.2.B<=3;lia
def _pN(ha:k8 kps a)(hb:k8 a9 b)(hk:Abk kps)(aj:Abk a9)(hK:∀d>K,IsP d)(hl:K.B<9000):
  Oom m_joined_case [(.X,.M [stn a,stn b]),(.rt,.ÿ (zipI K))] 1 (λy x'=>y.2=(vJ K (a,b)).2/\x'=(.rt,.ÿ (zipI (vJ K (a,b)).1))) noX:=by
 let la:=xq hk ha;let lb:=xq aj hb;let hu:=_pL hK;ext m_joined_case;show _nS (YV (_nV ?_));simp![];show(_ou a b .q .q).via ?_;intro y hy;subst hy
 by_cases hn:rmO a=-1/\rmO b=-1
 .let ea:=_pM ha hn.1;let eb:=_pM hb hn.2;subst ea eb;let e:fEq (jQ none none) (.M [.C (-1),.C (-1),.M []])=@(.bl true):=rfl;simp![];show YV (_nU ?_);simp![e];show _nT ?_;simp![]
  first|show#[rfl,rfl]|trivial
 .let e:fEq (jQ a b) (.M [.C (-1),.C (-1),.M []])=@(.bl false):=by
   ext fEq jQ;rw[_o0,show(D.M [.C (-1),.C (-1),.M []]).flat 40=true from rfl];change @(D.bl ((rmO a == -1)&&((rmO b == -1)&&_)))=_
   by_cases h1:rmO a=-1
   .let h2:(rmO b == -1)=false:=Yf λh=>hn #[h1,h]
    rw[h2];simp
   .rw[Yf h1];rfl
  simp![];show YV (_nU ?_);simp![e];show _nV ?_;simp![];show _nT ?_;simp![];show _nQ hu ?_;simp![_nP hu];let hz:=_pC K 0 (jQ a b);let ng:(zipI K).B=K.B:=zip_len K 0;let hc:vJ K (a,b)=(x6 K (jQ a b),.M [.C ((x6 K (jQ a b)).idxOf (jQ a b):Nat),iT (jZ (nms a) (nms b))]):=Xe hn;show#[zipI K,rfl,#[_pK _ _ _,by rw[ng];lia,hu,_pB _ _],λd hd=>?_,λme=>?_]
  .let hm:jQ a b>K:=by
    by_cases hm:jQ a b>K
    .show hm
    .rw[Xe hm]at hz;unfold zipI at hd
     grind
   rw[Xa hm,Nat.zero_add]at hz;unfold zipI at hd;rw[hz]at hd;cases _aa hd;let e1:x6 K (jQ a b)=K:=by ext x6;rw[Xa hm]
   show(_ot a b .q .q).via ?_;intro y hy;subst hy;simp![];rw[hc,e1]
   first|show#[rfl,rfl]|trivial
  .let hm:jQ a b∉K:=λhm=>by
    rw[Xa hm]at hz;unfold zipI at me;rw[hz]at me;cases me
   let e1:x6 K (jQ a b)=K++[jQ a b]:=by ext x6;rw[Xe hm]
   let e2:=_pE K (jQ a b);rw[Xe hm]at e2;show(_ot a b .q .q).via ?_;intro y hy;subst hy;simp![ng];rw[hc];right;rw[e2,e1,_pD]
   first|show#[rfl,rfl]|trivial
def v5:List (Sn×Sn)->List D->List D×List D
 |[],K=>(K,[])|x::r,K=>((v5 r (vJ K x).1).1,(vJ K x).2::(v5 r (vJ K x).1).2)
def lat(x:Sn×Sn):D:=.M [stn x.1,stn x.2]
def vY(ss:List Str)(rs rs':List D)(S T:Sn)(own:Nat)(z:Str):List (Sn×Sn):=(List.range (own+1)).E λ(c:Nat)=>(rdF ss rs S z c,rdF ss rs' T z c)
def qZ(ss:List Str)(rs rs':List D)(S T:Sn)(own:Nat):List Str->List D->List D×List D
 |[],K=>(K,[])|z::zs,K=>((qZ ss rs rs' S T own zs (v5 (vY ss rs rs' S T own z) K).1).1,.S (v5 (vY ss rs rs' S T own z) K).2::(qZ ss rs rs' S T own zs (v5 (vY ss rs rs' S T own z) K).1).2)
def byW(w:Str)(g g':Bool):Bool:=if w == "both" then g&&g' else if w == "either" then g||g' else if w == "first" then g && !g' else g != g'
def good_by:Oo m_is_good_by [(.X,.e w),(.X,.bl g),(.X,.bl g')] (λy=>∃o',y=(o',.bl (byW w g g'))/\True) noX:=by
 let e:∀z,fEq (.e w) (.e z)=@(.bl (w==z)):=λ_=>rfl
 let ne:fNe (.bl g) (.bl g')=@(.bl (g != g')):=by cases g<;>cases g'<;>rfl
 ext m_is_good_by byW;show k7 ?_;cases h1:w==("both":Str)with
 | true=>
  simp![e,h1];cases g<;>show#[_,rfl,trivial]
 | false=>
  cases h2:w==("either":Str)with
  | true=>
   simp![e,h1,h2];cases g<;>show#[_,rfl,trivial]
  | false=>
   cases h3:w==("first":Str)with
   |true=>
    simp![e,h1,h2,h3];cases g<;>show#[_,rfl,trivial]
   |false=>
    simp![e,h1,h2,h3,ne];show#[_,rfl,trivial]
structure Kj (K:List D):Prop where
 nd:K.l
 ok:∀d>K,IsP d
#where in
def _pO(h:Kj K):Kj (vJ K x).1/\K.B<=(vJ K x).1.B/\(vJ K x).1.B<=K.B+1:=by
 ext vJ
 split
 .show#[h,X8 _,Zc _]
 .right;ext x6
  split
  .show#[h,X8 _,Zc _]
  .revert hm;show#[#[List.nodup_append.å #[h.nd,by simp,λa ha b hb e=>?_],λd hd=>?_],by simp,by simp]
   .rw[aC hb]at e;show hm (e▸ha)
   .let hd\/hd:=aA hd
    .show h.ok d hd
    .rw[aC hd];show#[_,_,_,rfl]
def _pP:∀{l K},Kj K->Kj (v5 l K).1/\K.B<=(v5 l K).1.B/\(v5 l K).1.B<=K.B+l.B
 |[],K,h=>#[h,X8 _,X8 _]
 |x::l,K,h=>by
  let#[a,b,c]:=_pO h;let#[d,e,f]:=_pP a;show#[d,Yb b e,?_];change(v5 l (vJ K x).1).1.B<=K.B+(l.B+1);lia
def _pQ:∀{zs K},Kj K->Kj (qZ ss rs rs' S T own zs K).1/\K.B<=(qZ ss rs rs' S T own zs K).1.B/\(qZ ss rs rs' S T own zs K).1.B<=K.B+zs.B*(own+1)
 |[],K,h=>#[h,X8 _,by simp[qZ]]
 |z::zs,K,h=>by
  let#[a,b,c]:=_pP h;let#[d,e,f]:=_pQ (rs':=rs') a;let hl:(vY ss rs rs' S T own z).B=own+1:=by ext vY;rw[X3,Y2]
  show#[d,Yb b e,?_];change(qZ ss rs rs' S T own zs (v5 _ K).1).1.B<=K.B+(zs.B+1)*_
  grind
section
variable {kps a9:List Int}{ss:List Str}{rs rs':List D}
def pS(rs:List D):D->Sn
 |.M [.C p,_,_]=>_oC p (kpF rs p)|_=>none
def Vq:List D->List (Int×Int)
 |[]=>[]|.M [.C i,.C j]::r=>(i,j)::Vq r|_::r=>Vq r
def ZK:∀l,Vq (prs l)=l
 |[]=>rfl
 |p::l=>by
  change _::Vq (prs l)=_;rw[ZK l]
def pT(rs rs':List D):D->Sn
 |.M [.C p,.C q,.M sh]=>YZ q (kpF rs p) (kpF rs' q) (Vq sh)|_=>none
def pO(rs rs':List D)(P:D):Nat:=(jZ (nms (pS rs P)) (nms (pT rs rs' P))).B
def gS(rs:List D):D->Bool
 |.M [.C p,_,_]=>gdF rs p|_=>false
def gT(rs:List D):D->Bool
 |.M [_,.C q,_]=>gdF rs q|_=>false
def _pR(w:Str)(ss:List Str)(rs rs':List D)(P:D)(st:List D):D:=.M [.C (pO rs rs' P),.bl (byW w (gS rs P) (gT rs' P)),.S st]
def Pok(kps a9:List Int)(P:D):Prop:=∃(p q:Int) (sh:List (Int×Int)),P=.M [.C p,.C q,.M (prs sh)]/\-1<=p/\p<kps.B/\-1<=q/\q<a9.B/\sh.B<=3
def _pS(ha:a.B<=3)(hb:b.B<=3):(jZ a b).B<=6:=by
 ext jZ
 grind
def W8(hP:Prs kps ss.B rs)(hk:Abk kps)(h:Pok kps a9 P):k8 kps (pS rs P):=by
 let#[p,q,sh,rfl,h0,h1,_]:=h;let#[_,_,c,_,e]:=J8 hP hk h0 h1;show _py h0 h1 λhp=>?_
 rw[<-e hp,X3,Y2];lia
def W6(ak:Prs a9 ss.B rs')(aj:Abk a9)(h:Pok kps a9 P):k8 a9 (pT rs rs' P):=by
 let#[p,q,sh,rfl,_,_,h0,h1,_]:=h;let#[_,_,c,_,e]:=J8 ak aj h0 h1;show _py h0 h1 λhp=>?_
 rw[<-e hp,Q5];lia
def _pT(hP:Prs kps ss.B rs)(hk:Abk kps)(ak:Prs a9 ss.B rs')(aj:Abk a9)(h:Pok kps a9 P):
  Oo m_first_standings [(.X,jq ss rs),(.X,jq ss rs'),(.X,P)] (λy=>y=(.X,lat (pS rs P,pT rs rs' P))) noX:=by
 let#[p,q,sh,rfl,h0,h1,h2,h3,h4]:=h;let#[a,_,c,d,_]:=J8 hP hk h0 h1;let#[a',_,c',d',_]:=J8 ak aj h2 h3;show(_oB a a' c .q c' .q .q).ý λy hy=>?_
 rw[hy];change _=(Own.X,D.M [stn _,stn (YZ q _ _ _)]);rw[ZK];rfl
def _pU(hP:Prs kps ss.B rs)(hk:Abk kps)(ak:Prs a9 ss.B rs')(aj:Abk a9)(h:Pok kps a9 P):pO rs rs' P<=6:=_pS (xq hk (W8 hP hk h)) (xq aj (W6 ak aj h))
def _pV(hP:Prs kps ss.B rs)(hk:Abk kps)(ak:Prs a9 ss.B rs')(aj:Abk a9)(hS:k8 kps S)(hT:k8 a9 T)(h:x>vY ss rs rs' S T own z):k8 kps x.1/\k8 a9 x.2:=by
 let#[c,_,rfl]:=aE h;show#[(zJ z c hP hk hS).2,(zJ z c ak aj hT).2]
inductive RmI (w:Str)(ss:List Str)(rs rs':List D)(P:D)(S T:Sn)(own:Nat)(K:List D):En->List D->Prop
 |mk {K1 ae:List D} {zs:List Str} {l8 l9:Option Sd}:Kj K1->K1.B+zs.B*7<=K.B+21->ae.B+zs.B=ss.B->qZ ss rs rs' S T own ss K=((qZ ss rs rs' S T own zs K1).1,ae++(qZ ss rs rs' S T own zs K1).2)->RmI w ss rs rs' P S T own K [@(.X,.e w),@(.X,jq ss rs),@(.X,jq ss rs'),@(.X,P),@(.rt,.ÿ (zipI K1)),@(.X,lat (S,T)),@(.dp,.C own),@(.rt,.S ae),l8,l9] (zs.E D.e)
inductive RmJ (E1:En)(L:List (Sn×Sn))(K1:List D):En->En->List D->List Sd->Prop
 |mk {q:Option Sd} {K2:List D} {xs:List (Sn×Sn)} {ae:List Sd}:Kj K2->(∀x>xs,x>L)->K2.B+xs.B<=K1.B+L.B->v5 L K1=((v5 xs K2).1,ae.E (·.2)++(v5 xs K2).2)->RmJ E1 L K1 E1 [q,@(.rt,.ÿ (zipI K2))] (xs.E lat) ae
def _oq(hs:ss.B<=3)(hP:Prs kps ss.B rs)(hk:Abk kps)(ak:Prs a9 ss.B rs')(aj:Abk a9)(h:Pok kps a9 P)(hK:Kj K)(hl:K.B<=1000):
  Oom m_joined_room [(.X,.e w),(.X,jq ss rs),(.X,jq ss rs'),(.X,P),(.rt,.ÿ (zipI K))] 4
   (λy x'=>y=(.X,_pR w ss rs rs' P (qZ ss rs rs' (pS rs P) (pT rs rs' P) (pO rs rs' P) ss K).2)/\x'=(.rt,.ÿ (zipI (qZ ss rs rs' (pS rs P) (pT rs rs' P) (pO rs rs' P) ss K).1))) noX:=by
 let hS:=W8 hP hk h;let hT:=W6 (rs:=rs) ak aj h;let hO:=_pU hP hk ak aj h;let lS:=xq hk hS;let lT:=xq aj hT;let hfi:=_pT hP hk ak aj h;let q0:∀a b:D,jY (.M [a,b]) (.C 0)=@a:=λ_ _=>rfl
 ext m_joined_room;show _nS ?_;show YV (_nV ?_);simp![];show hfi.via ?_;intro y hy;subst hy;simp![];show YV (_nV ?_);simp![];show(_ot (pS rs P) (pT rs rs' P) .q .q).via ?_;intro y hy;subst hy;simp![];show YV (_nV ?_);simp![];show YV (_nV ?_);let sw:((jZ (nms (pS rs P)) (nms (pT rs rs' P))).B:Int)=(pO rs rs' P):=rfl;rw [sw];generalize hOd:pO rs rs' P=own at *;generalize hSd:pS rs P=S at *;generalize hTd:pT rs rs' P=T at *;show wq (RmI w ss rs rs' P S T own K) ?_ ?_ ?_
 .simp![q0];show .mk hK .q (by simp) (by simp)
 .intro E d ds hh;generalize bc:d::ds=dd at hh;cases hh with
  | @mk K1 ae zs l8 l9 ut ib hac qi=>
  cases zs with
  | nil=>cases bc
  | cons z zs=>
   injection bc with e1 e2;subst e1 e2;rw [Xk]at ib hac;simp![];show Kw [@(.X,jq ss rs),@(.X,jq ss rs'),@(.X,lat (S,T)),@(.X,.e z)] (λd y=>y.2=lat (rdF ss rs S z (VY d),rdF ss rs' T z (VY d))) ?_;show _nr ?_;simp![];show#[_,rfl,.q,.q,rfl,λd hd=>?_,λys hy=>?_]
   .let#[c,c0,c1,rfl]:=_n0 hd;simp![];show(_or (w:=(z,c)) (zJ z c hP hk hS).1 (zJ z c ak aj hT).1).via ?_;intro y hy;subst hy;show#[#[_,rfl],rfl]
   let hm:(kq 0 ((own)+1)).E (λd=>lat (rdF ss rs S z (VY d),rdF ss rs' T z (VY d)))=(vY ss rs rs' S T own z).E lat:=by
    ext kq vY;rw[Xi,Xi];rw[show((own:Int)+1 - 0).L=own+1 by lia];show Yg λc _=>?_
    change lat (rdF ss rs S z (0+(c)),rdF ss rs' T z (0+(c:Int)))=_;rw[Int.zero_add];rfl
   rw [wW,QX (h:=λd=>lat (rdF ss rs S z (VY d),rdF ss rs' T z (VY d))) (λ_ _ h=>h) hy,hm];dsimp[back,clr,at',List.V,List.map_nil,List.set_cons_zero,List.set_cons_succ];simp![];let hlo:∀x>vY ss rs rs' S T own z,k8 kps x.1/\k8 a9 x.2:=λx hx=>_pV hP hk ak aj hS hT hx
   let uy:(vY ss rs rs' S T own z).B=own+1:=by ext vY;rw[X3,Y2]
   let hcj:=_pP (l:=vY ss rs rs' S T own z) ut;let hsg:qZ ss rs rs' S T own (z::zs) K1=((qZ ss rs rs' S T own zs (v5 (vY ss rs rs' S T own z) K1).1).1,.S (v5 (vY ss rs rs' S T own z) K1).2::(qZ ss rs rs' S T own zs (v5 (vY ss rs rs' S T own z) K1).1).2):=rfl;rw [hsg]at qi;generalize vY ss rs rs' S T own z=L at *;show xX rfl ?_;show QJ (RmJ [@(.X,.e w),@(.X,jq ss rs),@(.X,jq ss rs'),@(.X,P),@(.rt,.ÿ (zipI K1)),@(.X,lat (S,T)),@(.dp,.C own),@(.rt,.S ae),@(.X,.e z),@(.X,.S (L.E lat))] L K1) ?_ ?_ ?_
   .simp![];show .mk ut (λ_ h=>h) (X8 _) (by simp)
   .intro E1 B d ds lj hh;generalize bc:d::ds=dd at hh;cases hh with
    | @mk q K2 xs _ hK2 hxs u6 hc=>
    cases xs with
    | nil=>cases bc
    | cons x xs=>
     injection bc with e1 e2;subst e1 e2;rw[Xk]at u6;let#[o1,o2]:=hlo x (hxs x X5);simp![];show _nW ?_;simp![];show#[_,rfl,(_pN (K:=K2) o1 o2 hk aj hK2.ok .q).ý (λy' x' h=>?_) λc h=>h.ß];let#[h1,rfl]:=h;let hi:=_pO (x:=x) hK2;show .mk hi.1 (λx' hx'=>hxs x' (_ad _ hx')) .q ?_;rw[hc,v5];simp[h1]
   .intro E1 B lj hh;generalize bc:([]:List D)=dd at hh;cases hh with
    | @mk q K2 xs _ hK2 hxs u6 hc=>
    cases xs with
    | cons=>cases bc
    | nil=>
     rw[wW];dsimp[J3,back,clr,at',List.ñ,List.V,List.map_nil,List.set_cons_zero,List.set_cons_succ];let hc:v5 L K1=(K2,lj.E (·.2)):=by rw[hc];simp[v5]
     rw[hc]at qi hcj;show#[ae,rfl,.q,.mk hK2 ?_ ?_ ?_]
     .let:=hcj.2.2;dsimp only at this;lia
     .rw[Xb,Xy];lia
     .rw[qi];simp
 .intro E hh;generalize bc:([]:List D)=dd at hh;cases hh with
  | @mk K1 ae zs l8 l9 ut ib hac qi=>
  cases zs with
  | cons=>cases bc
  | nil=>
   let#[p,q,sh,rfl,h0,h1,h2,h3,h4]:=h;let#[_,g1,_]:=J8 hP hk h0 h1;let#[_,g2,_]:=J8 ak aj h2 h3;let t0:jY (.M [.C p,.C q,.M (prs sh)]) (.C 0)=@(.C p):=rfl;let t1:jY (.M [.C p,.C q,.M (prs sh)]) (.C 1)=@(.C q):=rfl;let qi:qZ ss rs rs' S T own ss K=(K1,ae):=by rw[qi];simp[qZ]
   rw[qi];show _nT ?_;simp![t0,t1];show(_oT g1).use ?_;intro _ _;simp![t1];show(_oT g2).use ?_;intro _ _;simp![];show good_by.use ?_;intro _ _;simp![];let e:_pR w ss rs rs' (D.M [D.C p,D.C q,D.M (prs sh)]) ae=.M [.C own,.bl (byW w (gdF rs p) (gdF rs' q)),.S ae]:=by
    ext _pR;rw[hOd];rfl
   rw[e];show#[rfl,rfl]
def _pW(t):∀k (o),(jX t k o).B<=o.B
 |_,[]=>X8 _
 |k,n::o=>by
  let:=_pW t (k+1) o;ext jX
  split<;>simp<;>lia
def ZV(ha:k8 kps a)(hb:k8 a9 b)(hk:Abk kps):Pok kps a9 (jQ a b):=by
 let#[a0,a1]:=_px ha;let#[b0,b1]:=_px hb;show#[_,_,_,rfl,a0,a1,b0,b1,Yb (_pW _ _ _) (xq hk ha)]
def _pX(hK:∀d>K,Pok kps a9 d)(ha:k8 kps x.1)(hb:k8 a9 x.2)(hk:Abk kps):∀d>(vJ K x).1,Pok kps a9 d:=by
 intro d hd;unfold vJ at hd
 split at hd
 .show hK d hd
 .dsimp only at hd;unfold x6 at hd
  split at hd
  .show hK d hd
  .let hd\/hd:=aA hd
   .show hK d hd
   .rw[aC hd];show ZV ha hb hk
def _pY(hk:Abk kps):∀{l K},(∀d>K,Pok kps a9 d)->(∀x>l,k8 kps x.1/\k8 a9 x.2)->∀d>(v5 l K).1,Pok kps a9 d
 |[],K,h,_=>h|x::l,K,h,hl=>_pY hk (l:=l) (_pX h (hl x X5).1 (hl x X5).2 hk) λy hy=>hl y (_ad _ hy)
def _pZ(hP:Prs kps ss.B rs)(hk:Abk kps)(ak:Prs a9 ss.B rs')(aj:Abk a9)(hS:k8 kps S)(hT:k8 a9 T):∀{zs K},(∀d>K,Pok kps a9 d)->∀d>(qZ ss rs rs' S T own zs K).1,Pok kps a9 d
 |[],K,h=>h|z::zs,K,h=>_pZ hP hk ak aj hS hT (zs:=zs) (_pY hk h λx hx=>_pV hP hk ak aj hS hT hx)
def Wq(w:Str)(ss:List Str)(rs rs' K aa:List D):List D×List D:=
 ((qZ ss rs rs' (pS rs (K.s aa.B .j)) (pT rs rs' (K.s aa.B .j)) (pO rs rs' (K.s aa.B .j)) ss K).1,
  aa++[_pR w ss rs rs' (K.s aa.B .j) (qZ ss rs rs' (pS rs (K.s aa.B .j)) (pT rs rs' (K.s aa.B .j)) (pO rs rs' (K.s aa.B .j)) ss K).2])
inductive RunJ (w:Str)(ss:List Str)(rs rs':List D):List D->List D->Option (List D×List D)->Prop
 |stop {K aa:List D}:¬aa.B<K.B->RunJ w ss rs rs' K aa @(K,aa)
 |great {K aa:List D}:aa.B<K.B->40<K.B->RunJ w ss rs rs' K aa none
 |go {K aa:List D} {r:Option (List D×List D)}:aa.B<K.B->K.B<=40->RunJ w ss rs rs' (Wq w ss rs rs' K aa).1 (Wq w ss rs rs' K aa).2 r->RunJ w ss rs rs' K aa r
abbrev P0:D:=.M [.C 0,.C 0,.M []]
structure Mst (kps a9:List Int)(K aa:List D):Prop where
 kj:Kj K
 ok:∀d>K,Pok kps a9 d
 le:aa.B<=K.B
def _p0(hP:Prs kps ss.B rs)(hk:Abk kps)(ak:Prs a9 ss.B rs')(aj:Abk a9)(h:Mst kps a9 K aa)(bf:aa.B<K.B):
  Mst kps a9 (Wq w ss rs rs' K aa).1 (Wq w ss rs rs' K aa).2:=by
 let cp:K.s aa.B .j>K:=by rw[X2,X1 bf];show Xu _
 let hPk:=h.ok _ cp;let#[a,b,c]:=_pQ (rs':=rs') h.kj;show⟨a,_pZ hP hk ak aj (W8 hP hk hPk) (W6 ak aj hPk) h.ok,?_⟩;change(aa++[_]).B<=_;rw[Xb];show Yb bf b
def XW:D->Int
 |.M [.C k,_,_]=>k|_=>0
def _p1(rs:List D):Bool:=decide (rs.B<=12)&&rs.all λr=>decide (XW r<=3)
def _p2(g):∀ds:List D,bls (ds.E λd=>D.bl (g d))=@(ds.E g)
 |[]=>rfl
 |d::ds=>by
  rw[List.V,bls,_p2 g ds];rfl
def _p3 g (ds:List D):_eq (.S (ds.E λd=>D.bl (g d)))=@(.bl (ds.all g)):=by
 change(bls _).E _=_;rw[_p2];simp[Function.comp_def]
def small_is(h:∀r>rs,∃(own:Int) (a b:D),r=.M [.C own,a,b]):Oo m_is_small [(.X,.M [d0,.S rs])] (λy=>∃o',y=(o',.bl (_p1 rs))/\True) noX:=by
 let q1:∀a b,jY (.M [a,b]) (.C 1)=@b:=λ_ _=>rfl
 show k7 ?_
 by_cases hl:rs.B<=12
 .let e:fLe (.C rs.B) (.C 12)=@(.bl true):=by rw[le_ii,Xh .q]
  simp![q1,e];show Kw [] (λd y=>y.2=.bl (decide (XW d<=3))) ?_;simp![q1];show#[λd hd=>?_,λys hy=>?_]
  .let#[own,a,b,rfl]:=h d hd;simp![t0];show#[#[_,rfl],rfl]
  .rw[wW,QX (h:=λd=>.bl (decide (XW d<=3))) (λ_ _ h=>h) hy];simp![_p3 (λd=>decide (XW d<=3))];show#[_,by ext _p1;rw[Xh hl];rfl,trivial]
 .let e:fLe (.C rs.B) (.C 12)=@(.bl false):=by rw[le_ii,Xm .q]
  simp![q1,e];show#[_,by ext _p1;rw[Xm hl];rfl,trivial]
def _p4(hP:Prs kps n rs):∀r>rs,∃(own:Int) (a b:D),r=.M [.C own,a,b]:=λr hr=>by
 let#[i,hi,e]:=Yv hr;let#[r',e',gd,st,h',_]:=hP.2 i (hP.1▸hi);rw[X1 hi,e]at e'
 grind
def _p5(hP:Prs kps n rs)(hk:Abk kps)(lc:kps.B<=12):_p1 rs=true:=by
 ext _p1;rw[Xh (hP.1▸lc),Bool.true_and,Zp];intro r hr;let#[i,hi,e]:=Yv hr;let iz:i<kps.B:=by rw[<-hP.1];show hi
 let#[r',e',gd,st,h',_]:=hP.2 i iz;rw[X1 hi,e]at e';cases _aa e';rw[h'];let hm:kps.s i 0>kps:=by rw[X2,X1 iz];show Xu _
 show Xh (hk _ hm).2
end
end J
namespace Kp
open Q PySem C
def bk(E:En):back [] [] (clr [] E)=E:=rfl
end Kp
namespace U
open Q PySem C B J
def _p6(h:stn a=stn b):a=b:=by
 cases a with
 | none=>cases b with|none=>rfl|some y=>cases h
 | some x=>cases b with
  |none=>cases h
  |some y=>
   let h:(D.M [.C x.1,iT x.2])=.M [.C y.1,iT y.2]:=h;injection h with h;injection h with e1 h;injection h with e2 _;injection e1 with e1;injection e2 with e2;let e2:x.2=y.2:=(Yo λa b h=>by injection h).mp e2;show congrArg some (Prod.ext e1 e2)
def _p7(h:Rd kps ss rs s w a)(h':Rd kps ss rs s w b):a=b:=by
 let#[rfl,rfl]\/#[room,ks,st,kp,gd,rfl,_,hr,_,_,e]:=h
 .let#[_,rfl]\/#[room,ks,st,kp,gd,h,_]:=h'
  .rfl
  .cases h
 .let#[h,_]\/#[kh,n9,fj,kp',gd',h,_,ji,_,_,e']:=h'
  .cases h
  .injection h with h;injection h with e1 h;injection h with e2 _;injection e1 with e1;injection e2 with e2;let e2:ks=n9:=(Yo λa b h=>by injection h).mp e2;subst e1 e2;rw[hr]at ji;injection ji with ji;injection ji with ji;injection ji with _ ji;injection ji with _ ji;injection ji with ji _;injection ji with ji;rw[e,e',ji]
section
def _p8(hP:Prs kps ss.B rs)(hk:Abk kps)(hS:k8 kps S)(sk:∀x>nms S,f x=f c->x=c):rdF ss rs (v8 f S) z (f c)=v8 f (rdF ss rs S z c)/\∀n>nms (rdF ss rs S z c),n>nms S\/n=c:=by
 let#[s',h1,h2,h3,_]:=_oL (z:=z) hP hk hS sk;let hm:k8 kps (v8 f S):=by
  cases S with
  |none=>show nofun
  |some x=>
   intro room ks e;cases e;let#[a,b,c]:=hS x.1 x.2 rfl;show#[a,b,by rw[X3];show c]
 let e1:=_p6 (_p7 (zJ z c hP hk hS).1 h1);let e2:=_p6 (_p7 (zJ z (f c) hP hk hm).1 h2);rw[e1,e2];show#[rfl,h3]
def _p9{l:List Int}(h:l.l)(hi:∀x>l,∀y>l,g x=g y->x=y):(l.E g).l:=by
 induction l with
 |nil=>show Xr
 |cons a l ih=>
  rw[Zm]at h;rw[List.V,Zm];show#[λz=>?_,ih h.2 λx hx y hy=>hi x (_ad _ hx) y (_ad _ hy)];let#[b,hb,e]:=aE z;let:=hi b (_ad _ hb) a X5 e;show h.1 (this▸hb)
def _qa(hP:Prs kps ss.B rs)(hk:Abk kps)(hS:k8 kps S)(hn:(nms S).l):(nms (rdF ss rs S z c)).l:=by
 let h1:=(zJ z c hP hk hS).1;generalize rdF ss rs S z c=S' at h1;let#[_,e]\/#[room,ks,st,kp,gd,e,_,_,hc,_,e']:=h1
 .cases S' with| none=>show Xr| some x=>cases e
 .let hks:nms S=ks:=by
   cases S with
   | none=>cases e
   | some x=>
    let e:(D.M [.C x.1,iT x.2])=.M [.C room,iT ks]:=e;injection e with e;injection e with _ e;injection e with e _;injection e with e;show(Yo λa b h=>by injection h).mp e
  rw [hks]at hn;unfold vX at e';cases hz:(ss.è λw=>w==z)with
  | false=>
   rw [hz]at e';cases S' with| none=>show Xr| some x=>cases e'
  | true=>
   rw [hz,Xa rfl]at e';let#[cs,_,_,_,g4]:=_oi c hc hz;let g\/#[to,fs,g,_,_,hfs,ub,_]:=g4
   .rw [g]at e';cases S' with| none=>show Xr| some x=>cases e'
   .rw [g,show(D.M (fs.E D.C))=iT fs from rfl,caseD_is]at e';cases S' with
    | none=>cases e'
    | some x=>
     let e':(D.M [.C x.1,iT x.2])=.M [.C to,iT (fs.E (C.nameAt ks c))]:=e';injection e' with e';injection e' with _ e';injection e' with e' _;injection e' with e';let e':x.2=fs.E (C.nameAt ks c):=(Yo λa b h=>by injection h).mp e';change x.2.l;rw[e'];let hb:=λi hi=>hfs i hi
     show _p9 ub λi hi j hj nr=>?_
     let#[i0,i1]:=hfs i hi;let#[j0,j1]:=hfs j hj;unfold z3 at i1 j1;unfold C.nameAt at nr;let key:i.L=j.L:=by
      by_cases hm:c>ks
      .let bf:(ks.y λw=>w==c)<ks.B:=Yi #[c,hm,by simp];rw[Xe .q]at i1 j1;rw[X2,X2,Xn .q,Xn .q,<-X2,<-X2]at nr;show ZY hn .q .q nr
      .let my:(ks++[c]).l:=List.nodup_append.å #[hn,by simp,λx hx y hy e=>by rw[aC hy]at e;show hm (e▸hx)];let:(if((ks.y λw=>w==c:Nat):Int)=ks.B then(1:Int)else 0)<=1:=by split<;>decide
       show ZY my (by rw[Xb,Xy];lia) (by rw[Xb,Xy];lia) nr
     lia
#where in
def _qb:∀{o:List Int} {k:Nat},(i,j)>jX t k o->∃m:Nat,∃x:Int,i=((k+m:Nat):Int)/\o[m]?=@x/\x>t/\j=((t.y λw=>w==x:Nat):Int)
 | [],k,h=>nomatch h
 | n::o,k,h=>by
  let e:jX t k (n::o)=if(t.è λw=>w==n)=true then((k:Int),((t.y λw=>w==n:Nat):Int))::jX t (k+1) o else jX t (k+1) o:=rfl
  rw[e]at h;let go:(i,j)>jX t (k+1) o->∃m:Nat,∃x:Int,i=((k+m:Nat):Int)/\(n::o)[m]?=@x/\x>t/\j=((t.y λw=>w==x:Nat):Int):=λh=>by
   let#[m,x,h1,h2,h3,h4]:=_qb h;show#[m+1,x,by rw[h1];congr 1;lia,h2,h3,h4]
  split at h
  .revert ha;let h\/h:=aD h
   .injection h with h1 h2;rw[ZQ]at ha;show#[0,n,h1,rfl,Yq ha,h2]
   .show go h
  .show go h
def _qc:∀{o:List Int} {k m:Nat},o[m]?=@x->x>t->(((k+m:Nat):Int),((t.y λw=>w==x:Nat):Int))>jX t k o
 | [],k,m,h,_=>nomatch h
 | n::o,k,m,h,hx=>by
  let e:jX t k (n::o)=if(t.è λw=>w==n)=true then((k:Int),((t.y λw=>w==n:Nat):Int))::jX t (k+1) o else jX t (k+1) o:=rfl
  rw[e];cases m with
  |zero=>
   let h:n=x:= ~~~h
   subst h;rw[Xa (by rw[ZQ];show Xh hx)];show X5
  |succ m=>
   let:=_qc (k:=k+1) (m:=m) (o:=o) (~~~h) hx;rw[show k+1+m=k+(m+1)by lia]at this
   split
   .show _ad _ this
   .show this
def _qd(kv:List (Int×Int))(k v j:Int):(jW kv j).isSome=true\/k=j->(jW (v4 kv k v) j).isSome=true:=by
 intro h;ext jW;rw [Yt,List.find?_isSome];ext v4
 by_cases ha:(kv.è λp=>decide (p.1=k))=true
 .rw[Xa ha];let:∃p>kv,p.1=j:=by
   let h\/rfl:=h
   .unfold jW at h;rw[Yt,List.find?_isSome]at h;let#[p,hp,e]:=h;show#[p,hp,Yq e]
   .let#[p,hp,e]:=List.any_eq_true.mp ha;show#[p,hp,Yq e]
  let#[p,hp,e]:=this;show#[_,List.mem_map.å #[p,hp,rfl],Xh ?_]
  split
  .show e
  .show e
 .rw[Xe ha];let h\/rfl:=h
  .unfold jW at h;rw[Yt,List.find?_isSome]at h;let#[p,hp,e]:=h;show#[p,_ac _ hp,e]
  .show#[(k,v),_ab _ X5,Xh rfl]
def _qe:∀(ps kv:List (Int×Int)) (j:Int),(jW kv j).isSome=true\/(∃p>ps,p.1=j)->(jW (ps.foldl (λkv p=>v4 kv p.1 p.2) kv) j).isSome=true
 | [],kv,j,h=>by
  let h\/#[p,hp,_]:=h
  .show h
  .show nomatch hp
 | p::ps,kv,j,h=>by
  rw[Yy];show _qe ps _ j ?_;let h\/#[q,hq,e]:=h
  .show .R (_qd _ _ _ _ (.R h))
  .let rfl\/hq:=aD hq
   .show .R (_qd _ _ _ _ (.Z e))
   .show .Z #[q,hq,e]
def _qf(h:(i,j)>sh):(jW (kvS sh) j).isSome=true:=_qe _ _ _ (.Z #[(j,i),List.mem_map.å #[(i,j),h,rfl],rfl])
def _qg(hv:∀j i,jW kv j=@i->0<=i/\i<own):∀n,(nmF own kv n).filter (λx=>decide (own<=x))=(List.range (qw own kv n)).E λ(c:Nat)=>own+c
 | 0=>rfl
 | n+1=>by
  let ih:=_qg hv n;cases h:jW kv n with
  | some i=>
   let:=hv _ _ h;let e:qw own kv (n+1)=qw own kv n:=by
    ext qw;rw[Ww h,Yl,List.filter_cons_of_neg (by simp;lia)];simp
   rw[e,<-ih,Ww h,Yl,List.filter_cons_of_neg (by simp;lia)];simp
  | none=>
   let e:qw own kv (n+1)=qw own kv n+1:=by
    change((nmF own kv _).filter _).B=_;rw[Wj h,Yl,List.filter_cons_of_pos (by simp;lia),Xb];rfl
   rw[e,List.range_succ,Xd,<-ih,Wj h,Yl,List.filter_cons_of_pos (by simp;lia)];rfl
def _qh(hk:0<=k)(hv:∀j i,jW (kvS sh) j=@i->0<=i/\i<k):jZ (qv k) (nmF k (kvS sh) n)=qv ((jZ (qv k) (nmF k (kvS sh) n)).B:Nat):=by
 let e:(nmF k (kvS sh) n).filter (λm=>!(qv k).è λw=>w==m)=(nmF k (kvS sh) n).filter λx=>decide (k<=x):=by
  show List.filter_congr λx hx=>?_
  let h0:=(_pl hk hv n x hx).1;rw[ZQ]
  by_cases u5:k<=x
  .rw[Xh u5,Xm]
   .rfl
   .grind
  .rw[Xm u5,Xh]
   .rfl
   .show List.mem_map.å #[x.L,List.mem_range.å .q,.q]
 let e2:jZ (qv k) (nmF k (kvS sh) n)=qv (k+qw k (kvS sh) n):=by
  ext jZ;rw[e,_qg hv];change(List.range k.L).E _++_=(List.range (k+qw k _ n).L).E _;rw[show(k+_).L=k.L+qw k (kvS sh) n by lia,List.range_add,Xd,Xi]
  congr 1
  show Yg λc _=>?_
  grind
 rw[(_pu (n:=n) hk hv),e2]
end
section
variable {ss:List Str}
abbrev hp(rs rs':List D)(P:D):List Int:=jZ (nms (pS rs P)) (nms (pT rs rs' P))
def Rl(rs rs':List D)(P:D)(a b:Sn):Prop:=∃f:Int->Int,a=v8 f (pS rs P)/\b=v8 f (pT rs rs' P)/\(∀x>hp rs rs' P,∀y>hp rs rs' P,f x=f y->x=y)/\hp rs rs' P=qv (pO rs rs' P)
def _qi(hP:Prs kps ss.B rs)(hk:Abk kps)(h:k8 kps s):kpF rs (rmO s)=(nms s).B:=by
 cases s with
 |none=>rfl
 |some x=>
  let#[a,b,c]:=h x.1 x.2 rfl;let#[_,_,_,_,e]:=J8 hP hk .q b;change kpF rs x.1=(x.2.B:Int);rw[e a,c]
def _qj(h:k8 kps s) g (hg:T.E g=nms s):s=v8 g (wj (rmO s) T):=by
 cases s with
 |none=>rfl
 |some x=>
  let:=(h x.1 x.2 rfl).1;let hg:T.E g=x.2:=hg;change @x=v8 g (wj x.1 T);ext wj;rw[Xe .q];change @x=@(x.1,T.E g);rw[hg]
def _qk(hP:Prs kps ss.B rs)(hk:Abk kps)(ak:Prs a9 ss.B rs')(aj:Abk a9)(ha:k8 kps a)(hb:k8 a9 b)(na:(nms a).l)(nb:(nms b).l):Rl rs rs' (jQ a b) a b:=by
 let ka:=_qi hP hk ha;let li:Vq (prs (jX (nms b) 0 (nms a)))=jX (nms b) 0 (nms a):=ZK _;let eS:pS rs (jQ a b)=wj (rmO a) (qv ((nms a).B:Nat)):=by
  change _oC (rmO a) (kpF rs (rmO a))=_;rw [ka];rfl
 let eT:pT rs rs' (jQ a b)=wj (rmO b) (nmF ((nms a).B:Nat) (kvS (jX (nms b) 0 (nms a))) (nms b).B):=by
  change YZ (rmO b) (kpF rs (rmO a)) (kpF rs' (rmO b)) (Vq (prs (jX (nms b) 0 (nms a))))=_;rw [ka,(_qi ak aj hb),li];rfl
 generalize hA:nms a=A at *;generalize hB:nms b=B' at *;let hv:∀j i,jW (kvS (jX B' 0 A)) j=@i->0<=i/\i<(A.B:Nat):=λj i h=>by
  let#[m,x,h1,h2,_]:=_qb (_pk h);let:=(aF h2).1
  symm
 let k0:(0:Int)<=(A.B:Nat):=by simp
 generalize hT:nmF ((A.B:Nat):Int) (kvS (jX B' 0 A)) B'.B=T at *;let hTl:T.B=B'.B:=by rw[<-hT,Q5]
 let fa:(qv (A.B:Nat)).E (ren (A++B') (A.B:Nat) T)=A:=by
  rw [_pr k0 (by rw[Xb];lia),Xp,List.take_left]
 let fb:T.E (ren (A++B') (A.B:Nat) T)=B':=by
  rw [<-hT,_pt k0 hv];ext _o2;show List.ext_getElem? λj=>?_
  rw [X7]
  by_cases hj:j<B'.B
  .rw[Yw hj,X1 hj];change @((jW (kvN (A++B') (jX B' 0 A)) (j)).s ((A++B').s ((A.B:Int).L+j) 0))=_;rw[_pi];cases h:jW (kvS (jX B' 0 A)) (j)with
   | none=>
    change @((A++B').s ((A.B:Int).L+j) 0)=_;rw[Xp,X2,Y1 (by simp),show A.B+j - A.B=j by simp,X1 hj];rfl
   | some i=>
    change @((A++B').s i.L 0)=_;let#[m,x,h1,h2,h3,h4]:=_qb (_pk h);let hm:=(aF h2).1;let ku:=_pq h3;rw[show(B'.y λw=>w==x)=j by lia,X1 hj]at ku;rw[ku,show i.L=m by symm,X2,Xn hm,h2];rfl
  .rw[Xz (by rw[Y2];lia),Xz .q];rfl
 let hnA:nms (wj (rmO a) (qv (A.B:Nat)))=qv (A.B:Nat):=_pz λe=>by
  let:=_pM ha e;rw [this]at hA;rw [<-hA];rfl
 let hnB:nms (wj (rmO b) T)=T:=_pz λe=>by
  let:=_pM hb e;rw [this]at hB;let:T.B=0:=by rw[hTl,<-hB];rfl
  show List.length_eq_zero_iff.mp this
 let hhp:hp rs rs' (jQ a b)=jZ (qv (A.B:Nat)) T:=by
  ext hp;rw [eS,eT,hnA,hnB]
 let hrng:hp rs rs' (jQ a b)=qv (pO rs rs' (jQ a b)):=by
  change _=qv ((hp rs rs' (jQ a b)).B:Nat);rw [hhp,<-hT];show _qh k0 hv
 show#[ren (A++B') (A.B:Nat) T,?_,?_,?_,hrng]
 .rw [eS];show _qj ha _ (by rw[fa,hA])
 .rw [eT];show _qj hb _ (by rw[fb,hB])
 .rw [hhp];let big:∀x>T,((A.B:Nat):Int)<=x->∃j,j<B'.B/\T[j]?=@x/\(ren (A++B') (A.B:Nat) T x)=B'.s j 0/\B'.s j 0∉A:=λx hx u5=>by
   let ku:=_pq hx;let hj:=(aF ku).1;let vb:ren (A++B') (A.B:Nat) T x=B'.s (T.y λw=>w==x) 0:=by
    ext ren;rw[Xe (by symm),Xp,X2,Y1 (by simp),X2]
    congr 2
    simp
   generalize (T.y λw=>w==x)=j at ku hj vb;show#[j,.q,ku,vb,λcp=>?_];let#[m,hm,em]:=Yv cp;let hB:B'.s j 0>B':=by rw[X2,X1 .q];show Xu _
   let li:=_qc (k:=0) (t:=B') (o:=A) (m:=m) (x:=B'.s j 0) (by rw[X1 hm,em]) hB;let nr:(B'.y λw=>w==B'.s j 0)=j:=by
    let h1:=_pq hB;let h2:=(aF h1).1;show ZY nb h2 .q ?_;rw[X2,h1];rfl
   rw[nr]at li;let#[i,hi]:=Option.isSome_iff_exists.mp (_qf li);let:=_ps (own:=(A.B:Nat)) (n:=B'.B) .q (Ww (own:=((A.B:Nat):Int)) hi);rw[hT,ku]at this;let e:=_aa this;let:=hv _ _ hi;lia
  let sml:∀x:Int,0<=x->x<(A.B:Nat)->ren (A++B') (A.B:Nat) T x=A.s x.L 0:=λx h0 h1=>by
   ext ren;rw[Xa h1,X2,Xn .q,X2]
  let mA:∀x:Int,0<=x->x<(A.B:Nat)->A.s x.L 0>A:=λx h0 h1=>by
   rw[X2,X1 .q];show Xu _
  let cs:∀x>jZ (qv (A.B:Nat)) T,(0<=x/\x<(A.B:Nat))\/(x>T/\((A.B:Nat):Int)<=x):=λx hx=>by
   let hx\/hx:=aA hx
   .let#[i,hi,rfl]:=aE hx;let:=List.mem_range.mp hi;show .R (by symm)
   .let hx:=(List.mem_filter.mp hx)
    by_cases h:x<(A.B:Nat)
    .show .R #[?_,h];let:=hx.1;rw[<-hT]at this;show(_pl k0 hv _ x this).1
    .show .Z #[hx.1,by symm]
  intro x hx y hy e;let#[x0,x1]\/#[x0,x1]:=cs x hx
  .let#[y0,y1]\/#[y0,y1]:=cs y hy
   .rw[sml x x0 x1,sml y y0 y1]at e;let:=ZY na .q (by symm) e;lia
   .let#[j,_,_,h1,h2]:=big y y0 y1;rw[sml x x0 x1,h1]at e;show absurd (e▸mA x x0 x1) h2
  .let#[i,i1,i2,i3,i4]:=big x x0 x1;let#[y0,y1]\/#[y0,y1]:=cs y hy
   .rw[sml y y0 y1,i3]at e;show absurd (e▸mA y y0 y1) i4
   .let#[j,j1,j2,j3,j4]:=big y y0 y1;rw[i3,j3]at e;let:=ZY nb i1 j1 e;subst this;rw[i2]at j2;show _aa j2
end
def _ql(h:∀n>t,∀x>o,f x=f n->x=n):jZ (o.E f) (t.E f)=(jZ o t).E f:=by
 ext jZ;rw[Xd,List.filter_map]
 congr 2
 show List.filter_congr λn hn=>?_
 change(!_)=_;rw[_oE (h n hn)]
section
variable {kps a9:List Int}{ss:List Str}
def v7(ss:List Str)(rs rs':List D)(P:D)(z:Str)(i:Int):D:=jQ (rdF ss rs (pS rs P) z i) (rdF ss rs' (pT rs rs' P) z i)
def Lk(own:Nat)(a b:Sn)(i c:Int):Prop:=(0<=i/\i<own/\(jZ (nms a) (nms b))[i.L]?=@c)\/(i=own/\c∉jZ (nms a) (nms b))
def Q4(h:x>nms (pS rs P)):x>hp rs rs' P:=_ac _ h
def Qx(h:x>nms (pT rs rs' P)):x>hp rs rs' P:=by
 by_cases hx:x>nms (pS rs P)
 .show _ac _ hx
 .show _ab _ (List.mem_filter.å #[h,?_]);rw[ZQ,Xm hx];rfl
def mem_rngL:x>qv k↔0<=x/\x<k:=by
 constructor
 .intro h;let#[i,hi,rfl]:=aE h;let:=List.mem_range.mp hi
  symm
 .intro h;show List.mem_map.å #[x.L,List.mem_range.å .q,.q]
def _qm(h:∀x>nms s,f x=g x):v8 f s=v8 g s:=by
 cases s with|none=>rfl|some x=>show congrArg some (Prod.ext rfl (Yg h))
def _qn(e1:a=v8 f (pS rs P))(e2:b=v8 f (pT rs rs' P))(hi:∀x>hp rs rs' P,∀y>hp rs rs' P,f x=f y->x=y):jZ (nms a) (nms b)=(hp rs rs' P).E f:=by
 rw[e1,e2,Jw,Jw];show _ql λn hn x hx e=>hi x (Q4 hx) n (Qx hn) e
def _qo(h:Rl rs rs' P a b):(jZ (nms a) (nms b)).B=pO rs rs' P:=by
 let#[f,e1,e2,hi,_]:=h;rw[_qn e1 e2 hi,X3];rfl
def _qp(hP:Prs kps ss.B rs)(hk:Abk kps)(ak:Prs a9 ss.B rs')(aj:Abk a9)(hp0:Pok kps a9 P)(h:Rl rs rs' P a b)(hl:Lk (pO rs rs' P) a b i c):
  jQ (rdF ss rs a z c) (rdF ss rs' b z c)=v7 ss rs rs' P z i:=by
 let#[f,e1,e2,hi,hr]:=h;let hh:=_qn e1 e2 hi;let key:∀g:Int->Int,(∀x>hp rs rs' P,g x=f x)->g i=c->(∀x,x>hp rs rs' P\/x=i->∀y,y>hp rs rs' P\/y=i->g x=g y->x=y)->jQ (rdF ss rs a z c) (rdF ss rs' b z c)=v7 ss rs rs' P z i:=λg hg hc hj=>by
  let a1:a=v8 g (pS rs P):=by rw[e1];show(_qm λx hx=>hg x (Q4 hx)).i
  let b1:b=v8 g (pT rs rs' P):=by rw[e2];show(_qm λx hx=>hg x (Qx hx)).i
  let#[r1,r2]:=_p8 hP hk (W8 hP hk hp0) λx hx e=>hj x (.R (Q4 hx)) i (.Z rfl) e
  let#[r3,r4]:=_p8 ak aj (W6 ak aj hp0) λx hx e=>hj x (.R (Qx hx)) i (.Z rfl) e
  rw[a1,b1,<-hc,r1,r3];show _oH λn hn x hx e=>(hj x ?_ n ?_ e)
  .let q\/q:=r4 x hx
   .show .R (Qx q)
   .show .Z q
  .let q\/q:=r2 n hn
   .show .R (Q4 q)
   .show .Z q
 let#[i0,i1,hc]\/#[rfl,hc]:=hl
 .let him:i>hp rs rs' P:=by rw[hr];show mem_rngL.å #[i0,i1]
  let hci:f i=c:=by
   rw[hh,hr,X7,X7,Yw (by grind)]at hc
   grind
  show key f (λ_ _=>rfl) hci λx hx y hy e=>hi x (hx.ß id λq=>q▸him) y (hy.ß id λq=>q▸him) e
 .let ie:((pO rs rs' P):Int)∉hp rs rs' P:=λq=>by
   rw[hr]at q;let:=mem_rngL.mp q;lia
  let be:∀x>hp rs rs' P,x≠((pO rs rs' P):Int):=λx hx e=>ie (e▸hx)
  let hfc:∀x>hp rs rs' P,f x≠c:=λx hx e=>hc (by rw[hh,<-e];show List.mem_map.å #[x,hx,rfl])
  show key (λx=>if x=_ then c else f x) (λx hx=>Xe (be x hx)) (Xa rfl) λx hx y hy e=>?_
  let hx\/rfl:=hx
  .grind
  .grind
structure Two (kps a9:List Int)(S T:Sn):Prop where
 a:k8 kps S
 b:k8 a9 T
 na:(nms S).l
 nb:(nms T).l
#where in
def Two.next{a b} z c (hP:Prs kps ss.B rs)(hk:Abk kps)(ak:Prs a9 ss.B rs')(aj:Abk a9)(h:Two kps a9 a b):Two kps a9 (rdF ss rs a z c) (rdF ss rs' b z c):=
 #[(zJ z c hP hk h.a).2,(zJ z c ak aj h.b).2,_qa hP hk h.a h.na,_qa ak aj h.b h.nb]
#where in
def _qq(hp0:Pok kps a9 P)(h:Rl rs rs' P a b):gdF rs (rmO a)=gS rs P/\gdF rs' (rmO b)=gT rs' P:=by
 let#[f,e1,e2,_]:=h;let#[p,q,sh,rfl,_]:=hp0;let rm:∀r ks,rmO (wj r ks)=r:=λr ks=>by
  ext wj
  split
  .revert h;rw[h];rfl
  .rfl
 rw[e1,e2,QK,QK];constructor
 .change gdF rs (rmO (wj p _))=gdF rs p;rw[rm]
 .change gdF rs' (rmO (wj q _))=gdF rs' q;rw[rm]
def run(ss:List Str)(rs:List D)(S:Sn)(w:List (Str×Int)):Sn:=w.foldl (λS x=>rdF ss rs S x.1 x.2) S
abbrev S0:Sn:=@(0,[])
def Jx(h0:kps[0]?=@0)(ei:a9[0]?=@0):Two kps a9 S0 S0:=by
 let mk:∀{l},l[0]?=@0->k8 l S0:=fun {l} h room ks e=>by
  cases e;let hl:=(aF h).1;show#[.q,.q,by change 0=l.s 0 0;rw[X2,h];rfl]
 show#[mk h0,mk ei,Xr,Xr]
end
def m_steps_from:Fn:=fn 8
  (j6 (jw 3 (jv B.m_first_standings [(cV 0),(cV 1),(cV 2)]))
  (j6 (jw 4 (XJ (vE (cF2 kZ (vE (cF1 (pu1 v3) (vE (jv B.m_held_by_both [(cV 3)])))) (C9 1)))))
  (j6 (jw 5 (qx .rt []))
  (j6 (qW (itS (cF1 _lc (vE (cF2 kZ (jk (vV 0) (C9 0)) (jk (vV 1) (C9 0)))))) (.n 6) (qW (itS (cV 4)) (.n 7) (vx vK 5 (kz .X [(cV 6),(cV 7),(jv B.m_pair_of [(jv B.m_read_by_both [(cV 0),(cV 1),(cV 3),(cV 6),(cV 7)])])]))))
  (jJ (cMv 5))))))
def m_least_beside:Fn:=fn 2
  (j6 (jw 1 (cC (.C 0)))
  (j6 (Jq (tE (cF2 (pu2 zY) (vV 1) (vV 0))) (_h4 (λa b=>a+b) 1 (cC (.C 1))))
  (jJ (cMv 1))))
def m_parting_row:Fn:=fn 10
  (j6 (jw 4 (jv B.m_first_standings [(cV 0),(cV 1),(cV 2)]))
  (j6 (jw 5 (qx .rt []))
  (j6 (qW (itS (cV 3)) (.t [6,7]) (j6 (jw 8 (jv B.m_held_by_both [(cV 4)]))
  (j6 (jw 9 (cIf (tE (cF2 (pu2 fLt) (vV 7) (vE (cF1 (pu1 v3) (vV 8))))) (cH (jk (vV 8) (vV 7))) (jv m_least_beside [(cV 8)])))
  (j6 (vx vK 5 (kz .X [(cV 6),(cV 9)]))
  (jw 4 (jv B.m_read_by_both [(cV 0),(cV 1),(cV 4),(cV 6),(cV 9)]))))))
  (jJ (cMv 5)))))
def m_steps_to:Fn:=fn 4
  (j6 (jw 2 (qx .rt []))
  (j6 (jw 3 (cH (_mc (vV 0) (vV 1))))
  (j6 (Jq (tE (cF2 (f2First fNotNon) (vV 3) (vE (cC .j)))) (j6 (vx vK 2 (kz .X [(cH (jk (vV 3) (C9 1))),(cH (jk (vV 3) (C9 2)))]))
  (jw 3 (cH (_mc (vV 0) (jk (vV 3) (C9 0)))))))
  (jJ (cF1 _ma (vV 2))))))
def m_searched:Fn:=fn 10
  (j6 (jw 3 (_h1 (cV 2) (cC .j)))
  (j6 (jw 4 (qx .rt [(cV 2)]))
  (j6 (jw 5 (cC (.C 0)))
  (j6 (Jq (tE (cF2 (pu2 fLt) (vV 5) (vE (cF1 (pu1 v3) (vV 4))))) (j6 (jw 6 (cH (jk (vV 4) (vV 5))))
  (j6 (sIf (tNot (tEQ (vE (jv B.m_agrees [(cV 0),(cV 1),(cV 6)])))) (jJ (kz .X [(cC (.e "apart")),(jv m_parting_row [(cV 0),(cV 1),(cV 2),(jv m_steps_to [(cV 3),(cV 6)])])])) k6)
  (j6 (qW (itS (jv m_steps_from [(cV 0),(cV 1),(cV 6)])) (.t [7,8,9]) (sIf (tE (cF2 (pu2 WV) (vV 9) (vV 3))) (j6 (_h0 3 (vV 9) (kz .X [(cV 6),(cV 7),(cV 8)]))
  (vx vK 4 (cV 9))) k6))
  (_h4 (λa b=>a+b) 5 (cC (.C 1)))))))
  (jJ (kz .X [(cC (.e "alike")),(cV 4)]))))))
def Jz(i:Int):List (List (Int×Int)):=[[],[(i,0)],[(i,1)],[(i,2)]]
def AllS:List (List (Int×Int)):=(Jz 0).flatMap λa=>(Jz 1).flatMap λb=>(Jz 2).E λc=>a++(b++c)
def _qr{f:α->List β}:∀(l:List α),(∀a>l,(f a).B=n)->(l.flatMap f).B=l.B*n
 |[],_=>by simp
 |a::l,h=>by
  rw[List.flatMap_cons,Xb,_qr l λb hb=>h b (_ad _ hb),h a X5,Xk,Nat.add_mul];lia
def _qs(h0:0<=j)(h1:j<3):[(i,j)]>Jz i:=by
 let rfl\/rfl\/rfl:=(show j=0\/j=1\/j=2 by lia)<;>simp[Jz]
def _qt t (ht:t.B<=3)(k:Nat) n o:∃a>Jz k,jX t k (n::o)=a++jX t (k+1) o:=by
 let e:jX t k (n::o)=if _=true then _::jX t _ o else jX t _ o:=rfl
 rw[e]
 by_cases h:(t.è λw=>w==n)=true
 .let#[x,hx,e]:=List.any_eq_true.mp h;let:=Yi (p:=λw=>w==n) #[x,hx,e];rw[Xa h];show#[_,_qs .q .q,rfl]
 .rw[Xe h];show#[[],by simp[Jz],rfl]
def _qu(ht:t.B<=3)(ho:o.B<=3):jX t 0 o>AllS:=by
 let em:∀i,[]>Jz i:=λi=>by simp[Jz]
 let mk:∀{a b c},a>Jz 0->b>Jz 1->c>Jz 2->a++_>AllS:=λha hb hc=>List.mem_flatMap.å #[_,ha,List.mem_flatMap.å #[_,hb,List.mem_map.å #[_,hc,rfl]]]
 let _\/#[x,_\/#[y,_\/#[z,_\/#[u,o]]]]:=o
 .show mk (em 0) (em 1) (em 2)
 .let#[a,ha,e]:=_qt t ht 0 x [];rw[e];show mk ha (em 1) (em 2)
 .let#[a,ha,e]:=_qt t ht 0 x [y];let#[b,hb,e2]:=_qt t ht 1 y [];rw[e,e2];show mk ha hb (em 2)
 .let#[a,ha,e]:=_qt t ht 0 x [y,z];let#[b,hb,e2]:=_qt t ht 1 y [z];let#[c,hc,e3]:=_qt t ht 2 z [];rw[e,e2,e3];let:=mk ha hb hc
  simpa [jX]using this
 .show absurd ho (by simp)
section
variable {kps a9:List Int}{ss:List Str}{rs rs':List D}
def _qv(a):∀l,(J1 a l).B=l.B+1
 |[]=>rfl
 |b::l=>by
  ext J1
  split
  .rw[Xk,_qv a l,Xk]
  .rfl
def sortS_len:∀l,(xv l).B=l.B
 |[]=>rfl|a::l=>by rw[xv,_qv,sortS_len l];rfl
#where in
def _qw:∀(l ae:List Str),(l.foldl (λl k=>if l.è (· == k)then l else l++[k]) ae).B<=ae.B+l.B
 |[],ae=>X8 _
 |a::l,ae=>by
  rw[Yy];let:=_qw l (if ae.è (· == a)then ae else ae++[a])
  split at this
  .rw[Xk];revert h;rw[Xa h];lia
  .revert h;rw[Xe h];rw[Xb,Xy]at this;rw[Xk];lia
abbrev St3:=List (Str×Int×D)
abbrev stD(x:Str×Int×D):D:=.M [.e x.1,.C x.2.1,x.2.2]
def _qx:∀{l},x=a\/x>l->x>J1 a l
 | [],h=>by
  let rfl\/h:=h
  .show aB rfl
  .grind
 | b::l,h=>by
  ext J1
  split
  .let rfl\/h:=h
   .show _ad _ (_qx (.R rfl))
   .let rfl\/h:=aD h
    .show X5
    .show _ad _ (_qx (.Z h))
  .grind
def _qy:∀{l},x>l->x>xv l
 |[],h=>nomatch h|a::l,h=>_qx ((aD h).imp id _qy)
def _qz:∀(l ae:List Str),x>ae\/x>l->x>l.foldl (λl k=>if l.è (· == k)then l else l++[k]) ae
 | [],ae,h=>h.ß id nofun
 | a::l,ae,h=>by
  rw[Yy];show _qz l _ ?_
  by_cases ha:(ae.è (· == a))=true
  .rw[Xa ha];let h\/h:=h
   .show .R h
   .let rfl\/h:=aD h
    .symm
    .show .Z h
  .rw[Xe ha];let h\/h:=h
   .show .R (_ac _ h)
   .grind
end
abbrev Kvs:=List (D×D)
section
variable {kps a9:List Int}{ss:List Str}{rs rs':List D}
def run_snoc{S w z c}:run ss rs S (w++[(z,c)])=rdF ss rs (run ss rs S w) z c:=by
 ext run;rw[List.foldl_append];rfl
end
section
def _qA(hP:Prs kps ss.B rs)(hk:Abk kps):∀(w:List (Str×Int)) {S},k8 kps S->Ch2 kps ss rs (stn S) w (stn (run ss rs S w))/\k8 kps (run ss rs S w)
 |[],S,h=>#[rfl,h]
 |x::w,S,h=>by
  let#[r1,r2]:=zJ x.1 x.2 hP hk h;let#[i1,i2]:=_qA hP hk w r2;show#[#[_,r1,i1],i2]
def _qB(h:k8 kps S):goodD rs (stn S)=gdF rs (rmO S):=by
 cases S with
 |none=>rfl
 |some x=>
  let:=(h x.1 x.2 rfl).1;change _=gdF rs x.1;ext gdF;rw[Xe .q];rfl
def _qC(ss:List Str)(rs:List D)(w:List (Str×Int)):Bool:=gdF rs (rmO (run ss rs S0 w))
end
def _qD:∀l,V1 (l.E D.C)=@l
 |[]=>rfl
 |a::l=>by
  rw[List.V,V1,_qD l];rfl
end U
namespace Y
open Q PySem C B J U
def m__law_firsts:Fn:=fn 13
  (j6 (_eh [3,4,5] (cV 2))
  (j6 (jw 6 (XJ (vE (jv B.m__law_keepers [(cV 0),(cV 3)]))))
  (j6 (jw 7 _h6)
  (j6 (qW (itS (cV 5)) (.t [8,9]) (_if 7 (vV 9) (cV 8)))
  (j6 (jw 10 (qx .rt []))
  (j6 (jw 11 (cF1 (pu1 v3) (vV 6)))
  (j6 (qW (xz (vE (jv B.m__law_keepers [(cV 1),(cV 4)]))) (.n 9) (j6 (vx vK 10 (cH (_id (vV 7) (vV 9) (vV 11))))
  (jw 11 (cF2 kZ (vV 11) (vE (cF1 (pu1 Q2) (vE (cF2 (pu2 _h8) (vV 9) (vV 7)))))))))
  (j6 (jw 12 (qx .rt [(kz .X [(cV 3),(cF1 J7 (vV 6))]),(kz .X [(cV 4),(cF1 J7 (vV 10))])]))
  (jJ (cLC .rt 1 [] (itS (cV 12)) (.n 0) tYes (cH (jk (vE (qx .rt [(cV 0),(cC .j)])) (vE (cF1 (pu1 Q2) (vE (cF2 (pu2 fEq) (jk (vV 0) (C9 0)) (vE (cF1 (pu1 JY) (C9 1)))))))))))))))))))
def m__law_behind_all:Fn:=fn 11
  (j6 (_eh [3,4] (jv m__law_firsts [(cV 0),(cV 1),(cV 2)]))
  (j6 (jw 5 _mz)
  (j6 (qW (itS (qx .rt [(cV 3),(cV 4)])) (.n 6) (sIf (tE (cF2 (f2First fNotNon) (vV 6) (vE (cC .j)))) (qW (itS (cH (jk (vV 6) (C9 1)))) (.n 7) (_mB 5 (vV 7) (cC (.bl true)))) k6))
  (j6 (jw 8 (qx .rt []))
  (j6 (qW (itS (cH (jk (vV 0) (C9 0)))) (.n 9) (qW (itS (cF2 kZ (vE (cF1 _mC (vV 5))) (vE (qx .rt [(cF1 (pu1 _mD) (vV 5))])))) (.n 7) (j6 (jw 10 (jv B.m__law_pair [(jv B.m__law_read [(cV 0),(cV 3),(cV 9),(cV 7)]),(jv B.m__law_read [(cV 1),(cV 4),(cV 9),(cV 7)])]))
  (sIf (tE (cF2 (pu2 zw) (vV 10) (vV 8))) (vx vK 8 (cV 10)) k6))))
  (jJ (cMv 8)))))))
def m__law_good:Fn:=fn 2
  (jJ (zW (vE (cF2 (pu2 fNe) (vV 1) (vE (cF1 (pu1 JY) (C9 1))))) (cH (jk (jk (jk (vV 0) (C9 1)) (vV 1)) (C9 1)))))
def m__law_table:Fn:=fn 6
  (j6 (sIf (tNot (tEQ (vE (cF1 (pu1 (zZ "list")) (vV 3))))) (jJ (cC (.bl false))) k6)
  (j6 (jw 4 _hX)
  (j6 (qW (itS (cV 3)) (.n 5) (j6 (sIf (tOr (tNot (tEQ (vE (jv B.m__law_is_pair [(cV 5),(cV 5)])))) (tE (cF2 (pu2 W9) (vV 5) (vV 4)))) (jJ (cC (.bl false))) k6)
  (j6 (_h0 4 (vV 5) (cC (.bl true)))
  (j6 (sIf (tOr (tNot (tE (_hV fLe fLt (vE (cF1 (pu1 JY) (C9 1))) (jk (vV 5) (C9 0)) (vE (cF1 (pu1 v3) (jk (vV 0) (C9 1))))))) (tNot (tE (_hV fLe fLt (vE (cF1 (pu1 JY) (C9 1))) (jk (vV 5) (C9 1)) (vE (cF1 (pu1 v3) (jk (vV 1) (C9 1)))))))) (jJ (cC (.bl false))) k6)
  (sIf (tE (cF2 (pu2 fNe) (vE (jv m__law_good [(cV 0),(cH (jk (vV 5) (C9 0)))])) (vE (jv m__law_good [(cV 1),(cH (jk (vV 5) (C9 1)))])))) (jJ (cC (.bl false))) k6)))))
  (j6 (qW (itS (cV 3)) (.n 5) (sIf (tE (cF2 (pu2 fNe) (vE (cLC .rt 1 [4] (itS (jv m__law_behind_all [(cV 0),(cV 1),(cV 5)])) (.n 0) (tE (cF2 (pu2 WV) (vV 0) (vV 1))) (cV 0))) (vE (qx .rt [])))) (jJ (cC (.bl false))) k6))
  (jJ (cF2 (pu2 W9) (vV 2) (vV 4)))))))
def m__law_most:Fn:=fn 1
  (jJ (cF1 (pu1 _mZ) (vE (cLC .rt 1 [] (itS (cH (jk (vV 0) (C9 1)))) (.n 0) tYes (cH (jk (vV 0) (C9 0)))))))
def _qE{k kv}:_h8 (.C k) (wX kv)=@(.bl (!(jW kv k).isSome)):=by
 ext _h8;rw[_j0]
def _qF{own kv}{n:Nat}{i}(h:jW kv n=@i)(hi:i<own):qw own kv (n+1)=qw own kv n:=by
 ext qw;rw[Ww h];let:decide (own<=i)=false:=Xm .q;simp[this]
def _qG{own kv}{n:Nat}(h:jW kv n=none):qw own kv (n+1)=qw own kv n+1:=by
 ext qw;rw[Wj h];let:decide (own<=own+(qw own kv n))=true:=Xh .q;simp[this]
def _qH f z:kvS (f++[z])=v4 (kvS f) z.2 z.1:=by
 ext kvS;rw[Xd,List.foldl_append];rfl
def _qI:∀(f kv:List (Int×Int)),(f.foldl (λkv p=>v4 kv p.1 p.2) kv).B<=kv.B+f.B
 |[],kv=>by simp
 |p::f,kv=>by
  rw[Yy,Xk];let:=_qI f (v4 kv p.1 p.2);let:=_ki kv p.1 p.2;lia
def _qJ{k}:kq 0 k=(qv k).E D.C:=by
 ext kq;rw[Xi,show k - 0=k by lia];show Yg λi _=>?_
 change D.C _=D.C i;rw[Int.zero_add]
def _qK{k sh}(h:∀p>sh,0<=p.1/\p.1<k):∀j i,jW (kvS sh) j=@i->0<=i/\i<k:=λj i hv=>by
 show h _ (_pk hv)
def _qL{ss rs rs' p q k k' sh}(hp:Kpr rs p k)(hq:Kpr rs' q k')(hk:0<=k)(pc:k<=100)(aj:0<=k')(hk2':k'<=100)(li:∀p>sh,0<=p.1/\p.1<k)(km:sh.B<=100):
  Oo m__law_firsts [(.X,jq ss rs),(.X,jq ss rs'),(.X,.M [.C p,.C q,.M (prs sh)])] (λy=>y=(.rt,.S [stn (_oC p k),stn (YZ q k k' sh)])) noX:=by
 let qf:(qv k).B=k.L:=by simp
 show k7 ?_;simp![];show(_oV hp).use ?_;intro o1 _;simp![↓_nG,_qJ];show wq (λE ac=>∃(f1 f2:List _) (l8 l9:Option Sd),E=[@(.X,jq ss rs),@(.X,jq ss rs'),@(.X,.M [.C p,.C q,.M (prs sh)]),@(.X,.C p),@(.X,.C q),@(.X,.M (prs sh)),@(.rt,iL (qv k)),@(.rt,wX (kvS f1)),l8,l9,none,none,none]/\sh=f1++f2/\ac=prs f2) ?_ ?_ ?_
 .simp![];show#[[],sh,none,none,rfl,rfl,rfl]
 .rintro E d ds ⟨f1,f2,l8,l9,rfl,hf,hr⟩;cases f2 with
  | nil=>cases hr
  | cons z f2=>
   injection hr with e1 e2;subst e1 e2;let ai:(kvS f1).B<10000:=by
    let:=_qI (f1.E λp=>(p.2,p.1)) [];rw[X3]at this;ext kvS
    grind
   simp![];show _nI ?_;simp![];show#[rfl,kvS f1,z.2,z.1,rfl,rfl,rfl,ai,f1++[z],f2,@(.X,.C z.1),@(.X,.C z.2),?_,by rw[hf];simp,rfl];rw[_qH]
 .rintro E ⟨f1,f2,l8,l9,rfl,hf,hr⟩;let hf2:f2=[]:=by cases f2 with|nil=>rfl|cons=>cases hr
  subst hf2;rw [Xv]at hf;subst hf;simp![];show wq (λE ac=>∃(j:Int) (l9:Option Sd) (o11:Own),E=[@(.X,jq ss rs),@(.X,jq ss rs'),@(.X,.M [.C p,.C q,.M (prs sh)]),@(.X,.C p),@(.X,.C q),@(.X,.M (prs sh)),@(.rt,iL (qv k)),@(.rt,wX (kvS sh)),l8,l9,@(.rt,iL (nmF k (kvS sh) j.L)),@(o11,.C (k+qw k (kvS sh) j.L)),none]/\0<=j/\j<=k'/\ac=kq j k') ?_ ?_ ?_
  .simp![qf];show(_oV hq).use ?_;intro o2 _;simp![];show#[0,l9,.dp,?_,.q,aj,rfl];rw[Y2,show(k.L:Int)=k+qw k (kvS sh) (0:Int).L by change _=k+0;lia];rfl
  .rintro E d ds ⟨j,l9,o11,rfl,j0,j1,hr⟩;let#[hj,rfl,rfl]:=QQ j1 hr;let wp:(j+1).L=j.L+1:=.q
   let vy:((j.L:Nat):Int)=j:=.q
   let hln:(nmF k (kvS sh) j.L).B=j.L:=Q5 ..;cases hvj:jW (kvS sh) j with
   | some v=>
    let uc:jW (kvS sh) ((j.L:Nat):Int)=@v:=by rw[vy];show hvj
    simp![];show xX rfl ?_;simp![↓_nD,_nN,_nM,hvj,Option.getD_some];show#[_,rfl,by rw[X3,hln];lia,?_];simp![_qE,hvj,Option.isSome_some,Bool.not_true,show Q2 (.bl false)=@(.C 0)from rfl];show#[j+1,@(.X,.C j),.dp,?_,.q,.q,rfl];rw[wp,Ww uc,_qF uc ((_qK li) _ _ hvj).2];simp
   | none=>
    let uc:jW (kvS sh) ((j.L:Nat):Int)=none:=by rw[vy];show hvj
    simp![];show xX rfl ?_;simp![↓_nD,_nN,_nM,hvj,Option.getD_none];show#[_,rfl,by rw[X3,hln];lia,?_];simp![_qE,hvj,Option.isSome_none,Bool.not_false,show Q2 (.bl true)=@(.C 1)from rfl];show#[j+1,@(.X,.C j),.dp,?_,.q,.q,rfl];rw[wp,Wj uc,_qG uc,show(((qw k (kvS sh) j.L+1:Nat)):Int)=qw k (kvS sh) j.L+1 by lia,<-Int.add_assoc];simp
  .rintro E ⟨j,l9,o11,rfl,j0,j1,hr⟩;let:=Qk j1 hr;subst this;simp![Q.tup_l (o:=.rt) (xs:=(qv k).E D.C) .q,Q.tup_l (o:=.rt) (xs:=(nmF k (kvS sh) j.L).E D.C) .q];show Kw [] (λd y=>y.2=_o3 d) ?_;simp![];show#[λd hd=>?_,λys xo=>?_]
   .obtain⟨r,ks,rfl⟩:∃(r:Int) (ks:List Int),d=.M [.C r,.M (ks.E D.C)]:=by
     dsimp[Yp,Y8,or_false]at hd;let rfl\/rfl:=hd
     .show#[_,_,rfl]
     .show#[_,_,rfl]
    by_cases hr1:r=-1
    .let hb:(r == -1)=true:=by simp[hr1]
     simp![p0,B.neg1,eqi hb,show Q2 (.bl true)=@(.C 1)from rfl,show jY (.S [.M [.C r,.M (ks.E D.C)],.j]) (.C 1)=@.j from rfl];show#[#[_,rfl],?_];ext _o3;right;rw[Xa hr1]
    .let hb:(r == -1)=false:=Yf hr1;simp![p0,B.neg1,eqi hb,show Q2 (.bl false)=@(.C 0)from rfl,show jY (.S [.M [.C r,.M (ks.E D.C)],.j]) (.C 0)=@(.M [.C r,.M (ks.E D.C)])from rfl];show#[#[_,rfl],?_];ext _o3;right;rw[Xe hr1]
   .rw[wW,QX (h:=_o3) (λd y h=>h) xo,List.V,List.V,List.map_nil,_o4,_o4];rfl
def V5(d:D):Prop:=∃(r r':Int) (l:List (Int×Int)),d=.M [.C r,.C r',.M (prs l)]
section
def _qM(h:Eo (vc E) (λE1 v=>_hY E1[i]?=true/\Eo (kc E1) (λE2 k=>∃(kv:List Int) (x:Int),E2[i]?=some @(.rt,xY kv)/\k.2=.C x/\v.2=.bl true/\kv.B<10000/\N (E2.à i @(.rt,xY (JQ kv x)))) X) X):Po (_mB i kc vc E) N C R X:=by
 show _ny (h.ý λE1 v hz=>#[hz.1,hz.2.ý λE2 k hz=>?_]);let#[kv,x,e2,hk,hv,hl,h4]:=hz;show#[_,_,e2,?_,h4];ext _mA;rw[hk,hv];right;rw[_mI,Option.bind_some,Xa (by ext big;lia)]
end
def _qN:Eo (_mz (e::E)) P X=P (e::E) (.rt,xY []):=by
 ext _mz;rw[Q3]
def _qO:_mC (o,xY kv)=@(.rt,.S (kv.E D.C)):=by
 ext _mC;rw[_mI]
def _qP:_mD (xY kv)=@(.C kv.B):=by
 ext _mD;rw[_mI]
def _qQ:∀l m,peqs (prs l) (prs m)=decide (prs l=prs m)
 |[],[]=>by simp[peqs]|[],_::_=>by simp[peqs]|_::_,[]=>by simp[peqs]
 |p::l,q::m=>by
  let ih:=_qQ l m;unfold prs at ih ⊢;change(((p.1==q.1)&&((p.2==q.2)&&true))&&peqs _ _)=_;rw[ih]
  by_cases h1:p.1=q.1<;>by_cases h2:p.2=q.2<;>simp[h1,h2]
def _qR(ha:V5 a)(hb:V5 b):peq a b=decide (a=b):=by
 let#[r,r',l,rfl]:=ha;let#[q,q',m,rfl]:=hb;change((r==q)&&((r'==q')&&(peqs _ _&&true)))=_;rw[_qQ]
 grind
def _qS:∀l,D.flats 28 (prs l)=true
 |[]=>rfl
 |p::l=>by
  let:=_qS l;unfold prs at this ⊢;change(true&&D.flats 28 _)=true;rw[this];rfl
def _qT(h:V5 d):d.flat 30=true:=by
 let#[r,r',l,rfl]:=h;change(true&&(true&&(D.flats 28 _&&true)))=true;rw[_qS];rfl
def _qU(hx:V5 x):∀{K:List D},(∀s>K,V5 s)->(K.è λz=>peq z x)=decide (x>K)
 |[],_=>by simp
 |k::K,h=>by
  rw[Zd,_qR (h k X5) hx,_qU hx (λs hs=>h s (_ad _ hs))]
  by_cases e1:k=x
  .simp[e1]
  .grind
def _qV(hx:V5 x)(hK:∀s>K,V5 s):zw x (.S K)=@(.bl (!decide (x>K))):=by
 let h:fIn x (.S K)=@(.bl (decide (x>K))):=by
  change(if x.flat 30&&D.flats 30 K then @_ else none)=_;rw[_qT hx,Q8 (λk hk=>_qT (hK k hk)),_qU hx hK];rfl
 change(fIn x _).bind _=_;rw[h];rfl
#where in
def _qW(h:ks.l):(JQ ks k).l:=by
 ext JQ
 split
 .show h
 .revert hn;show List.nodup_append.å #[h,by simp,λx hx y hy e=>hn (by rw[<-aC hy,<-e];show hx)]
def _qX:x>JQ ks k↔x>ks\/x=k:=by
 ext JQ
 split
 .show#[.R,λh=>h.ß id λe=>e▸‹_›]
 .simp
def _qY:(JQ ks k).B<=ks.B+1:=by
 ext JQ
 split<;>simp
def Kn(ns:List Int)(kv:List Int):Prop:=kv.l/\(∀x,x>kv↔x>ns)/\kv.B<=ns.B
def Kn.put(h:Kn ns kv) x:Kn (ns++[x]) (JQ kv x):=by
 show#[_qW h.1,λy=>?_,?_]
 .rw[_qX,h.2.1 y,List.mem_append,List.mem_singleton]
 .let:=h.2.2;let:=_qY (ks:=kv) (k:=x);simp;lia
def _qZ{own:Nat}(h:Kn ns kv)(hm:∀x,x>ns↔x>qv own):kv.B=own/\∀c,c>kv↔0<=c/\c<own:=by
 let hr:∀c,c>qv own↔0<=c/\c<own:=λc=>by
  constructor
  .intro z;let#[i,hi,rfl]:=aE z;let:=List.mem_range.mp hi;lia
  .rintro ⟨c0,c1⟩;show List.mem_map.å #[c.L,List.mem_range.å .q,.q]
 let hn:(qv own).l:=List.pairwise_map.å (List.nodup_range.imp λh e=>h .q);show#[by rw[((List.perm_ext_iff_of_nodup h.1 hn).å λc=>by rw[h.2.1,hm]).length_eq];simp,λc=>by rw[h.2.1,hm,hr]]
section
variable {ss:List Str}{rs rs':List D}
def Fnd(ss:List Str)(rs rs':List D)(P:D)(own:Nat)(F:List D):Prop:=F.l/\∀d>F,∃z>ss,∃i:Int,0<=i/\i<=own/\d=v7 ss rs rs' P z i
def _q0(h:Fnd ss rs rs' P own F):∀d>F,V5 d:=λd hd=>by
 let#[z,_,i,_,_,rfl]:=h.2 d hd;show#[_,_,_,rfl]
inductive BhA (one f7 P:D)(S T:Sn):En->List D->Prop
 |mk (ns kv:List Int) {l6 l7:Option Sd} {ac:List D} (h:Kn ns kv) (h1:(ac=[stn S,stn T]/\ns=[])\/(ac=[stn T]/\ns=nms S)\/(ac=[]/\ns=nms S++nms T)):BhA one f7 P S T [@(.X,one),@(.X,f7),@(.X,P),@(.X,stn S),@(.X,stn T),@(.rt,xY kv),l6,l7,none,none,none] ac
inductive BhB (one f7 P:D)(S T:Sn)(st:D)(ns0 ms:List Int):En->List D->Prop
 |mk (m1 m2 kv:List Int) {l7:Option Sd} {ac:List D} (h:Kn (ns0++m1) kv) (h1:ms=m1++m2) (h2:ac=m2.E D.C):BhB one f7 P S T st ns0 ms [@(.X,one),@(.X,f7),@(.X,P),@(.X,stn S),@(.X,stn T),@(.rt,xY kv),@(.X,st),l7,none,none,none] ac
inductive BhC (ss:List Str)(rs rs':List D)(P:D)(S T:Sn)(own:Nat)(kv:List Int):En->List D->Prop
 |mk (z1 z2:List Str) (F:List D) {l6 l7 l9 sv:Option Sd} {ac:List D} (h1:ss=z1++z2) (h2:ac=z2.E D.e) (h3:Fnd ss rs rs' P own F) (h4:F.B<=7*z1.B) (h5:∀z>z1,∀i:Int,0<=i->i<=own->v7 ss rs rs' P z i>F):BhC ss rs rs' P S T own kv [@(.X,jq ss rs),@(.X,jq ss rs'),@(.X,P),@(.X,stn S),@(.X,stn T),@(.rt,xY kv),l6,l7,@(.rt,.S F),l9,sv] ac
inductive BhD (ss:List Str)(rs rs':List D)(P:D)(S T:Sn)(own:Nat)(kv:List Int)(z1:List Str)(z:Str):En->List D->Prop
 |mk (c1 c2:List Int) (F:List D) {l6 l7 sv:Option Sd} {ac:List D} (h1:kv++[(own:Int)]=c1++c2) (h2:ac=c2.E D.C) (h3:Fnd ss rs rs' P own F) (h4:F.B<=7*z1.B+c1.B) (h5:∀z>z1,∀i:Int,0<=i->i<=own->v7 ss rs rs' P z i>F) (h6:∀c>c1,v7 ss rs rs' P z c>F):BhD ss rs rs' P S T own kv z1 z [@(.X,jq ss rs),@(.X,jq ss rs'),@(.X,P),@(.X,stn S),@(.X,stn T),@(.rt,xY kv),l6,l7,@(.rt,.S F),@(.X,.e z),sv] ac
def _q1(b6:st=stn U)(hk:Kn ns kv)(hb:ns.B+(nms U).B<=100)(hn:∀mv l7',Kn (ns++nms U) mv->BhA one f7 P S T [@(.X,one),@(.X,f7),@(.X,P),@(.X,stn S),@(.X,stn T),@(.rt,xY mv),@(.X,st),l7',none,none,none] ac):
  Po (sIf (tE (cF2 (f2First fNotNon) (vV 6) (vE (cC .j)))) (qW (itS (cH (jk (vV 6) (C9 1)))) (.n 7) (_mB 5 (vV 7) (cC (.bl true)))) k6 [@(.X,one),@(.X,f7),@(.X,P),@(.X,stn S),@(.X,stn T),@(.rt,xY kv),@(.X,st),l7,none,none,none]) (λE2=>BhA one f7 P S T E2 ac) C R noX:=by
 cases U with
 | none=>
  subst b6;simp![];show hn kv l7 (by rw[show nms none=[]from rfl,Xv];show hk)
 | some x=>
  let b6:st=.M [.C x.1,.M _]:=b6;subst b6;let hnm:nms @x=x.2:=rfl;let hnn:fNotNon (.M [.M (x.2.E D.C)])=@_:=rfl;let h1:jY (.M [.C x.1,.M _]) (.C 1)=@(.M (x.2.E D.C)):=rfl;simp![hnn];show wq (BhB one f7 P S T (.M [.C x.1,.M (x.2.E D.C)]) ns x.2) ?_ ?_ ?_
  .simp![h1];show#[[],x.2,kv,by rw[Xv];show hk,rfl,rfl]
  .rintro E d ds ⟨m1,m2,kv,hk,hm,hr⟩;cases m2 with
   | nil=>cases hr
   | cons c m2=>
    injection hr with e1 e2;subst e1 e2;simp![];show _qM ?_;simp![];show#[rfl,kv,c,rfl,rfl,?_,?_]
    .let:=hk.2.2
     grind
    .show#[m1++[c],m2,JQ kv c,by rw[<-Xs];show hk.put c,by rw[hm];simp,rfl]
  .rintro E ⟨m1,m2,kv,hk,hm,hr⟩;let vm:m2=[]:=by cases m2 with|nil=>rfl|cons=>cases hr
   subst vm;rw[Xv]at hm;subst hm;show hn kv _ hk
def _q2 z P i:V5 (v7 ss rs rs' P z i):=#[_,_,_,rfl]
def _q3 {p q:Int} (hs:ss.B<=3) (hP:Prs kps ss.B rs) (hk:Abk kps) (ak:Prs a9 ss.B rs') (aj:Abk a9) (p0':-1<=p) (p1':p<kps.B) (q0':-1<=q) (q1':q<a9.B) (li:∀x>sh,0<=x.1/\x.1<kpF rs p) (km:sh.B<=3):
  Oo m__law_behind_all [(.X,jq ss rs),(.X,jq ss rs'),(.X,.M [.C p,.C q,.M (prs sh)])] (λy=>∃F,y=(.rt,.S F)/\Fnd ss rs rs' (.M [.C p,.C q,.M (prs sh)]) (pO rs rs' (.M [.C p,.C q,.M (prs sh)])) F/\F.B<=21/\∀z>ss,∀i:Int,0<=i->i<=pO rs rs' (.M [.C p,.C q,.M (prs sh)])->v7 ss rs rs' (.M [.C p,.C q,.M (prs sh)]) z i>F) noX:=by
 let#[a,_,c,d,_]:=J8 hP hk p0' p1';let#[a',_,c',d',_]:=J8 ak aj q0' q1';let rf:Pok kps a9 (.M [.C p,.C q,.M (prs sh)]):=#[p,q,sh,rfl,p0',p1',q0',q1',km];let hS:=W8 hP hk rf;let hT:=W6 (rs:=rs) ak aj rf;let hO:=_pU hP hk ak aj rf;let lS:=xq hk hS;let lT:=xq aj hT;let hfi:Oo m__law_firsts [(.X,jq ss rs),(.X,jq ss rs'),(.X,.M [.C p,.C q,.M (prs sh)])] (λy=>y=(.rt,.S [stn (pS rs (.M [.C p,.C q,.M (prs sh)])),stn (pT rs rs' (.M [.C p,.C q,.M (prs sh)]))])) noX:=by
  let:=_qL (ss:=ss) a a' c .q c' .q li .q
  rwa [show pT rs rs' (.M [.C p,.C q,.M (prs sh)])=YZ q (kpF rs p) (kpF rs' q) sh by change YZ q _ _ (Vq (prs sh))=_;rw[ZK]]
 let hkn:∀x,x>nms (pS rs (.M [.C p,.C q,.M (prs sh)]))++nms (pT rs rs' (.M [.C p,.C q,.M (prs sh)]))↔x>qv (pO rs rs' (.M [.C p,.C q,.M (prs sh)])):=λx=>by
  let e1:nms (pS rs (.M [.C p,.C q,.M (prs sh)]))=qv (kpF rs p):=_pz λh=>by
   let#[_,e]\/#[e,_]:=a
   .rw [e];rfl
   .lia
  let e2:nms (pT rs rs' (.M [.C p,.C q,.M (prs sh)]))=nmF (kpF rs p) (kvS sh) (kpF rs' q).L:=by
   change nms (YZ q _ _ (Vq (prs sh)))=_;rw [ZK];show _pz λh=>?_
   let#[_,e]\/#[e,_]:=a'
   .rw [e];rfl
   .lia
  let e3:qv (pO rs rs' (.M [.C p,.C q,.M (prs sh)]))=jZ (qv (kpF rs p)) (nmF (kpF rs p) (kvS sh) (kpF rs' q).L):=by
   rw [_qh c (_qK li)];ext pO;rw [e1,e2]
  rw [e1,e2,e3];ext jZ;rw [List.mem_append,List.mem_append,List.mem_filter];constructor
  .rintro (h|h)
   .show .R h
   .by_cases hx:x>qv (kpF rs p)
    .show .R hx
    .show .Z #[h,?_];rw [Bool.not_eq_true',List.any_eq_false]
     grind
  .rintro (h|h)
   .show .R h
   .show .Z h.1
 let b6:∀z i,v7 ss rs rs' (.M [.C p,.C q,.M (prs sh)]) z i=jQ (rdF ss rs (pS rs (.M [.C p,.C q,.M (prs sh)])) z i) (rdF ss rs' (pT rs rs' (.M [.C p,.C q,.M (prs sh)])) z i):=λ_ _=>rfl
 generalize D.M [.C p,.C q,.M (prs sh)]=P at *;generalize pO rs rs' P=own at *;generalize pS rs P=S at *;generalize pT rs rs' P=T at *;ext m__law_behind_all;show k7 ?_;simp![];show hfi.via ?_;rintro _ rfl;simp![↓_qN];show wq (BhA (jq ss rs) (jq ss rs') P S T) ?_ ?_ ?_
 .simp![];show #[[],[],#[Xr,λx=>Iff.rfl,X8 _],.R #[rfl,rfl]]
 .rintro E d ds ⟨ns,kv,h,⟨h1,rfl⟩|⟨h1,rfl⟩|⟨h1,_⟩⟩
  .injection h1 with e1 e2;subst e1 e2;generalize hB:sIf _ _ _=Bd;simp![];subst hB;show _q1 (U:=S) rfl h (by simp;lia) λmv l7' hk=>#[_,mv,hk,.Z (.R #[rfl,rfl])]
  .injection h1 with e1 e2;subst e1 e2;generalize hB:sIf _ _ _=Bd;simp![];subst hB;show _q1 (U:=T) rfl h .q λmv l7' hk=>#[_,mv,hk,.Z (.Z #[rfl,rfl])]
  .cases h1
 .rintro E ⟨ns,kv,h,⟨h1,_⟩|⟨h1,_⟩|⟨_,rfl⟩⟩
  .cases h1
  .cases h1
  .let#[si,qo]:=_qZ h hkn;let q0:∀a b,jY (.M [a,b]) (.C 0)=@a:=λ_ _=>rfl
   simp![];show wq (BhC ss rs rs' P S T own kv) ?_ ?_ ?_
   .simp![q0];show#[[],ss,[],rfl,rfl,#[Xr,nofun],Ya _,nofun]
   .rintro E d ds ⟨z1,z2,F,hz,hr,hF,hl,hm⟩;cases z2 with
    | nil=>cases hr
    | cons z z2=>
     rw [List.V]at hr;injection hr with e1 e2;subst e1 e2;let t5:z>ss:=by rw[hz];simp
     let hza:(ss.è λw=>w==z)=true:=List.any_eq_true.å #[z,t5,by simp];let ng:z1.B<=3:=by
      grind
     let gz:kZ (.X,.S (kv.E D.C)) (.X,.S [.C kv.B])=@(.rt,.S ((kv++[(own:Int)]).E D.C)):=by
      rw [Xd,si];show _nb .q .q (by rw[X3];simp;lia)
     simp![];show wq (BhD ss rs rs' P S T own kv z1 z) ?_ ?_ ?_
     .simp![_qO,_qP,gz];show#[[],_,F,rfl,rfl,hF,hl,hm,nofun]
     .rintro E d ds ⟨c1,c2,F,hc,hr,hF,hl,hm,hn⟩;cases c2 with
      | nil=>cases hr
      | cons c c2=>
       rw[List.V]at hr;injection hr with e1 e2;subst e1 e2;let hcm:0<=c/\c<=own:=by
        let:c>kv++[(own:Int)]:=by rw[hc];simp
        let h\/h:=aA this
        .let:=(qo c).mp h;lia
        .rw[aC h];lia
       let dy:c1.B<8:=by
        let:=congrArg List.B hc;simp at this;lia
       let#[r1,r2]:=zJ z c hP hk hS;let#[r1',r2']:=zJ z c ak aj hT;let l1:=xq hk r2;let l2:=xq aj r2';simp![];show(_pv hP hS hza r1).via ?_;rintro ⟨o1,d1⟩ e;cases(show d1=_ from e);simp![];show(_pv ak hT hza r1').via ?_;rintro ⟨o2,d2⟩ e;cases(show d2=_ from e);simp![];show(_oY (rdF ss rs S z c) (rdF ss rs' T z c) .q .q).via ?_;rintro _ rfl;rw[<-b6]
       by_cases cp:v7 ss rs rs' P z c>F
       .let rj:zw (v7 ss rs rs' P z c) (.S F)=@(.bl false):=by rw[_qV (_q2 z P c) (_q0 hF),Xh cp];rfl
        simp![rj];show#[c1++[c],c2,F,by rw[hc];simp,rfl,hF,by simp;lia,hm,λx hx=>?_];let h\/h:=aA hx
        .show hn x h
        .rw[aC h];show cp
       .let rj:zw (v7 ss rs rs' P z c) (.S F)=@(.bl true):=by rw[_qV (_q2 z P c) (_q0 hF),Xm cp];rfl
        simp![rj];show xX rfl ?_;simp![];show#[_,rfl,.q,(#[c1++[c],c2,F++[v7 ss rs rs' P z c],by rw[hc];simp,rfl,#[?_,λx hx=>?_],by simp;lia,λz hz i i0 i1=>_ac _ (hm z hz i i0 i1),λx hx=>?_])]
        .show List.nodup_append.å #[hF.1,by simp,λx hx y hy e=>cp (by rw[<-aC hy,<-e];show hx)]
        .let h\/h:=aA hx
         .show hF.2 x h
         .show#[z,t5,c,hcm.1,hcm.2,aC h]
        .let h\/h:=aA hx
         .show _ac _ (hn x h)
         .rw[aC h];simp
     .rintro E ⟨c1,c2,F,hc,hr,hF,hl,hm,hn⟩;let pz:c2=[]:=by cases c2 with|nil=>rfl|cons=>cases hr
      subst pz;rw[Xv]at hc;show#[z1++[z],z2,F,by rw[hz];simp,rfl,hF,?_,λy hy i i0 i1=>?_]
      .rw[<-hc]at hl;simp at hl ⊢;lia
      .let h\/h:=aA hy
       .show hm y h i i0 i1
       .rw[aC h];show hn i ?_;rw[<-hc]
        by_cases hi:i<own
        .show _ac _ ((qo i).å #[i0,hi])
        .show _ab _ (aB .q)
   .rintro E ⟨z1,z2,F,hz,hr,hF,hl,hm⟩;let hz2:z2=[]:=by cases z2 with|nil=>rfl|cons=>cases hr
    subst hz2;rw[Xv]at hz;subst hz;simp![];show#[F,rfl,hF,.q,hm]
end
def AllJ:List (List (Int×Int)):=AllS.filter λl=>decide (l.E (·.2)).l
def rmQ:List Int:=[-1,0,1,2,3,4,5,6,7,8,9,10,11]
def AllQ:List D:=rmQ.flatMap λp=>rmQ.flatMap λq=>AllJ.E λs=>.M [.C p,.C q,.M (prs s)]
def _q4:AllJ.B=34:=by decide +kernel
def _q5:AllQ.B=5746:=by
 ext AllQ;rw[_qr (n:=442)]
 .rfl
 .intro p _;rw[_qr (n:=34)]
  .rfl
  .intro q _;rw[X3,_q4]
def _q6(h0:-1<=p)(h1:p<12):p>rmQ:=by
 let:p=-1\/p=0\/p=1\/p=2\/p=3\/p=4\/p=5\/p=6\/p=7\/p=8\/p=9\/p=10\/p=11:=.q
 simpa [rmQ]using this
#where in
def _q7:∀{o k},o.l->((jX t k o).E (·.2)).l
 | [],k,_=>Xr
 | n::o,k,h=>by
  rw[Zm]at h;let ih:=_q7 (t:=t) (k:=k+1) h.2;let e:jX t k (n::o)=if _=true then _::jX t _ o else jX t _ o:=rfl
  rw[e]
  split
  .revert ha;rw[ZQ]at ha;rw[List.V,Zm];show#[λhm=>?_,ih];let#[#[i,j],hx,ej]:=aE hm;let#[m,x,_,h2,h3,h4]:=_qb hx;let g2:=_pq h3;rw[show(t.y λw=>w==x)=(t.y λw=>w==n)by lia,(_pq (Yq ha))]at g2;show h.1 (_aa g2▸Yh h2)
  .show ih
def _q8{l:List Int}(h:(l.E f).l):l.l:=(List.pairwise_map.mp h).imp λbe e=>be (congrArg f e)
section
variable {kps a9:List Int}{ss:List Str}{rs rs':List D}
def Pk(rs:List D)(P:D):Prop:=∃(p q:Int) (sh:List (Int×Int)),P=.M [.C p,.C q,.M (prs sh)]/\∀x>sh,0<=x.1/\x.1<kpF rs p
def _q9(t):∀o (k) x,x>jX t k o->(k)<=x.1/\x.1<k+o.B
 | [],_,_,h=>nomatch h
 | n::o,k,x,h=>by
  let ih:=_q9 t o (k+1) x;unfold jX at h;rw[Xk]
  split at h
  .let rfl\/h:=aD h
   .grind
   .lia
  .grind
structure Pin (kps a9:List Int)(rs rs':List D)(P:D):Prop where
 ok:Pok kps a9 P
 pk:Pk rs P
 two:Two kps a9 (pS rs P) (pT rs rs' P)
 rl:Rl rs rs' P (pS rs P) (pT rs rs' P)
def _ra s:v8 id s=s:=by
 cases s with|none=>rfl|some x=>show congrArg some (Prod.ext rfl (List.map_id _))
def _rb(hP:Prs kps ss.B rs)(hk:Abk kps)(ak:Prs a9 ss.B rs')(aj:Abk a9)(t:Two kps a9 a b):Pin kps a9 rs rs' (jQ a b):=by
 let hok:=ZV t.a t.b hk;let#[f,e1,e2,hi,hr]:=_qk hP hk ak aj t.a t.b t.na t.nb;let na:=t.na;let nb:=t.nb;rw[e1,Jw]at na;rw[e2,Jw]at nb;show#[hok,#[_,_,_,rfl,λx hx=>?_],#[W8 hP hk hok,W6 ak aj hok,_q8 na,_q8 nb],id,(_ra _).i,(_ra _).i,λ_ _ _ _ e=>e,hr];let h:=_q9 _ _ _ _ hx;let:=_qi hP hk t.a
 grind
def _rc(lc:kps.B<=12)(fz:a9.B<=12)(hk:Abk kps)(aj:Abk a9)(t:Two kps a9 a b):jQ a b>AllQ:=by
 let#[a0,a1]:=_px t.a;let#[b0,b1]:=_px t.b;show List.mem_flatMap.å #[_,_q6 a0 .q,List.mem_flatMap.å #[_,_q6 b0 .q,List.mem_map.å #[_,List.mem_filter.å #[_qu (xq aj t.b) (xq hk t.a),Xh (_q7 t.na)],rfl]]]
def _rd(h:Pin kps a9 rs rs' d):qV d=true/\d.pure=true:=by
 let#[p,q,sh,rfl,_]:=h.ok;show#[_pK _ _ _,?_];let:D.pures (prs sh)=true:=D.pures_map _ _ λx _=>rfl
 change(true&&(true&&(D.pures _&&true)))=true;rw[this];rfl
def Dn(ss:List Str)(rs rs':List D)(K:List D)(rk:D->Nat)(p:D):Prop:=gS rs p=gT rs' p/\∀z>ss,∀i:Int,0<=i->i<=pO rs rs' p->v7 ss rs rs' p z i>K/\rk (v7 ss rs rs' p z i)<=rk p+1
end
def _re:∀{l},x>J1 a l->x=a\/x>l
 | [],h=>.R (aC h)
 | b::l,h=>by
  unfold J1 at h
  split at h
  .let rfl\/h:=aD h
   .show .Z X5
   .show(_re h).imp id λh=>_ad _ h
  .show aD h
def _rf:∀{l},x>xv l->x>l
 |[],h=>nomatch h|a::l,h=>(_re h).ß (λe=>e▸X5) λh=>_ad _ (_rf h)
def _rg:∀(l ae:List Str),x>l.foldl (λl k=>if l.è (· == k)then l else l++[k]) ae->x>ae\/x>l
 | [],ae,h=>.R h
 | a::l,ae,h=>by
  rw[Yy]at h;let h\/h:=_rg l _ h
  .split at h
   .show .R h
   .let h\/h:=aA h
    .show .R h
    .show .Z (aC h▸X5)
  .show .Z (_ad _ h)
section
variable {kps a9:List Int}{ss:List Str}{rs rs':List D}
def Stp(ss:List Str)(rs rs':List D)(P:D)(L:List (Str×Int×D)):Prop:=∀x>L,x.1>ss/\0<=x.2.1/\x.2.1<=pO rs rs' P/\x.2.2=v7 ss rs rs' P x.1 x.2.1
inductive FrA (kps a9:List Int)(ss:List Str)(rs rs':List D)(P:D)(S T:Sn)(own:Nat)(zz:List Str):En->List D->Prop
 |mk (L:St3) (zs:List Str) {o4:Own} {l6:Option Sd} {l7:Option Sd} {ac:List D} (h0:o4≠.dp) (h1:ac=zs.E D.e) (h2:zs.B<=6/\∀z>zs,z>ss) (h3:L.B+zs.B*7<=42) (h4:(∀x>L,x.1>ss/\0<=x.2.1/\x.2.1<=own/\x.2.2=v7 ss rs rs' P x.1 x.2.1)) (h5:∀z>zz,z>zs\/∀i:Int,0<=i->i<=own->(z,i,v7 ss rs rs' P z i)>L):FrA kps a9 ss rs rs' P S T own zz [@(.X,jq ss rs),@(.X,jq ss rs'),@(.X,P),@(.X,lat (S,T)),@(o4,.S (kq 0 ((own:Int)+1))),@(.rt,.S (L.E stD)),l6,l7] ac
inductive FrB (kps a9:List Int)(ss:List Str)(rs rs':List D)(P:D)(S T:Sn)(own:Nat)(z:Str)(L:St3):En->List D->Prop
 |mk (L2:St3) (pre:List D) {l7:Option Sd} {ac:List D} (h0:kq 0 ((own:Int)+1)=pre++ac) (h1:L2.B=L.B+pre.B) (h2:(∀x>L2,x.1>ss/\0<=x.2.1/\x.2.1<=own/\x.2.2=v7 ss rs rs' P x.1 x.2.1)) (h3:(∀x>L,x>L2)) (h4:∀c:Int,D.C c>pre->(z,c,v7 ss rs rs' P z c)>L2):FrB kps a9 ss rs rs' P S T own z L [@(.X,jq ss rs),@(.X,jq ss rs'),@(.X,P),@(.X,lat (S,T)),@(.X,.S (kq 0 ((own:Int)+1))),@(.rt,.S (L2.E stD)),@(.X,.e z),l7] ac
def from_ok(hs:ss.B<=3)(hP:Prs kps ss.B rs)(hk:Abk kps)(ak:Prs a9 ss.B rs')(aj:Abk a9)(h:Pok kps a9 P):
  Oo m_steps_from [(.X,jq ss rs),(.X,jq ss rs'),(.X,P)] (λy=>∃L,y=(.rt,.S (L.E stD))/\Stp ss rs rs' P L/\∀z>ss,∀i:Int,0<=i->i<=pO rs rs' P->(z,i,v7 ss rs rs' P z i)>L) noX:=by
 let hS:=W8 hP hk h;let hT:=W6 (rs:=rs) ak aj h;let hO:=_pU hP hk ak aj h;let lS:=xq hk hS;let lT:=xq aj hT;let sw:((jZ (nms (pS rs P)) (nms (pT rs rs' P))).B:Int)=(pO rs rs' P):=rfl;let q0:∀a b,jY (.M [a,b]) (.C 0)=@a:=λ_ _=>rfl
 show k7 ?_;simp![];show(_pT hP hk ak aj h).via ?_;intro y hy;subst hy;simp![];show(_ot (pS rs P) (pT rs rs' P) .q .q).via ?_;intro y hy;subst hy;simp![sw];let b6:∀z i,v7 ss rs rs' P z i=jQ (rdF ss rs (pS rs P) z i) (rdF ss rs' (pT rs rs' P) z i):=λ_ _=>rfl
 ext Stp;generalize pO rs rs' P=own at *;generalize pS rs P=S at *;generalize pT rs rs' P=T at *;let qh:∀o,_lc (o,.S (ss.E D.e++ss.E D.e))=@(.rt,.S ((xv (ddS (ss++ss))).E D.e)):=λo=>by
  rw [<-Xd];ext _lc;right;rw [_n4];right;rw [Xa (by rw[Xb];lia)]
 let ng:(xv (ddS (ss++ss))).B<=6:=by
  rw [U.sortS_len];let:=_qw (ss++ss) [];change(ddS (ss++ss)).B<=6;ext ddS
  grind
 let hzr:∀z>xv (ddS (ss++ss)),z>ss:=λz hz=>by
  let:=_rg _ _ (_rf hz)
  simpa using this
 let t5:∀z>ss,z>xv (ddS (ss++ss)):=λz hz=>_qy (_qz _ _ (.Z (_ac _ hz)))
 generalize xv (ddS (ss++ss))=zz at qh ng t5 hzr;let gz:kZ (.X,sL ss) (.X,sL ss)=@(.rt,.S (ss.E D.e++ss.E D.e)):=_nb .q .q (by rw[X3];lia);let qf:(kq 0 ((own)+1)).B=own+1:=by ext kq;rw[X3,Y2];simp
 show wq (FrA kps a9 ss rs rs' P S T own zz) ?_ ?_ ?_
 .simp![q0,gz,qh];show .mk [] zz .q rfl #[ng,hzr] (by rw[List.length_nil];lia) (nofun) λz hz=>.R hz
 .rintro E d ds ⟨L,zs,ho4,bc,⟨hz6,hzs⟩,hl,hL,hM⟩;cases zs with
  | nil=>cases bc
  | cons z zs=>
   rw [List.V]at bc;injection bc with e1 e2;subst e1 e2;rw [Xk]at hz6 hl;simp![];show wq (FrB kps a9 ss rs rs' P S T own z L) ?_ ?_ ?_
   .simp![];show#[L,[],rfl,rfl,hL,λ_ h=>h,nofun]
   .rintro E d ds ⟨L2,pre,n6,u6,hL2,hLL,hM2⟩;let#[c,c0,c1,rfl]:=_n0 (show d>kq 0 ((own)+1)by rw[n6];simp);let ai:=congrArg List.B n6;rw[qf,Xb,Xk]at ai;let#[r1,r2]:=zJ z c hP hk hS;let#[r1',r2']:=zJ z c ak aj hT;simp![];show xX rfl ?_;simp![];show(_or (w:=(z,c)) r1 r1').via ?_;intro y hy;subst hy;simp![];let l1:=xq hk r2;let l2:=xq aj r2';show(_ou (rdF ss rs S z c) (rdF ss rs' T z c) .q .q).via ?_;intro y hy;subst hy;simp![];let e5:(L2++[(z,c,jQ (rdF ss rs S z c) (rdF ss rs' T z c))]).E stD=L2.E stD++[stD (z,c,jQ (rdF ss rs S z c) (rdF ss rs' T z c))]:=by rw[Xd];rfl
    show#[_,rfl,by rw[X3];lia,?_];rw[<-e5];show .mk (L2++[(z,c,jQ (rdF ss rs S z c) (rdF ss rs' T z c))]) (pre++[.C c]) (by rw[n6];simp) (by simp;lia) (λx hx=>?_) (λx hx=>_ac _ (hLL x hx)) λc' i9=>?_
    .let hx\/hx:=aA hx
     .show hL2 x hx
     .rw[aC hx];show#[hzs z X5,c0,by change c<=own;lia,(b6 z c).i]
    .grind
   .rintro E ⟨L2,pre,n6,u6,hL2,hLL,hM2⟩;rw[Xv]at n6;rw[<-n6,qf]at u6;show#[L2,zs,.q,rfl,#[.q,λz hz=>hzs z (_ad _ hz)],.q,hL2,λz' jh=>?_];let h\/h:=hM z' jh
    .let rfl\/h:=aD h
     .show .Z λi i0 i1=>hM2 i ?_
      rw[<-n6];show List.mem_map.å #[i.L,List.mem_range.å .q,by change D.C (0+(i.L:Int))=_;congr 1;lia]
     .show .R h
    .show .Z λi i0 i1=>hLL _ (h i i0 i1)
 .rintro E ⟨L,zs,ho4,bc,_,hl,hL,hM⟩;cases zs with
  |cons=>cases bc
  |nil=>
   simp![];show#[L,rfl,hL,λz hz=>(hM z (t5 z hz)).ß (nofun) id]
end
section
variable {kps a9:List Int}{ss:List Str}{rs rs':List D}
def mxF(kps:List Int):Int:=kps.max?.s 0
def _rh{kps p}(h:p>kps):p<=mxF kps:=by
 ext mxF;cases e:kps.max? with|none=>grind|some M=>show(List.max?_eq_some_iff.mp e).2 p h
end
section
variable {kps a9:List Int}{ss:List Str}{rs rs':List D}
def m_compared:Fn:=fn 3
  (j6 (sIf (tE (cF2 (pu2 fNe) (jk (vV 0) (C9 0)) (jk (vV 1) (C9 0)))) WX k6)
  (j6 (sIf (tOr (tNot (tEQ (vE (jv J.m_is_small [(cV 0)])))) (tNot (tEQ (vE (jv J.m_is_small [(cV 1)]))))) WX k6)
  (jJ (jv m_searched [(cV 0),(cV 1),(cIf (tE (cF2 (f2First fIsNon) (vV 2) (vE (cC .j)))) (cC (.M [(.C 0),(.C 0),(.M [])])) (cV 2))]))))
end
def _ri{ss rs room g}(h:Gdr rs room g):Oo m__law_good [(.X,jq ss rs),(.X,.C room)] (λy=>∃o',y=(o',.bl g)/\True) noX:=by
 show k7 ?_;let#[rfl,rfl]\/#[h0,k,st,hr]:=h
 .simp![B.neg1,nei rfl];show#[_,rfl,trivial]
 .let be:(room == -1)=false:=Yf .q;simp![B.neg1,p1,nei be,(xj h0 hr),show jY (.M [k,.bl g,st]) (.C 1)=@_ from rfl];show#[_,rfl,trivial]
def neb(a b):fNe (.bl a) (.bl b)=@(.bl (a != b)):=by cases a<;>cases b<;>rfl
def _rj{x kvs}(h:qV x=true)(hu:unm kvs=true):W9 x (.ÿ kvs)=@(.bl (decide (x>kvs.E (·.1)))):=by
 ext W9;right;rw[Xa #[h,hu]]
abbrev trD(K:List D):List (D×D):=K.E λk=>(k,.bl true)
def _rk K:(trD K).E (·.1)=K:=by rw[Xi];show List.map_id K
section
variable {kps a9:List Int}{ss:List Str}{rs rs':List D}
def _pJ(hP:Prs kps ss.B rs):rs.E XW=kps:=by
 show List.ext_getElem (by rw[X3];show hP.1) λi h1 h2=>?_
 let#[r,e,gd,st,rfl,_]:=hP.2 i h2;let#[_,e]:=aF e;rw[List.getElem_map,e,X2,X1 h2];rfl
def _rl(h1:1<=kps.B)(hP:Prs kps ss.B rs):Oo m__law_most [(.X,jq ss rs)] (λy=>∃o',y=(o',.C (mxF kps))/\True) noX:=by
 show k7 ?_;simp![];show Kw [] (λd y=>y.2=.C (XW d)) ?_;simp![p1];show#[λd hd=>?_,λys hy=>?_]
 .let#[i,hi,rfl]:=Yv hd;let#[r,e,gd,st,rfl,_]:=hP.2 i (by let:=hP.1;lia);let#[_,e]:=aF e;rw[e];simp![show ∀a b c,jY (.M [a,b,c]) (.C 0)=@a from λ_ _ _=>rfl];show#[#[_,rfl],rfl]
 .rw[wW,QX (λ_ _ h=>h) hy];let e:(rs.E λd=>D.C (XW d))=kps.E D.C:=by rw[<-_pJ hP,Xi];rfl
  let hm:_mZ (.S (kps.E D.C))=@(.C (mxF kps)):=by
   ext _mZ mxF;right;rw[_qD];right;cases e:kps.max? with|none=>grind|some M=>rfl
  rw[e];simp![hm];show#[_,rfl,trivial]
def _rm{P}(hs:ss.B<=3)(hP:Prs kps ss.B rs)(hk:Abk kps)(ak:Prs a9 ss.B rs')(aj:Abk a9)(h:Pin kps a9 rs rs' P):Oo m__law_behind_all [(.X,jq ss rs),(.X,jq ss rs'),(.X,P)] (λy=>∃F,y=(.rt,.S F)/\∀d>F,∃z>ss,∃i:Int,0<=i/\i<=pO rs rs' P/\d=v7 ss rs rs' P z i) noX:=by
 let#[p',q',sh',e,li]:=h.pk;let#[p,q,sh,rfl,h0,h1,g0,g1,h4]:=h.ok;injection e with e;injection e with e1 e;injection e with e2 e;injection e with e3 _;injection e1 with e1;injection e2 with e2;injection e3 with e3;let e3:sh=sh':=by rw[<-ZK sh,e3,ZK]
 subst e1 e2 e3;show(_q3 hs hP hk ak aj h0 h1 g0 g1 li h4).ý ?_;rintro y ⟨F,rfl,hF,_⟩;show#[F,rfl,hF.2]
def _rn{K}(h:∀d>K,Pin kps a9 rs rs' d):unm (trD K)=true:=by
 cases K with
 |nil=>rfl
 |cons k K=>
  let#[p,q,sh,rfl,_]:=(h k X5).ok;rfl
def _ro{P K rk}(hs:ss.B<=3)(hP:Prs kps ss.B rs)(hk:Abk kps)(ak:Prs a9 ss.B rs')(aj:Abk a9)(hl:K.B<=6000)(hn:K.l)(n8:P>K)(hK:∀p>K,Pin kps a9 rs rs' p/\Dn ss rs rs' K rk p):
  Oo m__law_table [(.X,jq ss rs),(.X,jq ss rs'),(.X,P),(.X,.S K)] (λy=>∃o',y=(o',.bl true)/\True) noX:=by
 let qf:=hP.1;let hrl':=ak.1;let t0:∀a b c,jY (.M [a,b,c]) (.C 0)=@a:=λ_ _ _=>rfl
 let t1:∀a b c,jY (.M [a,b,c]) (.C 1)=@b:=λ_ _ _=>rfl
 let hil:zZ "list" (.S K)=@(.bl true):=rfl;let huK:=_rn λd hd=>(hK d hd).1
 let hkK:=_rk K;ext m__law_table;show k7 ?_;simp![hil,↓_nw];show wq (λE ac=>∃(K1 K2:List D) (l5:Option Sd),E=[@(.X,jq ss rs),@(.X,jq ss rs'),@(.X,P),@(.X,.S K),@(.rt,.ÿ (trD K1)),l5]/\K=K1++K2/\ac=K2) ?_ ?_ ?_
 .simp![];show#[[],K,_,rfl,rfl,rfl]
 .rintro E d ds ⟨K1,K2,l5,rfl,hKK,rfl⟩;let hd:d>K:=by rw[hKK];simp
  let hm:d∉K1:=λh=>by
   rw[hKK]at hn;show(List.nodup_append.mp hn).2.2 d h d X5 rfl
  let#[hp,hg,_]:=hK d hd;let hu:=_rn λx hx=>(hK x (hKK▸_ac _ hx)).1
  let cp:=_rj (_rd hp).1 hu;rw[_rk,Xm hm]at cp;let ut:K1.B<10000:=by let:=congrArg List.B hKK;rw[Xb]at this;lia
  let ca:V7 (trD K1) d (.bl true)=trD (K1++[d]):=by
   rw[show V7 (trD K1) d (.bl true)=trD K1++[(d,.bl true)]from Xe (by rw[_rk];show hm)];simp[trD]
  let#[p,q,sh,rfl,h0,h1,g0,g1,h4]:=hp.ok;let hg:gdF rs p=gdF rs' q:=hg;let c1:decide (-1<=p)=true:=Xh h0;let c2:decide (p<(rs.B:Int))=true:=Xh .q;let c3:decide (-1<=q)=true:=Xh g0;let c4:decide (q<(rs'.B:Int))=true:=Xh .q;simp![];show(_o1 p q sh).use ?_;intro _ _;simp![cp];show _nz ?_;simp![];show#[#[_,rfl],_,rfl,((_rd hp).1),#[by rw[X3];show ut,hu],?_];rw[ca];simp![B.neg1,t0,t1,p1,le_ii,lt_ii,c1,c2,c3,c4];show(_ri ((J8 hP hk h0 h1).2.1)).use ?_;intro _ _;simp![t1];show(_ri ((J8 ak aj g0 g1).2.1)).use ?_;intro _ _;let hb:(gdF rs p != gdF rs' q)=false:=by rw[hg];simp
  simp![neb,hb];show#[K1++[_],ds,_,rfl,by rw[hKK];simp,rfl]
 .rintro E ⟨K1,K2,l5,rfl,hKK,rfl⟩;rw[Xv]at hKK;subst hKK;simp![];show wq (λE ac=>∃l5,E=[@(.X,jq ss rs),@(.X,jq ss rs'),@(.X,P),@(.X,.S K),@(.rt,.ÿ (trD K)),l5]/\∀d>ac,d>K) ?_ ?_ ?_
  .simp![];show#[_,rfl,λd h=>h]
  .rintro E d ds ⟨l5,rfl,hd⟩;let#[hp,_,b6]:=hK d (hd d X5);simp![];show QJ (λE1 B ds ae=>E1=[@(.X,jq ss rs),@(.X,jq ss rs'),@(.X,P),@(.X,.S K),@(.rt,.ÿ (trD K)),@(.X,d)]/\∃q0,B=[q0,@(.rt,.ÿ (trD K))]/\(∀x>ds,x>K)/\ae=[]) ?_ ?_ ?_
   .simp![];show(_rm hs hP hk ak aj hp).via ?_;rintro y ⟨F,rfl,hF⟩;simp![];show#[_,rfl,λx hx=>?_,trivial];let#[z,hz,i,i0,i1,rfl]:=hF x hx;show(b6 z hz i i0 i1).1
   .rintro E1 B x ds ae ⟨rfl,q0,rfl,hx,rfl⟩;let hxK:=hx x X5;let rj:=_nB (_rd (hK x hxK).1).1 huK;rw[hkK,Xh hxK]at rj;simp![rj];show#[_,rfl,λy hy=>hx y (_ad _ hy),trivial]
   .rintro E1 B ae ⟨rfl,q0,rfl,_,rfl⟩;rw[wW];dsimp[J3,back,clr,at',List.ñ,List.V,List.map_nil,List.set_cons_zero,List.set_cons_succ];let be:fNe (.S []) (.S [])=@(.bl false):=rfl;simp![be];show#[_,rfl,λy hy=>hd y (_ad _ hy)]
  .rintro E ⟨l5,rfl,_⟩;let cp:=_rj (_rd (hK P n8).1).1 huK;rw[hkK,Xh n8]at cp;simp![cp];show#[_,rfl,trivial]
end
end Y
namespace J
open Q PySem C B U
def vz(K:List D)(x:Sn×Sn):D:=if rmO x.1=-1/\rmO x.2=-1 then .j else .M [.C (K.idxOf (jQ x.1 x.2):Nat),iT (jZ (nms x.1) (nms x.2))]
def Inn(K:List D)(x:Sn×Sn):Prop:=(rmO x.1=-1/\rmO x.2=-1)\/jQ x.1 x.2>K
def Inn.ý{K K2 x}(h:K <+: K2)(g:Inn K x):Inn K2 x:=g.imp id λg=>h.subset g
def _rp{K K2}{d:D}(h:K <+: K2)(g:d>K):K2.idxOf d=K.idxOf d:=by
 let#[r,rfl]:=h;rw[List.idxOf_append,Xa g]
def _rq(K x):K <+: (vJ K x).1/\Inn (vJ K x).1 x/\∀K2,(vJ K x).1 <+: K2->(vJ K x).2=vz K2 x:=by
 ext vJ vz
 by_cases h:rmO x.1=-1/\rmO x.2=-1
 .rw[Xa h];show#[List.prefix_refl _,.R h,λK2 _=>by rw[Xa h]]
 .rw[Xe h];right;let hm:jQ x.1 x.2>x6 K (jQ x.1 x.2):=by ext x6;split<;>symm
  show#[by ext x6;split<;>simp,.Z hm,λK2 h2=>?_];rw[Xe h,_rp h2 hm]
def _rr:∀l K,K <+: (v5 l K).1/\(∀x>l,Inn (v5 l K).1 x)/\∀K2,(v5 l K).1 <+: K2->(v5 l K).2=l.E (vz K2)
 | [],K=>#[List.prefix_refl _,(nofun),λ_ _=>rfl]
 | x::l,K=>by
  let#[a,b,c]:=_rq K x;let#[d,e,f]:=_rr l (vJ K x).1;show#[a.H d,λy hy=>?_,λK2 h=>?_]
  .let rfl\/hy:=aD hy
   .show b.ý d
   .show e y hy
  .change _::(v5 l (vJ K x).1).2=_;rw[f K2 h,c K2 (d.H h)];rfl
section
variable {kps a9:List Int}{ss:List Str}{rs rs':List D}{w:Str}
def _rs{S T own}:∀zs K,K <+: (qZ ss rs rs' S T own zs K).1/\(∀z>zs,∀x>vY ss rs rs' S T own z,Inn (qZ ss rs rs' S T own zs K).1 x)/\∀K2,(qZ ss rs rs' S T own zs K).1 <+: K2->(qZ ss rs rs' S T own zs K).2=zs.E λz=>.S ((vY ss rs rs' S T own z).E (vz K2))
 | [],K=>#[List.prefix_refl _,(nofun),λ_ _=>rfl]
 | z::zs,K=>by
  let#[a,b,c]:=_rr _ K;let#[d,e,f]:=_rs zs (v5 _ K).1;show#[a.H d,λy hy=>?_,λK2 h=>?_]
  .let rfl\/hy:=aD hy
   .show λx hx=>(b x hx).ý d
   .show e y hy
  .change D.S _::(qZ ss rs rs' S T own zs _).2=_;rw[f K2 h,c K2 (d.H h)];rfl
def VJ(ss:List Str)(rs rs':List D)(P:D)(z:Str):List (Sn×Sn):=vY ss rs rs' (pS rs P) (pT rs rs' P) (pO rs rs' P) z
def _rt(w:Str)(ss:List Str)(rs rs':List D)(K:List D)(P:D):D:=_pR w ss rs rs' P (ss.E λz=>.S ((VJ ss rs rs' P z).E (vz K)))
def Inv(w:Str)(ss:List Str)(rs rs':List D)(K aa:List D):Prop:=∀K2,K <+: K2->∀n,n<aa.B->aa[n]?=@(_rt w ss rs rs' K2 (K2.s n .j))/\∀z>ss,∀x>VJ ss rs rs' (K2.s n .j) z,Inn K2 x
def _ru{K K2:List D}{n}(h:K <+: K2)(hn:n<K.B):K2.s n .j=K.s n .j:=by
 let#[r,rfl]:=h;rw[X2,Xn hn,<-X2]
def _rv{K aa}(h:Inv w ss rs rs' K aa)(bf:aa.B<K.B):K <+: (Wq w ss rs rs' K aa).1/\Inv w ss rs rs' (Wq w ss rs rs' K aa).1 (Wq w ss rs rs' K aa).2:=by
 let#[a,b,c]:=_rs (rs':=rs') ss K;show#[a,λK2 h2 n hn=>?_];change(aa++[_pR w ss rs rs' _ (qZ ss rs rs' _ _ _ ss K).2])[n]?=_/\_;let hn:n<(aa++[_pR w ss rs rs' _ (qZ ss rs rs' _ _ _ ss K).2]).B:=hn;rw[Xb,Xy]at hn
 by_cases hl:n<aa.B
 .rw[Xn hl];show h K2 (a.H h2) n hl
 .let e:n=aa.B:=.q
  subst e;rw[Y1 (X8 _),Nat.sub_self,_ru (a.H h2) bf,c K2 h2];show#[rfl,λz hz x hx=>(b z hz x hx).ý h2]
def _rw{K aa r}(h:RunJ w ss rs rs' K aa r):∀K' bt,r=@(K',bt)->Inv w ss rs rs' K aa->aa.B<=40->K <+: K'/\Inv w ss rs rs' K' bt/\¬bt.B<K'.B/\bt.B<=40:=by
 induction h with
 | stop h=>
  intro K' bt e hi hl;cases e;show#[List.prefix_refl _,hi,h,hl]
 | great=>intro _ _ e;cases e
 | @go K aa r h1 h2 _ ih=>
  intro K' bt e hi hl;let#[a,b]:=_rv hi h1;let#[c,d]:=ih K' bt e b (by
   change(aa++[_]).B<=40;rw[Xb,Xy];lia)
  show#[a.H c,d]
def Rc(kps a9:List Int)(P:D):Prop:=∃a b,Two kps a9 a b/\P=jQ a b
def _rx{a b}(ha:a.l)(hb:b.l):(jZ a b).l:=by
 show List.nodup_append.å #[ha,hb.filter _,λx hx y hy e=>?_];rw[List.mem_filter,ZQ]at hy
 grind
def _q8{f:Int->Int}{l:List Int}(h:(l.E f).l):l.l:=(List.pairwise_map.mp h).imp λh e=>h (congrArg f e)
def _ry{z}(hz:(ss.è λw=>w==z)=false) S c:rdF ss rs S z c=none:=by
 ext rdF
 split
 .rfl
 .split
  .ext vX;rw[hz];rfl
  .rfl
section
variable (hP:Prs kps ss.length rs)(hk:Abk kps)(ak:Prs a9 ss.length rs')(aj:Abk a9)
include hP hk ak aj
def Rc.rl{P}(h:Rc kps a9 P):∃a b,Two kps a9 a b/\P=jQ a b/\Rl rs rs' P a b:=by
 let#[a,b,t,rfl]:=h;show#[a,b,t,rfl,_qk hP hk ak aj t.a t.b t.na t.nb]
def Rc.two{P}(h:Rc kps a9 P):Two kps a9 (pS rs P) (pT rs rs' P):=by
 let hq:Pok kps a9 P:=by let#[a,b,t,rfl]:=h;show ZV t.a t.b hk
 let#[a,b,t,_,f,e1,e2,_]:=h.rl hP hk ak aj;show#[W8 hP hk hq,W6 ak aj hq,?_,?_]
 .let:=t.na;rw[e1,Jw]at this;show _q8 this
 .let:=t.nb;rw[e2,Jw]at this;show _q8 this
#where in
def _rz{K aa r}(h:RunJ w ss rs rs' K aa r):∀K' bt,r=@(K',bt)->(∀d>K,Rc kps a9 d)->∀d>K',Rc kps a9 d:=by
 let ins:∀{x K},Two kps a9 x.1 x.2->(∀d>K,Rc kps a9 d)->∀d>(vJ K x).1,Rc kps a9 d:=fun {x K} t hK d hd=>by
  unfold vJ at hd
  split at hd
  .show hK d hd
  .dsimp only at hd;unfold x6 at hd
   split at hd
   .show hK d hd
   .let hd\/hd:=aA hd
    .show hK d hd
    .rw[aC hd];show#[_,_,t,rfl]
 let inc:∀{l K},(∀x>l,Two kps a9 x.1 x.2)->(∀d>K,Rc kps a9 d)->∀d>(v5 l K).1,Rc kps a9 d:=by
  intro l
  induction l with| nil=>show λ_ h=>h| cons x l ih=>show λhl h=>ih (λy hy=>hl y (_ad _ hy)) (ins (hl x X5) h)
 let isg:∀{S T own zs K},Two kps a9 S T->(∀d>K,Rc kps a9 d)->∀d>(qZ ss rs rs' S T own zs K).1,Rc kps a9 d:=by
  intro S T own zs
  induction zs with
  | nil=>show λ_ h=>h
  | cons z zs ih=>show λt h=>ih t (inc (λx hx=>by
    let#[c,_,rfl]:=aE hx;show t.next z c hP hk ak aj) h)
 induction h with
 |stop h=>intro K' bt e hi;cases e;show hi|great=>intro _ _ e;cases e
 |@go K aa r h1 h2 _ ih=>
  intro K' bt e hi;show ih K' bt e (isg (Rc.two hP hk ak aj (hi _ ?_)) hi);rw[X2,X1 h1];show Xu _
def _rA{P a b}(h:Rl rs rs' P a b)(c):a=v8 (nameAt (jZ (nms a) (nms b)) c) (pS rs P)/\b=v8 (nameAt (jZ (nms a) (nms b)) c) (pT rs rs' P)/\nameAt (jZ (nms a) (nms b)) c ((jZ (nms a) (nms b)).y λw=>w==c:Nat)=c /\
  (∀ x,x>hp rs rs' P\/x=((jZ (nms a) (nms b)).y λw=>w==c:Nat)->∀y,y>hp rs rs' P\/y=((jZ (nms a) (nms b)).y λw=>w==c:Nat)->nameAt (jZ (nms a) (nms b)) c x=nameAt (jZ (nms a) (nms b)) c y->x=y):=by
 let ai:=_qo h;let#[f,e1,e2,hi,hr]:=h;let hh:=_qn e1 e2 hi;let ub:(jZ (nms a) (nms b)).l:=by
  rw [hh];show _p9 ?_ hi;rw [hr];show List.pairwise_map.å (List.nodup_range.imp λh e=>h .q)
 let hg:∀x>hp rs rs' P,nameAt (jZ (nms a) (nms b)) c x=f x:=λx hx=>by
  rw [hr]at hx;let:=mem_rngL.mp hx;ext C.nameAt;rw [X2,Xn .q,hh,hr,X7,X7,Yw .q];change f (x.L:Int)=f x;rw [Int.toNat_of_nonneg this.1]
 show#[?_,?_,?_,?_]
 .conv=>lhs;rw[e1]
  show(_qm λx hx=>hg x (Q4 hx)).i
 .conv=>lhs;rw[e2]
  show(_qm λx hx=>hg x (Qx hx)).i
 .generalize jZ (nms a) (nms b)=ks at *;ext C.nameAt;rw [Xp,X2]
  by_cases hc:c>ks
  .rw[Xn (Yi #[c,hc,by simp]),_pq hc];rfl
  .rw[_po hc];simp
 .let cp:∀x,x>hp rs rs' P\/x=((jZ (nms a) (nms b)).y λw=>w==c:Nat)->0<=x/\(x.L<(jZ (nms a) (nms b)).B\/c∉jZ (nms a) (nms b)/\x.L<(jZ (nms a) (nms b)).B+1):=λx hx=>by
   let hx\/rfl:=hx
   .rw[hr]at hx;let:=mem_rngL.mp hx;show#[this.1,.R .q]
   .show#[.q,?_]
    by_cases hc:c>jZ (nms a) (nms b)
    .show .R (Yi #[c,hc,by simp])
    .rw[_po hc];show .Z #[hc,.q]
  intro x hx y hy e;let#[x0,x1]:=cp x hx;let#[y0,y1]:=cp y hy;generalize jZ (nms a) (nms b)=ks at *;unfold C.nameAt at e;let:x.L=y.L:=by
   by_cases hc:c>ks
   .let x1:x.L<ks.B:=x1.ß id λq=>absurd hc q.1
    let y1:y.L<ks.B:=y1.ß id λq=>absurd hc q.1
    rw[X2,X2,Xn x1,Xn y1,<-X2,<-X2]at e;show ZY ub x1 y1 e
   .let my:(ks++[c]).l:=List.nodup_append.å #[ub,by simp,λx hx y hy e=>by rw[aC hy]at e;show hc (e▸hx)];show ZY my (by rw[Xb,Xy];lia) (by rw[Xb,Xy];lia) e
  lia
end
end
def vZ(rs rs' K:List D):List Int:=K.E λP=>(pO rs rs' P:Int)
structure Made (kps a9:List Int)(w:Str)(ss:List Str)(rs rs' K aa:List D):Prop where
 len:aa.B=K.B
 le:K.B<=40
 nd:K.l
 rc:∀P>K,Rc kps a9 P
 room:∀n,n<K.B->aa[n]?=@(_rt w ss rs rs' K (K.s n .j))/\∀z>ss,∀x>VJ ss rs rs' (K.s n .j) z,Inn K x
 st:K[0]?=@P0
section
variable {kps a9:List Int}{ss:List Str}{rs rs':List D}{w:Str}
variable (hP:Prs kps ss.length rs)(hk:Abk kps)(ak:Prs a9 ss.length rs')(aj:Abk a9)
include hP hk ak aj
def _rB{K aa}(h0:kps[0]?=@0)(ei:a9[0]?=@0)(h:RunJ w ss rs rs' [P0] [] @(K,aa))(hm:Mst kps a9 K aa):Made kps a9 w ss rs rs' K aa:=by
 let#[a,b,c,d]:=_rw h K aa rfl (λ_ _ n hn=>absurd hn (Nat.not_lt_zero _)) (Ya _);let hl:aa.B=K.B:=by let:=hm.le;lia
 show#[hl,.q,hm.kj.nd,_rz hP hk ak aj h K aa rfl λP hP=>?_,λn hn=>b K (List.prefix_refl _) n .q,?_]
 .rw[aC hP];show#[S0,S0,Jx h0 ei,rfl]
 .let#[r,rfl]:=a;rfl
def _rC{P}(h:Rc kps a9 P):∀x,x>nms (pS rs P)\/x>nms (pT rs rs' P)->0<=x/\x<(pO rs rs' P):=λx hx=>by
 let#[a,b,t,_,f,_,_,_,hr]:=h.rl hP hk ak aj;let:x>hp rs rs' P:=hx.ß Q4 Qx;rw[hr]at this;show mem_rngL.mp this
def _rD{a b}(t:Two kps a9 a b):(jZ (nms a) (nms b)).B=pO rs rs' (jQ a b):=_qo (_qk hP hk ak aj t.a t.b t.na t.nb)
#where in
def _rE{K P z k}(h:Rc kps a9 P)(oi:k<pO rs rs' P+1)(cp:Inn K (rdF ss rs (pS rs P) z k,rdF ss rs' (pT rs rs' P) z k)):
  Cs (vZ rs rs' K) (z3 (pO rs rs' P) k) (vz K (rdF ss rs (pS rs P) z k,rdF ss rs' (pT rs rs' P) z k)):=by
 let t:=h.two hP hk ak aj;let t2:=t.next z k hP hk ak aj
 let ho:=_rC hP hk ak aj h;ext vz
 split
 .show .R rfl
 .revert hn;let hi:=List.idxOf_lt_length_of_mem (cp.resolve_left hn);show .Z #[_,_,rfl,.q,by ext vZ;rw[X3];lia,λf hf=>?_,_rx t2.na t2.nb,?_]
  .let:(0<=f/\f<(pO rs rs' P))\/f=k:=by
    let q\/q:=aA hf
    .show(((_p8 (z:=z) (c:=k) hP hk t.a λ_ _ e=>e).2) f q).imp (λq=>ho f (.R q)) id
    .show(((_p8 (z:=z) (c:=k) ak aj t.b λ_ _ e=>e).2) f (List.mem_filter.mp q).1).imp (λq=>ho f (.Z q)) id
   ext z3
   split<;>lia
  .ext vZ;rw[_rD hP hk ak aj t2,X2,X7,Xp,X1 hi,List.getElem_idxOf];rfl
def _rF{K aa}(m:Made kps a9 w ss rs rs' K aa):Prs (vZ rs rs' K) ss.B aa:=by
 let hl:(vZ rs rs' K).B=K.B:=by ext vZ;rw[X3]
 show#[by rw[hl,m.len],λi hi=>?_];rw[hl]at hi;let#[e,cp]:=m.room i hi;let hrc:Rc kps a9 (K.s i .j):=m.rc _ (by rw[X2,X1 hi];show Xu _);let hg:(vZ rs rs' K).s i 0=(pO rs rs' (K.s i .j):Int):=by
  ext vZ;rw[X2,X7,X2,X1 hi];rfl
 rw[hg];generalize K.s i .j=P at *;show#[_,e,_,_,rfl,X3 _,λc hc=>?_];let#[z,hz,rfl]:=aE hc;let uy:((VJ ss rs rs' P z).E (vz K)).B=pO rs rs' P+1:=by ext VJ vY;rw[X3,X3,Y2]
 show#[_,rfl,by rw[uy];rfl,λk oi=>?_];rw[uy]at oi;show#[vz K _,?_,_rE hP hk ak aj hrc oi (cp z hz _ (List.mem_map.å #[k,List.mem_range.å oi,rfl]))];ext VJ vY;rw[X7,X7,Yw oi];rfl
def _rG{K aa}(m:Made kps a9 w ss rs rs' K aa):∀p>vZ rs rs' K,0<=p/\p<=6:=λp hp=>by
 let#[P,n8,rfl]:=aE hp;let#[a,b,t,rfl]:=m.rc P n8;let:=_pU hP hk ak aj (ZV t.a t.b hk);lia
def _rH{K aa}(h0:kps[0]?=@0)(ei:a9[0]?=@0)(m:Made kps a9 w ss rs rs' K aa):(vZ rs rs' K)[0]?=@0:=by
 ext vZ;rw[X7,m.st];change @((pO rs rs' (jQ S0 S0):Nat):Int)=_;rw[<-_rD hP hk ak aj (Jx h0 ei)];rfl
def sim{K aa a b}(z c)(m:Made kps a9 w ss rs rs' K aa)(t:Two kps a9 a b)(cp:Inn K (a,b)):
  Rd (vZ rs rs' K) ss aa (vz K (a,b)) (z,c) (vz K (rdF ss rs a z c,rdF ss rs' b z c))/\Inn K (rdF ss rs a z c,rdF ss rs' b z c):=by
 by_cases hn:rmO a=-1/\rmO b=-1
 .let ea:=_pM t.a hn.1;let eb:=_pM t.b hn.2;subst ea eb;show#[.R #[rfl,rfl],.R #[rfl,rfl]]
 let hm:jQ a b>K:=cp.resolve_left hn;let hi:=List.idxOf_lt_length_of_mem hm;let nq:K.s (K.idxOf (jQ a b)) .j=jQ a b:=by rw[X2,X1 hi,List.getElem_idxOf];rfl
 let#[er,dy]:=m.room _ hi;let#[r',f8,n6]:=(_rF hP hk ak aj m).2 (K.idxOf (jQ a b)) (by ext vZ;rw[X3];show hi);let hg:(vZ rs rs' K).s (K.idxOf (jQ a b)) 0=((jZ (nms a) (nms b)).B:Int):=by
  rw[_rD hP hk ak aj t];ext vZ;rw[X2,X7,X1 hi,List.getElem_idxOf];rfl
 let lp:=_rD hP hk ak aj t;rw [nq]at er dy;rw [er]at f8;cases _aa f8;rw [hg]at n6;let#[gd,st,est,jc]:=n6;let b6:(ss.E λz=>D.S ((VJ ss rs rs' (jQ a b) z).E (vz K)))=st:=by
  injection est with est
  grind
 let#[e1,e2,e3,e4]:=_rA hP hk ak aj (_qk hP hk ak aj t.a t.b t.na t.nb) c;let hpo:=_pU hP hk ak aj (ZV t.a t.b hk);let tP:=Rc.two hP hk ak aj #[a,b,t,rfl];let hf:vz K (a,b)=.M [.C (K.idxOf (jQ a b):Nat),iT (jZ (nms a) (nms b))]:=Xe hn;rw [hf]
 suffices hs:vz K (rdF ss rs a z c,rdF ss rs' b z c)=vX ss st (jZ (nms a) (nms b)) z c/\Inn K (rdF ss rs a z c,rdF ss rs' b z c)from
  #[.Z #[_,_,st,_,_,rfl,.q,by rw[Xp,er,est],jc,.q,hs.1],hs.2]
 generalize hks:jZ (nms a) (nms b)=ks at *;ext vX;cases hz:(ss.è λw=>w==z)with
 | false=>
  rw[_ry hz,_ry hz];show#[rfl,.R #[rfl,rfl]]
 | true=>
  let#[z',t5,hze]:=List.any_eq_true.mp hz;let ku:(ks.y λw=>w==c)<pO rs rs' (jQ a b)+1:=by
   let:=List.findIdx_le_length (p:=λw=>w==c) (xs:=ks);lia
  generalize hP0:jQ a b=P at *;let#[a1,a2]:=_p8 (f:=C.nameAt ks c) (z:=z) (c:=((ks.y λw=>w==c:Nat):Int)) hP hk tP.a λx hx e=>e4 x (.R (Q4 hx)) _ (.Z rfl) e
  let#[b1,b2]:=_p8 (f:=C.nameAt ks c) (z:=z) (c:=((ks.y λw=>w==c:Nat):Int)) ak aj tP.b λx hx e=>e4 x (.R (Qx hx)) _ (.Z rfl) e
  rw[<-e1,e3]at a1;rw[<-e2,e3]at b1;let inj:=λn hn x hx e=>e4 x ((b2 x hx).imp Qx id) n ((a2 n hn).imp Q4 id) e
  let vg:wv ss st ks z c=vz K (rdF ss rs (pS rs P) z (ks.y λw=>w==c:Nat),rdF ss rs' (pT rs rs' P) z (ks.y λw=>w==c:Nat)):=by
   ext wv;let hfz:ss[ss.y λw=>w==z]?=@z:=by
    rw[X1 (_oc hz)];let:=List.findIdx_getElem (xs:=ss) (p:=λw=>w==z) (w:=_oc hz);rw[eq_of_beq this]
   rw[<-b6,X7,hfz];change((VJ ss rs rs' P z).E (vz K)).s _ .j=_;ext VJ vY;rw[X2,X7,X7,Yw ku];rfl
  let wy:=dy z (eq_of_beq hze▸t5) _ (List.mem_map.å #[_,List.mem_range.å ku,rfl]);rw[Xa rfl,vg,a1,b1];generalize rdF ss rs (pS rs P) z (ks.y λw=>w==c:Nat)=A at *;generalize rdF ss rs' (pT rs rs' P) z (ks.y λw=>w==c:Nat)=B' at *;let hpd:=_oH inj;show#[?_,?_]
  .ext vz;right;rw[QK,QK,hpd,Jw,Jw]
   by_cases hq:rmO A=-1/\rmO B'=-1
   .rw[Xa hq,Xa hq];rfl
   .rw[Xe hq,Xe hq,caseD_is,_ql λn hn x hx e=>(inj x hx n hn e.i).i]
  .unfold Inn at wy ⊢;dsimp only at wy ⊢
   rwa [QK,QK,hpd]
#where in
def _rI{K aa}(m:Made kps a9 w ss rs rs' K aa):∀L {a b},Two kps a9 a b->Inn K (a,b)->Ch2 (vZ rs rs' K) ss aa (vz K (a,b)) L (vz K (run ss rs a L,run ss rs' b L))/\Inn K (run ss rs a L,run ss rs' b L)/\Two kps a9 (run ss rs a L) (run ss rs' b L)
 |[],a,b,t,h=>#[rfl,h,t]
 |x::L,a,b,t,h=>by
  let#[s1,s2]:=sim hP hk ak aj x.1 x.2 m t h;let#[q1,q2]:=_rI m L (t.next x.1 x.2 hP hk ak aj) s2;show#[#[_,s1,q1],q2]
#where in
def _rJ{K aa a b}(hw:w>(["both","either","first","one"]:List Str))(m:Made kps a9 w ss rs rs' K aa)(t:Two kps a9 a b)(cp:Inn K (a,b)):goodD aa (vz K (a,b))=byW w (gdF rs (rmO a)) (gdF rs' (rmO b)):=by
 ext vz
 split
 .revert hn;rw[hn.1,hn.2];simp at hw;let rfl\/rfl\/rfl\/rfl:=hw<;>rfl
 .revert hn;let hi:=List.idxOf_lt_length_of_mem (cp.resolve_left hn);let#[e,_]:=m.room _ hi;ext goodD;right;rw[Xp,e,X2,X1 hi,List.getElem_idxOf];rfl
end
end J
namespace Nk64
open PySem Q
def m_is_small : Fn:= J.m_is_small
def m_read_by : Fn:= C.m_read_by
def m_is_good_in : Fn:= B.m_is_good_in
def m_agrees : Fn:= B.m_agrees
def m_keepers_in : Fn:= B.m_keepers_in
def m_standing_in : Fn:= B.m_standing_in
def m_first_standings : Fn:= B.m_first_standings
def m_names_of : Fn:= B.m_names_of
def m_held_by_both : Fn:= B.m_held_by_both
def m_room_of : Fn:= B.m_room_of
def m_pair_of : Fn:= B.m_pair_of
def m_read_by_both : Fn:= B.m_read_by_both
def m_steps_from : Fn:= U.m_steps_from
def _rK:Fn:=fn 1
  (jJ (cF1 (pu1 _io) (vE (cLC .rt 1 [] (itS (cH (jk (vV 0) (C9 2)))) (.n 0) tYes (cF2 (pu2 zY) (vE (cC .j)) (vV 0))))))
def _rL:Fn:=fn 2
  (jJ (cLC .rt 1 [0] (itS (cV 1)) (.n 0) tYes (cIf (tE (cF2 (f2First fIsNon) (vV 0) (vE (cC .j)))) (kz .X [(cV 1),(kz .X [])]) (cV 0))))
def Kv:Fn:=fn 3
  (j6 (jw 1 (cF1 (pu1 v3) (jk (vV 0) (C9 1))))
  (j6 (jw 2 (cLC .rt 1 [1] (itS (cH (jk (vV 0) (C9 1)))) (.n 0) tYes (kz .X [(cH (jk (vV 0) (C9 0))),(_eg (jk (vV 0) (C9 1))),(cLC .rt 1 [1] (itS (cH (jk (vV 0) (C9 2)))) (.n 0) tYes (jv _rL [(cV 1),(cV 0)]))])))
  (j6 (sIf (tEQ (vE (cF1 (pu1 _io) (vE (cLC .rt 1 [] (itS (cH (jk (vV 0) (C9 1)))) (.n 0) tYes (jv _rK [(cV 0)])))))) (vx vK 2 (kz .X [(cC (.C 0)),(cC (.bl true)),(cLC .rt 1 [1] (itS (cH (jk (vV 0) (C9 0)))) (.n 0) tYes (qx .rt [(kz .X [(cV 1),(kz .X [])])]))])) k6)
  (jJ (kz .X [(cF1 Wv (jk (vV 0) (C9 0))),(cV 2)])))))
def m_is_good_by : Fn:= J.m_is_good_by
def m_joined_case : Fn:= J.m_joined_case
def m_joined_room : Fn:= J.m_joined_room
def z5:Fn:=fn 5
  (j6 (sIf (tOr (tE (cF2 (pu2 zw) (vV 0) (vE (cC (.M [(.e "both"),(.e "either"),(.e "first"),(.e "one")]))))) (tE (cF2 (pu2 fNe) (jk (vV 1) (C9 0)) (jk (vV 2) (C9 0))))) WX k6)
  (j6 (sIf (tOr (tNot (tEQ (vE (jv m_is_small [(cV 1)])))) (tNot (tEQ (vE (jv m_is_small [(cV 2)]))))) WX k6)
  (j6 (jw 3 (_h1 (cC (.M [(.C 0),(.C 0),(.M [])])) (cC (.C 0))))
  (j6 (jw 4 (qx .rt []))
  (j6 (Jq (tE (cF2 (pu2 fLt) (vE (cF1 (pu1 v3) (vV 4))) (vE (cF1 (pu1 ZJ) (vV 3))))) (j6 (sIf (tE (cF2 (pu2 fGt) (vE (cF1 (pu1 ZJ) (vV 3))) (C9 40))) WX k6)
  (vx vK 4 (_in m_joined_room 3 [(cV 0),(cV 1),(cV 2),(cH (jk (vE (cF1 Zz (vV 3))) (vE (cF1 (pu1 v3) (vV 4)))))]))))
  (jJ (kz .X [(kz .X [(cF1 Wv (jk (vV 1) (C9 0))),(cV 4)]),(cF1 Zz (vV 3))])))))))
def m_least_beside : Fn:= U.m_least_beside
def m_parting_row : Fn:= U.m_parting_row
def m_steps_to : Fn:= U.m_steps_to
def m_searched : Fn:= U.m_searched
def m_compared:Fn:=fn 3
  (j6 (sIf (tE (cF2 (pu2 fNe) (jk (vV 0) (C9 0)) (jk (vV 1) (C9 0)))) WX k6)
  (j6 (sIf (tOr (tNot (tEQ (vE (jv m_is_small [(cV 0)])))) (tNot (tEQ (vE (jv m_is_small [(cV 1)]))))) WX k6)
  (jJ (jv m_searched [(cV 0),(cV 1),(cIf (tE (cF2 (f2First fIsNon) (vV 2) (vE (cC .j)))) (cC (.M [(.C 0),(.C 0),(.M [])])) (cV 2))]))))
def m__law_cell_at : Fn:= B.m__law_cell_at
def m__law_whole : Fn:= B.m__law_whole
def m__law_stream : Fn:= B.m__law_stream
def m__law_signs : Fn:= B.m__law_signs
def m__law_fills : Fn:= B.m__law_fills
def m__law_case : Fn:= B.m__law_case
def m__law_read : Fn:= B.m__law_read
def m__law_keepers : Fn:= B.m__law_keepers
def m__law_pair : Fn:= B.m__law_pair
def m__law_is_pair : Fn:= B.m__law_is_pair
def m__law_firsts : Fn:= Y.m__law_firsts
def m__law_behind_all : Fn:= Y.m__law_behind_all
def m__law_good : Fn:= Y.m__law_good
def m__law_table : Fn:= Y.m__law_table
def m__law_most : Fn:= Y.m__law_most
def _rM:Fn:=fn 12
  (j6 (jw 2 (jv m__law_stream [(cV 0),(cC (.C 30))]))
  (j6 (jw 3 (cF2 kZ (C9 1) (vE (cF2 (pu2 x4) (jk (vV 2) (C9 0)) (C9 3)))))
  (j6 (jw 4 (cF2 kZ (vE (qx .rt [(cC (.C 0))])) (vE (cLC .rt 1 [2] (xz (vE (cF2 (pu2 _ee) (vV 3) (C9 1)))) (.n 0) tYes (cF2 (pu2 x4) (jk (vV 1) (vE (cF2 kZ (C9 1) (vV 0)))) (C9 2))))))
  (j6 (jw 5 (qx .rt []))
  (j6 (jw 6 (cC (.C 5)))
  (j6 (qW (xz (vV 3)) (.n 7) (j6 (jw 8 (qx .rt []))
  (j6 (qW (xz (vE (cF1 (pu1 v3) (vV 1)))) (.n 9) (j6 (jw 10 (qx .rt []))
  (j6 (qW (xz (vE (cF2 kZ (jk (vV 4) (vV 7)) (C9 1)))) (.n 11) (j6 (vx vK 10 (jv m__law_case [(cH (jk (vV 2) (vV 6))),(cV 4),(cF2 kZ (jk (vV 4) (vV 7)) (vE (cF1 (pu1 Q2) (vE (cF2 (pu2 fEq) (vV 11) (jk (vV 4) (vV 7)))))))]))
  (jw 6 (cF2 kZ (vV 6) (C9 1)))))
  (vx vK 8 (cV 10)))))
  (j6 (vx vK 5 (kz .X [(cH (jk (vV 4) (vV 7))),(cF2 (pu2 fEq) (vE (cF2 (pu2 x4) (jk (vV 2) (vV 6)) (C9 2))) (C9 0)),(cV 8)]))
  (jw 6 (cF2 kZ (vV 6) (C9 1)))))))
  (jJ (kz .X [(cF1 Wv (vV 1)),(cV 5)]))))))))
def W0:Fn:=fn 1
  (jJ (zW (vE (cF2 (pu2 fLe) (vE (cF1 (pu1 v3) (jk (vV 0) (C9 1)))) (C9 12))) (cF2 (pu2 fLe) (vE (jv m__law_most [(cV 0)])) (C9 3))))
def JJ:Fn:=fn 3
  (j6 (sIf (tOr (tNot (tEQ (vE (jv W0 [(cV 0)])))) (tNot (tEQ (vE (jv W0 [(cV 1)]))))) (jJ (cC (.bl true))) k6)
  (j6 (jw 2 (_mu m_compared [(cV 0),(cV 1)]))
  (jJ (zW (vE (cF2 (pu2 fEq) (jk (vV 2) (C9 0)) (vE (cC (.e "alike"))))) (jv m__law_table [(cV 0),(cV 1),(kz .X [(cC (.C 0)),(cC (.C 0)),(kz .X [])]),(cH (jk (vV 2) (C9 1)))])))))
def _rN:Fn:=fn 3
  (j6 (sIf (tOr (tNot (tEQ (vE (jv W0 [(cV 1)])))) (tNot (tEQ (vE (jv W0 [(cV 2)]))))) (jJ (cC .j)) k6)
  (jJ (cH (jk (vE (jv z5 [(cV 0),(cV 1),(cV 2)])) (C9 0)))))
def _rO:Fn:=fn 2
  (jJ (cOr (vE (cF2 (f2First fIsNon) (vV 1) (vE (cC .j)))) (zW (vE (jv JJ [(cV 0),(cV 1)])) (jv JJ [(cV 1),(cV 0)]))))
def m_law:Fn:=fn 9
  (j6 (jw 1 (cSl (vE (jv m__law_signs [(jv m__law_cell_at [(cV 0),(cC (.C 0))])])) none @(C9 2)))
  (j6 (jw 2 (jv _rM [(jv m__law_cell_at [(cV 0),(cC (.C 1))]),(cV 1)]))
  (j6 (jw 3 (jv _rM [(jv m__law_cell_at [(cV 0),(cC (.C 2))]),(cV 1)]))
  (j6 (jw 4 (cH (jk (vE (jv z5 [(cC (.e "either")),(cV 2),(cV 3)])) (C9 0))))
  (j6 (jw 5 (jv _rN [(cC (.e "both")),(jv Kv [(cV 2)]),(jv Kv [(cV 3)])]))
  (j6 (sIf (tAnd (tE (cF2 (f2First fNotNon) (vV 5) (vE (cC .j)))) (tNot (tEQ (vE (jv JJ [(cV 4),(jv Kv [(cV 5)])]))))) (jJ (cC (.bl false))) k6)
  (j6 (jw 6 (cH (jk (vE (jv z5 [(cC (.e "first")),(cV 2),(cV 3)])) (C9 0))))
  (j6 (jw 5 (jv _rN [(cC (.e "both")),(cV 2),(jv Kv [(cV 3)])]))
  (j6 (sIf (tNot (tEQ (vE (jv _rO [(cV 6),(cV 5)])))) (jJ (cC (.bl false))) k6)
  (j6 (jw 7 (cH (jk (vE (jv z5 [(cC (.e "one")),(cV 2),(cV 3)])) (C9 0))))
  (j6 (jw 5 (jv _rN [(cC (.e "either")),(cV 6),(cH (jk (vE (jv z5 [(cC (.e "first")),(cV 3),(cV 2)])) (C9 0)))]))
  (j6 (sIf (tNot (tEQ (vE (jv _rO [(cV 7),(cV 5)])))) (jJ (cC (.bl false))) k6)
  (j6 (sIf (tNot (tEQ (vE (jv JJ [(cV 4),(cH (jk (vE (jv z5 [(cC (.e "either")),(cV 3),(cV 2)])) (C9 0)))])))) (jJ (cC (.bl false))) k6)
  (j6 (sIf (tNot (tEQ (vE (jv JJ [(cH (jk (vE (jv z5 [(cC (.e "both")),(cV 2),(cV 3)])) (C9 0))),(cH (jk (vE (jv z5 [(cC (.e "both")),(cV 3),(cV 2)])) (C9 0)))])))) (jJ (cC (.bl false))) k6)
  (j6 (qW (itS (qx .rt [(cC (.e "both")),(cC (.e "either"))])) (.n 8) (sIf (tNot (tEQ (vE (jv JJ [(cV 2),(cH (jk (vE (jv z5 [(cV 8),(cV 2),(cV 2)])) (C9 0)))])))) (jJ (cC (.bl false))) k6))
  (jJ (jv JJ [(cV 2),(jv Kv [(jv Kv [(cV 2)])])])))))))))))))))))
end Nk64
namespace Nk64
open Q PySem C B J U Y
section
variable {kps a9:List Int}{ss:List Str}{rs rs':List D}
def Rch(ss:List Str)(rs rs':List D)(P:D):Prop:=∃w:Lw,(∀x>w,x.1>ss)/\P=jQ (run ss rs S0 w) (run ss rs' S0 w)
def above:∀l:List Int,∃m,∀x>l,x<m
 |[]=>#[0,nofun]
 |a::l=>by
  let#[m,h]:=above l;show#[max m (a+1),λx hx=>?_];let rfl\/hx:=aD hx
  .lia
  .let:=h x hx;lia
#where in
def _rP(hP:Prs kps ss.B rs)(hk:Abk kps)(ak:Prs a9 ss.B rs')(aj:Abk a9):∀(w:Lw) {a b},Two kps a9 a b->Two kps a9 (run ss rs a w) (run ss rs' b w)
 |[],_,_,t=>t|x::w,_,_,t=>_rP hP hk ak aj w (t.next x.1 x.2 hP hk ak aj)
def _rQ{P z}{i:Int}(hP:Prs kps ss.B rs)(hk:Abk kps)(ak:Prs a9 ss.B rs')(aj:Abk a9)(h0:kps[0]?=@0)(ei:a9[0]?=@0)(h:Rch ss rs rs' P)(hz:z>ss)(i0:0<=i)(i1:i<=pO rs rs' P):Rch ss rs rs' (v7 ss rs rs' P z i):=by
 let#[w,hw,rfl]:=h;let t:=_rP hP hk ak aj w (Jx h0 ei);generalize ea:run ss rs S0 w=a at *;generalize eb:run ss rs' S0 w=b at *;let hr:=_qk hP hk ak aj t.a t.b t.na t.nb;let hl:=_qo hr;obtain⟨c,hc⟩:∃c,Lk (pO rs rs' (jQ a b)) a b i c:=by
  by_cases hi:i<pO rs rs' (jQ a b)
  .show#[_,.R #[i0,hi,X1 (show i.L<(jZ (nms a) (nms b)).B by lia)]]
  .let#[m,hm]:=above (jZ (nms a) (nms b));show#[m,.Z #[.q,λh=>Int.lt_irrefl _ (hm m h)]]
 show#[w++[(z,c)],λx hx=>?_,?_]
 .let hx\/hx:=aA hx
  .show hw x hx
  .rw[aC hx];show hz
 .rw[U.run_snoc,U.run_snoc,ea,eb,_qp hP hk ak aj (ZV t.a t.b hk) hr hc]
def _rR{P}(hP:Prs kps ss.B rs)(hk:Abk kps)(ak:Prs a9 ss.B rs')(aj:Abk a9)(h0:kps[0]?=@0)(ei:a9[0]?=@0)(h:Rch ss rs rs' P):∃w:Lw,(∀x>w,x.1>ss)/\P=jQ (run ss rs S0 w) (run ss rs' S0 w)/\Two kps a9 (run ss rs S0 w) (run ss rs' S0 w):=by
 let#[w,hw,e]:=h;show#[w,hw,e,_rP hP hk ak aj w (Jx h0 ei)]
structure Ws (kps a9:List Int)(ss:List Str)(rs rs':List D)(W:U.Kvs):Prop where
 nd:(W.E (·.1)).l
 rch:∀k>W.E (·.1),Rch ss rs rs' k
 pin:∀k>W.E (·.1),Pin kps a9 rs rs' k
 all:∀k>W.E (·.1),k>AllQ
def Ws.le{W}(h:Ws kps a9 ss rs rs' W):W.B<=5746:=by
 let:=_n6 h.nd h.all
 rwa [X3,_q5]at this
def Ws.unm{W}(h:Ws kps a9 ss rs rs' W):unm W=true:=by
 cases W with
 |nil=>rfl
 |cons e W=>
  let#[k,v]:=e;let#[p,q,sh,rfl,_]:=(h.pin k X5).ok;rfl
def Ws.more{k v W}(h:Ws kps a9 ss rs rs' W)(hk:k∉W.E (·.1))(hr:Rch ss rs rs' k)(oe:Pin kps a9 rs rs' k)(ml:k>AllQ):Ws kps a9 ss rs rs' (W++[(k,v)]):=by
 let up:∀{p:D->Prop},(∀x>W.E (·.1),p x)->p k->∀x>(W++[(k,v)]).E (·.1),p x:=λa b x hx=>by
  rw[Xd]at hx;let hx\/hx:=aA hx
  .show a x hx
  .rw[aC hx];show b
 show#[?_,up h.rch hr,up h.pin oe,up h.all ml];rw[Xd];show List.nodup_append.å #[h.nd,by simp,λa ha b hb e=>?_];let hb:b=k:=aC hb;rw[hb]at e;show hk (e▸ha)
def Dn(ss:List Str)(rs rs':List D)(K:List D)(p:D):Prop:=gS rs p=gT rs' p/\∀z>ss,∀i:Int,0<=i->i<=pO rs rs' p->v7 ss rs rs' p z i>K
inductive SrA (kps a9:List Int)(ss:List Str)(rs rs':List D):Nat->En->Prop
 |mk (W:U.Kvs) (i:Nat) {o5:Own} {l6 l7 l8 l9:Option Sd} {n:Nat} (h0:Ws kps a9 ss rs rs' W) (h1:n=6000 - i) (h2:P0>W.E (·.1)) (h3:∀p>(W.E (·.1)).take i,Dn ss rs rs' (W.E (·.1)) p):SrA kps a9 ss rs rs' n [@(.X,jq ss rs),@(.X,jq ss rs'),@(.X,P0),@(.rt,.ÿ W),@(.rt,.S (W.E (·.1))),@(o5,.C i),l6,l7,l8,l9]
inductive SrB (kps a9:List Int)(ss:List Str)(rs rs':List D)(W:U.Kvs)(i:Nat)(k:D):En->List D->Prop
 |mk (W2 V:U.Kvs) (A L:St3) {o5 o6:Own} {l7 l8 l9:Option Sd} {ac:List D} (h0:Ws kps a9 ss rs rs' W2) (h1:W2=W++V) (h2:ac=L.E stD) (h3:Y.Stp ss rs rs' k L) (h4:∀x>A,x>L\/x.2.2>W2.E (·.1)) (h5:∀z>ss,∀i:Int,0<=i->i<=pO rs rs' k->(z,i,v7 ss rs rs' k z i)>A):SrB kps a9 ss rs rs' W i k [@(.X,jq ss rs),@(.X,jq ss rs'),@(.X,P0),@(.rt,.ÿ W2),@(.rt,.S (W2.E (·.1))),@(o5,.C i),@(o6,k),l7,l8,l9] ac
#where in
def _rS(hs:ss.B<=3)(lc:kps.B<=12)(fz:a9.B<=12)(hP:Prs kps ss.B rs)(hk:Abk kps)(ak:Prs a9 ss.B rs')(aj:Abk a9)(h0:kps[0]?=@0)(ei:a9[0]?=@0)
  (hg:∀w:Lw,(∀x>w,x.1>ss)->gdF rs (rmO (run ss rs S0 w))=gdF rs' (rmO (run ss rs' S0 w))):
  Oo U.m_searched [(.X,jq ss rs),(.X,jq ss rs'),(.X,P0)] (λy=>∃K:List D,y=(.X,.M [.e "alike",.S K])/\K.B<=6000/\K.l/\P0>K/\∀p>K,Pin kps a9 rs rs' p/\Dn ss rs rs' K p) noX:=by
 let hn:Rch ss rs rs' P0:=⟨[],(nofun),rfl⟩;let t0:=Jx h0 ei;let oe:Pin kps a9 rs rs' P0:=_rb hP hk ak aj t0;show k7 ?_;simp![↓_nx];show⟨(_rd oe).1,?_⟩;let b6:Ws kps a9 ss rs rs' [(P0,.j)]:=by
  let one:∀{p:D->Prop},p P0->∀k>[P0],p k:=λh k hk=>by rw[aC hk];show h
  show#[by simp,one hn,one oe,one (_rc lc fz hk aj t0)]
 show _no (SrA kps a9 ss rs rs') ?_ 6000 _ #[[(P0,.j)],0,b6,rfl,aB rfl,λp hp=>(nomatch hp)];intro n E hh;let#[W,i,hW,rfl,hP0,hD]:=hh;let hWl:=hW.le
 by_cases bf:i<W.B
 rotate_left
 .let hd:decide ((i)<(W.B:Int))=false:=Xm .q;simp![hd];rw [List.take_of_length_le (by rw[X3];lia)]at hD;show#[_,rfl,by rw[X3];lia,hW.nd,hP0,λp hp=>#[hW.pin p hp,hD p hp]]
 let hd:decide ((i)<(W.B:Int))=true:=Xh .q;obtain⟨k,hkW,ku,htk⟩:∃k>W.E (·.1),jY (.S (W.E (·.1))) (.C i)=@k/\(W.E (·.1))[i]?=@k:=by
  let hl:i<(W.E (·.1)).B:=by rw[X3];show bf
  show#[(W.E (·.1))[i],Xu hl,xj .q (by rw[Xp];show X1 hl),X1 hl]
 let nh:=hW.pin k hkW;let hkr:=hW.rch k hkW;let hgk:gS rs k=gT rs' k:=by
  let#[w,hw,e,t]:=_rR hP hk ak aj h0 ei hkr;let g:=hg w hw;let hr:=_qk hP hk ak aj t.a t.b t.na t.nb;rw [<-e]at hr;let#[g1,g2]:=_qq nh.ok hr
  rwa [g1,g2]at g
 let hag:Oo B.m_agrees [(.X,jq ss rs),(.X,jq ss rs'),(.X,k)] (λy=>∃o',y=(o',.bl true)/\True) noX:=by
  let e:(gS rs k==gT rs' k)=true:=by rw[hgk];simp
  rw [<-e];let#[p,q,sh,rfl,a0,a1,b0,b1,_]:=nh.ok;show _oU (J8 hP hk a0 a1).2.1 (J8 ak aj b0 b1).2.1
 generalize hR:j6 (qW _ _ _) _=R;simp![hd,ku];show hag.use ?_;intro _ _;simp![];subst hR;simp![];show wq (SrB kps a9 ss rs rs' W i k) ?_ ?_ ?_
 .simp![];show(Y.from_ok hs hP hk ak aj nh.ok).via ?_;intro y hy;let#[L,rfl,hL,hM]:=hy;simp![];show#[W,[],L,L,hW,by simp,rfl,hL,λx hx=>.R hx,hM]
 .intro E d ds hh;generalize hdd:d::ds=dd at hh;let#[W2,V,A,L,sg,rfl,bc,hL,hA,hM]:=hh;rw [bc]at hdd;cases L with
  | nil=>cases hdd
  | cons x L=>
   rw[List.V]at hdd;injection hdd with e1 e2;subst e1 e2;let#[z,c,d]:=x;let#[hz,c0,c1,hd]:=hL (z,c,d) X5;let hz:z>ss:=hz;let c0:0<=c:=c0;let c1:c<=pO rs rs' k:=c1;let hd:d=v7 ss rs rs' k z c:=hd;let htw:=nh.two.next (ss:=ss) (rs:=rs) (rs':=rs') z c hP hk ak aj
   let wb:Pin kps a9 rs rs' d:=hd▸_rb hP hk ak aj htw;let hda:d>AllQ:=hd▸_rc lc fz hk aj htw;let u3:Rch ss rs rs' d:=hd▸_rQ hP hk ak aj h0 ei hkr hz c0 c1;let uf:Y.Stp ss rs rs' k L:=λx hx=>hL x (_ad (z,c,d) hx)
   let hWl:=sg.le;let hn:=_nB (_rd wb).1 sg.unm
   by_cases hm:d>(W++V).E (·.1)
   .rw[Xh hm]at hn;simp![hn];show#[W++V,V,A,L,sg,rfl,rfl,uf,λx hx=>?_,hM];let q\/q:=hA x hx
    .let q\/q:=aD q
     .show .Z (q▸hm)
     .show .R q
    .show .Z q
   .rw[Xm hm]at hn;simp![hn];show _nz ?_;simp![];show#[#[W++V,rfl],W++V,rfl,(_rd wb).1,#[.q,sg.unm],?_];rw[show V7 (W++V) d (.M [k,.e z,.C c])=(W++V)++[(d,.M [k,.e z,.C c])]from Xe hm];simp![];show xX rfl ?_;simp![];let e4:((W++V)++[(d,D.M [k,.e z,.C c])]).E (·.1)=(W++V).E (·.1)++[d]:=by rw[Xd (l₁:=W++V)];rfl
    show#[_,rfl,by rw[X3];lia,?_];rw[<-e4];show .mk ((W++V)++[(d,.M [k,.e z,.C c])]) (V++[(d,.M [k,.e z,.C c])]) A L (sg.more hm u3 wb hda) (Xs _ _ _) rfl uf (λx hx=>?_) hM;rw[e4];let q\/q:=hA x hx
    .let q\/q:=aD q
     .show .Z (_ab _ (q▸aB rfl))
     .show .R q
    .show .Z (_ac _ q)
 .intro E hh;generalize hdd:([]:List D)=dd at hh;let#[W2,V,A,L,sg,rfl,bc,hL,hA,hM]:=hh;rw[bc]at hdd;cases L with
  |cons=>cases hdd
  |nil=>
  simp![];show _nJ rfl ?_;simp![];let fe:∀d>W.E (·.1),d>(W++V).E (·.1):=λd hd=>by rw[Xd];show _ac _ hd
  show#[_,rfl,6000 - (i+1),.q,W++V,i+1,sg,rfl,fe _ hP0,λp hp=>?_];let mf:((W++V).E (·.1)).take (i+1)=(W.E (·.1)).take i++[k]:=by
   rw[Xd,List.take_append_of_le_length (by rw[X3];lia),List.take_add_one,htk];rfl
  rw[mf]at hp;let hp\/hp:=aA hp
  .let#[d1,d2]:=hD p hp;show#[d1,λz hz j j0 j1=>fe _ (d2 z hz j j0 j1)]
  .rw[aC hp];show#[hgk,λz hz j j0 j1=>?_];let q\/q:=hA _ (hM z hz j j0 j1)
   .cases q
   .show q
end
def _rT:m__law_stream=B.m__law_stream:=rfl
def _rU:m__law_case=B.m__law_case:=rfl
inductive LiC (c:Int)(ss:List Str)(xs:List Int)(size:Int)(kps:List Int)(rs:List D)(r own:Int)(st:List D)(s:Int):En->List D->Prop
 |mk (k:Int) (ft:Int) (cs:List D) {o3 o4 o6:Own} {vn:Option Sd} {ac:List D} (h0:sub o4=.X) (h1:0<=k) (h2:k<=own+1) (h3:ac=kq k (own+1)) (h4:(cs.B:Int)=k) (h5:5<=ft) (h6:ft<=5+5*r+2*s+k) (h7:∀k:Nat,k<cs.B->∃z,cs[k]?=@z/\Cs kps (z3 own k) z):LiC c ss xs size kps rs r own st s [@(.X,.C c),@(.X,sL ss),@(.rt,iL xs),@(o3,.C size),@(o4,iL kps),@(.rt,.S rs),@(o6,.C ft),@(.X,.C r),@(.rt,.S st),@(.X,.C s),@(.rt,.S cs),vn] ac
inductive LiB (c:Int)(ss:List Str)(xs:List Int)(size:Int)(kps:List Int)(rs:List D)(r own:Int):En->List D->Prop
 |mk (s:Int) (ft:Int) (st:List D) {o3 o4 o6:Own} {l9 sv vn:Option Sd} {ac:List D} (h0:sub o4=.X) (h1:0<=s) (h2:s<=ss.B) (h3:ac=kq s ss.B) (h4:(st.B:Int)=s) (h5:5<=ft) (h6:ft<=5+5*r+2*s) (h7:∀c>st,∃cs:List D,c=.S cs/\(cs.B:Int)=own+1/\∀k:Nat,k<cs.B->∃z,cs[k]?=@z/\Cs kps (z3 own k) z):LiB c ss xs size kps rs r own [@(.X,.C c),@(.X,sL ss),@(.rt,iL xs),@(o3,.C size),@(o4,iL kps),@(.rt,.S rs),@(o6,.C ft),@(.X,.C r),@(.rt,.S st),l9,sv,vn] ac
inductive LiA (c:Int)(ss:List Str)(xs:List Int)(size:Int)(kps:List Int):En->List D->Prop
 |mk (r:Int) (ft:Int) (rs:List D) {l7 l8 l9 sv vn:Option Sd} {o3 o4 o6:Own} {ac:List D} (h0:sub o4=.X) (h1:0<=r) (h2:r<=size) (h3:ac=kq r size) (h4:(rs.B:Int)=r) (h5:5<=ft) (h6:ft<=5+5*r) (h7:∀i:Nat,i<rs.B->∃d,rs[i]?=@d/\Pr kps ss.B (kps.s i 0) d):LiA c ss xs size kps [@(.X,.C c),@(.X,sL ss),@(.rt,iL xs),@(o3,.C size),@(o4,iL kps),@(.rt,.S rs),@(o6,.C ft),l7,l8,l9,sv,vn] ac
def _rV(c)(ss)(hs:1<=ss.B)(fy:ss.B<=2):Oo _rM [(.X,.C c),(.X,sL ss)] (λy=>∃rs,y=(.X,jq ss rs)/\∃kps,1<=kps.B/\kps.B<=3/\kps[0]?=@0/\(∀p>kps,0<=p/\p<=1)/\Prs kps ss.B rs) noX:=by
 ext _rM;rw [_rT,_rU];show k7 ?_;simp![];show(_oP c 30 .q .q).use ?_;intro xs hx;let hxl:=hx.1;let ix:∀i,0<=i->i<30->∃v,jY (iL xs) (.C i)=@(.C v)/\0<=v:=λi i0 i1=>by
  let#[v,e,h,_]:=ixI xs _ hx.2 i i0 .q;show#[v,e,h.1]
 let#[v0,e0,a0]:=ix 0 .q .q;let q0:=Zn v0 (show(3:Int)≠0 by decide);let q1:=Z3 v0 (show(0:Int)<3 by decide);show _o6 (λE=>∃(o3:Own) (size:Int),E=[@(.X,.C c),@(.X,sL ss),@(.rt,iL xs),@(o3,.C size),none,none,none,none,none,none,none,none]/\1<=size/\size<=3) ?_ ?_
 .simp![e0];show#[_,_,rfl,.q,.q]
 intro E hh;let#[o3,size,rfl,sz0,sz1]:=hh;simp![];show Kw [@(.rt,iL xs)] (λ_ y=>∃i,y=(.dp,.C i)/\0<=i/\i<=1) ?_;simp![];show#[rfl,λd pe=>?_,λys hy=>?_]
 .let#[i,i0,i1,rfl]:=_n0 pe;let#[w,ew,aw]:=ix (1+i) .q .q;simp![ew];show#[#[_,rfl],_,rfl,.q,.q]
 let#[ks,h1,h2,h3]:=_nX (S:=λi=>0<=i/\i<=1) (λd y hz=>by let#[i,h,s]:=hz;show#[i,by rw[h],s]) hy;rw [wW,h1];dsimp[back,clr,at',List.V,List.map_nil,List.set_cons_zero,List.set_cons_succ];let si:((0::ks).B:Int)=size:=by rw[Xk];let:=_n1 (k:=0) (n:=size - 1) .q;lia
 let qo:∀p>(0::ks:List Int),0<=p/\p<=1:=λp hp=>by
  let rfl\/hp:=aD hp
  .show#[.q,.q]
  .show h3 p hp
 let hk3:∀p>(0::ks:List Int),0<=p/\p<=3:=λp hp=>by let:=qo p hp;lia
 let gz:kZ (.X,.S [.C 0]) (.X,.S (ks.E D.C))=@(.rt,iL (0::ks)):=_nb .q .q (by rw[X3];simp at si ⊢;lia);let ua:(0::ks:List Int)[0]?=@0:=rfl;simp![gz];generalize (0::ks:List Int)=kps at si qo hk3 gz ua;show wq (LiA c ss xs size kps) ?_ ?_ ?_
 .simp![];show#[0,5,[],rfl,.q,.q,rfl,rfl,.q,.q,nofun]
 .intro E d ds hh;generalize hdd:d::ds=dd at hh;let#[r,ft,rs,lx,r0,r1,hr,qf,wa,um,hrs]:=hh;rw [<-hdd]at hr;let#[hrk,rfl,rfl]:=QQ r1 hr;let#[own,eo,#[ow0,ow1],how]:=ixI kps _ qo r r0 .q;simp![];show wq (LiB c ss xs size kps rs r own) ?_ ?_ ?_
  .simp![];show#[0,ft,[],lx,.q,.q,rfl,rfl,.q,.q,nofun]
  .intro E d ds hh;generalize hdd:d::ds=dd at hh;let#[s,ft,st,lx,s0,s1,hr,km,wa,um,b6]:=hh;rw[<-hdd]at hr;let#[hsk,rfl,rfl]:=QQ s1 hr;simp![];show wq (LiC c ss xs size kps rs r own st s) ?_ ?_ ?_
   .simp![eo,lx];show#[0,ft,[],lx,.q,.q,rfl,rfl,.q,.q,nofun]
   .intro E d ds hh;generalize hdd:d::ds=dd at hh;let#[k,ft,cs,lx,k0,k1,hr,dy,wa,um,kg]:=hh;rw[<-hdd]at hr;let#[hkk,rfl,rfl]:=QQ k1 hr;let kr:ft<30:=.q
    let#[w,ew,aw]:=ix ft .q kr;let hb1:own+(if k=own then(1:Int)else 0)=z3 own k:=rfl;let hB0:0<=z3 own k/\z3 own k<=4:=by ext z3;split<;>lia
    simp![];show xX rfl ?_;simp![eo,ew,_na,_oa,hb1,lx];show(_oS w (z3 own k) kps hk3 ua .q hB0.1 .q).via ?_;intro y hy;simp![];show#[_,rfl,.q,k+1,ft+1,cs++[y.2],rfl,.q,.q,rfl,by simp;lia,.q,.q,?_];intro j hj;rw[Xb,Xy]at hj
    by_cases hj2:j<cs.B
    .let#[z,z1,z2]:=kg j hj2;show#[z,by rw[Xn hj2];show z1,z2]
    .let:j=cs.B:=.q
     subst this;show#[y.2,by simp,by rw[dy];show hy]
   .intro E hh;generalize hdd:([]:List D)=dd at hh;let#[k,ft,cs,lx,k0,k1,hr,dy,wa,um,kg]:=hh;rw[<-hdd]at hr;let:=Qk k1 hr;subst this;show xX rfl ?_;simp![];show#[_,rfl,.q,s+1,ft,st++[.S cs],lx,.q,.q,rfl,by simp;lia,.q,.q,λc hc=>?_];let z\/z:=aA hc
    .show b6 c z
    .rw[aC z];show#[cs,rfl,dy,kg]
  .intro E hh;generalize hdd:([]:List D)=dd at hh;let#[s,ft,st,lx,s0,s1,hr,km,wa,um,b6]:=hh;rw[<-hdd]at hr;let:=Qk s1 hr;subst this;let kr:ft<30:=.q
   let#[w,ew,_]:=ix ft .q kr;simp![];show xX rfl ?_;simp![eo,ew,_na,lx];show#[_,rfl,.q,?_];simp![];show LiA.mk (r+1) (ft+1) (rs++[.M [.C own,.bl (w % 2==0),.S st]]) lx ?_ ?_ rfl ?_ ?_ ?_ ?_
   .lia
   .lia
   .simp;lia
   .lia
   .lia
   intro j hj;rw[Xb,Xy]at hj
   by_cases hj2:j<rs.B
   .let#[z,z1,z2]:=hrs j hj2;show#[z,by rw[Xn hj2];show z1,z2]
   .let:j=rs.B:=.q
    subst this;show#[_,by simp;rfl,?_];let hg:kps.s rs.B 0=own:=by rw[X2,show rs.B=r.L by lia,how];rfl
    rw[hg];show#[_,st,rfl,.q,b6]
 .intro E hh;generalize hdd:([]:List D)=dd at hh;let#[r,ft,rs,lx,r0,r1,hr,qf,wa,um,hrs]:=hh;rw[<-hdd]at hr;let:=Qk r1 hr;subst this;simp![_n7 (o:=.X) (xs:=ss.E D.e) .q];show#[rs,rfl,kps,.q,.q,ua,qo,#[.q,λi hi=>hrs i .q]]
def _rW:m_is_small=J.m_is_small:=rfl
def _rX:m_joined_room=J.m_joined_room:=rfl
def Lv(P:D):Prop:=∀s,P≠.M [.C (-1),.C (-1),s]
def _rY{a b}(h:¬(rmO a=-1/\rmO b=-1)):Lv (jQ a b):=λs e=>by
 unfold jQ at e;injection e with e;injection e with e1 e;injection e with e2 _;injection e1 with e1;injection e2 with e2;show h #[e1,e2]
section
variable {kps a9:List Int}{ss:List Str}{rs rs':List D}
def Qp(ss:List Str)(rs rs':List D)(P:D):Prop:=Rch ss rs rs' P/\Lv P
def _rZ{p:D->Prop}{K x}(h:∀d>K,p d)(hx:¬(rmO x.1=-1/\rmO x.2=-1)->p (jQ x.1 x.2)):∀d>(vJ K x).1,p d:=by
 intro d hd;unfold vJ at hd
 by_cases hn:rmO x.1=-1/\rmO x.2=-1
 .rw[Xa hn]at hd;show h d hd
 .rw[Xe hn]at hd;let hd:d>x6 K (jQ x.1 x.2):=hd;unfold x6 at hd
  by_cases hm:jQ x.1 x.2>K
  .rw[Xa hm]at hd;show h d hd
  .rw[Xe hm]at hd;let hd\/hd:=aA hd
   .show h d hd
   .rw[aC hd];show hx hn
def _r0{p:D->Prop}{l}:∀{K},(∀d>K,p d)->(∀x>l,¬(rmO x.1=-1/\rmO x.2=-1)->p (jQ x.1 x.2))->∀d>(v5 l K).1,p d:=by
 induction l with|nil=>show λh _=>h|cons x l ih=>show λh hl=>ih (_rZ h (hl x X5)) λy hy=>hl y (_ad _ hy)
def _r1{p:D->Prop}{S T own zs}:∀{K},(∀d>K,p d)->(∀z>zs,∀x>vY ss rs rs' S T own z,¬(rmO x.1=-1/\rmO x.2=-1)->p (jQ x.1 x.2))->∀d>(qZ ss rs rs' S T own zs K).1,p d:=by
 induction zs with|nil=>show λh _=>h|cons z zs ih=>show λh hl=>ih (_r0 h (hl z X5)) λy hy=>hl y (_ad _ hy)
section
variable (hP:Prs kps ss.length rs)(hk:Abk kps)(ak:Prs a9 ss.length rs')(aj:Abk a9)(h0:kps[0]?=⇑0)(ei:a9[0]?=⇑0)
include hP hk ak aj h0 ei
def _r2{w K aa}(h:∀d>K,Qp ss rs rs' d)(bf:aa.B<K.B):∀d>(Wq w ss rs rs' K aa).1,Qp ss rs rs' d:=by
 let cp:K.s aa.B .j>K:=by rw[X2,X1 bf];show Xu _
 show _r1 h λz hz x hx hn=>#[?_,_rY hn]
 let#[c,hc,rfl]:=aE hx;let:=List.mem_range.mp hc;show _rQ hP hk ak aj h0 ei (h _ cp).1 hz .q .q
inductive JoA (kps a9:List Int)(w:Str)(ss:List Str)(rs rs':List D):Nat->En->Prop
 |mk (K aa:List D) {n:Nat} (h1:Mst kps a9 K aa) (h2:∀P>K,Qp ss rs rs' P) (h3:n=200 - aa.B) (h4:∀r,RunJ w ss rs rs' K aa r->RunJ w ss rs rs' [P0] [] r):JoA kps a9 w ss rs rs' n [@(.X,.e w),@(.X,jq ss rs),@(.X,jq ss rs'),@(.rt,.ÿ (F.zipI K)),@(.rt,.S aa)]
def _r3{w}(hw:w>(["both","either","first","one"]:List Str))(hs:ss.B<=3)(lc:kps.B<=12)(fz:a9.B<=12)(i7:∀K:List D,K.l->(∀P>K,Qp ss rs rs' P)->K.B<=40):
  Oo z5 [(.X,.e w),(.X,jq ss rs),(.X,jq ss rs')] (λy=>∃K aa,y=(.X,.M [jq ss aa,.S K])/\Made kps a9 w ss rs rs' K aa) noX:=by
 let hwn:zw (.e w) (.M [.e "both",.e "either",.e "first",.e "one"])=@(.bl false):=by
  dsimp[Yp,Y8,or_false]at hw;let rfl\/rfl\/rfl\/rfl:=hw<;>rfl
 let q0:∀a b,jY (.M [a,b]) (.C 0)=@a:=λ_ _=>rfl
 let be:fNe (sL ss) (sL ss)=@(.bl false):=_n5 (show D.flats 39 (ss.E D.e)=true from Q8 λd hd=>by let#[w,_,rfl]:=aE hd;rfl);let jr:=small_is (d0:=sL ss) (_p4 hP);let cw:=small_is (d0:=sL ss) (_p4 ak);rw[_p5 hP hk lc]at jr;rw[_p5 ak aj fz]at cw;ext z5;rw[_rW,_rX];show k7 ?_;simp![hwn,q0,be];show jr.è.use ?_;intro _ _;simp![];show cw.è.use ?_;intro _ _;simp![↓_nx];show#[_pK 0 0 [],?_];let b6:Mst kps a9 [P0] []:=#[#[by simp,λd hd=>by rw[aC hd];show#[0,0,[],rfl]],λd hd=>by rw[aC hd];show ZV (Jx h0 ei).a (Jx h0 ei).b hk,Ya _];let hq0:∀P>[P0],Qp ss rs rs' P:=λd hd=>by
  rw[aC hd];show#[#[[],(nofun),rfl],_rY (a:=S0) (b:=S0) .q]
 show _no (JoA kps a9 w ss rs rs') ?_ 200 _ #[[P0],[],b6,hq0,rfl,λr h=>h];intro n E hh;let#[K,aa,hm,hq,rfl,wg]:=hh;let hu:=_pL hm.kj.ok;let gw:=hm.le;let h40:=i7 K hm.kj.nd hq;let ng:(F.zipI K).B=K.B:=F.zip_len K 0;let p8:∀o,Zz (o,.ÿ (F.zipI K))=@(.rt,.S K):=λo=>by
  rw[_nA (by rw[ng];lia) hu];ext F.zipI;rw[F.zip_keys]
 by_cases bf:aa.B<K.B
 .let hd:decide ((aa.B:Int)<(K.B:Int))=true:=Xh .q;let hg:fGt (.C K.B) (.C 40)=@(.bl false):=by rw[gt_ii,Xm .q]
  let nq:K[aa.B]?=@(K.s aa.B .j):=by rw[X1 bf,X2,X1 bf];rfl
  let ku:jY (.S K) (.C aa.B)=@(K.s aa.B .j):=xj .q (by rw[Xp];show nq);let cp:K.s aa.B .j>K:=Yh nq;let wo:=_r2 (w:=w) hP hk ak aj h0 ei hq bf;simp![_nP hu,ng,hd,hg];show xX rfl (_nW ?_);simp![p8,ku];show#[_,rfl,(_oq (w:=w) hs hP hk ak aj (hm.ok _ cp) hm.kj .q).ý (λy x' h=>?_) λc h=>h.ß];let#[rfl,rfl]:=h;show#[aa,rfl,.q,_,?_,.mk _ _ (_p0 (w:=w) hP hk ak aj hm bf) wo rfl λr h=>wg r (.go bf h40 h)];change 200 - (aa++[_]).B<_;rw[Xb,Xy];lia
 .let hd:decide ((aa.B:Int)<(K.B:Int))=false:=Xm .q;simp![_nP hu,ng,hd,p8,q0,_n7 (o:=.X) (xs:=ss.E D.e) .q];show#[K,aa,rfl,_rB hP hk ak aj h0 ei (wg _ (.stop bf)) hm]
end
def _r4{kps1 kps2}{s a b:D}{x}(h1:Rd kps1 ss rs s x a)(h2:Rd kps2 ss rs s x b):a=b:=by
 let#[rfl,rfl]\/#[r,ks,st,kp,gd,rfl,_,e,_,_,rfl]:=h1
 .let#[_,rfl]\/#[_,_,_,_,_,e,_]:=h2
  .rfl
  .cases e
 .let#[e,_]\/#[r',n9,fj,kp',gd',e',_,e2,_,_,rfl]:=h2
  .cases e
  .injection e' with e';injection e' with e1 e';injection e' with e3 _;injection e1 with e1;injection e3 with e3;subst e1;rw[e]at e2;let e2:=_aa e2;injection e2 with e2;injection e2 with _ e2;injection e2 with _ e2;injection e2 with e2 _;injection e2 with e2;rw[e2,(Yo λa b h=>by injection h).mp e3]
def _r5{kps1 kps2}{L:Lw}:∀{s a b:D},Ch2 kps1 ss rs s L a->Ch2 kps2 ss rs s L b->a=b:=by
 induction L with
 |nil=>show λh1 h2=>Eq.H (Eq.i h1) h2
 |cons x L ih=>
  intro s a b h1 h2;let#[m,a1,a2]:=h1;let#[m',b1,b2]:=h2;rw[<-_r4 a1 b1]at b2;show ih a2 b2
def _r6(S:Sn):YW (stn S)=S:=by
 cases S with
 |none=>rfl
 |some x=>
  change @(x.1,(x.2.E D.C).E VY)=@x;rw[Xi];show congrArg some (Prod.ext rfl (List.map_id _))
def _p6{S T:Sn}(h:stn S=stn T):S=T:=by rw[<-_r6 S,h,_r6]
def jn(K:List D)(a b:Sn):Sn:=if rmO a=-1/\rmO b=-1 then none else @((K.idxOf (jQ a b):Nat),jZ (nms a) (nms b))
def _r7(K a b):vz K (a,b)=stn (jn K a b):=by
 ext vz jn
 by_cases h:rmO a=-1/\rmO b=-1
 .rw[Xa h,Xa h];rfl
 .rw[Xe h,Xe h];rfl
section
variable (hP:Prs kps ss.length rs)(hk:Abk kps)(ak:Prs a9 ss.length rs')(aj:Abk a9)(h0:kps[0]?=⇑0)(ei:a9[0]?=⇑0)
include hP hk ak aj h0 ei
def _r8{w K aa}(m:Made kps a9 w ss rs rs' K aa)(h3:∀p>vZ rs rs' K,p<=3)(u:Lw):run ss aa S0 u=jn K (run ss rs S0 u) (run ss rs' S0 u)/\Inn K (run ss rs S0 u,run ss rs' S0 u)/\(w>(["both","either","first","one"]:List Str)->gdF aa (rmO (run ss aa S0 u))=byW w (gdF rs (rmO (run ss rs S0 u))) (gdF rs' (rmO (run ss rs' S0 u)))):=by
 let t0:=Jx h0 ei;let hK:∃tl,K=P0::tl:=by
  let:=m.st;cases K with|nil=>cases this|cons a K=>show#[K,by rw[show a=P0 from _aa this]]
 let#[tl,eK]:=hK;let cp:Inn K (S0,S0):=.Z (by rw[eK];show X5);let#[c1,c2,t]:=_rI hP hk ak aj m u t0 cp;let hPJ:=_rF hP hk ak aj m;let hkJ:∀p>vZ rs rs' K,0<=p/\p<=3:=λp hp=>#[(_rG hP hk ak aj m p hp).1,h3 p hp]
 let k0:=_rH hP hk ak aj h0 ei m;let#[d1,d2]:=_qA hPJ hkJ u (Jx k0 k0).a;let e0:vz K (S0,S0)=stn S0:=by
  rw[_r7];ext jn;rw[Xe .q,eK,show jQ S0 S0=P0 from rfl,List.idxOf_cons_self];rfl
 rw[e0,_r7]at c1;let e:=_r5 d1 c1;show#[_p6 e,c2,λhw=>?_];rw[<-_qB d2,e,<-_r7];show _rJ hP hk ak aj hw m t c2
end
end
def _r9(o:List Int):∀k,jX [] k o=[]:=by
 induction o with|nil=>show λ_=>rfl|cons n o ih=>show λk=>ih (k+1)
def _sa{o t:List Int}(ho:o.B<=1)(ht:t.B<=1):jX t 0 o=[]\/jX t 0 o=[(0,0)]:=by
 cases o with
 | nil=>show .R rfl
 | cons x o=>
  let:o=[]:=List.length_eq_zero_iff.mp (by rw[Xk]at ho;lia);subst this;cases t with
  | nil=>show .R rfl
  | cons y t=>
   let:t=[]:=List.length_eq_zero_iff.mp (by rw[Xk]at ht;lia);subst this
   by_cases e:y=x
   .subst e;show .Z (by simp[jX])
   .show .R (by simp[jX,e])
def rm4:List Int:=[0,1,2,3]
def All40:List D:=(rm4.flatMap λp=>rm4.flatMap λq=>[.M [.C p,.C q,.M (prs [])],.M [.C p,.C q,.M (prs [(0,0)])]])++(rm4.E (λp=>.M [.C p,.C (-1),.M (prs [])])++rm4.E λq=>.M [.C (-1),.C q,.M (prs [])])
def _sb:All40.B=40:=rfl
def _sc{p:Int}(h0:0<=p)(h1:p<4):p>rm4:=by
 let:p=0\/p=1\/p=2\/p=3:=.q
 ext rm4
 simpa using this
def _sd{kps}{S:Sn}(hk:∀p>kps,p<=1)(h:k8 kps S):(nms S).B<=1:=by
 cases S with
 |none=>show Ya _
 |some x=>
  let#[a,b,c]:=h x.1 x.2 rfl;let hm:kps.s x.1.L 0>kps:=by rw[X2,X1 .q];show Xu _
  let:=hk _ hm;change x.2.B<=1;lia
section
variable {kps a9:List Int}{ss:List Str}{rs rs':List D}
section
variable (hP:Prs kps ss.length rs)(hk:Abk kps)(ak:Prs a9 ss.length rs')(aj:Abk a9)(h0:kps[0]?=⇑0)(ei:a9[0]?=⇑0)
include hP hk ak aj h0 ei
def _se(h4:kps.B<=4)(h4':a9.B<=4)(h1:∀p>kps,p<=1)(h1':∀p>a9,p<=1)(K:List D)(hn:K.l)(hq:∀P>K,Qp ss rs rs' P):K.B<=40:=by
 rw [<-_sb];show _n6 hn λP n8=>?_
 let#[hr,hv]:=hq P n8;let#[u,_,rfl,t]:=_rR hP hk ak aj h0 ei hr;let la:=_sd h1 t.a;let lb:=_sd h1' t.b;let ra:=_px t.a;let rb:=_px t.b;let ta:=t.a;let tb:=t.b;generalize run ss rs S0 u=a at *;generalize run ss rs' S0 u=b at *;cases a with
 | none=>
  cases b with
  | none=>show absurd rfl (hv _)
  | some y=>
   let:=(tb y.1 y.2 rfl).1;let rb:-1<=y.1/\y.1<a9.B:=rb;show _ab _ (_ab _ (List.mem_map.å #[y.1,_sc this .q,rfl]))
 | some x=>
  let:=(ta x.1 x.2 rfl).1;let ra:-1<=x.1/\x.1<kps.B:=ra;let mx:=_sc this .q;cases b with
  | none=>
   show _ab _ (_ac _ (List.mem_map.å #[x.1,mx,?_]));change _=D.M [.C x.1,.C (-1),.M (prs (jX [] 0 x.2))];rw[_r9]
  | some y=>
   let:=(tb y.1 y.2 rfl).1;let rb:-1<=y.1/\y.1<a9.B:=rb;show _ac _ (List.mem_flatMap.å #[x.1,mx,List.mem_flatMap.å #[y.1,_sc this .q,?_]]);change D.M [.C x.1,.C y.1,.M (prs (jX y.2 0 x.2))]>_;let e\/e:=_sa (o:=x.2) (t:=y.2) la lb
   .rw[e];show X5
   .rw[e];show _ad _ X5
end
def _sf{K f a b}(h:∀n>nms a,∀x>nms b,f x=f n->x=n):jn K (v8 f a) (v8 f b)=v8 f (jn K a b):=by
 ext jn;rw[QK,QK,_oH h,Jw,Jw,_ql λn hn x hx e=>(h x hx n hn e.i).i]
 by_cases hh:rmO a=-1/\rmO b=-1
 .rw[Xa hh,Xa hh];rfl
 .rw[Xe hh,Xe hh];rfl
def _sg{K a b}{x:Int}(h:x>nms (jn K a b)):x>nms a\/x>nms b:=by
 unfold jn at h
 by_cases hh:rmO a=-1/\rmO b=-1
 .rw[Xa hh]at h;cases h
 .rw[Xe hh]at h;show(aA h).imp id λh=>(List.mem_filter.mp h).1
def phi(rs rs' K K2:List D)(P:D):D:=jQ (jn K (pS rs P) (pT rs rs' P)) (jn K2 (pT rs rs' P) (pS rs P))
section
variable (hP:Prs kps ss.length rs)(hk:Abk kps)(ak:Prs a9 ss.length rs')(aj:Abk a9)(h0:kps[0]?=⇑0)(ei:a9[0]?=⇑0)
include hP hk ak aj h0 ei
def _sh{w w2 K K2 aa rooms2}(m:Made kps a9 w ss rs rs' K aa)(m2:Made a9 kps w2 ss rs' rs K2 rooms2)(h3:∀p>vZ rs rs' K,p<=3)(ic:∀p>vZ rs' rs K2,p<=3)(K3:List D)(hn:K3.l)(hq:∀P>K3,Qp ss aa rooms2 P):K3.B<=40:=by
 show Yb (m:=(K.E (phi rs rs' K K2)).B) ?_ (by rw[X3];show m.le);show _n6 hn λP n8=>?_
 let#[#[u,_,e],hv]:=hq P n8;let#[e1,i1,_]:=_r8 hP hk ak aj h0 ei m h3 u;let#[e2,_]:=_r8 ak aj hP hk ei h0 m2 ic u;let t:=_rP hP hk ak aj u (Jx h0 ei);rw[e1,e2]at e;generalize run ss rs S0 u=a at *;generalize run ss rs' S0 u=b at *;let hnn:¬(rmO a=-1/\rmO b=-1):=λh=>by
  unfold jn at e;rw[Xa h,Xa #[h.2,h.1]]at e;show hv _ e
 let hm:jQ a b>K:=i1.resolve_left hnn;show List.mem_map.å #[_,hm,?_];let#[f,ea,eb,hi,_]:=_qk hP hk ak aj t.a t.b t.na t.nb;rw[e];generalize jQ a b=Q at ea eb hi ⊢;let inj:∀{n x:Int},n>nms (pS rs Q)\/n>nms (pT rs rs' Q)->x>nms (pS rs Q)\/x>nms (pT rs rs' Q)->f x=f n->x=n:=fun {n x} hn hx e=>hi x (hx.ß Q4 Qx) n (hn.ß Q4 Qx) e
 rw[ea,eb,_sf λn hn x hx e=>inj (.R hn) (.Z hx) e,_sf λn hn x hx e=>inj (.Z hn) (.R hx) e,_oH λn hn x hx e=>inj (_sg hn) (_sg hx).i e];rfl
end
structure Mc (ss:List Str)(rs:List D)(kps:List Int)(f:Lw->Bool):Prop where
 k0:kps[0]?=@0
 hk:∀p>kps,0<=p
 P:Prs kps ss.B rs
 ev:(∀p>kps,p<=3)->∀u:Lw,(∀x>u,x.1>ss)->_qC ss rs u=f u
def Mc.k3{f}(m:Mc ss rs kps f)(h:∀p>kps,p<=3):Kq9 kps:=λp hp=>#[m.hk p hp,h p hp]
def _si{w K aa f g}(hw:w>(["both","either","first","one"]:List Str))(m:Mc ss rs kps f)(m':Mc ss rs' a9 g)(h3:∀p>kps,p<=3)(ic:∀p>a9,p<=3)(md:Made kps a9 w ss rs rs' K aa):Mc ss aa (vZ rs rs' K) (λu=>byW w (f u) (g u)):=by
 show#[_rH m.P (m.k3 h3) m'.P (m'.k3 ic) m.k0 m'.k0 md,λp hp=>(_rG m.P (m.k3 h3) m'.P (m'.k3 ic) md p hp).1,_rF m.P (m.k3 h3) m'.P (m'.k3 ic) md,λhj u hu=>?_];let:=(_r8 m.P (m.k3 h3) m'.P (m'.k3 ic) m.k0 m'.k0 md hj u).2.2 hw;rw[<-m.ev h3 u hu,<-m'.ev ic u hu];show this
end
def isN:D->Bool
 |.j=>true|_=>false
def Vk(br:Int):D->D
 |.j=>.M [.C br,.M []]|c=>c
def _sj(br:Int):D->D
 |.S cs=>.S (cs.E (Vk br))|s=>s
def _sk(br:Int):D->D
 |.M [own,.bl gd,.S st]=>.M [own,.bl (!gd),.S (st.E (_sj br))]|r=>r
def _sl:D->Bool
 |.S cs=>cs.è isN|_=>false
def xW:D->Bool
 |.M [_,_,.S st]=>st.è _sl|_=>false
def _sm(ss:List Str)(br:Int):D:=.M [.C 0,.bl true,.S (ss.E λ_=>.S [.M [.C br,.M []]])]
def zQ(ss:List Str)(rs:List D):List D:=rs.E (_sk rs.B)++(if rs.è xW=true then[_sm ss rs.B]else[])
def Cz(z:D):Prop:=z=.j\/∃(to:Int) (fs:List Int),z=.M [.C to,.M (fs.E D.C)]
def Rz(r:D):Prop:=∃(own:Int) (gd:Bool) (st:List D),r=.M [.C own,.bl gd,.S st]/\∀c>st,∃cs:List D,c=.S cs/\∀z>cs,Cz z
def Cz.flat{z:D}{n:Nat}(h:Cz z):z.flat (n+2)=true:=by
 let rfl\/#[to,fs,rfl]:=h
 .rfl
 .change(true&&(D.flats n (fs.E D.C)&&true))=true;rw[Q8 λk hk=>by let#[i,_,rfl]:=aE hk;cases n<;>rfl];rfl
def _sn{cs:List D}(h:∀z>cs,Cz z):zY .j (.S cs)=@(.bl (cs.è isN)):=by
 let hf:D.flats 30 cs=true:=Q8 λz hz=>(h z hz).flat (n:=28)
 let e:∀{l:List D},(∀z>l,Cz z)->(l.è λz=>peq z .j)=l.è isN:=fun {l}=>by
  induction l with
  |nil=>show λ_=>rfl
  |cons z l ih=>
   intro h;rw[Zd,Zd,ih λy hy=>h y (_ad _ hy)];let rfl\/#[to,fs,rfl]:=h z X5
   .rfl
   .rfl
 change(if(D.j).flat 30&&D.flats 30 cs then @(D.bl (cs.è λw=>peq w .j))else none)=_;rw[show(D.j).flat 30=true from rfl,hf,e h];rfl
def _so{br:Int}{cs:List D}(h:∀z>cs,Cz z):Oo _rL [(.X,.C br),(.X,.S cs)] (λy=>y.2=.S (cs.E (Vk br))) noX:=by
 ext _rL;show k7 ?_;simp![];show Kw [@(.X,.C br)] (λd y=>y.2=Vk br d) ?_;simp![];show#[rfl,λd hd=>?_,λys hy=>?_]
 .let rfl\/#[to,fs,rfl]:=h d hd
  .simp![];show#[#[_,rfl],rfl]
  .simp![];show#[#[_,rfl],rfl]
 .rw[wW,QX (h:=Vk br) (λd y h=>h) hy]
def _sp(f:D->Bool)(l:List D):_io (.S (l.E λd=>.bl (f d)))=@(.bl (l.è f)):=by
 change(bls (l.E λd=>.bl (f d))).E _=_;rw[_p2];simp[List.any_map,Function.comp_def]
def q2(a b c:D):jY (.M [a,b,c]) (.C 2)=@c:=rfl
def _sq{r:D}(h:Rz r):Oo _rK [(.X,r)] (λy=>y.2=.bl (xW r)) noX:=by
 let#[own,gd,st,rfl,b6]:=h;ext _rK;show k7 ?_;simp![q2];show Kw [] (λd y=>y.2=.bl (_sl d)) ?_;simp![q2];show#[λd hd=>?_,λys hy=>?_]
 .let#[cs,rfl,kg]:=b6 d hd;simp![_sn kg];show#[#[_,rfl],rfl]
 .rw[wW,QX (h:=λd=>.bl (_sl d)) (λd y h=>h) hy];dsimp[back,clr];let e:=_sp _sl st;simp![e];rfl
inductive Tn (br:Int)(g:D->D)(xs:List D)(e0:Option Sd)(r:En):En->En->List D->List Sd->Prop
 |mk {o1 o:Own} {q:Option Sd} {pre ds:List D} {ae:List Sd} (h:xs=pre++ds) (h2:ae.E (·.2)=pre.E g):Tn br g xs e0 r (e0::@(o1,.C br)::r) [q,@(o,.C br)] ds ae
def _sr{br:Int}{g:D->D}{xs:List D}{e0:Option Sd}{r:En}{o1:Own}{it}{bd:Ex}{P:En->Sd->Prop}{X:XP}
  (fm:Eo (it (e0::@(o1,.C br)::r)) (λE1 ds=>(∃o:Own,E1=e0::@(o,.C br)::r)/\ds=xs) X)
  (hb:∀d>xs,∀o:Own,Eo (bd [@(.X,d),@(o,.C br)]) (λB y=>(∃(q:Option Sd) (o':Own),B=[q,@(o',.C br)])/\y.2=g d) X)
  (h:∀o':Own,P (e0::@(o',.C br)::r) (.rt,.S (xs.E g))):Eo (cLC .rt 1 [1] it (.n 0) tYes bd (e0::@(o1,.C br)::r)) P X:=by
 show QJ (Tn br g xs e0 r) (fm.ý λE1 ds hz=>?_) ?_ ?_
 .let#[#[o,rfl],rfl]:=hz;show .mk (pre:=[]) rfl rfl
 .intro E1 B d ds ae hz;generalize hdd:d::ds=dd at hz;let#[hx,hm]:=hz;subst hdd;simp![];show(hb d (by rw[hx];simp) _).ý λB y hy=>?_
  let#[#[q,o',rfl],e]:=hy;show .mk (by rw[hx,List.append_cons]) (by rw[Xd,Xd,hm,List.map_singleton,e];rfl)
 .intro E1 B ae hz;generalize hdd:([]:List D)=dd at hz;let#[hx,hm]:=hz;subst hdd;rw[Xv]at hx;subst hx;rw[wW,hm];dsimp[J3,back,clr,at',List.ñ,List.V,List.map_nil,List.set_cons_zero,List.set_cons_succ];show h _
def _ss{ss:List Str}{rs:List D}(hs:ss.B<=9000)(hl:rs.B<=9000)(h:∀r>rs,Rz r):Oo Kv [(.X,jq ss rs)] (λy=>y=(.X,jq ss (zQ ss rs))) noX:=by
 ext Kv;show k7 ?_;simp![p1];show _sr (g:=_sk rs.B) (xs:=rs) ?_ (λd hd o=>?_) λo'=>?_
 .simp![p1];show#[#[_,rfl],trivial]
 .let#[own,gd,st,rfl,b6]:=h d hd;let w0:∀a b c:D,jY (.M [a,b,c]) (.C 0)=@a:=λ_ _ _=>rfl
  let w1:∀a b c:D,jY (.M [a,b,c]) (.C 1)=@b:=λ_ _ _=>rfl
  simp![w0,w1,q2];show _sr (g:=_sj rs.B) (xs:=st) ?_ (λd hd o=>?_) λo'=>?_
  .simp![q2];show#[#[_,rfl],trivial]
  .let#[cs,rfl,kg]:=b6 d hd;simp![];show(_so kg).via ?_;intro y hy;show#[#[_,_,rfl],hy]
  .simp![];show#[#[_,_,rfl],rfl]
 .let ea:=_sp xW rs;simp![];show Kw [] (λd y=>y.2=.bl (xW d)) ?_;simp![p1];show#[λd hd=>?_,λys hy=>?_]
  .show(_sq (h d hd)).via ?_;intro y hy;show#[#[_,rfl],hy]
  .rw[wW,QX (h:=λd=>.bl (xW d)) (λd y h=>h) hy];dsimp[back,clr];ext zQ;cases hk:rs.è xW with
   | false=>
    rw[hk]at ea;simp![ea,p0,_n7 (o:=.X) (xs:=ss.E D.e) .q];rw[Xv]
   | true=>
    rw[hk]at ea;simp![ea];show xX rfl ?_;simp![];show _sr (g:=λ_=>.S [.M [.C rs.B,.M []]]) (xs:=ss.E D.e) ?_ (λd hd o=>?_) λo'=>?_
    .simp![p0];show#[#[_,rfl],trivial]
    .simp![];show#[#[_,_,rfl],trivial]
    .simp![p0,_n7 (o:=.X) (xs:=ss.E D.e) .q];show#[_,rfl,by rw[X3];lia,?_];rw[Xi];rfl
def qQ(kps:List Int)(rs:List D):List Int:=kps++(if rs.è xW=true then[0]else[])
section
variable {kps:List Int}{ss:List Str}{rs:List D}
def _st{i:Nat}(h:i<kps.B):(qQ kps rs).s i 0=kps.s i 0:=by
 ext qQ;rw[X2,X2,Xn h]
def _su:kps.B<=(qQ kps rs).B:=by ext qQ;simp
def _sv{i:Nat}{r:D}(h:rs[i]?=@r):(zQ ss rs)[i]?=@(_sk rs.B r):=by
 let hi:=(aF h).1;ext zQ;rw[Xn (~~~hi),X7,h];rfl
def _sw{own:Int}{gd:D}{st cs:List D}{i:Nat}(h:rs[i]?=@(.M [.C own,gd,.S st]))(hc:D.S cs>st)(hz:D.j>cs):rs.è xW=true:=
 List.any_eq_true.å #[_,Yh h,List.any_eq_true.å #[_,hc,List.any_eq_true.å #[_,hz,rfl]]]
def _sx(h:rs.è xW=true):(zQ ss rs)[rs.B]?=@(_sm ss rs.B):=by
 ext zQ;rw[Y1 (by simp),h];simp
def _sy(hP:Prs kps ss.B rs):Prs (qQ kps rs) ss.B (zQ ss rs):=by
 let hl:=hP.1;show#[by ext zQ qQ;rw[Xb,Xb,X3,hl];split<;>rfl,λi hi=>?_]
 by_cases hk:i<kps.B
 .let#[r,er,gd,st,rfl,km,b6]:=hP.2 i hk;show#[_,_sv er,!gd,st.E (_sj rs.B),by rw[_st hk];rfl,by rw[X3];show km,λc hc=>?_];let#[c0,u9,rfl]:=aE hc;let#[cs,rfl,dy,kg]:=b6 c0 u9;show#[cs.E (Vk rs.B),rfl,by rw[X3,_st hk];show dy,λk si=>?_];rw[X3]at si;let#[z,ez,hz]:=kg k si;show#[Vk rs.B z,by rw[X7,ez];rfl,?_];rw[_st hk];let rfl\/#[to,fs,rfl,t0,t1,t2,t3,t4]:=hz
  .let lp:=_sw er u9 (Yh ez);show .Z #[rs.B,[],rfl,.q,?_,(nofun),Xr,?_]
   .ext qQ;rw[lp,Xb];simp;lia
   .ext qQ;rw[lp,Xp,hl,X2,Y1 (X8 _),Nat.sub_self];rfl
  .let:=_su (kps:=kps) (rs:=rs);show .Z #[to,fs,rfl,t0,.q,t2,t3,by rw[_st .q];show t4]
 .let lp:rs.è xW=true:=by
   cases h:rs.è xW with|true=>rfl|false=>unfold qQ at hi;rw[h]at hi;simp at hi;lia
  let hik:i=kps.B:=by unfold qQ at hi;rw[lp]at hi;simp at hi;lia
  subst hik;let h0:(qQ kps rs).s kps.B 0=0:=by
   ext qQ;rw[lp,X2,Y1 (X8 _),Nat.sub_self];rfl
  show#[_,by rw[<-hl];show _sx lp,true,_,by rw[h0];rfl,by rw[X3],λc hc=>?_];let#[w,_,rfl]:=aE hc;show#[_,rfl,by rw[h0];rfl,λk hk=>?_];let:k=0:= ~~~hk
  subst this;show#[_,rfl,.Z #[rs.B,[],rfl,.q,?_,(nofun),Xr,?_]]
  .ext qQ;rw[lp,Xb];simp;lia
  .rw[Xp,hl,h0];rfl
def Rt(rs:List D)(s s':D):Prop:=(s≠.j/\s'=s)\/(s=.j/\rs.è xW=true/\s'=.M [.C rs.B,iT []])
def _sz{s s' m:D}{w:Str×Int}(hP:Prs kps ss.B rs)(hr:Rt rs s s')(hw:w.1>ss)(hd:Rd kps ss rs s w m)(hk:Abk kps)(hok:Ok2 (qQ kps rs) s'):∃m',Rd (qQ kps rs) ss (zQ ss rs) s' w m'/\Rt rs m m'/\Ok2 (qQ kps rs) m':=by
 let ak:=_sy hP;let hz:(ss.è λz=>z==w.1)=true:=List.any_eq_true.å #[_,hw,by simp];let aj:∀p>qQ kps rs,0<=p/\p<=3:=λp hp=>by
  unfold qQ at hp;let hp\/hp:=aA hp
  .show hk p hp
  .split at hp
   .rw[aC hp];decide
   .cases hp
 let#[m',pe,qu,_]:=_cD w ak aj hok;show#[m',pe,?_,qu];let#[be,rfl]\/#[rfl,lp,rfl]:=hr
 .let#[e,_]\/#[room,ks,st,kp,gd,rfl,r0,er,hc,h3,rfl]:=hd
  .show absurd e be
  let#[e,_]\/#[kh,n9,fj,kp',gd',e,r0',f8,i9,ic,rfl]:=pe
  .show absurd e be
  injection e with e;injection e with e1 e;injection e with e2 _;injection e1 with e1;injection e2 with e2;let e2:ks=n9:=(Yo λa b h=>by injection h).mp e2;subst e1 e2;obtain⟨gb,hgb⟩:∃gb,gd=.bl gb:=by
   let#[r,xg,gb,bn,e3,_]:=hP.2 room.L (by rw[<-hP.1];show(aF er).1);rw[er]at xg;cases xg;injection e3 with e3;injection e3 with _ e3;injection e3 with e3 _;show#[gb,e3]
  subst hgb;rw[_sv er]at f8;let es:fj=st.E (_sj rs.B):=by
   let f8:=_aa f8;injection f8 with f8;injection f8 with _ f8;injection f8 with _ f8;injection f8 with f8 _;injection f8 with f8;show f8.i
  subst es;let#[cs,g1,g2,g3,g4]:=_oi w.2 hc hz;let u7:wv ss (st.E (_sj rs.B)) ks w.1 w.2=Vk rs.B (wv ss st ks w.1 w.2):=by
   ext wv;rw[X7,g1];change(cs.E (Vk rs.B)).s _ .j=Vk rs.B (cs.s _ .j);let bf:=(aF g3).1;rw[X2,X2,X7,X1 bf];rfl
  ext vX;rw[hz,Xa rfl,Xa rfl,u7];generalize hcg:wv ss st ks w.1 w.2=c at g3 g4;let rfl\/#[to,fs,rfl,_]:=g4
  .show .Z #[rfl,?_,rfl];obtain⟨own,eo⟩:∃own,kp=D.C own:=by
    let#[r,xg,gb2,bn,e3,_]:=hP.2 room.L (by rw[<-hP.1];show(aF er).1);rw[er]at xg;cases xg;injection e3 with e3;injection e3 with e3 _;show#[_,e3]
   subst eo;show _sw er (Yh g1) (Yh g3)
  .show .R #[?_,rfl];rw[show WJ ks w.2 (.M [.C to,.M (fs.E D.C)])=.M [.C to,iT (fs.E (nameAt ks w.2))]from caseD_is];show nofun
 .let#[_,rfl]\/#[_,_,_,_,_,e,_]:=hd
  rotate_left
  .cases e
  let#[e,_]\/#[kh,n9,fj,kp',gd',e,r0',f8,i9,ic,rfl]:=pe
  .cases e
  injection e with e;injection e with e1 e;injection e with e2 _;injection e1 with e1;injection e2 with e2;let e2:([]:List Int)=n9:=(Yo λa b h=>by injection h).mp e2;subst e1 e2;rw[Xp,_sx lp]at f8;let es:fj=ss.E λ_=>.S [.M [.C rs.B,.M []]]:=by
   let f8:=_aa f8;injection f8 with f8;injection f8 with _ f8;injection f8 with _ f8;injection f8 with f8 _;injection f8 with f8;show f8.i
  subst es;show .Z #[rfl,lp,?_];ext vX;rw[hz,Xa rfl];let u7:wv ss (ss.E λ_=>.S [.M [.C rs.B,.M []]]) [] w.1 w.2=.M [.C rs.B,.M []]:=by
   ext wv;rw[X7,X1 (_oc hz)];rfl
  rw[u7];rfl
def _sA(hP:Prs kps ss.B rs)(hk:Abk kps):∀{L:Lw} {s s' m:D},(∀w>L,w.1>ss)->Rt rs s s'->Ok2 (qQ kps rs) s'->Ch2 kps ss rs s L m->∃m',Ch2 (qQ kps rs) ss (zQ ss rs) s' L m'/\Rt rs m m'/\Ok2 (qQ kps rs) m'
 |[],s,s',m,_,hr,hok,h=>by
  cases(show s=m from h);show#[s',rfl,hr,hok]
 |w::L,s,s',m,hw,hr,hok,⟨n,h1,h2⟩=>by
  let#[n',d1,d2,d3]:=_sz hP hr (hw w X5) h1 hk hok;let#[m',c1,c2,c3]:=_sA hP hk (λw h=>hw w (_ad _ h)) d2 d3 h2;show#[m',#[n',d1,c1],c2,c3]
def _sB{s s':D}(hP:Prs kps ss.B rs)(hok:Ok2 kps s)(hr:Rt rs s s'):C.goodD (zQ ss rs) s'=!C.goodD rs s:=by
 let#[be,rfl]\/#[rfl,lp,rfl]:=hr
 .let rfl\/#[room,ks,rfl,r0,r1,_]:=hok
  .show absurd rfl be
  .let#[r,er,gd,st,rfl,_]:=hP.2 room.L .q;ext C.goodD;right;rw[er,_sv er];rfl
 .ext C.goodD;right;rw[Xp,_sx lp];rfl
end
def _sC{kps:List Int}{ss:List Str}{rs:List D}{f}(m:Mc ss rs kps f):Mc ss (zQ ss rs) (qQ kps rs) (λu=>!f u):=by
 let ue:∀p>kps,p>qQ kps rs:=λp hp=>_ac _ hp
 let k0:(qQ kps rs)[0]?=@0:=by
  ext qQ;rw [Xn (aF m.k0).1];show m.k0
 show#[k0,λp hp=>?_,_sy m.P,λh3 u hu=>?_]
 .unfold qQ at hp;let hp\/hp:=aA hp
  .show m.hk p hp
  .by_cases hc:rs.è xW=true
   .rw[Xa hc]at hp;rw[aC hp];decide
   .rw[Xe hc]at hp;cases hp
 .let h3k:∀p>kps,p<=3:=λp hp=>h3 p (ue p hp)
  let hkT:∀p>qQ kps rs,0<=p/\p<=3:=λp hp=>by
   show#[?_,h3 p hp];unfold qQ at hp;let hp\/hp:=aA hp
   .show m.hk p hp
   .by_cases hc:rs.è xW=true
    .rw[Xa hc]at hp;rw[aC hp];decide
    .rw[Xe hc]at hp;cases hp
  let ok:=(Jx m.k0 m.k0).a;let jm:=(Jx k0 k0).a;let#[c1,s1]:=_qA m.P (m.k3 h3k) u ok;let#[c2,s2]:=_qA (_sy m.P) hkT u jm;let#[m',d1,d2,_]:=_sA (s:=stn S0) (s':=stn S0) m.P (m.k3 h3k) hu (.R #[(by intro e;cases e),rfl]) (_pG jm) c1;rw[_r5 d1 c2]at d2;let g:=_sB m.P (_pG s1) d2;rw[_qB s1,_qB s2]at g;rw[<-m.ev h3k u hu];show g
def _sD:m__law_most=Y.m__law_most:=rfl
def _sE:m__law_table=Y.m__law_table:=rfl
def _sF:m_compared=Y.m_compared:=rfl
def _sG{f cs e}{E:En}{P X}:Eo (_mu f cs (e::E)) P X=Eo (vW cs (e::E)) (λE xs=>Oe f (letAll (xs++[(.X,.j)])) E P X) X:=by
 ext _mu;rw[k4]
 congr 1
 funext E xs;ext Oe Oo;cases f _ with|none=>ac_rfl|some r=>cases r<;>ac_rfl
def _sH{kps:List Int}{n}{rs:List D}(hP:Prs kps n rs):∀r>rs,Rz r:=λr hr=>by
 let#[i,hi,e]:=List.mem_iff_getElem.mp hr;let#[r',er,gd,st,e2,km,b6]:=hP.2 i (by rw[<-hP.1];show hi);rw[X1 hi,e]at er;cases _aa er;show#[_,gd,st,e2,λc hc=>?_];let#[cs,rfl,_,kg]:=b6 c hc;show#[cs,rfl,λz hz=>?_];let#[k,hk,e]:=List.mem_iff_getElem.mp hz;let#[z',ez,h]:=kg k hk;rw[X1 hk,e]at ez;cases _aa ez;let rfl\/#[to,fs,rfl,_]:=h
 .show .R rfl
 .show .Z #[to,fs,rfl]
section
variable {kps a9:List Int}{ss:List Str}{rs rs':List D}{f g:Lw->Bool}
def _sI(hs:ss.B<=2)(hl:rs.B<=9000)(m:Mc ss rs kps f):Oo Kv [(.X,jq ss rs)] (λy=>y=(.X,jq ss (zQ ss rs))) noX:=_ss .q hl (_sH m.P)
def smB(rs:List D)(kps:List Int):Bool:=decide (rs.B<=12)&&decide (mxF kps<=3)
def _sJ(m:Mc ss rs kps f):Oo W0 [(.X,jq ss rs)] (λy=>∃o',y=(o',.bl (smB rs kps))/\True) noX:=by
 ext W0 smB;rw[_sD];show k7 ?_
 by_cases hl:rs.B<=12
 .let e:fLe (.C rs.B) (.C 12)=@(.bl true):=by rw[le_ii,Xh .q]
  simp![p1,e];show(_rl (by let:=(aF m.k0).1;lia) m.P).use ?_;intro _ _;simp![le_ii];show#[_,by rw[Xh hl];rfl,trivial]
 .let e:fLe (.C rs.B) (.C 12)=@(.bl false):=by rw[le_ii,Xm .q]
  simp![p1,e];show#[_,by rw[Xm hl];rfl,trivial]
def _sK(m:Mc ss rs kps f)(h:smB rs kps=true):kps.B<=12/\∀p>kps,p<=3:=by
 unfold smB at h;rw[Bool.é]at h;let h1:=Yq h.1;let h2:=Yq h.2;let:=m.P.1;show#[.q,λp hp=>Int.le_trans (_rh hp) h2]
def YJ(hs:ss.B<=2)(m:Mc ss rs kps f)(m':Mc ss rs' a9 g)(hfg:∀u,f u=g u):Oo JJ [(.X,jq ss rs),(.X,jq ss rs')] (λy=>y.2=.bl true) noX:=by
 ext JJ;rw [_sE,_sF];show k7 ?_;simp![];show(_sJ m).use ?_;intro _ _;cases h:smB rs kps with
 | false=>simp![]
 | true=>
  simp![];show(_sJ m').use ?_;intro _ _;cases h':smB rs' a9 with
  | false=>simp![]
  | true=>
   let#[lc,h3]:=_sK m h;let#[fz,ic]:=_sK m' h';let q0:∀a b,jY (.M [a,b]) (.C 0)=@a:=λ_ _=>rfl
   let be:fNe (sL ss) (sL ss)=@(.bl false):=_n5 (show D.flats 39 (ss.E D.e)=true from Q8 λd hd=>by let#[w,_,rfl]:=aE hd;rfl);let jr:=J.small_is (d0:=sL ss) (_p4 m.P);let cw:=J.small_is (d0:=sL ss) (_p4 m'.P);rw[_p5 m.P (m.k3 h3) lc]at jr;rw[_p5 m'.P (m'.k3 ic) fz]at cw;let hc:Oo Y.m_compared [(.X,jq ss rs),(.X,jq ss rs'),(.X,.j)] (λy=>∃K:List D,y=(.X,.M [.e "alike",.S K])/\K.B<=6000/\K.l/\P0>K/\∀p>K,Pin kps a9 rs rs' p/\Dn ss rs rs' K p) noX:=by
    ext Y.m_compared;show k7 ?_;simp![q0,be];show jr.è.use ?_;intro _ _;simp![];show cw.è.use ?_;intro _ _;simp![];show(_rS .q lc fz m.P (m.k3 h3) m'.P (m'.k3 ic) m.k0 m'.k0 λu hu=>?_).via ?_
    .let:=m.ev h3 u hu;rw[hfg,<-m'.ev ic u hu]at this;show this
    .intro y hy;show hy
   let e1:fEq (.e "alike") (.e "alike")=@(.bl true):=rfl;simp![↓_sG];show hc.via ?_;intro y hy;let#[K,rfl,hl,hn,n8,hK]:=hy;simp![p0,p1,e1];show(_ro (rk:=λ_=>0) .q m.P (m.k3 h3) m'.P (m'.k3 ic) hl hn n8 λp hp=>#[(hK p hp).1,(hK p hp).2.1,λz hz i i0 i1=>#[(hK p hp).2.2 z hz i i0 i1,Ya _]]).use ?_;intro _ _;rfl
abbrev Wrd:List Str:=["both","either","first","one"]
def Fit(ss:List Str)(rs rs':List D):Prop:=∀K:List D,K.l->(∀P>K,Qp ss rs rs' P)->K.B<=40
def _sL{w}(hw:w>Wrd)(hs:ss.B<=2)(m:Mc ss rs kps f)(m':Mc ss rs' a9 g)(lc:kps.B<=12)(fz:a9.B<=12)(h3:∀p>kps,p<=3)(ic:∀p>a9,p<=3)(i7:Fit ss rs rs'):
  Oo z5 [(.X,.e w),(.X,jq ss rs),(.X,jq ss rs')] (λy=>∃K aa,y=(.X,.M [jq ss aa,.S K])/\Made kps a9 w ss rs rs' K aa/\Mc ss aa (vZ rs rs' K) (λu=>byW w (f u) (g u))) noX:=by
 show(_r3 m.P (m.k3 h3) m'.P (m'.k3 ic) m.k0 m'.k0 hw .q lc fz i7).ý ?_;intro y hy;let#[K,aa,e,hm]:=hy;show#[K,aa,e,hm,_si hw m m' h3 ic hm]
def _sM{w}(hw:w>Wrd)(hs:ss.B<=2)(m:Mc ss rs kps f)(m':Mc ss rs' a9 g)(i7:(∀p>kps,p<=3)->(∀p>a9,p<=3)->Fit ss rs rs'):
  Oo _rN [(.X,.e w),(.X,jq ss rs),(.X,jq ss rs')] (λy=>y.2=.j\/∃K aa,y.2=jq ss aa/\aa.B<=40/\Mc ss aa K (λu=>byW w (f u) (g u))) noX:=by
 ext _rN;show k7 ?_;simp![];show(_sJ m).use ?_;intro _ _;cases h:smB rs kps with
 | false=>
  simp![];show .R trivial
 | true=>
  simp![];show(_sJ m').use ?_;intro _ _;cases h':smB rs' a9 with
  |false=>
   simp![];show .R trivial
  |true=>
   let#[lc,h3]:=_sK m h;let#[fz,ic]:=_sK m' h';simp![];show(_sL hw hs m m' lc fz h3 ic (i7 h3 ic)).via ?_;intro y hy;let#[K,aa,rfl,md,mc]:=hy;simp![p0];show .Z #[_,aa,rfl,by let:=md.len;let:=md.le;lia,mc]
def _sN(hs:ss.B<=2){d:D}(m:Mc ss rs kps f)(hfg:∀u,f u=g u)(hd:d=.j\/∃K aa,d=jq ss aa/\aa.B<=40/\Mc ss aa K g):Oo _rO [(.X,jq ss rs),(.X,d)] (λy=>y.2=.bl true) noX:=by
 ext _rO;show k7 ?_;let rfl\/#[a9,rs',rfl,_,m']:=hd
 .simp![]
 .simp![];show(YJ hs m m' hfg).via ?_;intro y hy;let#[o,d]:=y;cases(show d=_ from hy);simp![];show YJ hs m' m λu=>(hfg u).i
end
def _sO:m__law_cell_at=B.m__law_cell_at:=rfl
def _sP:m__law_signs=B.m__law_signs:=rfl
structure Li (ss:List Str)(rs:List D)(kps:List Int)(f:Lw->Bool):Prop where
 m:Mc ss rs kps f
 l4:kps.B<=4
 k1:∀p>kps,p<=1
def Li.k3{ss rs kps f}(h:Li ss rs kps f):∀p>kps,p<=3:=λp hp=>by let:=h.k1 p hp;lia
def Li.len{ss rs kps f}(h:Li ss rs kps f):rs.B<=4:=by
 let:=h.m.P.1;let:=h.l4;lia
def Li.turn{ss rs kps f}(h:Li ss rs kps f)(h3:kps.B<=3):Li ss (zQ ss rs) (qQ kps rs) (λu=>!f u):=by
 show#[_sC h.m,?_,λp hp=>?_]
 .ext qQ;rw[Xb]
  by_cases hc:rs.è xW=true
  .rw[Xa hc,Xy];lia
  .rw[Xe hc,List.length_nil];lia
 .unfold qQ at hp;let hp\/hp:=aA hp
  .show h.k1 p hp
  .by_cases hc:rs.è xW=true
   .rw[Xa hc]at hp;rw[aC hp];decide
   .rw[Xe hc]at hp;cases hp
section
variable {kps a9:List Int}{ss:List Str}{rs rs':List D}{f g:Lw->Bool}
def Li.fit(h:Li ss rs kps f)(h':Li ss rs' a9 g):Fit ss rs rs':=_se h.m.P (h.m.k3 h.k3) h'.m.P (h'.m.k3 h'.k3) h.m.k0 h'.m.k0 h.l4 h'.l4 h.k1 h'.k1
def Li.join{w}(h:Li ss rs kps f)(h':Li ss rs' a9 g)(hs:ss.B<=2)(hw:w>Wrd):Oo z5 [(.X,.e w),(.X,jq ss rs),(.X,jq ss rs')] (λy=>∃K aa,y=(.X,.M [jq ss aa,.S K])/\Made kps a9 w ss rs rs' K aa/\Mc ss aa (vZ rs rs' K) (λu=>byW w (f u) (g u))) noX:=
 _sL hw hs h.m h'.m (by let:=h.l4;lia) (by let:=h'.l4;lia) h.k3 h'.k3 (h.fit h')
end
def _sQ{ss:List Str}(h1:1<=ss.B)(h3:ss.B<=3):∃s2:List Str,fSl (.X,sL ss) none @2=@(.rt,sL s2)/\1<=s2.B/\s2.B<=2:=by
 let e:fSl (.X,sL ss) none @2=@(.rt,.S (Qz (ss.E D.e) none @2)):=_nu .q;rw [e];cases ss with
 | nil=>cases h1
 | cons a ss=>
  cases ss with
  | nil=>show#[[a],rfl,X8 1,Zc 1]
  | cons b ss=>
   cases ss with
   |nil=>show#[[a,b],rfl,Zc 1,X8 2]
   |cons c ss=>
    let:ss=[]:=List.length_eq_zero_iff.mp (by rw[Xk,Xk,Xk]at h3;lia);subst this;show#[[a,b],rfl,Zc 1,X8 2]
def law1(a b:Bool):byW "either" a b=!(byW "both" (!a) (!b)):=by cases a<;>cases b<;>rfl
def law2(a b:Bool):byW "first" a b=byW "both" a (!b):=by cases a<;>cases b<;>rfl
def law3(a b:Bool):byW "one" a b=byW "either" (byW "first" a b) (byW "first" b a):=by cases a<;>cases b<;>rfl
def law4(a b:Bool):byW "either" a b=byW "either" b a:=by cases a<;>cases b<;>rfl
def law5(a b:Bool):byW "both" a b=byW "both" b a:=by cases a<;>cases b<;>rfl
def law6{w}(hw:w>(["both","either"]:List Str))(a:Bool):a=byW w a a:=by
 dsimp[Yp,Y8,or_false]at hw;let rfl\/rfl:=hw
 .cases a<;>rfl
 .cases a<;>rfl
def _sR(ns)(hnl:ns.B<=63):Oo m_law [(.X,iL ns)] (λy=>y.2=.bl true) noX:=by
 ext m_law;rw[_sO,_sP];generalize hR:j6 (jw 6 _) _=R;show k7 ?_;simp![];show(_oN ns 0 .q).use ?_;intro _ _;simp![];show(_pc _).use ?_;intro ss0 qh;let#[ss,es,nt,fy]:=_sQ qh.1 qh.2;simp![es];show(_oN ns 1 .q).use ?_;intro _ _;simp![];show(_rV _ ss nt fy).use ?_;intro rs hr;let#[kps,_,k3,k0,hk,hP]:=hr;let one:Li ss rs kps (_qC ss rs):=#[#[k0,λp hp=>(hk p hp).1,hP,λ_ _ _=>rfl],.q,λp hp=>(hk p hp).2];simp![];show(_oN ns 2 .q).use ?_;intro _ _;simp![];show(_rV _ ss nt fy).use ?_;intro rs' hr;let#[a9,_,k3',k0',aj,ak]:=hr;let two:Li ss rs' a9 (_qC ss rs'):=#[#[k0',λp hp=>(aj p hp).1,ak,λ_ _ _=>rfl],.q,λp hp=>(aj p hp).2];let t1:=_sI fy (by let:=one.len;lia) one.m;let t2:=_sI fy (by let:=two.len;lia) two.m;let mh:=one.turn k3;let nu:=two.turn k3';generalize _qC ss rs=f at *;generalize _qC ss rs'=g at *;simp![];show(one.join two fy (w:="either") .q).via ?_;intro y hy;let#[K4,r4,rfl,_,m4]:=hy;simp![p0];show t1.via ?_;intro _ hy;subst hy;simp![];show t2.via ?_;intro _ hy;subst hy;simp![];show(_sM (w:="both") .q fy mh.m nu.m λ_ _=>mh.fit nu).via ?_;intro y hy;let key:∀s5:Option Sd,Po (R [@(.X,iL ns),@(.X,sL ss),@(.X,jq ss rs),@(.X,jq ss rs'),@(.X,jq ss r4),s5,none,none,none]) (λ_=>False) (λ_=>False) (λy=>y.2=.bl true) noX:=λs5=>by
  subst hR;generalize hR:j6 (jw 7 _) _=R;simp![];show(one.join two fy (w:="first") .q).via ?_;intro y hy;let#[K6,r6,rfl,md6,m6]:=hy;simp![p0];show t2.via ?_;intro _ hy;subst hy;simp![];show(_sM (w:="both") .q fy one.m nu.m λ_ _=>one.fit nu).via ?_;intro y hy;simp![];show(_sN fy m6 (λu=>law2 (f u) (g u)) hy).via ?_;intro y hy;let#[o,d]:=y;cases(show d=_ from hy);simp![];subst hR;generalize hR:j6 (sIf (tNot (tEQ (vE (jv JJ [cV 4,_])))) _ _) _=R;simp![];show(one.join two fy (w:="one") .q).via ?_;intro y hy;let#[K7,r7,rfl,_,m7]:=hy;simp![p0];show(two.join one fy (w:="first") .q).via ?_;intro y hy;let#[K9,r9,rfl,md9,m9]:=hy;simp![p0];show(_sM (w:="either") .q fy m6 m9 λh h'=>_sh one.m.P (one.m.k3 one.k3) two.m.P (two.m.k3 two.k3) one.m.k0 two.m.k0 md6 md9 h h').via ?_;intro y hy;simp![];show(_sN fy m7 (λu=>law3 (f u) (g u)) hy).via ?_;intro y hy;let#[o,d]:=y;cases(show d=_ from hy);simp![];subst hR;simp![];show(two.join one fy (w:="either") .q).via ?_;intro y hy;let#[K1,r1,rfl,_,m1]:=hy;simp![p0];show(YJ fy m4 m1 λu=>law4 (f u) (g u)).via ?_;intro y hy;let#[o,d]:=y;cases(show d=_ from hy);simp![];show(one.join two fy (w:="both") .q).via ?_;intro y hy;let#[K2,r2,rfl,_,m2]:=hy;simp![p0];show(two.join one fy (w:="both") .q).via ?_;intro y hy;let#[K3,r3,rfl,_,m3]:=hy;simp![p0];show(YJ fy m2 m3 λu=>law5 (f u) (g u)).via ?_;intro y hy;let#[o,d]:=y;cases(show d=_ from hy);simp![];show wq (λE ac=>∃(e4 e5 e6 e7 e8:Option Sd),E=[@(.X,iL ns),@(.X,sL ss),@(.X,jq ss rs),@(.X,jq ss rs'),e4,e5,e6,e7,e8]/\∀d>ac,∃w>(["both","either"]:List Str),d=.e w) ?_ ?_ ?_
  .simp![];show#[_,_,_,_,_,rfl,λd hd=>?_];dsimp[Yp,Y8,or_false]at hd;let rfl\/rfl:=hd
   .show#[_,X5,rfl]
   .show#[_,_ad _ X5,rfl]
  .intro E d ds hh;let#[e4,e5,e6,e7,e8,rfl,hd]:=hh;let#[w,hw,rfl]:=hd d X5;simp![];show(one.join one fy (w:=w) (by dsimp[Yp,Y8,or_false]at hw ⊢;lia)).via ?_;intro y hy;let#[K2,r2,rfl,_,m2]:=hy;simp![p0];show(YJ fy one.m m2 λu=>law6 hw (f u)).via ?_;intro y hy;let#[o,d]:=y;cases(show d=_ from hy);simp![];show#[_,_,_,_,_,rfl,λd h=>hd d (_ad _ h)]
  .intro E hh;let#[e4,e5,e6,e7,e8,rfl,_]:=hh;simp![];show t1.via ?_;intro _ hy;subst hy;simp![];show(_sI fy (by let:=mh.len;lia) mh.m).via ?_;intro _ hy;subst hy;simp![];show YJ fy one.m (_sC mh.m) λu=>(Bool.not_not _).i
 let#[o,d]:=y;let hy\/#[K5,r5,hy,hl5,m5]:=hy
 .cases(show d=_ from hy);simp![];show key _
 .cases(show d=_ from hy);simp![];show(_sI fy .q m5).via ?_;intro _ hy;subst hy;simp![];show(YJ fy m4 (_sC m5) λu=>law1 (f u) (g u)).via ?_;intro y hy;let#[o,d]:=y;cases(show d=_ from hy);simp![];show key _
def law_true(ns:List Int)(hl:ns.B<=63)(hb:∀i>ns,Builtin.Int.intBits i<=1048576):∃E o,m_law [(.X,.S (ns.E D.C))]=@(.ok E (o,.bl true)):=by
 obtain _:=(_sR ns hl).out
 grind
end Nk64
namespace Nk64
open PySem L2 L3 Q
def top(i:Nat):Stmt:=PySem.Challenge.pw_freshrooms_k64_whole_words_among_words.main.body.s i (.Pass #[0,0,0,0])
abbrev jzz:Stmt:=top 7
abbrev kkk:Stmt:=top 8
abbrev jwm:Stmt:=top 22
abbrev kwt:Stmt:=top 12
abbrev jwl:Stmt:=top 21
abbrev jvy:Stmt:=top 18
abbrev jqd:Stmt:=top 14
abbrev jzy:Stmt:=top 20
abbrev jvf:Stmt:=top 17
abbrev kkj:Stmt:=top 19
abbrev kkl:Stmt:=top 16
abbrev jvd:Stmt:=top 15
abbrev jwk:Stmt:=top 13
abbrev jw0:Stmt:=top 28
abbrev kwr:Stmt:=top 27
abbrev kwq:Stmt:=top 26
abbrev jwn:Stmt:=top 32
abbrev jw2:Stmt:=top 31
abbrev jw1:Stmt:=top 30
abbrev kws:Stmt:=top 29
abbrev jve:Stmt:=top 38
abbrev jvz:Stmt:=top 37
abbrev jzw:Stmt:=top 36
abbrev jzx:Stmt:=top 35
abbrev kj0:Stmt:=top 34
abbrev jvi:Stmt:=top 40
abbrev jwo:Stmt:=top 41
abbrev jw3:Stmt:=top 42
abbrev jwr:Stmt:=top 43
abbrev jws:Stmt:=top 44
abbrev jxt:Stmt:=top 45
abbrev jxo:Stmt:=top 46
abbrev jvg:Stmt:=top 47
abbrev jxp:Stmt:=top 48
abbrev jvh:Stmt:=top 49
abbrev jw5:Stmt:=top 50
abbrev jqe:Stmt:=top 51
abbrev jxs:Stmt:=top 53
abbrev jwp:Stmt:=top 52
abbrev jxq:Stmt:=top 54
abbrev jw4:Stmt:=top 55
abbrev jwq:Stmt:=top 56
abbrev jwu:Stmt:=top 57
abbrev jxr:Stmt:=top 58
abbrev jwt:Stmt:=top 59
abbrev wwh:Stmt:=top 60
def _sS:FnScope ["plain"] ["plain"] (jV jzz):=mkS
#where in
def sc_read_by:FnScope ["plain","standing","sign","name","names","cases","case","held"] ["plain","standing","sign","name"] (jV kkk):=mkS
def _sT:FnScope ["plain","room"] ["plain","room"] (jV jwm):=mkS
def _sU:FnScope ["one","other","pair"] ["one","other","pair"] (jV kwt):=mkS
def _sV:FnScope ["plain","room"] ["plain","room"] (jV jwl):=mkS
def _sW:FnScope ["room","names"] ["room","names"] (jV jvy):=mkS
def sc_first_standings:FnScope ["one","other","pair","own","shared","names","j"] ["one","other","pair"] (jV jqd):=mkS
def _sX:FnScope ["standing"] ["standing"] (jV jzy):=mkS
def sc_held_by_both:FnScope ["standings","ours"] ["standings"] (jV jvf):=mkS
def _sY:FnScope ["standing"] ["standing"] (jV kkj):=mkS
def sc_pair_of:FnScope ["standings","ours","theirs","shared"] ["standings"] (jV kkl):=mkS
def _sZ:FnScope ["one","other","standings","sign","name"] ["one","other","standings","sign","name"] (jV jvd):=mkS
def sc_steps_from:FnScope ["one","other","pair","standings","names","steps","sign","name"] ["one","other","pair"] (jV jwk):=mkS
def _s0:FnScope ["room"] ["room"] (jV jw0):=mkS
def _s1:FnScope ["end","cases"] ["end","cases"] (jV kwr):=mkS
def sc_turned:FnScope ["plain","end","rooms"] ["plain"] (jV kwq):=mkS
def _s2:FnScope ["word","ours","theirs"] ["word","ours","theirs"] (jV jwn):=mkS
def sc_joined_case:FnScope ["standings","numbers","pair"] ["standings","numbers"] (jV jw2):=mkS
def sc_joined_room:FnScope ["word","one","other","pair","numbers","standings","own","steps","sign","later"] ["word","one","other","pair","numbers"] (jV jw1):=mkS
def sc_joined:FnScope ["word","one","other","numbers","rooms"] ["word","one","other"] (jV kws):=mkS
def sc_least_beside:FnScope ["names","least"] ["names"] (jV jve):=mkS
def sc_parting_row:FnScope ["one","other","first","steps","standings","row","sign","place","held","name"] ["one","other","first","steps"] (jV jvz):=mkS
def sc_steps_to:FnScope ["ways","pair","steps","way"] ["ways","pair"] (jV jzw):=mkS
def sc_searched:FnScope ["one","other","first","ways","found","done","pair","sign","name","later"] ["one","other","first"] (jV jzx):=mkS
def _s3:FnScope ["one","other","pair"] ["one","other","pair"] (jV kj0):=mkS
def _s4:FnScope ["_law_script","_law_k"] ["_law_script","_law_k"] (jV jvi):=mkS
def _s5:FnScope ["_law_found"] ["_law_found"] (jV jwo):=mkS
def sc__law_stream:FnScope ["_law_cell","_law_many","_law_found","_law_k","_law_number"] ["_law_cell","_law_many"] (jV jw3):=mkS
def sc__law_signs:FnScope ["_law_cell","_law_letters","_law_xs","_law_base","_law_at","_law_found","_law_k"] ["_law_cell"] (jV jwr):=mkS
def sc__law_fills:FnScope ["_law_number","_law_need","_law_free","_law_pool","_law_found","_law_k"] ["_law_number","_law_need","_law_free"] (jV jws):=mkS
def sc__law_case:FnScope ["_law_number","_law_sizes","_law_free","_law_rooms","_law_to"] ["_law_number","_law_sizes","_law_free"] (jV jxt):=mkS
def sc__law_read:FnScope ["_law_plain","_law_standing","_law_sign","_law_name","_law_room","_law_names","_law_keepers_here","_law_good_here","_law_steps","_law_at","_law_case_here"] ["_law_plain","_law_standing","_law_sign","_law_name"] (jV jxo):=mkS
def _s6:FnScope ["_law_plain","_law_room"] ["_law_plain","_law_room"] (jV jvg):=mkS
def sc__law_pair:FnScope ["_law_here","_law_there","_law_names","_law_rooms","_law_k","_law_standing","_law_shared"] ["_law_here","_law_there"] (jV jxp):=mkS
def sc__law_is_pair:FnScope ["_law_found","_law_due","_law_part"] ["_law_found","_law_due"] (jV jvh):=mkS
def sc__law_firsts:FnScope ["_law_one","_law_other","_law_pair_here","_law_p","_law_q","_law_shared","_law_here","_law_partner","_law_i","_law_j","_law_there","_law_free","_law_standings"] ["_law_one","_law_other","_law_pair_here"] (jV jw5):=mkS
def sc__law_behind_all:FnScope ["_law_one","_law_other","_law_pair_here","_law_here","_law_there","_law_known","_law_standing","_law_name","_law_found","_law_sign","_law_after"] ["_law_one","_law_other","_law_pair_here"] (jV jqe):=mkS
def _s7:FnScope ["_law_plain","_law_room"] ["_law_plain","_law_room"] (jV jxs):=mkS
def sc__law_table:FnScope ["_law_one","_law_other","_law_pair_here","_law_table_here","_law_known","_law_here"] ["_law_one","_law_other","_law_pair_here","_law_table_here"] (jV jwp):=mkS
def _s8:FnScope ["_law_plain"] ["_law_plain"] (jV jxq):=mkS
def sc__law_little:FnScope ["_law_cell","_law_signs_here","_law_xs","_law_many","_law_sizes","_law_rooms","_law_at","_law_room","_law_steps","_law_s","_law_cases","_law_i"] ["_law_cell","_law_signs_here"] (jV jw4):=mkS
def _s9:FnScope ["_law_plain"] ["_law_plain"] (jV jwq):=mkS
def sc__law_alike:FnScope ["_law_one","_law_other","_law_found"] ["_law_one","_law_other"] (jV jwu):=mkS
def _ta:FnScope ["_law_word","_law_one","_law_other"] ["_law_word","_law_one","_law_other"] (jV jxr):=mkS
def _tb:FnScope ["_law_made_here","_law_left"] ["_law_made_here","_law_left"] (jV jwt):=mkS
def sc_law:FnScope ["_law_script","_law_signs_here","_law_one","_law_other","_law_either","_law_left","_law_first","_law_just","_law_word"] ["_law_script"] (jV wwh):=mkS
structure Txt (K:Frag)(mg:Str->Option Value):Prop where
 b_all:mg "all"=none
 b_any:mg "any"=none
 b_bool:mg "bool"=none
 b_dict:mg "dict"=none
 b_enumerate:mg "enumerate"=none
 b_int:mg "int"=none
 b_isinstance:mg "isinstance"=none
 b_len:mg "len"=none
 b_list:mg "list"=none
 b_max:mg "max"=none
 b_range:mg "range"=none
 b_reversed:mg "reversed"=none
 b_set:mg "set"=none
 b_sorted:mg "sorted"=none
 b_tuple:mg "tuple"=none
 c_SMALL_ROOMS:Cst mg "SMALL_ROOMS" (V.C (12))
 c_SMALL_KEEPERS:Cst mg "SMALL_KEEPERS" (V.C (3))
 c_NOWHERE:Cst mg "NOWHERE" (V.C (-1))
 c_FIRST_PAIR:_l8 K mg "FIRST_PAIR" (.M [(.C 0),(.C 0),(.M [])])
 c_WORDS:_l8 K mg "WORDS" (.M [(.e "both"),(.e "either"),(.e "first"),(.e "one")])
 c_MOST_ROOMS:Cst mg "MOST_ROOMS" (V.C (40))
section
variable (P:Program)(w:PySem.World)(K:Frag)(mg:Str->Option Value)(base:Heap)
abbrev kjc:=k5 P w K mg base 1 "is_small" ["plain"] (spF K mg 1 m_is_small)
abbrev qkp:=k5 P w K mg base 1 "read_by" ["plain","standing","sign","name"] (spF K mg 4 m_read_by)
abbrev jx4:=k5 P w K mg base 1 "is_good_in" ["plain","room"] (spF K mg 2 m_is_good_in)
abbrev wq0:=k5 P w K mg base 2 "agrees" ["one","other","pair"] (spF K mg 3 m_agrees)
abbrev kji:=k5 P w K mg base 1 "keepers_in" ["plain","room"] (spF K mg 2 m_keepers_in)
abbrev jzn:=k5 P w K mg base 1 "standing_in" ["room","names"] (spF K mg 2 m_standing_in)
abbrev jqg:=k5 P w K mg base 2 "first_standings" ["one","other","pair"] (spF K mg 3 m_first_standings)
abbrev kjb:=k5 P w K mg base 1 "names_of" ["standing"] (spF K mg 1 m_names_of)
abbrev jqk:=k5 P w K mg base 2 "held_by_both" ["standings"] (spF K mg 1 m_held_by_both)
abbrev qko:=k5 P w K mg base 1 "room_of" ["standing"] (spF K mg 1 m_room_of)
abbrev qkq:=k5 P w K mg base 2 "pair_of" ["standings"] (spF K mg 1 m_pair_of)
abbrev jvp:=k5 P w K mg base 2 "read_by_both" ["one","other","standings","sign","name"] (spF K mg 5 m_read_by_both)
abbrev qkn:=k5 P w K mg base 3 "steps_from" ["one","other","pair"] (spF K mg 3 m_steps_from)
abbrev jzo:=k5 P w K mg base 1 "lacks_cases" ["room"] (spF K mg 1 _rK)
abbrev qxl:=k5 P w K mg base 1 "led_to" ["end","cases"] (spF K mg 2 _rL)
abbrev wkz:=k5 P w K mg base 2 "turned" ["plain"] (spF K mg 1 Kv)
abbrev kjj:=k5 P w K mg base 1 "is_good_by" ["word","ours","theirs"] (spF K mg 3 m_is_good_by)
abbrev jzq:=k5 P w K mg base 3 "joined_case" ["standings","numbers"] (spM K mg 1 m_joined_case)
abbrev jzp:=k5 P w K mg base 4 "joined_room" ["word","one","other","pair","numbers"] (spM K mg 4 m_joined_room)
abbrev qxm:=k5 P w K mg base 5 "joined" ["word","one","other"] (spF K mg 3 z5)
abbrev jxk:=k5 P w K mg base 1 "least_beside" ["names"] (spF K mg 1 m_least_beside)
abbrev kz4:=k5 P w K mg base 3 "parting_row" ["one","other","first","steps"] (spF K mg 4 m_parting_row)
abbrev kvz:=k5 P w K mg base 1 "steps_to" ["ways","pair"] (spF K mg 2 m_steps_to)
abbrev vj7:=k5 P w K mg base 4 "searched" ["one","other","first"] (spF K mg 3 m_searched)
abbrev kw0:=_mv P w K mg base 5 "compared" ["one","other","pair"] (spF K mg 3 m_compared)
abbrev jxm:=k5 P w K mg base 1 "_law_cell_at" ["_law_script","_law_k"] (spF K mg 2 m__law_cell_at)
abbrev kjk:=k5 P w K mg base 1 "_law_whole" ["_law_found"] (spF K mg 1 m__law_whole)
abbrev jw8:=k5 P w K mg base 1 "_law_stream" ["_law_cell","_law_many"] (spF K mg 2 m__law_stream)
abbrev qks:=k5 P w K mg base 2 "_law_signs" ["_law_cell"] (spF K mg 1 m__law_signs)
abbrev kjm:=k5 P w K mg base 1 "_law_fills" ["_law_number","_law_need","_law_free"] (spF K mg 3 m__law_fills)
abbrev qvm:=k5 P w K mg base 2 "_law_case" ["_law_number","_law_sizes","_law_free"] (spF K mg 3 m__law_case)
abbrev kqk:=k5 P w K mg base 1 "_law_read" ["_law_plain","_law_standing","_law_sign","_law_name"] (spF K mg 4 m__law_read)
abbrev jxl:=k5 P w K mg base 1 "_law_keepers" ["_law_plain","_law_room"] (spF K mg 2 m__law_keepers)
abbrev kql:=k5 P w K mg base 1 "_law_pair" ["_law_here","_law_there"] (spF K mg 2 m__law_pair)
abbrev kv6:=k5 P w K mg base 2 "_law_is_pair" ["_law_found","_law_due"] (spF K mg 2 m__law_is_pair)
abbrev kz6:=k5 P w K mg base 2 "_law_firsts" ["_law_one","_law_other","_law_pair_here"] (spF K mg 3 m__law_firsts)
abbrev kjd:=k5 P w K mg base 3 "_law_behind_all" ["_law_one","_law_other","_law_pair_here"] (spF K mg 3 m__law_behind_all)
abbrev kqn:=k5 P w K mg base 1 "_law_good" ["_law_plain","_law_room"] (spF K mg 2 m__law_good)
abbrev qkr:=k5 P w K mg base 4 "_law_table" ["_law_one","_law_other","_law_pair_here","_law_table_here"] (spF K mg 4 m__law_table)
abbrev kqm:=k5 P w K mg base 1 "_law_most" ["_law_plain"] (spF K mg 1 m__law_most)
abbrev kz5:=k5 P w K mg base 3 "_law_little" ["_law_cell","_law_signs_here"] (spF K mg 2 _rM)
abbrev kjl:=k5 P w K mg base 2 "_law_small" ["_law_plain"] (spF K mg 1 W0)
abbrev kjn:=k5 P w K mg base 6 "_law_alike" ["_law_one","_law_other"] (spF K mg 2 JJ)
abbrev qvl:=k5 P w K mg base 6 "_law_made" ["_law_word","_law_one","_law_other"] (spF K mg 3 _rN)
abbrev qkt:=k5 P w K mg base 7 "_law_equal" ["_law_made_here","_law_left"] (spF K mg 2 _rO)
end
section
variable {P:Program}{w:PySem.World}{K:Frag}{mg:Str->Option Value}{base:Heap}{f:Addr}{fd:FuncData}
def _tc(T:Txt K mg):OkF P w K mg base 1 "is_small" jzz ["plain"] 1 m_is_small:=
 okF _sS λhr=>(jK (V9 (j7 (_m8 (j7 (qL (kx (vv 0) ki) T.b_len)) (j7 (q_C (QY T.c_SMALL_ROOMS) (λ_=>vj))))) (Q0 (Vw (_dz K) _hD (j7 (qM .rt 1 [] 1 ["room"] (qX (jz (kx (vv 0) ki))) (λ_ _ _ _ _=>(_m8 (kx (vv 0) ki) (j7 (q_C (QY T.c_SMALL_KEEPERS) (λ_=>vj))))))) T.b_all _dD))))
def _td(T:Txt K mg):OkF P w K mg base 1 "read_by" kkk ["plain","standing","sign","name"] 4 m_read_by:=
 okF sc_read_by λhr=>have nd:=sc_read_by.nd;(j9 (kK (QW.pt (z8 (VX (vv 1) kn) (KZ (wQ (_gK hr.u) _gN (vv 2) (kx (vv 0) ki) (by rfl) _hJ)))) (jK kN)) (j9 (qA nd (jz (kx (vv 1) ki))) (j9 (qA nd (jz (kx (kx (kx (kx (vv 0) ki) (kx (vv 1) ki)) ki) (j7 (_iY hr.u (kx (vv 0) ki) (vv 2)))))) (j9 (qA nd (jz (kx (vv 5) (j7 (V2 (wQ (_gJ hr.u) _gM (vv 3) (vv 4) (by rfl) _hI) (_iY hr.u (vv 4) (vv 3)) (qL (vv 4) T.b_len)))))) (j9 (kK (VX (vv 6) kn) (jK kN)) (j9 (qA nd (oA (vv 4) (j7 (kW (o:=.X) (j5 (cv 3) j8))))) (jK (kW (o:=.X) (j5 (jz (kx (vv 6) ki)) (j5 (qT (j7 (qM .rt 1 [7] 8 ["fill","held"] (qX (jz (kx (vv 6) ki))) (λ_ _ _ _ _=>(jz (kx (vv 1) (vv 0)))))) T.b_tuple) j8))))))))))
def _te(T:Txt K mg):OkF P w K mg base 1 "is_good_in" jwm ["plain","room"] 2 m_is_good_in:=
 okF _sT λhr=>(jK (V9 (j7 (VQ (_fY hr.u) _f0 (vv 1) (j7 (q_C (QY T.c_NOWHERE) (λ_=>vj))) (zV _))) (Q0 (jz (kx (kx (kx (vv 0) ki) (vv 1)) ki)))))
def _tf(T:Txt K mg)(ay:jx4 P w K mg base):OkF P w K mg base 2 "agrees" kwt ["one","other","pair"] 3 m_agrees:=
 okF _sU λhr=>(jK (_m5 hr (j7 (qC ay hr (j5 (cv 0) (j5 (jz (kx (vv 2) ki)) j8)))) (j7 (qC ay hr (j5 (cv 1) (j5 (jz (kx (vv 2) ki)) j8))))))
def _tg(T:Txt K mg):OkF P w K mg base 1 "keepers_in" jwl ["plain","room"] 2 m_keepers_in:=
 okF _sV λhr=>(jK (V2 (Vx hr (vv 1) (j7 (q_C (QY T.c_NOWHERE) (λ_=>vj)))) kI (jz (kx (kx (kx (vv 0) ki) (vv 1)) ki))))
def _th(T:Txt K mg):OkF P w K mg base 1 "standing_in" jvy ["room","names"] 2 m_standing_in:=
 okF _sW λhr=>(jK (V2 (Vx hr (vv 0) (j7 (q_C (QY T.c_NOWHERE) (λ_=>vj)))) kN (kW (o:=.X) (j5 (cv 0) (j5 (qT (vv 1) T.b_tuple) j8)))))
def _ti(T:Txt K mg)(bw:kji P w K mg base)(bj:jzn P w K mg base):OkF P w K mg base 2 "first_standings" jqd ["one","other","pair"] 3 m_first_standings:=
 okF sc_first_standings λhr=>have nd:=sc_first_standings.nd;(j9 (qA nd (qC bw hr (j5 (cv 0) (j5 (jz (kx (vv 2) ki)) j8)))) (j9 (qA nd (JW (_ky K) _kx (j7 (qm .rt 2 [] 7 ["i","j"] (qX (jz (kx (vv 2) ki))) (λhN _ _ _ _ _=>(KQ (is:=[0,1]) (Kz K (t:=gNs [0,1]) (n:=2) (vw (gn hN) (vw (gn hN) Kx))))) (λ_ _ _ _ _=>_hq) (λ_ _ _ _ _=>(kW (o:=.X) (j5 (cv 1) (j5 (cv 0) j8)))))) T.b_dict _dJ)) (j9 (qA nd z7) (j9 (qF (Jj (j7 (qC bw hr (j5 (cv 1) (j5 (jz (kx (vv 2) ki)) j8)))) rfl T.b_range) (gN nd) (kQ (qP (V2 (wQ (_kb hr.u) _kd (vv 6) (vv 4) (by rfl) _kf) (jz (_kg hr.u (vv 4) (vv 6) (λ_ _=>rfl))) (oA (vv 3) (j7 (qL (j7 (_hn (o:=.rt) (k:=1) (R:=[3]) ["name","own"] (_kI (pv 5)) (λ_ _ _ _ _=>(WK (gn (show(["name","own"]:List Str).l by decide +kernel)))) (λ_ _ _ _ _=>(_hr (wQ _bk (Vz (g:=λa b=>decide (b<=a))) (vv 0) (vv 1) (zV _) _hE))) (λ_ _ _ _ _=>(cv 0)) J4 #[_,_,rfl,rfl] .q (show ∀j>([3]:List Nat) ,j<7 by decide))) T.b_len))))))) (jK (kW (o:=.X) (j5 (qC bj hr (j5 (jz (kx (vv 2) ki)) (j5 (_hQ (vv 3) T.b_range T.b_list) j8))) (j5 (_iO bj (hr.ý .q) J4 (_iN (kx (vv 2) ki) (_iN (vv 5) _iM))) j8))))))))
def _tj(T:Txt K mg):OkF P w K mg base 1 "names_of" jzy ["standing"] 1 m_names_of:=
 okF _sX λhr=>(jK (V2 (VX (vv 0) kn) (kW (o:=.X) j8) (jz (kx (vv 0) ki))))
def _tk(T:Txt K mg)(b7:kjb P w K mg base):OkF P w K mg base 2 "held_by_both" jvf ["standings"] 1 m_held_by_both:=
 okF sc_held_by_both λhr=>have nd:=sc_held_by_both.nd;(j9 (qA nd (qC b7 hr (j5 (jz (kx (vv 0) ki)) j8))) (jK (oA (vv 1) (j7 (qT (j7 (qm .rt 1 [1] 2 ["name","ours"] (qX (qC b7 hr (j5 (jz (kx (vv 0) ki)) j8))) (λhN _ _ _ _ _=>(WK (gn hN))) (λ_ _ _ _ _=>(_hr (wQ (_gK hr.u) _gN (vv 0) (vv 1) (by rfl) _hJ))) (λ_ _ _ _ _=>(cv 0)))) T.b_tuple)))))
def _tl(T:Txt K mg):OkF P w K mg base 1 "room_of" kkj ["standing"] 1 m_room_of:=
 okF _sY λhr=>(jK (V2 (VX (vv 0) kn) (q_C (QY T.c_NOWHERE) (λ_=>vj)) (jz (kx (vv 0) ki))))
def _tm(T:Txt K mg)(b7:kjb P w K mg base)(dv:qko P w K mg base):OkF P w K mg base 2 "pair_of" kkl ["standings"] 1 m_pair_of:=
 okF sc_pair_of λhr=>have nd:=sc_pair_of.nd;(j9 (qA nd (qC b7 hr (j5 (jz (kx (vv 0) ki)) j8))) (j9 (qA nd (qC b7 hr (j5 (jz (kx (vv 0) ki)) j8))) (j9 (_hp (i:=3) (o:=.rt) (k:=2) (R:=[2]) ["i","name","theirs"] nd rfl (by trivial) (_kG (cv 1) rfl T.b_enumerate) (λ_ _ _ _ _=>(KQ (is:=[0,1]) (Kz K (t:=gNs [0,1]) (n:=2) (vw (gn (show(["i","name","theirs"]:List Str).l by decide +kernel)) (vw (gn (show(["i","name","theirs"]:List Str).l by decide +kernel)) Kx))))) (λ_ _ _ _ _=>(_hr (wQ (_gJ hr.u) _gM (vv 1) (vv 2) (by rfl) _hI))) (λ_ _ _ _ _=>(kW (o:=.X) (j5 (cv 0) (j5 (_iY hr.u (vv 2) (vv 1)) j8)))) J4 #[_,_,rfl,rfl] .q (show ∀j>([2]:List Nat) ,j<4 by decide)) (jK (kW (o:=.X) (j5 (qC dv hr (j5 (jz (kx (vv 0) ki)) j8)) (j5 (qC dv hr (j5 (jz (kx (vv 0) ki)) j8)) (j5 (qT (vv 3) T.b_tuple) j8))))))))
def _tn(T:Txt K mg)(du:qkp P w K mg base):OkF P w K mg base 2 "read_by_both" jvd ["one","other","standings","sign","name"] 5 m_read_by_both:=
 okF _sZ λhr=>(jK (kW (o:=.X) (j5 (qC du hr (j5 (cv 0) (j5 (jz (kx (vv 2) ki)) (j5 (cv 3) (j5 (cv 4) j8))))) (j5 (qC du hr (j5 (cv 1) (j5 (jz (kx (vv 2) ki)) (j5 (cv 3) (j5 (cv 4) j8))))) j8))))
def _to(T:Txt K mg)(ah:jqg P w K mg base)(af:jqk P w K mg base)(bz:qkq P w K mg base)(aq:jvp P w K mg base):OkF P w K mg base 3 "steps_from" jwk ["one","other","pair"] 3 m_steps_from:=
 okF sc_steps_from λhr=>have nd:=sc_steps_from.nd;(j9 (qA nd (qC ah hr (j5 (cv 0) (j5 (cv 1) (j5 (cv 2) j8))))) (j9 (qA nd (_hQ (j7 (oA (j7 (qL (j7 (qC af hr (j5 (cv 3) j8))) T.b_len)) ki)) T.b_range T.b_list)) (j9 (qA nd z7) (j9 (qF (qX (_l3 rfl rfl (j7 (oA (kx (vv 0) ki) (kx (vv 1) ki))) T.b_sorted T.b_set)) (gN nd) (kQ (qF (qX (cv 4)) (gN nd) (kQ (qP (kW (o:=.X) (j5 (cv 6) (j5 (cv 7) (j5 (qC bz hr (j5 (qC aq hr (j5 (cv 0) (j5 (cv 1) (j5 (cv 3) (j5 (cv 6) (j5 (cv 7) j8)))))) j8)) j8))))))))) (jK (_eS (pv 5)))))))
def _tp(T:Txt K mg):OkF P w K mg base 1 "lacks_cases" jw0 ["room"] 1 _rK:=
 okF _s0 λhr=>(jK (Vw (_la K) _lb (j7 (qM .rt 1 [] 1 ["cases"] (qX (jz (kx (vv 0) ki))) (λ_ _ _ _ _=>(VQ (_gJ hr.u) _gM kn (vv 0) (by rfl))))) T.b_any _dE))
#where in
def _tq(T:Txt K mg):OkF P w K mg base 1 "led_to" kwr ["end","cases"] 2 _rL:=
 okF _s1 λhr=>(jK (qM .rt 1 [0] 2 ["case","end"] (qX (cv 1)) (λ_ _ _ _ _=>(V2 (VX (vv 0) kn) (kW (o:=.X) (j5 (cv 1) (j5 (kW (o:=.X) j8) j8))) (cv 0)))))
def _tr(T:Txt K mg)(cm:jzo P w K mg base)(gh:qxl P w K mg base):OkF P w K mg base 2 "turned" kwq ["plain"] 1 Kv:=
 okF sc_turned λhr=>have nd:=sc_turned.nd;(j9 (qA nd (qL (kx (vv 0) ki) T.b_len)) (j9 (_hp (i:=2) (o:=.rt) (k:=1) (R:=[1]) ["room","end"] nd rfl (by trivial) (qX (jz (kx (vv 0) ki))) (λ_ _ _ _ _=>(WK (gn (show(["room","end"]:List Str).l by decide +kernel)))) (λ_ _ _ _ _=>_hq) (λ_ _ _ _ _=>(kW (o:=.X) (j5 (jz (kx (vv 0) ki)) (j5 (_gX (kx (vv 0) ki)) (j5 (qM .rt 1 [1] 2 ["cases","end"] (qX (jz (kx (vv 0) ki))) (λ_ _ _ _ _=>(qC gh hr (j5 (cv 1) (j5 (cv 0) j8))))) j8))))) J4 #[_,_,rfl,rfl] .q (show ∀j>([1]:List Nat) ,j<3 by decide)) (j9 (kK (vq (j7 (Vw (_la K) _lb (j7 (qM .rt 1 [] 3 ["room"] (qX (jz (kx (vv 0) ki))) (λ_ _ _ _ _=>(qC cm hr (j5 (cv 0) j8))))) T.b_any _dE))) (kQ (qP (kW (o:=.X) (j5 kI (j5 x9 (j5 (qM .rt 1 [1] 3 ["sign","end"] (qX (jz (kx (vv 0) ki))) (λ_ _ _ _ _=>(zq (o:=.rt) (j5 (kW (o:=.X) (j5 (cv 1) (j5 (kW (o:=.X) j8) j8))) j8)))) j8))))))) (jK (kW (o:=.X) (j5 (JW (_dN K) _hy (kx (vv 0) ki) T.b_list Qq) (j5 (cv 2) j8)))))))
def _ts(T:Txt K mg):OkF P w K mg base 1 "is_good_by" jwn ["word","ours","theirs"] 3 m_is_good_by:=
 okF _s2 λhr=>(j9 (kK (Vx hr (vv 0) kSv) (jK (V9 (vv 1) (Q0 (cv 2))))) (j9 (kK (Vx hr (vv 0) kSv) (jK (_gU (vv 1) (Q0 (cv 2))))) (j9 (kK (Vx hr (vv 0) kSv) (jK (V9 (vv 1) (Q0 (_gX (vv 2)))))) (jK (VQ (_fY hr.u) _f0 (vv 1) (vv 2) (zV _))))))
def _tt(T:Txt K mg)(bz:qkq P w K mg base)(af:jqk P w K mg base)(F:Fun K "joined_case" "joined_case" jw2 f fd):FnOk P w K mg base (CXE P w) 3 f fd ["standings","numbers"] (spM K mg 1 m_joined_case):=
 _d4 F sc_joined_case (_kX rfl) λcg A outer s H vs Q E hr h=>have nd:=sc_joined_case.nd;_kZ rfl
  (j9 (qA nd (qC bz hr (j5 (cv 0) j8))) (j9 (kK (Vx hr (vv 2) (j7 (kW (o:=.X) (j5 (q_C (QY T.c_NOWHERE) (λ_=>vj)) (j5 (q_C (QY T.c_NOWHERE) (λ_=>vj)) (j5 (kW (o:=.X) j8) j8)))))) (jK kN)) (jK (kW (o:=.X) (j5 (_kW (i:=1) hr.u (pv 1) (vv 2) (j7 (Vw (_kR K) _kS (vv 1) T.b_len _dB))) (j5 (QE.weak (qC af hr (j5 (cv 0) j8))) _kz)))))) h
def _tu(T:Txt K mg)(ah:jqg P w K mg base)(af:jqk P w K mg base)(db:kjj P w K mg base)(aq:jvp P w K mg base)(ay:jx4 P w K mg base)(ci:jzq P w K mg base)(F:Fun K "joined_room" "joined_room" jw1 f fd):FnOk P w K mg base (CXE P w) 4 f fd ["word","one","other","pair","numbers"] (spM K mg 4 m_joined_room):=
 _d4 F sc_joined_room (_kX rfl) λcg A outer s H vs Q E hr h=>have nd:=sc_joined_room.nd;_kZ rfl
  (j9 (qA nd (qC ah hr (j5 (cv 1) (j5 (cv 2) (j5 (cv 3) j8))))) (j9 (qA nd (qL (j7 (qC af hr (j5 (cv 5) j8))) T.b_len)) (j9 (qA nd z7) (j9 (qF (qX (jz (kx (vv 1) ki))) (gN nd) (j9 (_hp (i:=9) (o:=.rt) (k:=1) (R:=[1,2,5,8]) ["name","one","other","standings","sign"] nd rfl (by trivial) (Jj (j7 (oA (vv 6) ki)) rfl T.b_range) (λ_ _ _ _ _=>(WK (gn (show(["name","one","other","standings","sign"]:List Str).l by decide +kernel)))) (λ_ _ _ _ _=>_hq) (λ_ _ _ _ _=>(qC aq hr (j5 (cv 1) (j5 (cv 2) (j5 (cv 3) (j5 (cv 4) (j5 (cv 0) j8))))))) J4 #[_,_,rfl,rfl] .q (show ∀j>([1,2,5,8]:List Nat) ,j<10 by decide)) (kQ (qP (qM .rt 1 [4] 10 ["both","numbers"] (qX (QE.weak (cv 9))) (λ_ _ _ _ _=>(_k3 (i:=1) ci (hr.ý .q) J4 (_k1 (cv 0) (_k0 (i:=1) (pv 1)))))))))) (jK (kW (o:=.X) (j5 (cv 6) (j5 (qC db hr (j5 (cv 0) (j5 (qC ay hr (j5 (cv 1) (j5 (jz (kx (vv 3) ki)) j8))) (j5 (qC ay hr (j5 (cv 2) (j5 (jz (kx (vv 3) ki)) j8))) j8)))) (j5 (cv 7) j8))))))))) h
def _tv(T:Txt K mg)(b9:kjc P w K mg base)(ck:jzp P w K mg base):OkF P w K mg base 5 "joined" kws ["word","one","other"] 3 z5:=
 okF sc_joined λhr=>have nd:=sc_joined.nd;(j9 (kK (QW.pt (z8 (wQ (_gK hr.u) _gN (vv 0) (j7 (_l9 T.c_WORDS)) (by rfl) _hJ) (KZ (_m4 hr (kx (vv 1) ki) (kx (vv 2) ki))))) (kQ _ip)) (j9 (kK (QW.pt (z8 (v9 (vq (j7 (qC b9 hr (j5 (cv 1) j8))))) (KZ (v9 (vq (j7 (qC b9 hr (j5 (cv 2) j8)))))))) (kQ _ip)) (j9 (qA nd (_jH hr.u (_l9 T.c_FIRST_PAIR) kI)) (j9 (qA nd z7) (j9 (_fo (_d0 #[_,_,rfl,rfl]) (_m7 (j7 (qL (vv 4) T.b_len)) (j7 (Vw (_kR K) _kS (vv 3) T.b_len _dB))) (j9 (kK (tGtr (j7 (Vw (_kR K) _kS (vv 3) T.b_len _dB)) (j7 (q_C (QY T.c_MOST_ROOMS) (λ_=>vj)))) (kQ _ip)) (kQ (qP (_k3 (i:=3) ck (hr.ý .q) J4 (_k1 (cv 0) (_k1 (cv 1) (_k1 (cv 2) (_k1 (jz (kx (j7 (JW (_jR rfl) _jT (vv 3) T.b_list Qq)) (j7 (qL (vv 4) T.b_len)))) (_k0 (i:=3) (pv 3))))))))))) (jK (kW (o:=.X) (j5 (kW (o:=.X) (j5 (JW (_dN K) _hy (kx (vv 1) ki) T.b_list Qq) (j5 (cv 4) j8))) (j5 (JW (_jR rfl) _jT (vv 3) T.b_list Qq) j8)))))))))
def _tw(T:Txt K mg):OkF P w K mg base 1 "least_beside" jve ["names"] 1 m_least_beside:=
 okF sc_least_beside λhr=>have nd:=sc_least_beside.nd;(j9 (qA nd kI) (j9 (_fo (_d0 #[_,_,rfl,rfl]) (wQ (_gJ hr.u) _gM (vv 1) (vv 0) (by rfl) _hI) (kQ (_jV (i:=1) nd rfl (by trivial) _aX kI))) (jK (_eS (pv 1)))))
def _tx(T:Txt K mg)(ah:jqg P w K mg base)(af:jqk P w K mg base)(aq:jvp P w K mg base)(c9:jxk P w K mg base):OkF P w K mg base 3 "parting_row" jvz ["one","other","first","steps"] 4 m_parting_row:=
 okF sc_parting_row λhr=>have nd:=sc_parting_row.nd;(j9 (qA nd (qC ah hr (j5 (cv 0) (j5 (cv 1) (j5 (cv 2) j8))))) (j9 (qA nd z7) (j9 (qF (qX (cv 3)) (KQ (is:=[6,7]) (Kz K (t:=gNs [6,7]) (n:=2) (vw (gn nd) (vw (gn nd) Kx)))) (j9 (qA nd (qC af hr (j5 (cv 4) j8))) (j9 (qA nd (V2 (_m7 (vv 7) (j7 (qL (vv 8) T.b_len))) (jz (kx (vv 8) (vv 7))) (qC c9 hr (j5 (cv 8) j8)))) (j9 (qP (kW (o:=.X) (j5 (cv 6) (j5 (cv 9) j8)))) (kQ (qA nd (qC aq hr (j5 (cv 0) (j5 (cv 1) (j5 (cv 4) (j5 (cv 6) (j5 (cv 9) j8)))))))))))) (jK (_eS (pv 5))))))
def _ty(T:Txt K mg):OkF P w K mg base 1 "steps_to" jzw ["ways","pair"] 2 m_steps_to:=
 okF sc_steps_to λhr=>have nd:=sc_steps_to.nd;(j9 (qA nd z7) (j9 (qA nd (jz (_mt hr.u (vv 0) (vv 1) (λ_ _=>rfl)))) (j9 (_fo (_d0 #[_,_,rfl,rfl]) (_m6 (vv 3) kn) (j9 (qP (kW (o:=.X) (j5 (jz (kx (vv 3) ki)) (j5 (jz (kx (vv 3) ki)) j8)))) (kQ (qA nd (jz (_mt hr.u (vv 0) (kx (vv 3) ki) (λ_ _=>rfl))))))) (jK (_mm (vv 2) T.b_reversed T.b_list)))))
def _tz(T:Txt K mg)(cz:qkn P w K mg base)(gp:wq0 P w K mg base)(cf:kz4 P w K mg base)(fg:kvz P w K mg base):OkF P w K mg base 4 "searched" jzx ["one","other","first"] 3 m_searched:=
 okF sc_searched λhr=>have nd:=sc_searched.nd;(j9 (qA nd (_jH hr.u (cv 2) kN)) (j9 (qA nd (zq (o:=.rt) (j5 (cv 2) j8))) (j9 (qA nd kI) (j9 (_fo (_d0 #[_,_,rfl,rfl]) (_m7 (vv 5) (j7 (qL (vv 4) T.b_len))) (j9 (qA nd (jz (kx (vv 4) (vv 5)))) (j9 (kK (v9 (vq (j7 (qC gp hr (j5 (cv 0) (j5 (cv 1) (j5 (cv 6) j8))))))) (jK (kW (o:=.X) (j5 kS (j5 (qC cf hr (j5 (cv 0) (j5 (cv 1) (j5 (cv 2) (j5 (qC fg hr (j5 (cv 3) (j5 (cv 6) j8))) j8))))) j8))))) (j9 (qF (qX (qC cz hr (j5 (cv 0) (j5 (cv 1) (j5 (cv 6) j8))))) (KQ (is:=[7,8,9]) (Kz K (t:=gNs [7,8,9]) (n:=3) (vw (gn nd) (vw (gn nd) (vw (gn nd) Kx))))) (kQ (kK (wQ (_jk hr.u) _jo (vv 9) (vv 3) (by rfl) _jq) (j9 (_jC (i:=3) hr.u rfl (pv 3) (vv 9) (kW (o:=.X) (j5 (cv 6) (j5 (cv 7) (j5 (cv 8) j8))))) (kQ (qP (cv 9))))))) (kQ (_jV (i:=5) nd rfl (by trivial) _aX kI)))))) (jK (kW (o:=.X) (j5 kS (j5 (cv 4) j8))))))))
def _tA(T:Txt K mg)(fc:vj7 P w K mg base)(b9:kjc P w K mg base)(F:_mn K "compared" "compared" kj0 f fd):FnOk P w K mg base (CXE P w) 5 f fd ["one","other","pair"] (spF K mg 3 m_compared):=
 _mo F _s3 (_go rfl) λcg A outer s H vs Q E hr h=>_gq rfl
  (j9 (kK (_m4 hr (kx (vv 0) ki) (kx (vv 1) ki)) (kQ _ip)) (j9 (kK (QW.pt (z8 (v9 (vq (j7 (qC b9 hr (j5 (cv 0) j8))))) (KZ (v9 (vq (j7 (qC b9 hr (j5 (cv 1) j8)))))))) (kQ _ip)) (jK (qC fc hr (j5 (cv 0) (j5 (cv 1) (j5 (V2 (VX (vv 2) kn) (_l9 T.c_FIRST_PAIR) (cv 2)) j8))))))) h
def _tB(T:Txt K mg):OkF P w K mg base 1 "_law_cell_at" jvi ["_law_script","_law_k"] 2 m__law_cell_at:=
 okF _s4 λhr=>(j9 (kK (_m7 (vv 1) (j7 (qL (vv 0) T.b_len))) (jK (jz (kx (vv 0) (vv 1))))) (jK kI))
def _tC(T:Txt K mg):OkF P w K mg base 1 "_law_whole" jwo ["_law_found"] 1 m__law_whole:=
 okF _s5 λhr=>(jK (V9 (j7 (_hw (vv 0) T.b_isinstance T.b_int _dG rfl)) (Q0 (_gX (j7 (_hw (vv 0) T.b_isinstance T.b_bool _dH rfl))))))
def _tD(T:Txt K mg):OkF P w K mg base 1 "_law_stream" jw3 ["_law_cell","_law_many"] 2 m__law_stream:=
 okF sc__law_stream λhr=>have nd:=sc__law_stream.nd;(j9 (qA nd z7) (j9 (kK (Vx hr (j7 (oM (vv 0) ki)) ki) (j9 (qA nd (W1 (vv 0) ki)) (j9 (qF (Jj (vv 1) rfl T.b_range) (gN nd) (j9 (qP (oM (vv 0) ki)) (kQ (qA nd (W1 (vv 0) ki))))) (jK (_eS (pv 2)))))) (j9 (qA nd (oA (j7 (oM (j7 (W1 (vv 0) ki)) ki)) ki)) (j9 (qF (Jj (j7 (oA (vv 1) ki)) rfl T.b_range) (gN nd) (j9 (qA nd (oM (j7 (oA (j7 (oA (j7 (oX (vv 4) (vv 4))) (j7 (oX ki (vv 4))))) (vv 3))) ki)) (kQ (qP (oM (j7 (oA (j7 (oX (vv 4) ki)) (j7 (oX ki (vv 3))))) ki))))) (jK (_iL (vv 2) (_iI ki) _iH))))))
def _tE(T:Txt K mg)(b5:jw8 P w K mg base):OkF P w K mg base 2 "_law_signs" jwr ["_law_cell"] 1 m__law_signs:=
 okF sc__law_signs λhr=>have nd:=sc__law_signs.nd;(j9 (qA nd kS) (j9 (qA nd (qC b5 hr (j5 (cv 0) (j5 kI j8)))) (j9 (qA nd (_kA _ay (j7 (qM .rt 1 [1] 7 ["_law_x","_law_letters"] (qX (_iL (vv 2) _iH (_iI (j7 (oA ki (j7 (oM (vv 0) ki))))))) (λ_ _ _ _ _=>(jz (kx (vv 1) (j7 (oM (vv 0) ki))))))))) (j9 (qA nd (oM (j7 (W1 (vv 0) ki)) (j7 (qL (vv 3) T.b_len)))) (j9 (qA nd z7) (j9 (qF (Jj (kx (j7 (zq (o:=.rt) (j5 kI (j5 kI (j5 kI (j5 kI (j5 kI (j5 kI (j5 kI (j5 kI j8)))))))))) (j7 (oM (j7 (W1 (vv 0) ki)) ki))) rfl T.b_range) (gN nd) (kQ (qP (oA (j7 (oA (j7 (_iL (vv 3) _iH (_iI (vv 4)))) (kx (vv 1) (j7 (oA (j7 (oM (kx (vv 2) ki) ki)) (vv 6)))))) (j7 (_iL (vv 3) (_iI (j7 (oA (vv 4) ki))) _iH)))))) (jK (_eS (pv 5)))))))))
def _tF(T:Txt K mg):OkF P w K mg base 1 "_law_fills" jws ["_law_number","_law_need","_law_free"] 3 m__law_fills:=
 okF sc__law_fills λhr=>have nd:=sc__law_fills.nd;(j9 (qA nd (_hQ (vv 2) T.b_range T.b_list)) (j9 (qA nd z7) (j9 (qF (Jj (vv 1) rfl T.b_range) (gN nd) (j9 (qP (_i9 (i:=3) (_dA K PySem.F.plainAttrs_list PySem.F.slot_list_pop PySem.F.type_list_pop _ct (pv 3) (x3 (j7 (oM (vv 0) (j7 (qL (vv 3) T.b_len)))) x5)))) (kQ (qA nd (oA (j7 (W1 (vv 0) ki)) (j7 (oX ki (vv 5)))))))) (jK (qT (vv 4) T.b_tuple)))))
def _tG(T:Txt K mg)(d8:kjm P w K mg base):OkF P w K mg base 2 "_law_case" jxt ["_law_number","_law_sizes","_law_free"] 3 m__law_case:=
 okF sc__law_case λhr=>have nd:=sc__law_case.nd;(j9 (kK (Vx hr (j7 (oM (vv 0) ki)) ki) (jK kN)) (j9 (_hp (i:=3) (o:=.rt) (k:=1) (R:=[1,2]) ["_law_to","_law_sizes","_law_free"] nd rfl (by trivial) (Jj (j7 (qL (vv 1) T.b_len)) rfl T.b_range) (λ_ _ _ _ _=>(WK (gn (show(["_law_to","_law_sizes","_law_free"]:List Str).l by decide +kernel)))) (λ_ _ _ _ _=>(_hr (wQ _bi (Vz (g:=λa b=>decide (a<=b))) (kx (vv 1) (vv 0)) (vv 2) (zV _) _hE))) (λ_ _ _ _ _=>(cv 0)) J4 #[_,_,rfl,rfl] .q (show ∀j>([1,2]:List Nat) ,j<5 by decide)) (j9 (qA nd (jz (kx (vv 3) (j7 (oM (j7 (W1 (vv 0) ki)) (j7 (qL (vv 3) T.b_len))))))) (jK (kW (o:=.X) (j5 (cv 4) (j5 (qC d8 hr (j5 (W1 (vv 0) ki) (j5 (jz (kx (vv 1) (vv 4))) (j5 (cv 2) j8)))) j8)))))))
def _tH(T:Txt K mg):OkF P w K mg base 1 "_law_read" jxo ["_law_plain","_law_standing","_law_sign","_law_name"] 4 m__law_read:=
 okF sc__law_read λhr=>have nd:=sc__law_read.nd;(j9 (kK (VX (vv 1) kn) (jK kN)) (j9 (_fz (cv 1) (KQ (is:=[4,5]) (Kz K (t:=gNs [4,5]) (n:=2) (vw (gn nd) (vw (gn nd) Kx))))) (j9 (_fz (jz (kx (kx (vv 0) ki) (vv 4))) (KQ (is:=[6,7,8]) (Kz K (t:=gNs [6,7,8]) (n:=3) (vw (gn nd) (vw (gn nd) (vw (gn nd) Kx)))))) (j9 (qA nd (cv 6)) (j9 (kK (wQ (_gJ hr.u) _gM (vv 3) (vv 5) (by rfl) _hI) (kQ (qA nd (_iY hr.u (vv 5) (vv 3))))) (j9 (qA nd (jz (kx (kx (vv 8) (j7 (_iY hr.u (kx (vv 0) ki) (vv 2)))) (vv 9)))) (j9 (kK (VX (vv 10) kn) (jK kN)) (jK (kW (o:=.X) (j5 (jz (kx (vv 10) ki)) (j5 (qT (j7 (qM .rt 1 [5,3] 11 ["_law_fill","_law_names","_law_name"] (qX (jz (kx (vv 10) ki))) (λ_ _ _ _ _=>(jz (kx (j7 (oA (j7 (JW (_dN K) _hy (vv 1) T.b_list Qq)) (j7 (zq (o:=.rt) (j5 (cv 2) j8))))) (vv 0)))))) T.b_tuple) j8)))))))))))
def _tI(T:Txt K mg):OkF P w K mg base 1 "_law_keepers" jvg ["_law_plain","_law_room"] 2 m__law_keepers:=
 okF _s6 λhr=>(j9 (kK (Vx hr (vv 1) (j7 XX)) (jK kI)) (jK (jz (kx (kx (kx (vv 0) ki) (vv 1)) ki))))
def _tJ(T:Txt K mg):OkF P w K mg base 1 "_law_pair" jxp ["_law_here","_law_there"] 2 m__law_pair:=
 okF sc__law_pair λhr=>have nd:=sc__law_pair.nd;(j9 (qA nd (zq (o:=.rt) (j5 (kW (o:=.X) j8) (j5 (kW (o:=.X) j8) j8)))) (j9 (qA nd (zq (o:=.rt) (j5 XX (j5 XX j8)))) (j9 (qF (_i7 (zq (o:=.rt) (j5 (cv 0) (j5 (cv 1) j8))) rfl T.b_enumerate) (KQ (is:=[4,5]) (Kz K (t:=gNs [4,5]) (n:=2) (vw (gn nd) (vw (gn nd) Kx)))) (kQ (kK (_m6 (vv 5) kn) (j9 (_jU (i:=3) (pv 3) (vv 4) (jz (kx (vv 5) ki))) (kQ (_jU (i:=2) (pv 2) (vv 4) (jz (kx (vv 5) ki)))))))) (j9 (_hp (i:=6) (o:=.rt) (k:=2) (R:=[2]) ["_law_i","_law_name","_law_names"] nd rfl (by trivial) (_kG (jz (kx (vv 2) ki)) rfl T.b_enumerate) (λ_ _ _ _ _=>(KQ (is:=[0,1]) (Kz K (t:=gNs [0,1]) (n:=2) (vw (gn (show(["_law_i","_law_name","_law_names"]:List Str).l by decide +kernel)) (vw (gn (show(["_law_i","_law_name","_law_names"]:List Str).l by decide +kernel)) Kx))))) (λ_ _ _ _ _=>(_hr (wQ (_gJ hr.u) _gM (vv 1) (kx (vv 2) ki) (by rfl) _hI))) (λ_ _ _ _ _=>(kW (o:=.X) (j5 (cv 0) (j5 (_iY hr.u (kx (vv 2) ki) (vv 1)) j8)))) J4 #[_,_,rfl,rfl] .q (show ∀j>([2]:List Nat) ,j<7 by decide)) (jK (kW (o:=.X) (j5 (jz (kx (vv 3) ki)) (j5 (jz (kx (vv 3) ki)) (j5 (qT (vv 6) T.b_tuple) j8)))))))))
def _tK(T:Txt K mg)(ba:kjk P w K mg base):OkF P w K mg base 2 "_law_is_pair" jvh ["_law_found","_law_due"] 2 m__law_is_pair:=
 okF sc__law_is_pair λhr=>have nd:=sc__law_is_pair.nd;(j9 (kK (QW.pt (z8 (v9 (vq (j7 (_hw (vv 0) T.b_isinstance T.b_tuple _dI rfl)))) (z8 (_m4 hr (j7 (qL (vv 0) T.b_len)) ki) (KZ (v9 (vq (j7 (_hw (kx (vv 0) ki) T.b_isinstance T.b_tuple _dI rfl)))))))) (jK x9)) (j9 (kK (QW.pt (z8 (v9 (vq (j7 (qC ba hr (j5 (jz (kx (vv 0) ki)) j8))))) (KZ (v9 (vq (j7 (qC ba hr (j5 (jz (kx (vv 0) ki)) j8)))))))) (jK x9)) (j9 (qF (qX (jz (kx (vv 0) ki))) (gN nd) (kQ (kK (QW.pt (z8 (v9 (vq (j7 (_hw (vv 2) T.b_isinstance T.b_tuple _dI rfl)))) (z8 (_m4 hr (j7 (qL (vv 2) T.b_len)) ki) (z8 (v9 (vq (j7 (qC ba hr (j5 (jz (kx (vv 2) ki)) j8))))) (KZ (v9 (vq (j7 (qC ba hr (j5 (jz (kx (vv 2) ki)) j8)))))))))) (jK x9)))) (jK (_m5 hr (vv 0) (vv 1))))))
def _tL(T:Txt K mg)(bg:jxl P w K mg base):OkF P w K mg base 2 "_law_firsts" jw5 ["_law_one","_law_other","_law_pair_here"] 3 m__law_firsts:=
 okF sc__law_firsts λhr=>have nd:=sc__law_firsts.nd;(j9 (_fz (cv 2) (KQ (is:=[3,4,5]) (Kz K (t:=gNs [3,4,5]) (n:=3) (vw (gn nd) (vw (gn nd) (vw (gn nd) Kx)))))) (j9 (qA nd (_hQ (j7 (qC bg hr (j5 (cv 0) (j5 (cv 3) j8)))) T.b_range T.b_list)) (j9 (qA nd _kh) (j9 (qF (qX (cv 5)) (KQ (is:=[8,9]) (Kz K (t:=gNs [8,9]) (n:=2) (vw (gn nd) (vw (gn nd) Kx)))) (kQ (_kj (i:=7) hr.u (pv 7) (vv 9) (cv 8)))) (j9 (qA nd z7) (j9 (qA nd (qL (vv 6) T.b_len)) (j9 (qF (Jj (j7 (qC bg hr (j5 (cv 1) (j5 (cv 4) j8)))) rfl T.b_range) (gN nd) (j9 (qP (jz (_kk hr.u (vv 7) (vv 9) (vv 11)))) (kQ (qA nd (oA (vv 11) (j7 (JW _dQ _hx (j7 (VQ (_kc hr.u) _ke (vv 9) (vv 7) (by rfl))) T.b_int _dG))))))) (j9 (qA nd (zq (o:=.rt) (j5 (kW (o:=.X) (j5 (cv 3) (j5 (qT (vv 6) T.b_tuple) j8))) (j5 (kW (o:=.X) (j5 (cv 4) (j5 (qT (vv 10) T.b_tuple) j8))) j8)))) (jK (qM .rt 1 [] 13 ["_law_standing"] (qX (cv 12)) (λ_ _ _ _ _=>(jz (kx (j7 (zq (o:=.rt) (j5 (cv 0) (j5 kN j8)))) (j7 (JW _dQ _hx (j7 (_m5 hr (kx (vv 0) ki) (j7 XX))) T.b_int _dG)))))))))))))))
def _tM(T:Txt K mg)(cn:kz6 P w K mg base)(df:kql P w K mg base)(ce:kqk P w K mg base):OkF P w K mg base 3 "_law_behind_all" jqe ["_law_one","_law_other","_law_pair_here"] 3 m__law_behind_all:=
 okF sc__law_behind_all λhr=>have nd:=sc__law_behind_all.nd;(j9 (_fz (qC cn hr (j5 (cv 0) (j5 (cv 1) (j5 (cv 2) j8)))) (KQ (is:=[3,4]) (Kz K (t:=gNs [3,4]) (n:=2) (vw (gn nd) (vw (gn nd) Kx))))) (j9 (qA nd _mQ) (j9 (qF (qX (zq (o:=.rt) (j5 (cv 3) (j5 (cv 4) j8)))) (gN nd) (kQ (kK (_m6 (vv 6) kn) (kQ (qF (qX (jz (kx (vv 6) ki))) (gN nd) (kQ (_mR (i:=5) hr.u (pv 5) (vv 7) x9))))))) (j9 (qA nd z7) (j9 (qF (qX (jz (kx (vv 0) ki))) (gN nd) (kQ (qF (qX (oA (j7 (JW (_mU K rfl) _mV (vv 5) T.b_list Qq)) (j7 (zq (o:=.rt) (j5 (Vw _mX _mY (vv 5) T.b_len _dB) j8))))) (gN nd) (j9 (qA nd (qC df hr (j5 (qC ce hr (j5 (cv 0) (j5 (cv 3) (j5 (cv 9) (j5 (cv 7) j8))))) (j5 (qC ce hr (j5 (cv 1) (j5 (cv 4) (j5 (cv 9) (j5 (cv 7) j8))))) j8)))) (kQ (kK (wQ (_gK hr.u) _gN (vv 10) (vv 8) (by rfl) _hJ) (kQ (qP (cv 10))))))))) (jK (_eS (pv 8))))))))
def _tN(T:Txt K mg):OkF P w K mg base 1 "_law_good" jxs ["_law_plain","_law_room"] 2 m__law_good:=
 okF _s7 λhr=>(jK (V9 (j7 (VQ (_fY hr.u) _f0 (vv 1) (j7 XX) (zV _))) (Q0 (jz (kx (kx (kx (vv 0) ki) (vv 1)) ki)))))
def _tO(T:Txt K mg)(cb:kqn P w K mg base)(c8:kv6 P w K mg base)(bh:kjd P w K mg base):OkF P w K mg base 4 "_law_table" jwp ["_law_one","_law_other","_law_pair_here","_law_table_here"] 4 m__law_table:=
 okF sc__law_table λhr=>have nd:=sc__law_table.nd;(j9 (kK (v9 (vq (j7 (_hw (vv 3) T.b_isinstance T.b_list Qq rfl)))) (jK x9)) (j9 (qA nd _ju) (j9 (qF (qX (cv 3)) (gN nd) (j9 (kK (QW.pt (z8 (v9 (vq (j7 (qC c8 hr (j5 (cv 5) (j5 (cv 5) j8)))))) (KZ (wQ (_jj hr.u) _jn (vv 5) (vv 4) (by rfl) _jp)))) (jK x9)) (j9 (_jC (i:=4) hr.u rfl (pv 4) (vv 5) x9) (j9 (kK (QW.pt (z8 (v9 (_jb _bi (Vz (g:=λa b=>decide (a<=b))) _bh (Vz (g:=λa b=>decide (a<b))) (j7 XX) (kx (vv 5) ki) (j7 (qL (kx (vv 0) ki) T.b_len)) _hE)) (KZ (v9 (_jb _bi (Vz (g:=λa b=>decide (a<=b))) _bh (Vz (g:=λa b=>decide (a<b))) (j7 XX) (kx (vv 5) ki) (j7 (qL (kx (vv 1) ki) T.b_len)) _hE))))) (jK x9)) (kQ (kK (_m4 hr (j7 (qC cb hr (j5 (cv 0) (j5 (jz (kx (vv 5) ki)) j8)))) (j7 (qC cb hr (j5 (cv 1) (j5 (jz (kx (vv 5) ki)) j8))))) (jK x9))))))) (j9 (qF (qX (cv 3)) (gN nd) (kQ (kK (_m4 hr (j7 (qm .rt 1 [4] 6 ["_law_after","_law_known"] (qX (qC bh hr (j5 (cv 0) (j5 (cv 1) (j5 (cv 5) j8))))) (λhN _ _ _ _ _=>(WK (gn hN))) (λ_ _ _ _ _=>(_hr (wQ (_jk hr.u) _jo (vv 0) (vv 1) (by rfl) _jq))) (λ_ _ _ _ _=>(cv 0)))) (j7 z7)) (jK x9)))) (jK (VQ (_jj hr.u) _jn (vv 2) (vv 4) (by rfl)))))))
def _tP(T:Txt K mg):OkF P w K mg base 1 "_law_most" jxq ["_law_plain"] 1 m__law_most:=
 okF _s8 λhr=>(jK (Vw (_m2 K) _m3 (j7 (qM .rt 1 [] 1 ["_law_room"] (qX (jz (kx (vv 0) ki))) (λ_ _ _ _ _=>(jz (kx (vv 0) ki))))) T.b_max _dF))
def _tQ(T:Txt K mg)(b5:jw8 P w K mg base)(dm:qvm P w K mg base):OkF P w K mg base 3 "_law_little" jw4 ["_law_cell","_law_signs_here"] 2 _rM:=
 okF sc__law_little λhr=>have nd:=sc__law_little.nd;(j9 (qA nd (qC b5 hr (j5 (cv 0) (j5 kI j8)))) (j9 (qA nd (oA ki (j7 (oM (kx (vv 2) ki) ki)))) (j9 (qA nd (oA (j7 (zq (o:=.rt) (j5 kI j8))) (j7 (qM .rt 1 [2] 12 ["_law_k","_law_xs"] (Jj (j7 (_eX _bd _e4 (vv 3) ki)) rfl T.b_range) (λ_ _ _ _ _=>(oM (kx (vv 1) (j7 (oA ki (vv 0)))) ki)))))) (j9 (qA nd z7) (j9 (qA nd kI) (j9 (qF (Jj (vv 3) rfl T.b_range) (gN nd) (j9 (qA nd z7) (j9 (qF (Jj (j7 (qL (vv 1) T.b_len)) rfl T.b_range) (gN nd) (j9 (qA nd z7) (j9 (qF (Jj (j7 (oA (kx (vv 4) (vv 7)) ki)) rfl T.b_range) (gN nd) (j9 (qP (qC dm hr (j5 (jz (kx (vv 2) (vv 6))) (j5 (cv 4) (j5 (oA (kx (vv 4) (vv 7)) (j7 (JW _dQ _hx (j7 (_m5 hr (vv 11) (kx (vv 4) (vv 7)))) T.b_int _dG))) j8))))) (kQ (qA nd (oA (vv 6) ki))))) (kQ (qP (cv 10)))))) (j9 (qP (kW (o:=.X) (j5 (jz (kx (vv 4) (vv 7))) (j5 (_m5 hr (j7 (oM (kx (vv 2) (vv 6)) ki)) ki) (j5 (cv 8) j8))))) (kQ (qA nd (oA (vv 6) ki))))))) (jK (kW (o:=.X) (j5 (JW (_dN K) _hy (vv 1) T.b_list Qq) (j5 (cv 5) j8))))))))))
def _tR(T:Txt K mg)(dk:kqm P w K mg base):OkF P w K mg base 2 "_law_small" jwq ["_law_plain"] 1 W0:=
 okF _s9 λhr=>(jK (V9 (j7 (_m8 (j7 (qL (kx (vv 0) ki) T.b_len)) ki)) (Q0 (_m8 (j7 (qC dk hr (j5 (cv 0) j8))) ki))))
def _tS(T:Txt K mg)(f9:kw0 P w K mg base)(cy:qkr P w K mg base)(ax:kjl P w K mg base):OkF P w K mg base 6 "_law_alike" jwu ["_law_one","_law_other"] 2 JJ:=
 okF sc__law_alike λhr=>have nd:=sc__law_alike.nd;(j9 (kK (QW.pt (z8 (v9 (vq (j7 (qC ax hr (j5 (cv 0) j8))))) (KZ (v9 (vq (j7 (qC ax hr (j5 (cv 1) j8)))))))) (jK x9)) (j9 (qA nd (_mx f9 (hr.ý .q) J4 (j5 (cv 0) (j5 (cv 1) j8)))) (jK (V9 (j7 (_m5 hr (kx (vv 2) ki) kSv)) (Q0 (qC cy hr (j5 (cv 0) (j5 (cv 1) (j5 (kW (o:=.X) (j5 kI (j5 kI (j5 (kW (o:=.X) j8) j8)))) (j5 (jz (kx (vv 2) ki)) j8))))))))))
def _tT(T:Txt K mg)(az:qxm P w K mg base)(ax:kjl P w K mg base):OkF P w K mg base 6 "_law_made" jxr ["_law_word","_law_one","_law_other"] 3 _rN:=
 okF _ta λhr=>(j9 (kK (QW.pt (z8 (v9 (vq (j7 (qC ax hr (j5 (cv 1) j8))))) (KZ (v9 (vq (j7 (qC ax hr (j5 (cv 2) j8)))))))) (jK kN)) (jK (jz (kx (j7 (qC az hr (j5 (cv 0) (j5 (cv 1) (j5 (cv 2) j8))))) ki))))
def _tU(T:Txt K mg)(ao:kjn P w K mg base):OkF P w K mg base 7 "_law_equal" jwt ["_law_made_here","_law_left"] 2 _rO:=
 okF _tb λhr=>(jK (_gU (j7 (VQ _bm _gP (vv 1) kn (zV _))) (Q0 (V9 (j7 (qC ao hr (j5 (cv 0) (j5 (cv 1) j8)))) (Q0 (qC ao hr (j5 (cv 1) (j5 (cv 0) j8))))))))
def _tV(T:Txt K mg)(bm:kz5 P w K mg base)(bo:qvl P w K mg base)(ao:kjn P w K mg base)(d9:qks P w K mg base)(b8:jxm P w K mg base)(az:qxm P w K mg base)(bp:wkz P w K mg base)(bv:qkt P w K mg base)(F:Fun K "law" "law" wwh f fd):FnOk P w K mg base (CXE P w) 8 f fd ["_law_script"] (spF K mg 1 m_law):=
 _d4 F sc_law (_go rfl) λcg A outer s H vs Q E hr h=>have nd:=sc_law.nd;_gq rfl
  (j9 (qA nd (_iL (j7 (qC d9 hr (j5 (qC b8 hr (j5 (cv 0) (j5 kI j8))) j8))) _iH (_iI ki))) (j9 (qA nd (qC bm hr (j5 (qC b8 hr (j5 (cv 0) (j5 kI j8))) (j5 (cv 1) j8)))) (j9 (qA nd (qC bm hr (j5 (qC b8 hr (j5 (cv 0) (j5 kI j8))) (j5 (cv 1) j8)))) (j9 (qA nd (jz (kx (j7 (qC az hr (j5 kS (j5 (cv 2) (j5 (cv 3) j8))))) ki))) (j9 (qA nd (qC bo hr (j5 kS (j5 (qC bp hr (j5 (cv 2) j8)) (j5 (qC bp hr (j5 (cv 3) j8)) j8))))) (j9 (kK (QW.pt (_fg (_m6 (vv 5) kn) (_ff (v9 (vq (j7 (qC ao hr (j5 (cv 4) (j5 (qC bp hr (j5 (cv 5) j8)) j8))))))))) (jK x9)) (j9 (qA nd (jz (kx (j7 (qC az hr (j5 kS (j5 (cv 2) (j5 (cv 3) j8))))) ki))) (j9 (qA nd (qC bo hr (j5 kS (j5 (cv 2) (j5 (qC bp hr (j5 (cv 3) j8)) j8))))) (j9 (kK (v9 (vq (j7 (qC bv hr (j5 (cv 6) (j5 (cv 5) j8)))))) (jK x9)) (j9 (qA nd (jz (kx (j7 (qC az hr (j5 kS (j5 (cv 2) (j5 (cv 3) j8))))) ki))) (j9 (qA nd (qC bo hr (j5 kS (j5 (cv 6) (j5 (jz (kx (j7 (qC az hr (j5 kS (j5 (cv 3) (j5 (cv 2) j8))))) ki)) j8))))) (j9 (kK (v9 (vq (j7 (qC bv hr (j5 (cv 7) (j5 (cv 5) j8)))))) (jK x9)) (j9 (kK (v9 (vq (j7 (qC ao hr (j5 (cv 4) (j5 (jz (kx (j7 (qC az hr (j5 kS (j5 (cv 3) (j5 (cv 2) j8))))) ki)) j8)))))) (jK x9)) (j9 (kK (v9 (vq (j7 (qC ao hr (j5 (jz (kx (j7 (qC az hr (j5 kS (j5 (cv 2) (j5 (cv 3) j8))))) ki)) (j5 (jz (kx (j7 (qC az hr (j5 kS (j5 (cv 3) (j5 (cv 2) j8))))) ki)) j8)))))) (jK x9)) (j9 (qF (qX (zq (o:=.rt) (j5 kS (j5 kS j8)))) (gN nd) (kQ (kK (v9 (vq (j7 (qC ao hr (j5 (cv 2) (j5 (jz (kx (j7 (qC az hr (j5 (cv 8) (j5 (cv 2) (j5 (cv 2) j8))))) ki)) j8)))))) (jK x9)))) (jK (qC ao hr (j5 (cv 2) (j5 (qC bp hr (j5 (qC bp hr (j5 (cv 2) j8)) j8)) j8))))))))))))))))))) h
end
def all_mk{l:PySem.W.OpenLaw}{w:PySem.World}{K:Frag}{h:Heap}{mg:Str->Option Value}{fa:Addr}(X:K.In h)(G:h.Ns mainGlobals mg)(hfa:mg "law"=@(.I fa)){eq de ia fh:Value}{da dl iu:Addr}{fk dj lf:Obj}
  (g0:Gf K "is_small" jzz)
  (g1:Gf K "read_by" kkk)
  (g2:Gf K "is_good_in" jwm)
  (g3:Gf K "agrees" kwt)
  (g4:Gf K "keepers_in" jwl)
  (g5:Gf K "standing_in" jvy)
  (g6:Gf K "first_standings" jqd)
  (g7:Gf K "names_of" jzy)
  (g8:Gf K "held_by_both" jvf)
  (g9:Gf K "room_of" kkj)
  (g10:Gf K "pair_of" kkl)
  (g11:Gf K "read_by_both" jvd)
  (g12:Gf K "steps_from" jwk)
  (g13:Gf K "lacks_cases" jw0)
  (g14:Gf K "led_to" kwr)
  (g15:Gf K "turned" kwq)
  (g16:Gf K "is_good_by" jwn)
  (g17:Gf K "joined_case" jw2)
  (g18:Gf K "joined_room" jw1)
  (g19:Gf K "joined" kws)
  (g20:Gf K "least_beside" jve)
  (g21:Gf K "parting_row" jvz)
  (g22:Gf K "steps_to" jzw)
  (g23:Gf K "searched" jzx)
  (g24:GfD K "compared" kj0)
  (g25:Gf K "_law_cell_at" jvi)
  (g26:Gf K "_law_whole" jwo)
  (g27:Gf K "_law_stream" jw3)
  (g28:Gf K "_law_signs" jwr)
  (g29:Gf K "_law_fills" jws)
  (g30:Gf K "_law_case" jxt)
  (g31:Gf K "_law_read" jxo)
  (g32:Gf K "_law_keepers" jvg)
  (g33:Gf K "_law_pair" jxp)
  (g34:Gf K "_law_is_pair" jvh)
  (g35:Gf K "_law_firsts" jw5)
  (g36:Gf K "_law_behind_all" jqe)
  (g37:Gf K "_law_good" jxs)
  (g38:Gf K "_law_table" jwp)
  (g39:Gf K "_law_most" jxq)
  (g40:Gf K "_law_little" jw4)
  (g41:Gf K "_law_small" jwq)
  (g42:Gf K "_law_alike" jwu)
  (g43:Gf K "_law_made" jxr)
  (g44:Gf K "_law_equal" jwt)
  (g45:Gf K "law" wwh)
  (i8:nsIn K mainGlobals "SMALL_ROOMS"=some @eq) (gy:RelV (V.C (12)) eq)
  (fw:nsIn K mainGlobals "SMALL_KEEPERS"=some @de) (gc:RelV (V.C (3)) de)
  (lm:nsIn K mainGlobals "NOWHERE"=some @ia) (lq:RelV (V.C (-1)) ia)
  (iq:nsIn K mainGlobals "MOST_ROOMS"=some @fh) (io:RelV (V.C (40)) fh)
  (ik:nsIn K mainGlobals "FIRST_PAIR"=some @(.I da))
  (oh:nsIn K mainGlobals "WORDS"=some @(.I iu))
  (iw:K.U da=@fk)
  (im:_l4 fk [(V.C 0),(V.C 0),.I dl])
  (gi:K.U dl=@dj)
  (gm:_l4 dj [])
  (o8:K.U iu=@lf)
  (o7:_l4 lf [(V.e "both"),(V.e "either"),(V.e "first"),(V.e "one")])
  (vo:nsIn K mainGlobals "all"=@none)
  (uk:nsIn K mainGlobals "any"=@none)
  (qr:nsIn K mainGlobals "bool"=@none)
  (qe:nsIn K mainGlobals "dict"=@none)
  (ja:nsIn K mainGlobals "enumerate"=@none)
  (xi:nsIn K mainGlobals "int"=@none)
  (il:nsIn K mainGlobals "isinstance"=@none)
  (ui:nsIn K mainGlobals "len"=@none)
  (sf:nsIn K mainGlobals "list"=@none)
  (wu:nsIn K mainGlobals "max"=@none)
  (ny:nsIn K mainGlobals "range"=@none)
  (jl:nsIn K mainGlobals "reversed"=@none)
  (uv:nsIn K mainGlobals "set"=@none)
  (mt:nsIn K mainGlobals "sorted"=@none)
  (om:nsIn K mainGlobals "tuple"=@none)
  : ∃fd:FuncData,(∀(s:Shared) (v:Value),BindsTo s fd #[[v],[]] [("_law_script",v)])/\∀base:Heap,K.In base->base.Ns mainGlobals mg->FnOk l.â w K mg base (CXE l.â w) 8 fa fd ["_law_script"] (spF K mg 1 m_law):=by
 let T:Txt K mg:=#[Y3 X G vo,Y3 X G uk,Y3 X G qr,Y3 X G qe,Y3 X G ja,Y3 X G xi,Y3 X G il,Y3 X G ui,Y3 X G sf,Y3 X G wu,Y3 X G ny,Y3 X G jl,Y3 X G uv,Y3 X G mt,Y3 X G om,#[_,Ze X G i8,gy],#[_,Ze X G fw,gc],#[_,Ze X G lm,lq],#[_,#[_,Ze X G ik,(show RelV (.I da) _ from rfl)],λH=>(_l7 (_l5 iw im) (ZW vj (ZW vj (ZW (_l7 (_l5 gi gm) _l6) _l6))))],#[_,#[_,Ze X G oh,(show RelV (.I iu) _ from rfl)],λH=>(_l7 (_l5 o8 o7) (ZW (Q9 .q) (ZW (Q9 .q) (ZW (Q9 .q) (ZW (Q9 .q) _l6)))))],#[_,Ze X G iq,io]];show g45.law X G hfa fun {base _ _} F=>?_
 let b9:kjc l.â w K mg base:=g0.d X G (_tc T  _ _);let du:qkp l.â w K mg base:=g1.d X G (_td T  _ _);let ay:jx4 l.â w K mg base:=g2.d X G (_te T  _ _);let gp:=g3.d X G (_tf T ay _ _);let bw:kji l.â w K mg base:=g4.d X G (_tg T  _ _);let bj:jzn l.â w K mg base:=g5.d X G (_th T  _ _);let ah:=g6.d X G (_ti T bw bj _ _);let b7:kjb l.â w K mg base:=g7.d X G (_tj T  _ _);let af:=g8.d X G (_tk T b7 _ _);let dv:qko l.â w K mg base:=g9.d X G (_tl T  _ _);let bz:=g10.d X G (_tm T b7 dv _ _);let aq:=g11.d X G (_tn T du _ _);let cz:=g12.d X G (_to T ah af bz aq _ _);let cm:jzo l.â w K mg base:=g13.d X G (_tp T  _ _);let gh:qxl l.â w K mg base:=g14.d X G (_tq T  _ _);let bp:=g15.d X G (_tr T cm gh _ _);let db:kjj l.â w K mg base:=g16.d X G (_ts T  _ _);let ci:jzq l.â w K mg base:=g17.d X G (_tt T bz af);let ck:jzp l.â w K mg base:=g18.d X G (_tu T ah af db aq ay ci);let az:=g19.d X G (_tv T b9 ck _ _);let c9:jxk l.â w K mg base:=g20.d X G (_tw T  _ _);let cf:=g21.d X G (_tx T ah af aq c9 _ _);let fg:kvz l.â w K mg base:=g22.d X G (_ty T  _ _);let fc:=g23.d X G (_tz T cz gp cf fg _ _);let f9:kw0 l.â w K mg base:=g24.n X G (_tA T fc b9);let b8:jxm l.â w K mg base:=g25.d X G (_tB T  _ _);let ba:kjk l.â w K mg base:=g26.d X G (_tC T  _ _);let b5:jw8 l.â w K mg base:=g27.d X G (_tD T  _ _);let d9:=g28.d X G (_tE T b5 _ _);let d8:kjm l.â w K mg base:=g29.d X G (_tF T  _ _);let dm:=g30.d X G (_tG T d8 _ _);let ce:kqk l.â w K mg base:=g31.d X G (_tH T  _ _);let bg:jxl l.â w K mg base:=g32.d X G (_tI T  _ _);let df:kql l.â w K mg base:=g33.d X G (_tJ T  _ _);let c8:=g34.d X G (_tK T ba _ _);let cn:=g35.d X G (_tL T bg _ _);let bh:=g36.d X G (_tM T cn df ce _ _);let cb:kqn l.â w K mg base:=g37.d X G (_tN T  _ _);let cy:=g38.d X G (_tO T cb c8 bh _ _);let dk:kqm l.â w K mg base:=g39.d X G (_tP T  _ _);let bm:=g40.d X G (_tQ T b5 dm _ _);let ax:=g41.d X G (_tR T dk _ _);let ao:=g42.d X G (_tS T f9 cy ax _ _);let bo:=g43.d X G (_tT T az ax _ _);let bv:=g44.d X G (_tU T ao _ _);show _tV T bm bo ao d9 b8 az bp bv F
end Nk64
namespace PySem.W.Fast
def tw10009886971247622002:True:=#[]
def tw10012000925151694594:True:=#[]
def tw10210304149463425190:True:=#[]
def tw10243266784048623173:True:=#[]
def tw10257478975787262636:True:=#[]
def tw10273775026262920359:True:=#[]
def tw10369598696078194044:True:=#[]
def tw1039448650027896295:True:=#[]
def tw10427232227482521350:True:=#[]
def tw10482622625158219151:True:=#[]
def tw10660837186014742865:True:=#[]
def tw10859118248259519855:True:=#[]
def tw10976121227139250761:True:=#[]
def tw11017370235075224613:True:=#[]
def tw11148129138894296185:True:=#[]
def tw11154909948410149254:True:=#[]
def tw11343044660490865792:True:=#[]
def tw11344218091217569374:True:=#[]
def tw11445940413472024415:True:=#[]
def tw114580511693929828:True:=#[]
def tw11589379765501305217:True:=#[]
def tw11594120312644303189:True:=#[]
def tw11692966352702324840:True:=#[]
def tw11713979494584603455:True:=#[]
def tw11874524116776211267:True:=#[]
def tw12007744314745940915:True:=#[]
def tw12032216428264812234:True:=#[]
def tw12149912110610622648:True:=#[]
def tw12160685435778771225:True:=#[]
def tw12181103284157748613:True:=#[]
def tw12184259752135044709:True:=#[]
def tw1225723598872985081:True:=#[]
def tw12306505682436430267:True:=#[]
def tw12365110260934045112:True:=#[]
def tw12395368832871915503:True:=#[]
def tw12412614569308717190:True:=#[]
def tw12686952005213889600:True:=#[]
def tw12687796969576472145:True:=#[]
def tw12921258344515012666:True:=#[]
def tw12970652453224091221:True:=#[]
def tw13009491693201853949:True:=#[]
def tw13096943126874059083:True:=#[]
def tw13167316344930134427:True:=#[]
def tw13265362402993509498:True:=#[]
def tw13383260158089888401:True:=#[]
def tw13535618428644207807:True:=#[]
def tw13792650265741723225:True:=#[]
def tw13879536625708687543:True:=#[]
def tw13937604297426984240:True:=#[]
def tw13965316013112281619:True:=#[]
def tw14059674060859016704:True:=#[]
def tw14128531154071221678:True:=#[]
def tw14153742161833145612:True:=#[]
def tw14212853088502653830:True:=#[]
def tw14267551860647106106:True:=#[]
def tw14446907910805138288:True:=#[]
def tw14458776755631138041:True:=#[]
def tw14551165544083552127:True:=#[]
def tw14599893399326058330:True:=#[]
def tw14666735411604740161:True:=#[]
def tw14732111914039886596:True:=#[]
def tw14874768469392695012:True:=#[]
def tw15273153686036440135:True:=#[]
def tw15351893386332860083:True:=#[]
def tw1545787681475733501:True:=#[]
def tw1562259832942280179:True:=#[]
def tw15629084704046720909:True:=#[]
def tw15656167604050680339:True:=#[]
def tw15699895045686823450:True:=#[]
def tw15739949485485478211:True:=#[]
def tw15834957364985814201:True:=#[]
def tw15843987316927978411:True:=#[]
def tw1592806022760625712:True:=#[]
def tw15967124359523790520:True:=#[]
def tw16134524092415877181:True:=#[]
def tw16276938891809979938:True:=#[]
def tw16357135570044128551:True:=#[]
def tw16373417090771940308:True:=#[]
def tw16456013791111611900:True:=#[]
def tw16457508379518365424:True:=#[]
def tw16498715519894323688:True:=#[]
def tw16502667967963396031:True:=#[]
def tw16554459919781880821:True:=#[]
def tw16650241858603415934:True:=#[]
def tw16674856864721947652:True:=#[]
def tw16707139927415337561:True:=#[]
def tw16740447696852817908:True:=#[]
def tw16770001764852530021:True:=#[]
def tw16819548228792338996:True:=#[]
def tw16853435474508449584:True:=#[]
def tw16950161806592572216:True:=#[]
def tw16979502272444296498:True:=#[]
def tw17020579958448053136:True:=#[]
def tw17032183650703488841:True:=#[]
def tw17032873682866734744:True:=#[]
def tw17114390377363501560:True:=#[]
def tw1723086443356333538:True:=#[]
def tw17255577497345142856:True:=#[]
def tw17353354558869723042:True:=#[]
def tw17534755450328989688:True:=#[]
def tw17567433987432734031:True:=#[]
def tw17681235555507285380:True:=#[]
def tw17696893044749636218:True:=#[]
def tw17713218772770702901:True:=#[]
def tw17736785256618275553:True:=#[]
def tw17768847478966082375:True:=#[]
def tw17804134550745106747:True:=#[]
def tw17887445624734543681:True:=#[]
def tw17897621115727619639:True:=#[]
def tw17991904524242991431:True:=#[]
def tw18022734481532117080:True:=#[]
def tw1812367567095465695:True:=#[]
def tw18218357174574050205:True:=#[]
def tw18257562843350662569:True:=#[]
def tw18267255216871322901:True:=#[]
def tw1939760701941282161:True:=#[]
def tw2007067625887383405:True:=#[]
def tw2034190469964605547:True:=#[]
def tw2037026600311551693:True:=#[]
def tw2064823126725488987:True:=#[]
def tw2136542508915005402:True:=#[]
def tw2143755726425674993:True:=#[]
def tw2455568316681242468:True:=#[]
def tw2498362764487751734:True:=#[]
def tw2590932472104615588:True:=#[]
def tw2697032609881471520:True:=#[]
def tw2723213874516882789:True:=#[]
def tw273690131029629713:True:=#[]
def tw2791068478268236585:True:=#[]
def tw2865478256113219662:True:=#[]
def tw3000774897691723003:True:=#[]
def tw3007829158663531038:True:=#[]
def tw3075874459517737012:True:=#[]
def tw324270382466147662:True:=#[]
def tw3422761412952818635:True:=#[]
def tw3475215900000387930:True:=#[]
def tw3480807554499060252:True:=#[]
def tw3486932956629247020:True:=#[]
def tw3509805551054612901:True:=#[]
def tw3629440364346870098:True:=#[]
def tw3673004214347143483:True:=#[]
def tw3775098107409789994:True:=#[]
def tw3870579450626268927:True:=#[]
def tw3950938082696669370:True:=#[]
def tw3994824793704945433:True:=#[]
def tw3998517107945474441:True:=#[]
def tw409205534912041502:True:=#[]
def tw4128837874535457599:True:=#[]
def tw4366196358860880100:True:=#[]
def tw4433936425106792134:True:=#[]
def tw4558368787594428000:True:=#[]
def tw5244843054103088607:True:=#[]
def tw5313073871126296028:True:=#[]
def tw5323998959187485623:True:=#[]
def tw535809720592588931:True:=#[]
def tw5419022063659451673:True:=#[]
def tw5551783330661822636:True:=#[]
def tw5566696025649007203:True:=#[]
def tw5579493957356292308:True:=#[]
def tw5726155289207753768:True:=#[]
def tw5753307325740526745:True:=#[]
def tw5800800661855662068:True:=#[]
def tw5807257797578021183:True:=#[]
def tw5850465696639923820:True:=#[]
def tw5963905441806049370:True:=#[]
def tw6075916625347777327:True:=#[]
def tw6123733675858999116:True:=#[]
def tw6254851566526529859:True:=#[]
def tw6320896142650696304:True:=#[]
def tw6491781644863298215:True:=#[]
def tw655377376264078014:True:=#[]
def tw6647663997471319444:True:=#[]
def tw6652780369502300964:True:=#[]
def tw6678301551672802110:True:=#[]
def tw6811645634995925376:True:=#[]
def tw6969379352964970769:True:=#[]
def tw7102805136440856430:True:=#[]
def tw7202261019640700876:True:=#[]
def tw7270443936094710853:True:=#[]
def tw7279933624176319799:True:=#[]
def tw7355079573588492235:True:=#[]
def tw7376279814539978707:True:=#[]
def tw7409861579518146393:True:=#[]
def tw7494913996272394977:True:=#[]
def tw7744115944316497976:True:=#[]
def tw7872013966841408698:True:=#[]
def tw7910140084011558086:True:=#[]
def tw8006046095801523365:True:=#[]
def tw8025684941119650030:True:=#[]
def tw8101573245651362355:True:=#[]
def tw8144484710858323650:True:=#[]
def tw8154195037909779508:True:=#[]
def tw8230550917984253058:True:=#[]
def tw8232795680444959212:True:=#[]
def tw8286746980497212736:True:=#[]
def tw836490661344192276:True:=#[]
def tw8416768153501594622:True:=#[]
def tw8467049430308625244:True:=#[]
def tw8477818681058702942:True:=#[]
def tw8546252841358567674:True:=#[]
def tw8791959752746173508:True:=#[]
def tw8799634732722157432:True:=#[]
def tw8825663800465438507:True:=#[]
def tw888951807439597921:True:=#[]
def tw901426262000578658:True:=#[]
def tw9135875814363824812:True:=#[]
def tw9164482701559985800:True:=#[]
def tw9238544872105590997:True:=#[]
def tw926474146291021372:True:=#[]
def tw9274822066015820105:True:=#[]
def tw9298051632976203351:True:=#[]
def tw9357804600781912677:True:=#[]
def tw937676408466618957:True:=#[]
def tw9392593005442513341:True:=#[]
def tw9484153231410519387:True:=#[]
def tw9589748467485771327:True:=#[]
def tw9589924589651633296:True:=#[]
def tw9618376253260666267:True:=#[]
def tw964715122061134808:True:=#[]
def tw9694425660202578160:True:=#[]
def tw9733743709494190472:True:=#[]
def tw9846809489289752825:True:=#[]
def tw9852889430623399388:True:=#[]
def tw9858481647627818230:True:=#[]
def tw9891079902719839334:True:=#[]
end PySem.W.Fast
open PySem PySem.W PyProof.Rows
set_option maxRecDepth 100000 in
set_option maxHeartbeats 0 in
#where in
theorem PySem.Challenge.cw_freshrooms_k64_whole_words_among_words_holds : PySem.Challenge.rw_freshrooms_k64_whole_words_among_words.Holds := by
 w_on;o_law;k_head;(case hw=>w_witness2)
 k_fill
 refine Q.walkQ (l:=PySem.Challenge.rw_freshrooms_k64_whole_words_among_words) (n:=63) (k:=8) (x:="_law_script") (f:=Nk64.m_law) rfl ⋯ rfl #[rfl,⋯,⋯,rfl] (fun w h Y=>PySem.W.kIn_of Y) ?F Nk64.law_true
 case F =>
  intro w mg fa h KX G hmg
  refine' Nk64.all_mk KX G hmg ?_ ?_ ?_ ?_ ?_ ?_ ?_ ?_ ?_ ?_ ?_ ?_ ?_ ?_ ?_ ?_ ?_ ?_ ?_ ?_ ?_ ?_ ?_ ?_ ?_ ?_ ?_ ?_ ?_ ?_ ?_ ?_ ?_ ?_ ?_ ?_ ?_ ?_ ?_ ?_ ?_ ?_ ?_ ?_ ?_ ?_ ?y0 ?y1 ?y2 ?y3 ?y4 ?y5 ?y6 ?y7 ?y8 ?y9 ?y10 ?y11 ?y12 ?y13 ?y14 ?y15 ?y16 ?y17 ?y18 ?y19 ?y20 ?y21 ?y22 ?y23 ?y24 ?y25 ?y26 ?y27 ?y28 ?y29 ?y30
  all_goals try (refine' Q.Gf.mk ?a ?b ?c ?d;(case a=>k_is);(case b=>k_is);(case c=>k_is);(case d=>k_is))
  all_goals try (refine' Q.GfD.mk ?a ?b ?c ?d ?e ?f;(case a=>k_is);(case b=>k_is);(case c=>k_is);(case d=>k_is);(case e=>k_is);(case f=>rfl))
  case y0 | y2 | y4 | y6 | y8 | y9 | y16 | y17 | y18 | y19 | y20 | y21 | y22 | y23 | y24 | y25 | y26 | y27 | y28 | y29 | y30=>k_is
  case y1 | y3 | y5 | y7=>exact #[_,rfl]
  case y10=>k_is
  case y11=>exact #[rfl,rfl,_,_,rfl,⋯,(.cons #[_,rfl] (.cons #[_,rfl] (.cons rfl .nil)))]
  case y12=>k_is
  case y13=>exact #[rfl,rfl,_,_,rfl,⋯,.nil]
  case y14=>k_is
  case y15=>exact #[rfl,rfl,_,_,rfl,⋯,(.cons #[_,rfl] (.cons #[_,rfl] (.cons #[_,rfl] (.cons #[_,rfl] .nil))))]
