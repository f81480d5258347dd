
import PyProof.Rows.All
import Wide.All
import OpenK.AllK
import Wide.FinOn
import Lean
import PyProof.EqAt
import PyProof.EqKinds
import PyProof.TupleCall
import KE.KSortTup
import PyProof.NeKinds
import KE.KDictSum
import KE.KLam
import KE.KNestM
import KE.KSortKey
import PyProof.Rows.TupAdd
import KE.KRevIter
import PyProof.Rows.TupDisplay
import KE.KDictOf
import PyProof.ExcArgsOwn
import PyProof.ExcAttrAll.ValueError
import KE.KIsAll
import KE.KIntText
import PyProof.Rows.StrNews
import PyProof.Rows.StrSplitCount
import PyProof.Rows.SetFrom
import PyProof.Conv_int_bool
import PySem.Challenge.RW_forsworn_k37_dues_of_a_moot
set_option Elab.async false
set_option linter.all false
set_option maxRecDepth 100000
set_option maxHeartbeats 4000000
open PySem.W (fnOf Hook kHook view xlAt recOk RowW instObj methodObj hideAll hideAll_get of_hideAll hideAll_none lookIn InstAt plainGet hasDictIn handedIn plainGet_of isFn plainOver takerIn makesIn typeIn emptyDict keepIn kitOne kia_one kitx_list kitx_dict callWith_K methodCall_KW callWith_K0 cellsFrom_some codeIn codeRec_of nsIn mg_of subIn looks_subIn)
open PySem.F (slot_dict_get entry_dict_get plainAttrs_dict slot_dict_itemiterator_next slot_range_reversed)
open PyProof.Rows (callWith_builtin1 callWith_type1)
open PySem (Value Str Addr Program World OsState mem_of_lookup IsL)
section
inductive Ex2{α β}(p:α→β→Prop):Prop|mk(x y)(h:p x y)
inductive Ex3{α β γ}(p:α→β→γ→Prop):Prop|mk(x y z)(h:p x y z)
inductive Ex4{α β γ δ}(p:α→β→γ→δ→Prop):Prop|mk(x y z u)(h:p x y z u)
inductive Ex5{α β γ δ ε}(p:α→β→γ→δ→ε→Prop):Prop|mk(x y z u v)(h:p x y z u v)
inductive An3(a b c:Prop):Prop|mk(x:a)(y:b)(z:c)
inductive An4(a b c d:Prop):Prop|mk(x:a)(y:b)(z:c)(u:d)
inductive An5(a b c d e:Prop):Prop|mk(x:a)(y:b)(z:c)(u:d)(v:e)
inductive An6(a b c d e f:Prop):Prop|mk(x:a)(y:b)(z:c)(u:d)(v:e)(w:f)
theorem S{α}{a:α}:a=a:=rfl
open Option renaming some→_s,none→_n
open Bool renaming true→_t,false→_x
open Unit renaming unit→_u
open PySem renaming wpAny_bind→_b,wpAny_pure→_p,sizeLine→_z,bootBuiltins→_o,model→_m,mainGlobals→_g,compareOp→_c,starEach→_e,wpAny_field→_d,wpAny→_w
abbrev _i:=@if_neg
abbrev _j:=@if_pos
abbrev _a:=@absurd
set_option compiler.extract_closed false
section
open Lean Parser Tactic
def yAz:Nat→Syntax→List Syntax|n+1,s=>if s.isOfKind ``«term_∧_» then s[0]::yAz n s[2] else [s]|_,s=>[s]
def yBz(p q:String)(k n:Nat)(l:List Syntax):Syntax:=.node .none ``Term.app #[mkCIdent (.mkSimple (if n=k then q else p++n.repr)),mkNullNode l.toArray]
def yCz:Nat→List Syntax→Syntax|_,[s]=>s|n+1,l=>if l.length<7 then yBz "An" "And" 2 l.length l else yBz "An" "" 2 6 (l.take 5++[yCz n (l.drop 5)])|_,_=>.missing
def yDz:Nat→Nat→Nat→Syntax→Syntax|f+1,0,n,s=>if n=0 then s else yBz "Ex" "Exists" 1 (n.min 5) [yDz f (n.min 5) (n-5) s]|f+1,k+1,n,s=>let t:=s[1][0];t.setArg 1 (t[1].setArg 3 (yDz f k n t[1][3]))|_,_,_,s=>s
def yEz:Nat→Syntax→Syntax→Nat|f+1,h,s=>if s[0]==h then yEz f h s[1][0][1][3]+1 else 0|_,_,_=>0
def yFz:Macro:=fun s=>do
 let c:=yAz 99 s[3]
 let r←expandExplicitBinders ``Nat s[1] (yCz 99 c)
 let n:=yEz 99 r[0] r
 if n<2&&c.length<3 then Macro.throwUnsupported
 return yDz 99 0 n r
def yHz:Nat→Syntax→Syntax
|n+1,s=>
 let f:=λ l:Array Syntax=>.node .none ``rcasesPat.tuple #[.atom .none "⟨",mkNullNode (mkSepArray (l.map λx=>.node .none ``rcasesPatLo #[.node .none ``rcasesPatMed #[mkNullNode #[yHz n x]],mkNullNode]) (.atom .none ",")),.atom .none "⟩"]
 if s.isOfKind ``Term.hole then .node .none ``rcasesPat.ignore #[s[0]] else if s.isOfKind ``Term.tuple then f (#[s[1][0]]++s[1][2].getSepArgs) else if s.isOfKind ``Term.anonymousCtor then f s[1].getSepArgs else .node .none ``rcasesPat.one #[if s.getId==`S then mkIdent `rfl else s]
|_,s=>s
def yIz:Macro:=λs=>let d:=s[2][0];if d.isOfKind ``Term.letPatDecl then `(tactic|obtain $(⟨.node .none ``rcasesPatMed #[mkNullNode #[yHz 99 d[0]]]⟩):rcasesPatMed := $(⟨d[4]⟩):term) else return .node .none ``tacticHave__ #[.atom .none "have",s[1],s[2]]
def yJz(s:Syntax):Term:=let l:=s[1].getSepArgs.map λx=>x[1];⟨if l.size=1 then l[0]! else .node .none ``Term.anonymousCtor #[.atom .none "⟨",mkNullNode (mkSepArray l (.atom .none ",")),.atom .none "⟩"]⟩
def yGz:Macro:=λs=>let d:=s[1];let u:=s[0];if d.isOfKind ``Command.definition&&d[3][1].isOfKind ``Term.byTactic&&d[2][1].getNumArgs>0 then return s.setArg 1 (.node .none ``Command.theorem #[.atom .none "theorem",d[1],.node .none ``Command.declSig #[d[2][0],d[2][1][0]],d[3]]) else if u[4].getNumArgs=0&&["def","abbrev"].contains d[0].getAtomVal then return s.setArg 0 (u.setArg 4 (mkNullNode #[.node .none ``Command.noncomputable #[.atom .none "noncomputable"]])) else Macro.throwUnsupported
def yKz:Macro:=λs=>match(["9","8","7","6","5","4"].zip [`length,`heap.objs.size,`objs.size,`symm,`size,`toArray]).lookup (s[2][0].getAtomVal) with|some n=>return s.setArg 2 (mkIdent n)|_=>Macro.throwUnsupported
def y1z:Syntax:=(Unhygienic.run `(tacticSeq|rfl)).raw
def y2z:Syntax:=(Unhygienic.run `(tacticSeq|kernel_rfl)).raw
def y3z:Syntax:=(Unhygienic.run `(tacticSeq|decide)).raw
def y4z:Syntax:=(Unhygienic.run `(tacticSeq|decide +kernel)).raw
def y5z:Syntax:=(Unhygienic.run `(tacticSeq|intro _;rfl)).raw
end
local macro_rules(kind:=«term∃_,_»)|s=>yFz s
local macro_rules(kind:=Lean.Parser.Command.declaration)|s=>yGz s
local macro_rules(kind:=Lean.Parser.Tactic.tacticLet__)|s=>yIz s
local macro_rules(kind:=Lean.Parser.Tactic.tacticErw___)|s=>`(tactic|refine $(yJz s[2]))
local macro_rules(kind:=Lean.Parser.Tactic.tacticRwa__)|s=>`(tactic|exact $(yJz s[1]))
local macro_rules(kind:=Lean.Elab.Tactic.Ext.ext)|s=>`(tactic|cases $(⟨s[1][0][0][0]⟩):term)
abbrev m8:=@Prod.ext
abbrev m9:=@PySem.Paired.length
abbrev ma:=@Option.some.inj
abbrev me:=@Nat.le_of_eq
abbrev mh:=@Nat.lt_succ_self
abbrev mi:=@List.any_cons
abbrev mj:=@Nat.succ_le_succ
abbrev mm:=@Option.isSome_map
abbrev mn:=@PySem.Calls.callWith_builtin
abbrev mr:=@PySem.Calls.evalArgs_plain
abbrev mv:=@PySem.Calls.spliced_cons
abbrev mw:=@PySem.Calls.spliced_nil
abbrev mB:=@Nat.succ.inj
abbrev mD:=@List.drop_zero
abbrev mE:=@Nat.min_eq_left
abbrev mF:=@Nat.lt_succ_of_lt
abbrev mG:=@PySem.Heap.SameBut.update
abbrev mH:=@PySem.Around.under_plainId
abbrev mI:=@PyProof.Rows.F.plain_set_update_loop
abbrev mJ:=@PySem.Obj.data_mapFields
abbrev mK:=@List.eq_nil_of_length_eq_zero
abbrev mL:=@List.map_map
abbrev mO:=@PySem.PassesOwn.never
abbrev mP:=@PySem.Str.length_append
abbrev mQ:=@Option.getD_some
theorem aA{p:Prop}[Decidable p](h:autoParam (decide p=true) y2z):p:=of_decide_eq_true h
abbrev aD:=@PySem.F.plainAttrs_list
abbrev aE:=@PySem.F.slot_list_append
abbrev aF:=@PySem.F.type_list_append
abbrev jH:=Value->PySem.Shared->Prop
abbrev jI:=Str->Option Value
abbrev jJ:=List Str
abbrev jK:=List Value
abbrev jL:=Str->Addr
abbrev jM:=List Addr
abbrev jN:=PySem.Shared
abbrev jO:=Value
abbrev jP:=Addr
abbrev jQ:=Program
abbrev jR:=World
abbrev jS:=PySem.Around
abbrev xA:=@List.length_map
abbrev xB:=@PySem.Heap.get?_push_of_some
abbrev xC:=@List.getElem?_eq_getElem
abbrev xD:=@List.mem_cons
abbrev xE:=@Nat.le_refl
abbrev xF:=@List.getElem?_map
abbrev xG:=@List.length_append
abbrev xH:=@List.getElem?_eq_some_iff
abbrev xI:=@PySem.Heap.get?_push_size
abbrev xJ:=@Bool.false_ne_true
abbrev xK:=@List.mem_append
abbrev xL:=@List.map_append
abbrev xM:=@List.mem_cons_of_mem
abbrev xN:=@List.mem_of_getElem?
abbrev xO:=@List.mem_append_right
abbrev xP:=@PySem.Heap.lt_size
abbrev xQ:=@List.take_add_one
abbrev xR:=@List.take_length
abbrev xS:=@Option.map_eq_some_iff
abbrev xT:=@List.getD_eq_getElem?_getD
abbrev xU:=@List.size_toArray
abbrev xV:=@List.mem_singleton
abbrev xW:=@List.not_mem_nil
abbrev xX:=@Nat.le_trans
abbrev xY:=@List.length_take
abbrev xZ:=@List.mem_cons_self
abbrev yC:=@List.append_nil
abbrev yD:=@List.map_cons
abbrev yE:=@decide_eq_true
abbrev yF:=@Option.or_eq_none_iff
abbrev yG:=@Nat.ne_of_lt
abbrev yH:=@List.length_cons
abbrev yI:=@Int.toNat_natCast
abbrev yJ:=@Nat.zero_le
abbrev yK:=@List.nodup_cons
abbrev yL:=@Int.eq_ofNat_of_zero_le
abbrev yM:=@decide_eq_false
abbrev yN:=@List.cons_append
abbrev yO:=@Nat.lt_of_lt_of_le
abbrev yP:=@List.mem_append_left
abbrev yQ:=@List.length_filter_le
abbrev yR:=@Bool.and_eq_true
abbrev yS:=@Nat.le_of_lt
abbrev yT:=@List.filterMap_append
abbrev yU:=@Nat.lt_of_le_of_lt
abbrev yV:=@List.mem_filterMap
abbrev yW:=@List.replicate_succ
abbrev yX:=@List.append_assoc
abbrev yY:=@PySem.Heap.size_push
abbrev yZ:=@List.take_append_drop
abbrev zA:=@List.length_filterMap_le
abbrev zB:=@Bool.false_eq_true
abbrev zC:=@Option.bind_some
abbrev zD:=@List.mem_map
abbrev zE:=@List.of_mem_zip
abbrev zF:=@Bool.eq_iff_iff
abbrev zG:=@List.getElem?_zip_eq_some
abbrev zH:=@List.getElem_mem
abbrev zI:=@Option.none_or
abbrev zJ:=@Int.add_zero
abbrev zK:=@PySem.Heap.get?_update_other
abbrev zL:=@List.take_of_length_le
abbrev zM:=@List.filter_append
abbrev zN:=@List.mem_range
abbrev zO:=@List.drop_eq_getElem_cons
abbrev zP:=@List.nil_append
abbrev zQ:=@List.foldl_append
abbrev zR:=@of_decide_eq_true
abbrev zS:=@Nat.lt_irrefl
abbrev zT:=@List.filterMap_cons
abbrev zU:=@List.all_eq_true
abbrev zV:=@Nat.le_succ
abbrev zW:=@Array.getD_eq_getD_getElem?
abbrev zX:=@List.foldl_cons
abbrev zY:=@List.find?_cons
abbrev zZ:=@List.length_replicate
abbrev wA:=@PySem.Heap.get?_update_self
abbrev wB:=@List.length_singleton
abbrev wC:=@Array.getElem?_eq_some_iff
abbrev wD:=@Nat.le_succ_of_le
abbrev wE:=@List.getElem?_of_mem
abbrev wF:=@List.getElem?_append_left
abbrev wG:=@Array.getElem?_eq_getElem
abbrev wH:=@Bool.false_and
abbrev wI:=@List.length_drop
abbrev wJ:=@List.getElem?_range
abbrev wK:=@List.flatMap_append
abbrev wL:=@List.sum_cons
abbrev wM:=@Option.map_some
abbrev wN:=@decide_eq_true_iff
abbrev wO:=@List.drop_of_length_le
abbrev wP:=@List.flatten_cons
abbrev wQ:=@List.length_range
abbrev wR:=@List.map_nil
abbrev wS:=@List.nodup_nil
abbrev wT:=@Array.getElem?_toList
abbrev wU:=@List.getElem?_eq_none
abbrev wV:=@List.lookup_cons
abbrev uFg:=PySem.W.Frag
namespace L2
open PySem PySem.W
def topRunT(b:String->Option Builtin)(p:jQ)(w:jR)(m:Nat)(a:Option jO):Nat->SharedT->Thread->Option SharedT
 | 0,_,_=>none
 | n+1,s,t=>match through t with
  | true=>some s
  | false=>match stepOk m a t with
   | false=>none
   | true=>match stepT (denote b) p w s t with
    | some x=>topRunT b p w m a n x.1 x.2
    | none=>none
theorem EM{d:String->Option Builtin}{p:jQ}{w:jR}{m:Nat}{c:Option jO}:∀{n:Nat}{s r:SharedT}{t:Thread},topRunT d p w m c n s t=some r->topRun d p w m c n s.abs t=some r.abs
 | 0,s,r,t,h=>by cases h
 | n+1,s,r,t,h=>by
  unfold topRunT at h;unfold topRun;cases a:through t with
  | true=>rw[a] at h;cases h;rfl
  | false =>
   rw[a] at h;cases b:stepOk m c t with
   | false=>rw[b] at h;cases h
   | true =>
    rw[b] at h;cases c:stepT (denote d) p w s t with
    | none=>rw[c] at h;cases h
    | some x=>obtain⟨a,b⟩:=x;rw[c] at h;dsimp only at h |-;rw[stepT_spec c];exact EM h
def DO:List Obj->Nat->BT->BT
 | [],_,t=>t
 | o::r,i,t=>DO r (i+1) (t.ins i o)
noncomputable def s0T (P:Params) (os:OsState):SharedT:=⟨DO (boot_heap P).objs.toList 0 .nil,11,(boot_heap P).life,#[],boot_drawn,boot_toks,os⟩
noncomputable def seenT {a:Type}(p q:jQ) (loose:jJ) (Xt:jN->Bool) (Yf:jN->a) (P:Params) (s:jN) :=
 (staticsOk (importedModules p.main.body) (boot_heap P) s.heap&&namesBound p s.heap&&gensDone s&&laidKept (boot_heap P) s.heap,openSeen q loose (importedModules p.main.body) Xt true s,Yf s)
theorem MY(P:Params)(os:OsState):(s0T P os).abs=⟨boot_heap P,#[],boot_drawn,boot_toks,os⟩:=by kernel_rfl
theorem L8(P:Params):((boot_heap P).isNs mainGlobals&&(#[]:Array GenState).size==0,(boot_heap P).objs.size,(boot_heap P).nsMap mainGlobals "__annotations__")=(true,11,some (.ref 6)):=by kernel_rfl
theorem jE{p q:jQ}{loose:jJ}{Xt:jN->Bool}{a:Type}{Yf:jN->a}{Ya:jR->a}{N:Nat}(e:opening p=plainProg p.main.scope.names)(g:Nat.ble 600 N=true)(f:∀s,fenceModules? p s=some s)(run:∀ (w:jR) (os:OsState),(topRunT treeTable p w 11 (some (.ref 6)) N (s0T w.params os) (topStub p)).map (λs=>seenT p q loose Xt Yf w.params s.abs)=some (true,openGood q loose,Ya w)):LeftO p q loose Xt Yf Ya N:=λw=>by
 obtain⟨⟨h,c,d,k,os⟩,b,a⟩:=xS.mp (boot_open e g f w);obtain⟨rfl,rfl,rfl,rfl⟩:h=boot_heap w.params/\c=#[]/\d=boot_drawn/\k=boot_toks:=by simpa using a
 obtain⟨s,h,a⟩:=xS.mp (run w os);unfold seenT at a;obtain⟨c,d,g⟩:_/\_/\_:=by simpa only [Prod.mk.injEq] using a
 have r:=EM h;rw[MY] at r;obtain⟨a,h,i⟩:_/\_/\_:=by simpa only [Prod.mk.injEq] using L8 w.params
 have t:topFrom treeTable p w N ⟨boot_heap w.params,#[],boot_drawn,boot_toks,os⟩=some s.abs:=by
  unfold topFrom;dsimp only;rw[a,h,i,r];show (match staticsOk (importedModules p.main.body) (boot_heap w.params) s.abs.heap&&namesBound p s.abs.heap&&gensDone s.abs&&laidKept (boot_heap w.params) s.abs.heap with | true=>some s.abs | false=>none)=_;rw[c]
 unfold openEnds;rw[b];show (topFrom treeTable p w N _).map _=_;rw[t];exact congrArg some (m8 d g)
def Zt(p:jQ)(i:Nat):Stmt:=p.main.body.getD i (.Pass ⟨0,0,0,0⟩)
def hIn(s:Stmt)(j:Nat):Stmt:=match s with
 | .ClassDef _ _ _ b _ _ _ _ _ _ _=>b.getD j (.Pass ⟨0,0,0,0⟩)
 | _=>s
def LB(s:Stmt):Arguments:=match s with
 | .FunctionDef _ a _ _ _ _ _ _ _ _=>a
 | _=>⟨[],[],none,[],[],none,[]⟩
def LA(s:Stmt):List Stmt:=match s with
 | .FunctionDef _ _ b _ _ _ _ _ _ _=>b
 | _=>[]
def IM(s:Stmt):Scope:=match s with
 | .FunctionDef _ _ _ _ _ _ c _ _ _=>c
 | _=>{kind:=.function,names:=[],isGenerator:=false,isCoroutine:=false }
def de(P:Params)(n:Str)(t:Tok)(v:jO):DictEntry:=⟨PyData.keyHash P n,.str n t,v⟩
def kFn(n q:Str)(st:Stmt)(pm:jO)(c:jP):Obj:=⟨.type "function", none,.func (fnOf n q (LB st) (LA st) (IM st) .none .none .none pm none (.ref c) .none),#[]⟩
def kC(n q:Str)(t l a u:Nat)(r s v x y:jO):Obj:=⟨.type "code", none,.fields #[.str n t,.str q (t+1),.str "/claim/cut.py" (t+2),.int l 0,.int a 0,.int 0 0,.int 0 0,.int 3 0,r,.bool true,.int 181 0,s,.none,v,x,y,.int u 0,.int l 0,.str "/claim/cut.py" (u+1)],#[]⟩
def kg(c:Nat)(n q:Str)(t l a u:Nat)(st:Stmt)(pm:jO)(r:uFg):uFg:=(c,kC n q t l a u (.ref (c - 5)) (.ref (c - 4)) (.ref (c - 3)) (.ref (c - 2)) (.ref (c - 1)))::(c+1,kFn n q st pm c)::r
def kg0(c:Nat)(n q:Str)(t l a u:Nat)(st:Stmt)(pm:jO)(r:uFg):uFg:=(c,kC n q t l a u (.ref (c - 3)) (.ref (c - 2)) .none .none (.ref (c - 1)))::(c+1,kFn n q st pm c)::r
def kE(P:Params)(a:Nat)(n:Str)(l t:Nat)(r:uFg):uFg:=(a,⟨.type "dict", none,.dict #[de P "__module__" t (.str "forsworn.errors" 194),de P "__firstlineno__" (t+4) (.int l (t+3)),de P "called" (t+11) (.ref (a - 2)),de P "__static_attributes__" (t+12) (.ref (a - 1)),de P "__doc__" (t+13) .none] 2,#[]⟩)::(a+1,⟨.type "type", none,.cls {name:=n,bases:=[.ref 38],mro:=[.ref (a+1),.ref 38,.type "ValueError", .type "Exception", .type "BaseException", .type "object"],ns:=a,qualname:=n,hasDict:=true,slotNames:=[],subclasses:=[],abstract:=false,collection:=none,hasDel:=false },#[some (.ref (a - 15)),none,some (.str n (t - 7)),some (.str n (t+1)),some (.builtin "ValueError.__new__"),some (.bool true)]⟩)::r
def kpO(x:jP×Obj)(r:uFg):uFg:=x::r
def kf(c:Nat)(n:Str):=kg c n n
def kf0(c:Nat)(n:Str):=kg0 c n n
end L2
namespace PySem.W.Fast
noncomputable def tw14598715356260435866:PySem.Params->PySem.Obj:=PySem.W.boot_o_0
theorem te14598715356260435866:PySem.W.boot_o_0=tw14598715356260435866:=rfl
end PySem.W.Fast
lay_quick L2.topRunT L2.s0T L2.seenT
namespace L2
open PySem PySem.W PyProof.Rows
abbrev p0:Pos:=⟨0,0,0,0⟩
def CN(p:jQ):Env:={scope:=p.main.scope,locals:=mainNs,globals:=mainNs,cells:=[],code:=.ref 13,frame:=some 14 }
def cP(p:jQ):Code:=.body (behindTheImports p) (CN p)
def Du(b:String->Option Builtin)(p:jQ)(w:jR)(m:Nat)(a:Option jO):Nat->SharedT->Thread->Option (SharedT×Thread)
 | 0,s,t=>some (s,t)
 | n+1,s,t=>match through t with
  | true=>none
  | false=>match stepOk m a t with
   | false=>none
   | true=>match stepT (denote b) p w s t with
    | some x=>Du b p w m a n x.1 x.2
    | none=>none
theorem Kx{d:String->Option Builtin}{p:jQ}{w:jR}{m:Nat}{c:Option jO}:∀{n:Nat}{s r:SharedT}{t u:Thread},Du d p w m c n s t=some (r,u)->topGo d p w m c n s.abs t=some (r.abs,u)
 | 0,s,r,t,u,h=>by cases h;rfl
 | n+1,s,r,t,u,h=>by
  unfold Du at h;unfold topGo;cases a:through t with
  | true=>rw[a] at h;cases h
  | false =>
   rw[a] at h;cases b:stepOk m c t with
   | false=>rw[b] at h;cases h
   | true =>
    rw[b] at h;cases c:stepT (denote d) p w s t with
    | none=>rw[c] at h;cases h
    | some x=>obtain⟨a,b⟩:=x;rw[c] at h;dsimp only at h |-;rw[stepT_spec c];exact Kx h
def preP(p:jQ)(w:jR)(s:SharedT):Option (SharedT×Thread):=Du treeTable p w 11 (some (.ref 6)) 12 s (topStub p)
def stubT(p:jQ):Thread:=⟨denote treeTable (cP p),cP p,p0,[topFrame p0]⟩
def blkP(p:jQ)(w:jR)(s:SharedT):Option (Flow×SharedT×Code×Pos):=segRunT treeTable p w 11 (some (.ref 6)) 1 1 s (blockOf (behindTheImports p) (CN p) (cP p) p0 [topFrame p0])
def segP(p:jQ)(w:jR)(n k j:Nat)(pos:Pos)(s:SharedT):Option (Flow×SharedT×Code×Pos):=segRunT treeTable p w 11 (some (.ref 6)) 1 n s (piecesOf (((behindTheImports p).drop k).take j) (CN p) (cP p) pos [topFrame p0])
def topQ(p:jQ)(w:jR)(n k:Nat)(pos:Pos)(s:SharedT):Option SharedT:=topRunT treeTable p w 11 (some (.ref 6)) n s (restOf ((behindTheImports p).drop k) (CN p) (cP p) pos [topFrame p0])
def vI(n:Nat):jO:=.int n 0
def tuO(l:jK):Obj:=⟨.type "tuple", none,.seq l.toArray 0,#[]⟩
def fdO(c:jO)(l:jK):Obj:=⟨c,none,.fields l.toArray,#[]⟩
def diO(l:List DictEntry)(n:Nat):Obj:=⟨.type "dict", none,.dict l.toArray n,#[]⟩
def cut(t:Nat):jO:=.str "/claim/cut.py" t
def mdl:jO:=.str "forsworn.errors" 194
def cdO(n q:Str)(b l:Nat)(d e:Nat)(c:Bool)(a:Nat)(r:jK):Obj:=fdO (.type "code") ([.str n b,.str q (b+1),cut (b+2),vI l,vI d,vI 0,vI 0,vI e,.ref a,.bool c,vI 181,.ref (a+1)]++r ++ [vI (if c then b+4 else b+3),vI l,cut (if c then b+5 else b+4)])
def fn0(n q:Str)(st:Stmt):Obj:=⟨.none,none,.func {name:=n,qualname:=q,params:=LB st,body:=.stmts (LA st),scope:=IM st,globals:=0,closure:=[],defaults:=.none,kwdefaults:=.none },#[]⟩
def Nv(P:Params)(a b l:Nat)(st:Stmt)(bs:jO)(g:Nat)(c:List DictEntry)(f:Obj)(n q:Str)(h:List Obj)(i:List Obj):List Obj :=
 let d:=[de P "__module__" (b+7) mdl]
 let e:=[de P "__firstlineno__" (b+11) (.int l (b+10)),de P "called" (b+18) (.ref (a+13)),de P "__static_attributes__" (b+19) (.ref (a+14))]
 h ++ [tuO [bs],fdO (.type "builtin_function_or_method") [.builtin "type.__prepare__", .type "type"],diO (d ++ [de P "__qualname__" (b+9) (.str n (b+8))]++e) 5,tuO [],fdO .none [vI (l+2),vI 4,.ref (a+12)],
  cdO n n (b+2) l 0 0 false (a+3) [.none,.none,.none,.none],⟨.type "frame", none,.plain,#[some (.ref (a+5)),some (.ref 3),some (.ref (a+2)),none,some mdl,none,some (.ref 0)]⟩,
  tuO [],fdO .none [],tuO [.str "self" (b+15)],tuO [],fn0 "called" q st,cdO "called" q (b+12) (l+2) 1 3 true (a+7) [.none,.ref (a+9),.ref (a+10),.ref (a+11)],
  kFn "called" q st mdl (a+12),tuO [],diO (d++e++c) g,f]++i ++ [fdO (.type "super") [.ref (a+16),.ref (a+16),.ref (a+16)],fdO (.type "builtin_function_or_method") [.builtin "object.__init_subclass__", .ref (a+16)]]
def tyO(a b:Nat)(n:Str)(bs:jK)(c:jK)(sub:jK):Obj:=⟨.type "type", none,.cls {name:=n,bases:=bs,mro:=.ref (a+16)::c,ns:=a+15,qualname:=n,hasDict:=true,slotNames:=[],subclasses:=sub,abstract:=false,collection:=none,hasDel:=false },
 #[some (.ref a),none,some (.str n b),some (.str n (b+8)),some (.builtin "ValueError.__new__"),some (.bool true)]⟩
def LZ:List jO:=[.type "ValueError", .type "Exception", .type "BaseException", .type "object"]
def Ov(P:Params)(p:jQ)(j:Nat)(x:Str×Str):List Obj:=let a:=42+19 * j;let b:=221+23 * j;let l:=9+4 * j
 Nv P a b l (hIn (Zt p (3+j)) 0) (.ref 38) 2 [de P "__doc__" (b+20) .none] (tyO a b x.1 [.ref 38] (.ref 38::LZ) []) x.1 x.2 [] []
def num{a:Type}:Nat->List a->List (Nat × a)
 | _,[]=>[]
 | i,x::r=>(i,x)::num (i+1) r
noncomputable def iX (p:jQ) (P:Params) (ns:List (Str×Str)):List Obj:=let w:=Zt p 0
  [boot_o_0 P,boot_o_1 P,boot_o_2 P,
   diO ([de P "__name__" 165 mdl,de P "__doc__" 166 .none,de P "__package__" 167 .none,de P "__loader__" 168 (.builtin "__main__.__loader__#opaque"),de P "__spec__" 169 .none,de P "__annotations__" 170 (.ref 6),de P "__builtins__" 171 (.ref 4),de P "__file__" 173 (cut 172),de P "__cached__" 174 .none,de P "_wall" 193 (.ref 21),de P "MootError" 220 (.ref 38)]++(num 0 ns).map λx=>de P x.2.1 (243+23 * x.1) (.ref (58+19 * x.1))) (11+ns.length),
   boot_o_4 P,boot_o_5 P,boot_o_6 P,boot_o_7 P,boot_o_8 P,boot_o_9 P,boot_o_10 P,tuO [],fdO .none ([vI 1,vI 0,.ref 20,vI 5,vI 0,.ref 27]++((num 0 ns).map λx=>[vI (9+4 * x.1),vI 0,.ref (47+19 * x.1)]).flatten),
   cdO "<module>" "<module>" 182 1 0 0 false 11 [.none,.none,.none,.none],⟨.type "frame", none,.plain,#[some (.ref 13),some (.ref 3),some (.ref 3),none,some (.str "__main__" 164),none,some (.ref 0)]⟩,
   tuO [],fdO .none [],tuO [.str "k" 190],tuO [],fn0 "_wall" "_wall" w,cdO "_wall" "_wall" 187 1 1 3 true 15 [.none,.ref 17,.ref 18,.ref 19],kFn "_wall" "_wall" w (.str "__main__" 164) 20] ++
  Nv P 22 196 5 (hIn (Zt p 2) 0) (.type "ValueError") 3 [de P "__weakref__" 217 (.ref 39),de P "__doc__" 218 .none] (tyO 22 196 "MootError" [.type "ValueError"] LZ ((num 0 ns).map λx=>.ref (58+19 * x.1))) "MootError" "MootError.called" [] [fdO (.type "getset_descriptor") [.str "__weakref__" 216,.ref 38,.builtin "ExceptionGroup.__weakref__", .none]] ++
  ((num 0 ns).map λx=>Ov P p x.1 x.2).flatten
noncomputable def errS (p:jQ) (ns:List (Str×Str)) (P:Params) (os:OsState):SharedT:=⟨DO (iX p P ns) 0 .nil,42+19 * ns.length,(boot_heap P).life,#[],boot_drawn,221+23 * ns.length,os⟩
noncomputable def stubS (P:Params) (os:OsState):SharedT:=⟨DO ((boot_heap P).objs.toList ++ [tuO [],fdO .none [],cdO "<module>" "<module>" 182 1 0 0 false 11 [.none,.none,.none,.none],⟨.type "frame", none,.plain,#[some (.ref 13),some (.ref 3),some (.ref 3),none,some (.str "__main__" 164),none,some (.ref 0)]⟩]) 0 .nil,15,(boot_heap P).life,#[],boot_drawn,187,os⟩
def VM(p:jQ)(w:jR)(os:OsState)(M:Nat)(s:SharedT)(k:Nat)(pos:Pos):Prop:=∀(N:Nat)(r:jN),
 topRun treeTable p w 11 (some (.ref 6)) N s.abs (restOf ((behindTheImports p).drop k) (CN p) (cP p) pos [topFrame p0])=some r->topRun treeTable p w 11 (some (.ref 6)) (M+N) (s0T w.params os).abs (topStub p)=some r
theorem VM.zero{p:jQ}{w:jR}{os:OsState}(h:preP p w (s0T w.params os)=some (stubS w.params os,stubT p))(b:blkP p w (stubS w.params os)=some (.next,stubS w.params os,cP p,p0)):VM p w os 13 (stubS w.params os) 0 p0:=λN r k=>by
 have a:=go_top (Kx h) (piece_block (segRun_of b) k)
 rwa [<- Nat.add_assoc] at a
theorem VM.step{p:jQ}{w:jR}{os:OsState}{M k:Nat}{s b:SharedT}{pos a:Pos}(R:VM p w os M s k pos)(n j:Nat)(h:segP p w n k j pos s=some (.next,b,cP p,a)):VM p w os (M+n) b (k+j) a:=λN r x=>by
 rw[Nat.add_assoc];refine R _ r ?_;rw[<- yZ j ((behindTheImports p).drop k),List.drop_drop];exact piece_app (segRun_of h) x
section
variable(p q:jQ)(loose:jJ)(Xt:jN->Bool)
noncomputable def sn0 (P:Params) (s:SharedT):Bool:=staticsOk (importedModules p.main.body) (boot_heap P) s.abs.heap&&namesBound p s.abs.heap&&gensDone s.abs&&laidKept (boot_heap P) s.abs.heap
def sn1(s:SharedT):=(seen ((recsOf q).map (·.name)) (ownsOf q) [] {s.abs with gens:=#[] },s.abs.heap.bltView)
def sn2(s:SharedT):Bool:=s.abs.heap.keysOk (looseW q loose) ((recsOf q).map (·.name)) ((litsOf q).map (·.1)) ((clssOf q (looseW q loose)).map (·.name))&&s.abs.heap.accountedOkI (importedModules p.main.body)&&s.abs.heap.isNs mainGlobals&&s.abs.heap.isNs builtinsNs&&tablesOk q s.abs.heap&&Xt s.abs&&(if true then s.abs.gens.size==0 else !leftWithCleanup s.abs.gens)
def sn3(s:SharedT):Bool:=tabsOk q s.abs
def sn4(s:SharedT):=pinSeenD q (drecsOf q) s.abs
def sn9(i:Nat)(s:SharedT):=(((plainsOf q (looseW q loose)).drop i).take 1).map λc=>s.abs.heap.plainShapeAt c.withCmp
def snA(i:Nat)(s:SharedT):=((plainsOf q (looseW q loose)).drop i).map λc=>s.abs.heap.plainShapeAt c.withCmp
def sn5(s:SharedT):=plainSeenD q loose s.abs
def sn8(s:SharedT):=wideSeen q s.abs
def sn6(s:SharedT):=clsSeenW q loose s.abs
end
def gd9(q:jQ)(loose:jJ)(i:Nat):=(((plainsOf q (looseW q loose)).drop i).take 1).map λc=>some c.withCmp.plainShape
def gdA(q:jQ)(loose:jJ)(i:Nat):=((plainsOf q (looseW q loose)).drop i).map λc=>some c.withCmp.plainShape
theorem KC{c d:Type}(f:c->d)(l:List c):l.map f=((l.drop 0).take 1).map f++(((l.drop 1).take 1).map f++(l.drop 2).map f):=by
 rcases l with _ | ⟨a,_ | ⟨b,l⟩⟩<;>rfl
theorem XN{p q:jQ}{loose:jJ}{Xt:jN->Bool}{a:Type}{Yf:jN->a}{Ya:jR->a}{M N k:Nat}{s:jR->OsState->SharedT}{pos:Pos}(e:opening p=plainProg p.main.scope.names)(c:Nat.ble 600 (M+N)=true)(f:∀s,fenceModules? p s=some s)(R:∀ (w:jR) (os:OsState),VM p w os M (s w os) k pos)(g:∀ (w:jR) (os:OsState),(topQ p w N k pos (s w os)).map (sn0 p w.params)=some true)(i:∀ (w:jR) (os:OsState),(topQ p w N k pos (s w os)).map (sn1 q)=some (expectedOf q,bltViewBooted))(j:∀ (w:jR) (os:OsState),(topQ p w N k pos (s w os)).map (sn2 p q loose Xt)=some true)(l:∀ (w:jR) (os:OsState),(topQ p w N k pos (s w os)).map (sn3 q)=some true)(m:∀ (w:jR) (os:OsState),(topQ p w N k pos (s w os)).map (sn4 q)=some (pinGoodD (drecsOf q)))(o:∀ (w:jR) (os:OsState),(topQ p w N k pos (s w os)).map (sn9 q loose 0)=some (gd9 q loose 0))(z:∀ (w:jR) (os:OsState),(topQ p w N k pos (s w os)).map (sn9 q loose 1)=some (gd9 q loose 1))(y:∀ (w:jR) (os:OsState),(topQ p w N k pos (s w os)).map (snA q loose 2)=some (gdA q loose 2))(n:∀ (w:jR) (os:OsState),(topQ p w N k pos (s w os)).map (sn5 q loose)=some (plainGoodD q loose))(v:∀ (w:jR) (os:OsState),(topQ p w N k pos (s w os)).map (sn8 q)=some (wideGood q))(r:∀ (w:jR) (os:OsState),(topQ p w N k pos (s w os)).map (sn6 q loose)=some (clsGoodW q loose))(t:∀ (w:jR) (os:OsState),(topQ p w N k pos (s w os)).map (λs=>Yf s.abs)=some (Ya w)):LeftO p q loose Xt Yf Ya (M+N):=λw=>by
 obtain⟨⟨h,b,d,k,os⟩,u,a⟩:=xS.mp (boot_open e c f w);obtain⟨rfl,rfl,rfl,rfl⟩:h=boot_heap w.params/\b=#[]/\d=boot_drawn/\k=boot_toks:=by simpa using a
 obtain⟨s,x,b⟩:=xS.mp (g w os);have a:=i w os;have c:=j w os;have d:=l w os;have g:=m w os;have h:=n w os;have m:=o w os;have n:=y w os;have o:=z w os;have l:=v w os;have i:=r w os;have j:=t w os;rw[x,wM,Option.some_inj] at a c d g h i j l m n o;have r:=R w os N _ (EM x);rw[MY] at r;obtain⟨v,x,y⟩:_/\_/\_:=by simpa only [Prod.mk.injEq] using L8 w.params
 have t:topFrom treeTable p w (M+N) ⟨boot_heap w.params,#[],boot_drawn,boot_toks,os⟩=some s.abs:=by
  unfold topFrom;dsimp only;rw[v,x,y,r];show (match staticsOk (importedModules p.main.body) (boot_heap w.params) s.abs.heap&&namesBound p s.abs.heap&&gensDone s.abs&&laidKept (boot_heap w.params) s.abs.heap with | true=>some s.abs | false=>none)=_;unfold sn0 at b;rw[b]
 unfold openEnds;rw[u];show (topFrom treeTable p w (M+N) _).map _=_;rw[t];refine congrArg some (m8 ?_ j);have b:=congrArg Prod.fst a;have j:=congrArg Prod.snd a;exact m8 b (m8 j (m8 c (m8 d (m8 g (m8 ((KC _ _).trans ((congr (congrArg _ m) (congr (congrArg _ o) n)).trans (KC _ _).symm)) (m8 h (m8 l i)))))))
end L2
lay_quick L2.preP L2.blkP L2.segP L2.topQ L2.errS L2.stubS L2.stubT L2.sn0 L2.sn1 L2.sn2 L2.sn3 L2.sn4 L2.sn5 L2.sn6 L2.sn8 L2.sn9 L2.snA L2.gd9 L2.gdA
namespace Law
open PySem L2
def pm0:jO:=(.str "forsworn.deeds" 589)
def pm1:jO:=(.str "forsworn.dues" 600)
def pm2:jO:=(.str "forsworn.measures" 642)
def pm3:jO:=(.str "forsworn.oaths" 680)
def pm4:jO:=(.str "forsworn.folk" 696)
def pm5:jO:=(.str "forsworn.stands" 905)
def pm6:jO:=(.str "forsworn.moot" 991)
def pm7:jO:=(.str "law_forsworn_k37_dues_of_a_moot" 1422)
def Kp(p:jQ)(P:Params):uFg :=
 kpO (3,⟨(.type "dict"),none,(.dict #[de P "__name__" 165 (.str "law_forsworn_k37_dues_of_a_moot" 1422),de P "__doc__" 166 .none,de P "__package__" 167 .none,de P "__loader__" 168 (.builtin "__main__.__loader__#opaque"),de P "__spec__" 169 .none,de P "__annotations__" 170 (.ref 6),de P "__builtins__" 171 (.ref 4),de P "__file__" 173 (.str "/claim/cut.py" 172),de P "__cached__" 174 .none,de P "_wall" 193 (.ref 21),de P "MootError" 220 (.ref 38),de P "NoName" 243 (.ref 58),de P "NoMeasure" 266 (.ref 77),de P "Unknown" 289 (.ref 96),de P "Taken" 312 (.ref 115),de P "NoThing" 335 (.ref 134),de P "NoCase" 358 (.ref 153),de P "NoOath" 381 (.ref 172),de P "NotYet" 404 (.ref 191),de P "Dead" 427 (.ref 210),de P "NoHeir" 450 (.ref 229),de P "TooMany" 473 (.ref 248),de P "SwornTwice" 496 (.ref 267),de P "Forsworn" 519 (.ref 286),de P "TooLight" 542 (.ref 305),de P "Broken" 565 (.ref 324),de P "NoDeed" 588 (.ref 343),de P "done" 599 (.ref 352),de P "owed" 607 (.ref 357),de P "owed_dues" 608 (.ref 357),de P "balance" 622 (.ref 364),de P "balance_dues" 623 (.ref 364),de P "set_against" 633 (.ref 371),de P "triple" 641 (.ref 378),de P "LAST_DAY" 645 (.int (9999) 644),de P "MOST_WEIGHT" 647 (.int (1000) 646),de P "MOST_NEED" 649 (.int (12000) 648),de P "MOST_MONEY" 651 (.int (1000000) 650),de P "check_day" 658 (.ref 385),de P "check_weight" 665 (.ref 392),de P "check_need" 672 (.ref 399),de P "check_money" 679 (.ref 406),de P "LONGEST_NAME" 683 (.int (12) 682),de P "is_name" 689 (.ref 411),de P "total" 695 (.ref 416),de P "MOST_FOLK" 699 (.int (40) 698),de P "Folk" 904 (.ref 571),de P "ONES" 908 (.int (0) 907),de P "OTHERS" 910 (.int (1) 909),de P "NEED" 912 (.int (2) 911),de P "NAMED" 914 (.int (3) 913),de P "settled" 921 (.ref 582),de P "settled_with" 933 (.ref 589),de P "breakers" 942 (.ref 596),de P "breakers_stands" 943 (.ref 596),de P "breaking" 949 (.ref 601),de P "naming" 960 (.ref 608),de P "check_case" 968 (.ref 615),de P "check_oath" 974 (.ref 620),de P "margin_without" 984 (.ref 627),de P "kept_weight" 990 (.ref 632),de P "MOST_THINGS" 994 (.int (40) 993),de P "MOST_CASES" 996 (.int (60) 995),de P "MOST_SWEARERS" 998 (.int (12) 997),de P "MOST_MOMENTS" 1000 (.int (400) 999),de P "Moot" 1421 (.ref 944),de P "_law_src" 1430 (.ref 955),de P "_law_next" 1440 (.ref 962),de P "_law_whole" 1447 (.ref 969),de P "_law_same" 1457 (.ref 976),de P "_law_unlike" 1468 (.ref 983),de P "_law_word" 1474 (.ref 988),de P "_law_names" 1488 (.ref 995),de P "_law_death" 1497 (.ref 1002),de P "_law_is_dead" 1507 (.ref 1009),de P "_law_weighs" 1519 (.ref 1016),de P "_law_heir" 1529 (.ref 1023),de P "_law_pick" 1541 (.ref 1030),de P "_law_hand" 1547 (.ref 1035),de P "_law_try" 1553 (.ref 1040),de P "_law_is_case" 1560 (.ref 1047),de P "_law_keep" 1566 (.ref 1052),de P "_law_play" 1579 (.ref 1059),de P "_law_start" 1593 (.ref 1066),de P "_law_one" 1601 (.ref 1073),de P "_law_sides" 1607 (.ref 1078),de P "_law_accused" 1613 (.ref 1083),de P "_law_case_deed" 1619 (.ref 1088),de P "_law_deed" 1625 (.ref 1093),de P "_law_settled" 1631 (.ref 1098),de P "_law_owes" 1648 (.ref 1105),de P "_law_owed" 1662 (.ref 1112),de P "_law_moot_entries" 1673 (.ref 1119),de P "_law_right" 1679 (.ref 1124),de P "law" 1691 (.ref 1131)] 95),#[]⟩)<|
 kpO (37,⟨(.type "dict"),none,(.dict #[de P "__module__" 203 (.str "forsworn.errors" 194),de P "__firstlineno__" 207 (.int (5) 206),de P "called" 214 (.ref 35),de P "__static_attributes__" 215 (.ref 36),de P "__weakref__" 217 (.ref 39),de P "__doc__" 218 .none] 3),#[]⟩)<|
 kpO (38,⟨(.type "type"),none,(.cls {name:="MootError", bases:=[(.type "ValueError")],mro:=[(.ref 38),(.type "ValueError"),(.type "Exception"),(.type "BaseException"),(.type "object")],ns:=37,qualname:="MootError", hasDict:=true,slotNames:=[],subclasses:=[(.ref 58),(.ref 77),(.ref 96),(.ref 115),(.ref 134),(.ref 153),(.ref 172),(.ref 191),(.ref 210),(.ref 229),(.ref 248),(.ref 267),(.ref 286),(.ref 305),(.ref 324),(.ref 343)],abstract:=false,collection:=none,hasDel:=false }),#[some (.ref 22),none,some (.str "MootError" 196),some (.str "MootError" 204),some (.builtin "ValueError.__new__"),some (.bool true)]⟩)<|
 kE P 57 "NoName" 9 228<|
 kE P 76 "NoMeasure" 13 251<|
 kE P 95 "Unknown" 17 274<|
 kE P 114 "Taken" 21 297<|
 kE P 133 "NoThing" 25 320<|
 kE P 152 "NoCase" 29 343<|
 kE P 171 "NoOath" 33 366<|
 kE P 190 "NotYet" 37 389<|
 kE P 209 "Dead" 41 412<|
 kE P 228 "NoHeir" 45 435<|
 kE P 247 "TooMany" 49 458<|
 kE P 266 "SwornTwice" 53 481<|
 kE P 285 "Forsworn" 57 504<|
 kE P 304 "TooLight" 61 527<|
 kE P 323 "Broken" 65 550<|
 kE P 342 "NoDeed" 69 573<|
 kf 351 "done" 591 74 2 597 (Zt p 20) pm0<|
 kf0 356 "owed" 602 98 3 605 (Zt p 22) pm1<|
 kf 363 "balance" 609 105 4 620 (Zt p 24) pm1<|
 kf 370 "set_against" 624 114 4 631 (Zt p 26) pm1<|
 kf 377 "triple" 634 119 2 639 (Zt p 27) pm1<|
 kf 384 "check_day" 652 128 1 656 (Zt p 33) pm2<|
 kf 391 "check_weight" 659 131 1 663 (Zt p 34) pm2<|
 kf 398 "check_need" 666 134 1 670 (Zt p 35) pm2<|
 kf 405 "check_money" 673 137 1 677 (Zt p 36) pm2<|
 kf0 410 "is_name" 684 142 1 687 (Zt p 39) pm3<|
 kf0 415 "total" 690 144 1 693 (Zt p 40) pm3<|
 kg 429 "__init__" "Folk.__init__" 712 150 1 716 (hIn (Zt p 43) 0) pm4<|
 kg 436 "come" "Folk.come" 719 156 4 726 (hIn (Zt p 43) 1) pm4<|
 kg 443 "rise" "Folk.rise" 729 161 4 736 (hIn (Zt p 43) 2) pm4<|
 kg 450 "die" "Folk.die" 739 165 4 746 (hIn (Zt p 43) 3) pm4<|
 kg0 469 "weight" "Folk.weight" 764 176 3 767 (hIn (Zt p 43) 6) pm4<|
 kg 497 "stand_in" "Folk.stand_in" 795 194 3 801 (hIn (Zt p 43) 10) pm4<|
 kg 504 "died_by" "Folk.died_by" 804 199 3 810 (hIn (Zt p 43) 11) pm4<|
 kg 525 "check_coming" "Folk.check_coming" 829 208 4 836 (hIn (Zt p 43) 14) pm4<|
 kg 532 "check_rise" "Folk.check_rise" 839 218 4 846 (hIn (Zt p 43) 15) pm4<|
 kg 539 "check_death" "Folk.check_death" 849 225 4 856 (hIn (Zt p 43) 16) pm4<|
 kg 546 "check_known" "Folk.check_known" 859 235 2 864 (hIn (Zt p 43) 17) pm4<|
 kg 553 "check_there" "Folk.check_there" 867 239 3 873 (hIn (Zt p 43) 18) pm4<|
 kg 560 "check_living" "Folk.check_living" 876 243 3 882 (hIn (Zt p 43) 19) pm4<|
 kg 567 "check_untold" "Folk.check_untold" 885 247 2 890 (hIn (Zt p 43) 20) pm4<|
 kpO (570,⟨(.type "dict"),none,(.dict #[de P "__module__" 707 (.str "forsworn.folk" 696),de P "__firstlineno__" 711 (.int (148) 710),de P "__init__" 718 (.ref 430),de P "come" 728 (.ref 437),de P "rise" 738 (.ref 444),de P "die" 748 (.ref 451),de P "names" 755 (.ref 458),de P "came" 763 (.ref 465),de P "weight" 769 (.ref 470),de P "dead" 778 (.ref 477),de P "stands_for" 787 (.ref 484),de P "twin" 794 (.ref 491),de P "stand_in" 803 (.ref 498),de P "died_by" 812 (.ref 505),de P "death_day" 820 (.ref 512),de P "heir_of" 828 (.ref 519),de P "check_coming" 838 (.ref 526),de P "check_rise" 848 (.ref 533),de P "check_death" 858 (.ref 540),de P "check_known" 866 (.ref 547),de P "check_there" 875 (.ref 554),de P "check_living" 884 (.ref 561),de P "check_untold" 892 (.ref 568),de P "__static_attributes__" 897 (.ref 569),de P "__dict__" 899 (.ref 572),de P "__weakref__" 901 (.ref 573),de P "__doc__" 902 .none] 4),#[]⟩)<|
 kpO (571,⟨(.type "type"),none,(.cls {name:="Folk", bases:=[(.type "object")],mro:=[(.ref 571),(.type "object")],ns:=570,qualname:="Folk", hasDict:=true,slotNames:=[],subclasses:=[],abstract:=false,collection:=none,hasDel:=false }),#[none,none,some (.str "Folk" 700),some (.str "Folk" 708),some (.builtin "object.__new__"),some (.bool true)]⟩)<|
 kf 581 "settled" 915 255 1 919 (Zt p 49) pm5<|
 kf 588 "settled_with" 922 257 2 931 (Zt p 50) pm5<|
 kf 595 "breakers" 934 267 3 940 (Zt p 51) pm5<|
 kf0 600 "breaking" 944 271 1 947 (Zt p 53) pm5<|
 kf 607 "naming" 950 273 2 958 (Zt p 54) pm5<|
 kf 614 "check_case" 961 280 2 966 (Zt p 55) pm5<|
 kf0 619 "check_oath" 969 283 3 972 (Zt p 56) pm5<|
 kf 626 "margin_without" 975 287 3 982 (Zt p 57) pm5<|
 kf0 631 "kept_weight" 985 290 3 988 (Zt p 58) pm5<|
 kg 645 "__init__" "Moot.__init__" 1013 299 1 1017 (hIn (Zt p 64) 0) pm6<|
 kg 652 "come" "Moot.come" 1020 310 4 1027 (hIn (Zt p 64) 1) pm6<|
 kg 659 "rise" "Moot.rise" 1030 316 4 1037 (hIn (Zt p 64) 2) pm6<|
 kg 666 "die" "Moot.die" 1040 322 4 1047 (hIn (Zt p 64) 3) pm6<|
 kg 673 "penance" "Moot.penance" 1050 328 2 1055 (hIn (Zt p 64) 4) pm6<|
 kg 680 "bring" "Moot.bring" 1058 335 3 1064 (hIn (Zt p 64) 5) pm6<|
 kg 687 "give" "Moot.give" 1067 346 5 1075 (hIn (Zt p 64) 6) pm6<|
 kg 694 "pay" "Moot.pay" 1078 353 5 1086 (hIn (Zt p 64) 7) pm6<|
 kg 701 "claim" "Moot.claim" 1089 361 7 1100 (hIn (Zt p 64) 8) pm6<|
 kg 708 "wergild" "Moot.wergild" 1103 371 8 1115 (hIn (Zt p 64) 9) pm6<|
 kg 715 "accuse" "Moot.accuse" 1118 382 7 1128 (hIn (Zt p 64) 10) pm6<|
 kg 867 "owed" "Moot.owed" 1298 457 2 1303 (hIn (Zt p 64) 32) pm6<|
 kg 874 "balance" "Moot.balance" 1306 461 3 1312 (hIn (Zt p 64) 33) pm6<|
 kg0 893 "counting" "Moot.counting" 1330 472 2 1333 (hIn (Zt p 64) 36) pm6<|
 kg 900 "forsworn_names" "Moot.forsworn_names" 1336 475 1 1344 (hIn (Zt p 64) 37) pm6<|
 kg0 905 "weighed" "Moot.weighed" 1347 483 3 1350 (hIn (Zt p 64) 38) pm6<|
 kg 912 "try_case" "Moot.try_case" 1353 486 6 1362 (hIn (Zt p 64) 39) pm6<|
 kg 919 "check_named" "Moot.check_named" 1365 492 5 1374 (hIn (Zt p 64) 40) pm6<|
 kg 926 "check_thing" "Moot.check_thing" 1377 508 2 1382 (hIn (Zt p 64) 41) pm6<|
 kg 933 "check_sides" "Moot.check_sides" 1385 512 5 1395 (hIn (Zt p 64) 42) pm6<|
 kg 940 "check_moments" "Moot.check_moments" 1398 527 1 1402 (hIn (Zt p 64) 43) pm6<|
 kpO (943,⟨(.type "dict"),none,(.dict #[de P "__module__" 1008 (.str "forsworn.moot" 991),de P "__firstlineno__" 1012 (.int (297) 1011),de P "__init__" 1019 (.ref 646),de P "come" 1029 (.ref 653),de P "rise" 1039 (.ref 660),de P "die" 1049 (.ref 667),de P "penance" 1057 (.ref 674),de P "bring" 1066 (.ref 681),de P "give" 1077 (.ref 688),de P "pay" 1088 (.ref 695),de P "claim" 1102 (.ref 702),de P "wergild" 1117 (.ref 709),de P "accuse" 1130 (.ref 716),de P "now" 1137 (.ref 723),de P "roll" 1144 (.ref 730),de P "names" 1151 (.ref 737),de P "weight" 1160 (.ref 744),de P "dead" 1169 (.ref 751),de P "stands_for" 1178 (.ref 758),de P "things" 1185 (.ref 765),de P "cases" 1192 (.ref 772),de P "suits" 1198 (.ref 777),de P "standing" 1205 (.ref 784),de P "stands" 1213 (.ref 791),de P "margin" 1221 (.ref 798),de P "breakers" 1230 (.ref 805),de P "chain" 1238 (.ref 812),de P "bearing" 1246 (.ref 819),de P "paper" 1254 (.ref 826),de P "fewest" 1262 (.ref 833),de P "forsworn" 1270 (.ref 840),de P "holder" 1279 (.ref 847),de P "road" 1288 (.ref 854),de P "holds" 1297 (.ref 861),de P "owed" 1305 (.ref 868),de P "balance" 1314 (.ref 875),de P "twin" 1321 (.ref 882),de P "then" 1329 (.ref 889),de P "counting" 1335 (.ref 894),de P "forsworn_names" 1346 (.ref 901),de P "weighed" 1352 (.ref 906),de P "try_case" 1364 (.ref 913),de P "check_named" 1376 (.ref 920),de P "check_thing" 1384 (.ref 927),de P "check_sides" 1397 (.ref 934),de P "check_moments" 1404 (.ref 941),de P "__static_attributes__" 1414 (.ref 942),de P "__dict__" 1416 (.ref 945),de P "__weakref__" 1418 (.ref 946),de P "__doc__" 1419 .none] 4),#[]⟩)<|
 kpO (944,⟨(.type "type"),none,(.cls {name:="Moot", bases:=[(.type "object")],mro:=[(.ref 944),(.type "object")],ns:=943,qualname:="Moot", hasDict:=true,slotNames:=[],subclasses:=[],abstract:=false,collection:=none,hasDel:=false }),#[none,none,some (.str "Moot" 1001),some (.str "Moot" 1009),some (.builtin "object.__new__"),some (.bool true)]⟩)<|
 kf 954 "_law_src" 1424 531 1 1428 (Zt p 66) pm7<|
 kf 961 "_law_next" 1431 533 2 1438 (Zt p 67) pm7<|
 kf 968 "_law_whole" 1441 548 1 1445 (Zt p 68) pm7<|
 kf 975 "_law_same" 1448 550 2 1455 (Zt p 69) pm7<|
 kf 982 "_law_unlike" 1458 567 2 1466 (Zt p 70) pm7<|
 kf0 987 "_law_word" 1469 575 2 1472 (Zt p 71) pm7<|
 kf 994 "_law_names" 1475 578 2 1486 (Zt p 72) pm7<|
 kf 1001 "_law_death" 1489 591 2 1495 (Zt p 73) pm7<|
 kf 1008 "_law_is_dead" 1498 596 3 1505 (Zt p 74) pm7<|
 kf 1015 "_law_weighs" 1508 599 3 1517 (Zt p 75) pm7<|
 kf 1022 "_law_heir" 1520 607 3 1527 (Zt p 76) pm7<|
 kf 1029 "_law_pick" 1530 613 3 1539 (Zt p 77) pm7<|
 kf0 1034 "_law_hand" 1542 619 1 1545 (Zt p 78) pm7<|
 kf0 1039 "_law_try" 1548 621 2 1551 (Zt p 79) pm7<|
 kf 1046 "_law_is_case" 1554 631 1 1558 (Zt p 80) pm7<|
 kf0 1051 "_law_keep" 1561 633 2 1564 (Zt p 81) pm7<|
 kf 1058 "_law_play" 1567 644 5 1577 (Zt p 82) pm7<|
 kf 1065 "_law_start" 1580 649 4 1591 (Zt p 83) pm7<|
 kf 1072 "_law_one" 1594 658 2 1599 (Zt p 84) pm7<|
 kf0 1077 "_law_sides" 1602 660 4 1605 (Zt p 85) pm7<|
 kf0 1082 "_law_accused" 1608 671 2 1611 (Zt p 86) pm7<|
 kf0 1087 "_law_case_deed" 1614 678 4 1617 (Zt p 87) pm7<|
 kf0 1092 "_law_deed" 1620 689 3 1623 (Zt p 88) pm7<|
 kf0 1097 "_law_settled" 1626 706 1 1629 (Zt p 89) pm7<|
 kf 1104 "_law_owes" 1632 720 5 1646 (Zt p 90) pm7<|
 kf 1111 "_law_owed" 1649 729 4 1660 (Zt p 91) pm7<|
 kf 1118 "_law_moot_entries" 1663 737 1 1671 (Zt p 92) pm7<|
 kf0 1123 "_law_right" 1674 749 4 1677 (Zt p 93) pm7<|
 kf 1130 "law" 1680 766 1 1689 (Zt p 94) pm7<|[]
def KK(P:Params):uFg:=Kp PySem.Challenge.pw_forsworn_k37_dues_of_a_moot P
def askd:List jP:=[3,37,38,57,58,76,77,95,96,114,115,133,134,152,153,171,172,190,191,209,210,228,229,247,248,266,267,285,286,304,305,323,324,342,343,351,352,356,357,363,364,370,371,377,378,384,385,391,392,398,399,405,406,410,411,415,416,429,430,436,437,443,444,450,451,469,470,497,498,504,505,525,526,532,533,539,540,546,547,553,554,560,561,567,568,570,571,581,582,588,589,595,596,600,601,607,608,614,615,619,620,626,627,631,632,645,646,652,653,659,660,666,667,673,674,680,681,687,688,694,695,701,702,708,709,715,716,867,868,874,875,893,894,900,901,905,906,912,913,919,920,926,927,933,934,940,941,943,944,954,955,961,962,968,969,975,976,982,983,987,988,994,995,1001,1002,1008,1009,1015,1016,1022,1023,1029,1030,1034,1035,1039,1040,1046,1047,1051,1052,1058,1059,1065,1066,1072,1073,1077,1078,1082,1083,1087,1088,1092,1093,1097,1098,1104,1105,1111,1112,1118,1119,1123,1124,1130,1131]
def HK:Hook:=kHook KK askd λ_=>by kernel_rfl
def q:jQ:=view PySem.Challenge.pw_forsworn_k37_dues_of_a_moot [0,2,3,4,5,6,7,8,9,10,11,12,13,14,15,16,17,18,20,22,23,24,25,26,27,29,30,31,32,33,34,35,36,38,39,40,42,43,45,46,47,48,49,50,51,52,53,54,55,56,57,58,60,61,62,63,64,66,67,68,69,70,71,72,73,74,75,76,77,78,79,80,81,82,83,84,85,86,87,88,89,90,91,92,93,94]
def ens:List (Str×Str):=[("NoName","NoName.called"),("NoMeasure","NoMeasure.called"),("Unknown","Unknown.called"),("Taken","Taken.called"),("NoThing","NoThing.called"),("NoCase","NoCase.called"),("NoOath","NoOath.called"),("NotYet","NotYet.called"),("Dead","Dead.called"),("NoHeir","NoHeir.called"),("TooMany","TooMany.called"),("SwornTwice","SwornTwice.called"),("Forsworn","Forsworn.called"),("TooLight","TooLight.called"),("Broken","Broken.called"),("NoDeed","NoDeed.called")]
end Law
namespace PySem.W.Fast
noncomputable def tw12993099872474151315:Program:=PySem.Challenge.pw_forsworn_k37_dues_of_a_moot
theorem te12993099872474151315:PySem.Challenge.pw_forsworn_k37_dues_of_a_moot=tw12993099872474151315:=rfl
end PySem.W.Fast
lay_quick PySem.Challenge.rw_forsworn_k37_dues_of_a_moot Law.q Law.ens
namespace Law
open PySem L2 PySem.W.Fast
set_option maxRecDepth 1000000
noncomputable abbrev zqP:=(tw2368527892694137696 tw12775363644211186718).prog
theorem RT(w:jR)(os:OsState):tw14574945829899846032 zqP w (tw15095419895629540892 w.params os)=some (tw17173385231801463501 w.params os,tw17649063868247884333 zqP):=by
 kernel_rfl
theorem Ow(w:jR)(os:OsState):tw897522592586576512 zqP w (tw17173385231801463501 w.params os)=some (.next,tw17173385231801463501 w.params os,cP zqP,p0):=by
 kernel_rfl
theorem Qa(w:jR)(os:OsState):tw3364177927453363911 zqP w 4143 0 19 p0 (tw17173385231801463501 w.params os)=some (.next,(tw15053072615319938550 zqP (tw2665081048563830263.take 16) w.params os),cP zqP,⟨69,0,72,23⟩):=by
 kernel_rfl
abbrev zqL:List Str:=["owed_dues","balance_dues","breakers_stands"]
noncomputable abbrev zqS(w:World)(os:OsState):=tw9491608239551792999 zqP w 8638 19 ⟨69,0,72,23⟩ (tw15053072615319938550 zqP (tw2665081048563830263.take 16) w.params os)
theorem iF(w:jR)(os:OsState):Option.map (tw5166864615210023351 zqP w.params) (zqS w os)=some true:=by
 kernel_rfl
theorem SO(w:jR)(os:OsState):Option.map (tw9146811602139678113 tw2797900513057943271) (zqS w os)=some (PyProof.Rows.expectedOf tw2797900513057943271,bltViewBooted):=by
 kernel_rfl
theorem NS(w:jR)(os:OsState):Option.map (tw4330636226384752446 zqP tw2797900513057943271 zqL (λs=>xlAt tw2797900513057943271 [] s&&recOk (tw2368527892694137696 tw12775363644211186718).records s)) (zqS w os)=some true:=by
 kernel_rfl
theorem bZ(w:jR)(os:OsState):Option.map (tw290884773970851577 tw2797900513057943271) (zqS w os)=some true:=by
 kernel_rfl
theorem RX(w:jR)(os:OsState):Option.map (tw9020109020722589832 tw2797900513057943271) (zqS w os)=some (pinGoodD (PyProof.Rows.drecsOf tw2797900513057943271)):=by
 kernel_rfl
theorem eU(w:jR)(os:OsState):Option.map (tw1658975667393823239 tw2797900513057943271 zqL 0) (zqS w os)=some (tw10258256380655884400 tw2797900513057943271 zqL 0):=by
 kernel_rfl
theorem fR(w:jR)(os:OsState):Option.map (tw1658975667393823239 tw2797900513057943271 zqL 1) (zqS w os)=some (tw10258256380655884400 tw2797900513057943271 zqL 1):=by
 kernel_rfl
theorem Px(w:jR)(os:OsState):Option.map (tw1671388014868620310 tw2797900513057943271 zqL 2) (zqS w os)=some (tw2047387775680494199 tw2797900513057943271 zqL 2):=by
 kernel_rfl
theorem bX(w:jR)(os:OsState):Option.map (tw11153056314078912757 tw2797900513057943271 zqL) (zqS w os)=some (PyProof.Rows.plainGoodD tw2797900513057943271 zqL):=by
 kernel_rfl
theorem Oe(w:jR)(os:OsState):Option.map (tw1743938642414776662 tw2797900513057943271) (zqS w os)=some (PySem.W.wideGood tw2797900513057943271):=by
 kernel_rfl
theorem gR(w:jR)(os:OsState):Option.map (tw15055011524645977279 tw2797900513057943271 zqL) (zqS w os)=some (PySem.W.clsGoodW tw2797900513057943271 zqL):=by
 kernel_rfl
theorem bD(w:jR)(os:OsState):Option.map (λs=>askd.map s.abs.heap.get?) (zqS w os)=some ((Kp tw12993099872474151315 w.params).map λp=>some p.2):=by
 kernel_rfl
local macro_rules | `(tactic| walk_at "q")=>`(tactic| (intro h;simp only[zqS,← te14574945829899846032,← te897522592586576512,← te3364177927453363911,← te9491608239551792999,← te15053072615319938550,← te17173385231801463501,← te17649063868247884333,← te2665081048563830263,← te5166864615210023351,← te9146811602139678113,← te4330636226384752446,← te290884773970851577,← te9020109020722589832,← te11153056314078912757,← te15055011524645977279,← te1743938642414776662,← te1658975667393823239,← te1671388014868620310,← te10258256380655884400,← te2047387775680494199,← te15095419895629540892,← te2797900513057943271,← te2368527892694137696,← te12775363644211186718,← te14364793385576792824,← te12993099872474151315] at h;exact h))
theorem left:PySem.W.LeftO PySem.Challenge.rw_forsworn_k37_dues_of_a_moot.row.prog q zqL (λs=>xlAt q [] s&&recOk (RowW.records PySem.Challenge.rw_forsworn_k37_dues_of_a_moot.row.toRowW) s) HK.obs HK.val 12794:=by
 refine XN (M:=4156) (N:=8638) (k:=19) (pos:=⟨69,0,72,23⟩) (s:=λw os=>errS PySem.Challenge.rw_forsworn_k37_dues_of_a_moot.row.prog (ens.take 16) w.params os) (by kernel_rfl) aA (λs=>by kernel_rfl) (λw os=>?_)
  (λw os=>(by have h:=iF w os;revert h;walk_at "q"))
  (λw os=>(by have h:=SO w os;revert h;walk_at "q"))
  (λw os=>(by have h:=NS w os;revert h;walk_at "q"))
  (λw os=>(by have h:=bZ w os;revert h;walk_at "q"))
  (λw os=>(by have h:=RX w os;revert h;walk_at "q"))
  (λw os=>(by have h:=eU w os;revert h;walk_at "q"))
  (λw os=>(by have h:=fR w os;revert h;walk_at "q"))
  (λw os=>(by have h:=Px w os;revert h;walk_at "q"))
  (λw os=>(by have h:=bX w os;revert h;walk_at "q"))
  (λw os=>(by have h:=Oe w os;revert h;walk_at "q"))
  (λw os=>(by have h:=gR w os;revert h;walk_at "q"))
  (λw os=>(by have h:=bD w os;revert h;walk_at "q"))
 have R:=VM.zero (p:=PySem.Challenge.rw_forsworn_k37_dues_of_a_moot.row.prog) (w:=w) (os:=os) (by have h:=RT w os;revert h;walk_at "q") (by have h:=Ow w os;revert h;walk_at "q");have R:=R.step 4143 19 (by have h:=Qa w os;revert h;walk_at "q");exact R
end Law
local macro_rules|`(($a,$b,*))=>`(⟨$a,$b,*⟩)
local macro_rules|`(())=>`(by lia)
local macro_rules(kind:=Lean.Parser.Term.proj)|s=>yKz s
section
namespace L2
open PySem PySem.Spec PyProof.Rows
theorem aB{n:Nat}(h:Nat.ble n 5000=_t):n<=sizeLine:=Nat.le_trans (Nat.le_of_ble_eq_true h) (by decide)
def aC:(5000:Nat)<=sizeLine:=by decide
abbrev ZN:=Sum Int Str
def BR:ZN->jO->Bool
 | .inl k,v=>Value.isInt k v
 | .inr x,v=>Value.isStrOf x v
def Ox(w:jR):ZN->Int
 | .inl k=>hashInt k
 | .inr x=>hashStr w x
theorem Ac:∀{k:ZN}{v:jO},BR k v=_t->(∃i t,k=Sum.inl i/\v=Value.int i t)\/(∃x t,k=Sum.inr x/\v=Value.str x t)
 | .inl i,v,h=>by
  let(t,e):=Value.isInt_shape (k:=i) (v:=v) h;rwa[.inl (i,t,S,e)]
 | .inr x,v,h=>by
  let(t,e):=Value.isStrOf_shape (x:=x) (v:=v) h;rwa[.inr (x,t,S,e)]
def Oq(i:Int)(t:Tok):BR (.inl i) (.int i t)=true:=by simp[BR,Value.isInt]
def S9(x:Str)(t:Tok):BR (.inr x) (.str x t)=true:=by simp[BR,Value.isStrOf]
def XC(a b:Int):decide ((Sum.inl a:ZN)=Sum.inl b)=(a==b):=by grind
def gE(a b:Str):decide ((Sum.inr a:ZN)=Sum.inr b)=decide (a=b):=by grind
theorem fH(a:Int)(b:Str):decide ((Sum.inl a:ZN)=Sum.inr b)=false:=yM (λq=>nomatch q)
theorem SC(a:Str)(b:Int):decide ((Sum.inr a:ZN)=Sum.inl b)=false:=yM (λq=>nomatch q)
def We(prog:jQ)(w:jR):PySem.KeyKind prog w ZN where
 is:=BR
 hash:=Ox w
 inj:=λv a b d c=>by
  rcases Ac d with⟨i,t,rfl,rfl⟩ | ⟨x,t,rfl,rfl⟩
  .rcases Ac c with⟨j,u,rfl,e⟩ | ⟨y,u,rfl,e⟩
   .injection e with a _;rw[a]
   .rwa[nomatch e]
  .rcases Ac c with⟨j,u,rfl,e⟩ | ⟨y,u,rfl,e⟩
   .rwa[nomatch e]
   .injection e with a _;rw[a]
 byValue:=λk v h=>by
  rcases Ac h with⟨i,t,rfl,rfl⟩ | ⟨x,t,rfl,rfl⟩<;>rfl
 pyHash:=λb h=>by
  rcases Ac b with⟨i,t,rfl,rfl⟩ | ⟨x,t,rfl,rfl⟩
  .rwa[wpAny_pyHash_int h]
  .rwa[wpAny_pyHash_str h]
 eqBool:=λc b h=>by
  rcases Ac c with⟨i,t,rfl,rfl⟩ | ⟨x,t,rfl,rfl⟩
  .rcases Ac b with⟨j,u,rfl,rfl⟩ | ⟨y,u,rfl,rfl⟩
   .rw[XC] at h;rwa[wpAny_eqBool_int h]
   .rw[fH] at h;rwa[SeqAt.EqAt.int_str i t y u _ _ _ _ h]
  .rcases Ac b with⟨j,u,rfl,rfl⟩ | ⟨y,u,rfl,rfl⟩
   .rw[SC] at h;rwa[SeqAt.EqAt.str_int x t j u _ _ _ _ h]
   .rw[gE] at h;rwa[wpAny_eqBool_str h]
 «strs»:=λk x t v h=>by
  rcases Ac h with⟨i,u,rfl,e⟩ | ⟨y,u,rfl,e⟩
  .rwa[nomatch e]
  .injection e with a _
   subst a
   ext v<;>rfl
theorem NV(prog:jQ)(w:jR)(i:Int)(t:Tok):(We prog w).is (.inl i) (.int i t)=true:=Oq i t
theorem cD(prog:jQ)(w:jR)(x:Str)(t:Tok):(We prog w).is (.inr x) (.str x t)=true:=S9 x t
inductive V where
 | non | bl (b:Bool) | int (i:Int) | str (x:Str) | byt (b:Array UInt8) | flt (b:UInt64) | ref (a:jP) | ty (n:String)
 deriving DecidableEq
abbrev aG:=List V
def ZH:V->jO->Prop
 | .non,u=>u=Value.none
 | .bl b,u=>u=Value.bool b
 | .int i,u=>∃t,u=Value.int i t
 | .str x,u=>∃t,u=Value.str x t
 | .byt b,u=>∃t,u=Value.bytes b t
 | .flt b,u=>∃t,u=Value.float b t
 | .ref a,u=>u=Value.ref a
 | .ty n,u=>u=Value.type n
abbrev ZJ:List V->List jO->Prop:=Paired ZH
theorem ZJ.length(r:ZJ L us):L.9=us.9:=m9 r
theorem ZJ.get:∀{L:aG}{us:jK}{i:Nat}{x:V},ZJ L us->L[i]?=_s x->∃u,us[i]?=_s u/\ZH x u:=λ{L us i x} r e=>by
 induction r generalizing i with
 | nil=>ext e
 | cons r _ a=>cases i with
  | zero=>ext e;rwa[_,S,r]
  | succ i=>rwa[a e]
theorem ZJ.set(r:ZH x u):∀{L:aG}{us:jK}(i:Nat),ZJ L us->ZJ (L.set i x) (us.set i u):=λi s=>by
 induction s generalizing i with
 | nil=>rwa[.nil]
 | cons q t a=>cases i with
  | zero=>rwa[.cons r t]
  | succ i=>rwa[.cons q (a i)]
theorem ZJ.append:∀{L ys:aG}{us a:jK},ZJ L us->ZJ ys a->ZJ (L++ys) (us++a):=λr s=>by
 induction r with
 | nil=>rwa[s]
 | cons r _ a=>rwa[.cons r a]
theorem ZJ.take:∀{L:aG}{us:jK}(n:Nat),ZJ L us->ZJ (L.take n) (us.take n):=λn s=>by
 induction s generalizing n with
 | nil=>ext n<;>rwa[.nil]
 | cons q t a=>cases n with
  | zero=>rwa[.nil]
  | succ i=>rwa[.cons q (a i)]
theorem ZJ.drop:∀{L:aG}{us:jK}(n:Nat),ZJ L us->ZJ (L.drop n) (us.drop n):=λn s=>by
 induction s generalizing n with
 | nil=>ext n<;>rwa[.nil]
 | cons q t a=>cases n with
  | zero=>rwa[.cons q t]
  | succ i=>rwa[a i]
def YT:Option V->Option jO->Prop
 | some v,_s u=>ZH v u
 | none,_n=>True
 | _,_=>False
def KV{κ:Type}:List (κ×V)->List (κ×jO)->Prop:=Paired λ(p:κ×V) (q:κ×jO)=>p.1=q.1/\ZH p.2 q.2
def kV:ZN->V
 | .inl i=>.int i
 | .inr x=>.str x
inductive HO where
 | lst (L:aG)
 | tup (L:aG)
 | dK (U:List (ZN×V)) | dT (U:List (List ZN×V))
 | set (S:Int->Bool) (n:Nat)
 | ins (C a:jP) (a:List (Str×V))
 | own (x:jP)
 | xd (a:List (Str×V))
 | met (f x:jP)
 | rng (lo a:Int)
 | frz (o:Obj) (u:HO)
 | tbl (a:Array jO)
 | ext (a:Heap->Prop)
abbrev Hp:=jP->Option HO
def upd(H:Hp)(a:jP)(o:HO):Hp:=λb=>if b=a then _s o else H b
def Zi:upd H a o a=_s o:=by unfold upd;rw[_j S]
def Zd(h:b≠a):upd H a o b=H b:=by unfold upd;rw[_i h]
def IB{H:Hp}{a b:jP}{o u:HO}(h:H a=_s o)(h':H b=_s u)(d:o≠u):a≠b:=by grind
def Zj{H:Hp}{a b:jP}{o:HO}(h:H a=_s o)(h':H b=_n):a≠b:=by
 intro e;subst e;rw[h] at h';ext h'
section
variable(P:jQ)(w:jR)
def ZM(H:Hp)(h:Heap)(a:jP):HO->Prop
 | .lst L=>L.9<=_z/\∃(b:jK)(n:Nat),ZJ L b/\h.get? a=_s {cls:=.type "list", data:=.seq b.toArray n }
 | .tup L=>L.9<=_z/\∃b:List jO,ZJ L b/\IsTup h a b.4
 | .dK U=>U.9<=_z/\(a==sysModules)=_x/\∃b,KV U b/\h.DictOf (We P w) a b
 | .dT U=>U.9<=_z/\(a==sysModules)=_x/\∃L:List (List ZN×jP×jO),
   Paired (λ(p:List ZN×V) (q:List ZN×jP×jO)=>p.1=q.1/\H q.2.1=_s (.tup (p.1.map kV))/\ZH p.2 q.2.2) U L /\
   ∃o b c,h.get? a=_s o/\o.ExactDict/\o.data=.dict b c/\b.toList=L.map (entryOfKey (tupleKind (We P w)))/\(L.map (·.1)).Nodup
 | .set S n=>h.SetOf (intKind P w) a S n
 | .ins C d c=>H d=_s (.own a)/\c.9<=1000/\d≠a/\h.get? a=_s (instObj C d)/\
   ∃b,h.Ns1 d b/\(∀f,YT (c.lookup f) (b f))/\PySem.Within b (c.map (·.1))
 | .own _=>∃o,h.get? a=_s o
 | .xd c=>∃b,h.Ns1 a b/\∀f,YT (c.lookup f) (b f)
 | .rng lo b=>∃t u v,h.get? a=_s {cls:=.type "range", data:=.fields #[.int lo t,.int b u,.int 1 v] }
 | .frz o u=>h.get? a=_s o/\ZM H h a u
 | .tbl b=>∃c e t,h.get? a=_s {cls:=.none,data:=.fields c }/\TriplesOk c.toList/\b[0]?=_s (.str e t)/\∀b d,codeAmong b c.toList=_s d->∃c,d=.ref c/\H c=_s (.own a)/\h.CodeRec (.ref c) e
 | .met f x=>h.get? a=_s (methodObj (.ref f) (.ref x))
 | .ext b=>b h/\(∃o,h.get? a=_s o)/\∀c d:Heap,b c->(∀o,c.get? a=_s o->d.get? a=_s o)->b d
def YW(H:Hp)(h:Heap):Prop:=∀a o,H a=_s o->ZM P w H h a o
end
section
variable{P:jQ}{w:jR}{H:Hp}{h h':Heap}{a:jP}{o:HO}
def ZM.lt(x:ZM P w H h a o):a<h.7:=by
 cases o with
 | lst L=>let(_,_,_,_,e):=x;rwa[xP e]
 | tup L=>let(_,_,_,p):=x;rwa[p.lt]
 | dK U=>let(_,_,_,_,o,_,_,e,_):=x;rwa[xP e]
 | dT U=>let(_,_,_,_,o,_,_,e,_):=x;rwa[xP e]
 | set S n=>let(o,_,_,_,e,_):=x;rwa[xP e]
 | ins C c b=>let(_,_,_,e,_):=x;rwa[xP e]
 | own y=>let(_,e):=x;rwa[xP e]
 | xd b=>let(_,(_,_,_,e,_),_):=x;rwa[xP e]
 | rng lo b=>let(_,_,_,e):=x;rwa[xP e]
 | frz b u=>let(e,_):=x;rwa[xP e]
 | tbl b=>let(_,_,_,e,_):=x;rwa[xP e]
 | met f y=>rwa[xP (show h.get? a=_s _ from x)]
 | ext b=>let(_,(_,e),_):=x;rwa[xP e]
theorem Paired.mapP{c d:Type}{F G:c->d->Prop}:∀{l₁:List c}{l₂:List d},Paired F l₁ l₂->(∀a b,F a b->G a b)->Paired G l₁ l₂:=λr f=>by
 induction r with
 | nil=>rwa[.nil]
 | cons r _ c=>rwa[.cons (f _ _ r) c]
def ZM.oR(x:ZM P w H h a o)(k:∀b u,(b=a\/H b=_s (.own a))->h.get? b=_s u->h'.get? b=_s u)(A:∀b,H b=_s (.own a)->J b=_s (.own a))(l:∀b L,H b=_s (.tup L)->J b=_s (.tup L)):ZM P w J h' a o:=by
 induction o with
 | lst L=>let(z,d,n,r,e):=x;rwa[z,d,n,r,k _ _ (.inl rfl) e]
 | tup L=>let(z,d,r,f,e,c):=x;rwa[z,d,r,f,k _ _ (.inl rfl) e,c]
 | dK U=>let(z,y,m,r,f,i,g,e,c):=x;rwa[z,y,m,r,f,i,g,k _ _ (.inl rfl) e,c]
 | dT U =>
  let(z,y,L,r,f,i,g,e,c,d,s,j):=x;rwa[z,y,L,Paired.mapP r λp q z=>(z.1,l _ _ z.2.1,z.2.2),f,i,g,k _ _ (.inl rfl) e,c,d,s,j]
 | set S n=>let(f,i,g,t,e,c):=x;rwa[f,i,g,t,k _ _ (.inl rfl) e,c]
 | ins C d n =>
  let(d,z,v,e,l,(od,i,g,j,c),r,B):=x;rwa[A _ d,z,v,k _ _ (.inl rfl) e,l,(od,i,g,k _ _ (.inr d) j,c),r,B]
 | own y=>let(f,e):=x;rwa[f,k _ _ (.inl rfl) e]
 | xd n=>let(l,(od,i,g,e,c),r):=x;rwa[l,(od,i,g,k _ _ (.inl rfl) e,c),r]
 | rng lo d=>let(t,u,v,e):=x;rwa[t,u,v,k _ _ (.inl rfl) e]
 | frz f u d=>let(e,q):=x;rwa[k _ _ (.inl rfl) e,d q]
 | tbl d =>
  let(f,d,t,e,g,i,z):=x;erw[f,d,t,k a _ (.inl rfl) e,g,i,λd f r=>?_];let(c,g,j,s,t,m,v,i,l,n):=z d f r;ext i;rwa[c,g,A _ j,c,t,m,v,rfl,k _ _ (.inr j) l,n]
 | met f y =>
  let e:h.get? a=_s (methodObj (.ref f) (.ref y)):=x;show h'.get? a=_s (methodObj (.ref f) (.ref y));rwa[k a _ (.inl rfl) e]
 | ext c=>let(p,(o,e),st):=x;rwa[st _ _ p λo q=>k _ _ (.inl rfl) q,(o,k _ _ (.inl rfl) e),st]
theorem YW.lt(x:YW P w H h)(e:H a=_s o):a<h.7:=(x a o e).lt
def YW.fresh(x:YW P w H h)(e:h.7<=a):H a=none:=by
 cases q:H a with
 | none=>rfl
 | some u=>rwa[_a (yO (x.lt q) e) (zS _)]
theorem YW.kept(x:YW P w H h)(k:∀b u,h.get? b=_s u->h'.get? b=_s u):YW P w H h':=λa o e =>
 (x a o e).oR (λb u _ q=>k b u q) (λ_ q=>q) λ_ _ q=>q
theorem YW.laid(x:YW P w H h)(k:∀b u,h.get? b=_s u->h'.get? b=_s u)(d:h.7<=a)(c:ZM P w (upd H a o) h' a o):YW P w (upd H a o) h':=λb u e=>by
 let f:=x.fresh d
 by_cases d:b=a
 .subst d;rw[Zi] at e;ext e;rwa[c]
 .rw[Zd d] at e;exact(x b u e).oR (λc v _ q=>k c v q) (λc q=>by rw[Zd (Zj q f)];rwa[q]) λc L q=>by rw[Zd (Zj q f)];rwa[q]
end
def Rd(H:Hp)(a:jP)(u:HO):Prop:=H a=_s u\/∃o,H a=_s (.frz o u)
def Rd.ok(r:Rd H a u)(x:YW P w H h):ZM P w H h a u:=by
 rcases r with r | ⟨o,r⟩
 .rwa[x a u r]
 .let(_,q):=x a _ r;rwa[q]
def Ct:Option HO->Prop
 | some (.lst _)=>True
 | some (.dK _)=>True
 | some (.dT _)=>True
 | some (.set _ _)=>True
 | some (.ins _ _ _)=>True
 | some (.ext _)=>True
 | _=>False
theorem YW.write(j:YW P w H h)(a:Ct (H x))(c:e=x\/H e=_s (.own x))(k:∀b u,b≠e->h.get? b=_s u->h'.get? b=_s u)(g:∃u,h'.get? e=_s u)(i:ZM P w (upd H x o') h' x o'):YW P w (upd H x o') h':=λb u q=>by
 let d:∀c y,H c=_s (.own y)->c≠x:=λc y r z=>by subst z;rw[r] at a;rwa[a]
 let f:∀c L,H c=_s (.tup L)->c≠x:=λc L r z=>by subst z;rw[r] at a;rwa[a]
 by_cases a:b=x
 .subst a;rw[Zi] at q;ext q;rwa[i]
 .rw[Zd a] at q
  by_cases a:b=e
  .let i:H b=_s (.own x):=by grind
   rw[q] at i;ext i;let(v,i):=g;rwa[v,by rw[a];rwa[i]]
  .refine(j b u q).oR (λc v g r=>k c v ?_ r) (λc r=>by rw[Zd (d c b r)];rwa[r]) λc L r=>by rw[Zd (f c L r)];rwa[r]
   rcases g with rfl | g
   .rwa[a]
   .grind
structure Un (fs ex:jM) (H J:Hp) (h h':Heap):Prop where
 keep:∀b o,h.get? b=_s o->H b=_n->b∉fs->b∉ex->h'.get? b=_s o
 slot:∀b o,h.get? b=_s o->H b=_n->b∈fs->b∉ex->∃sl,h'.get? b=_s {o with slots:=sl }
 free:∀b o,h.get? b=_s o->H b=_n->b∉ex->J b=_n
 there:∀b o,h.get? b=_s o->b∉ex->∃o',h'.get? b=_s o'
 j3:∀b L,H b=_s (.tup L)->J b=_s (.tup L)
 o6:∀b o u,H b=_s (.frz o u)->J b=_s (.frz o u)
 oW:∀b ps,H b=_s (.tbl ps)->∃more,J b=_s (.tbl (ps++more))
section
variable{fs ex:jM}{H:Hp}{h h':Heap}{a:jP}{o:HO}
def Un.any(u:Un fs ex H H1 h h1)(q:h.get? b=_s ob)(n:H b=_n)(d:b∉ex):∃c,h1.get? b=_s {ob with slots:=c }:=by
 by_cases c:b∈fs
 .rwa[u.slot b ob q n c d]
 .rwa[ob.slots,u.keep b ob q n c d]
theorem Un.kept(k:∀b u,h.get? b=_s u->h'.get? b=_s u):Un fs ex H H h h' :=
 (λb c q _ _ _=>k b c q,λb c q _ _ _=>(c.slots,k b c q),λ_ _ _ n _=>n,λb c q _=>(c,k b c q),λ_ _ q=>q,λ_ _ _ q=>q,λ_ c q=>(#[],by rw[q];simp))
theorem Un.refl:Un fs ex H H h h:=Un.kept λ_ _ q=>q
theorem Un.laid(k:∀b u,h.get? b=_s u->h'.get? b=_s u)(d:h.7<=a)(c:H a=_n):Un fs ex H (upd H a o) h h' where
 keep:=λb u q _ _ _=>k b u q
 slot:=λb u q _ _ _=>(u.slots,k b u q)
 free:=λb u q n _=>by rw[Zd (yG (yO (xP q) d))];rwa[n]
 there:=λb u q _=>(u,k b u q)
 j3:=λb L q=>by rw[Zd (Zj q c)];rwa[q]
 o6:=λb u L q=>by rw[Zd (Zj q c)];rwa[q]
 oW:=λb d q=>(#[],by rw[Zd (Zj q c),q];simp)
def Un.write(c:Ct (H x))(d:e=x\/H e=_s (.own x))(k:∀b u,b≠e->h.get? b=_s u->h'.get? b=_s u)(d:∃u,h'.get? e=_s u):Un fs ex H (upd H x o) h h':=by
 let i:∀b,H b=_n->b≠x:=λb n z=>by subst z;rw[n] at c;rwa[c]
 let g:∀b,H b=_n->b≠e:=λb n z=>by grind
 let f:∀b u,H b=_s u->¬Ct (_s u)->b≠x:=λb u q j z=>by subst z;rw[q] at c;rwa[j c]
 refine(λb u q n _ _=>k b u (g b n) q,λb u q n _ _=>(u.slots,k b u (g b n) q),λb u q n _=>by rw[Zd (i b n)];rwa[n],λb u q _=>?_,
  λb L q=>by rw[Zd (f b _ q λz=>z)];rwa[q],λb u L q=>by rw[Zd (f b _ q λz=>z)];rwa[q],λb c q=>(#[],by rw[Zd (f b _ q λz=>z),q];simp))
 by_cases c:b=e
 .subst c;rwa[d]
 .rwa[u,k b u c q]
end
def trk(h:Heap)(H:Hp):List jP:=(List.range h.7).filter λa=>(H a).isSome
def Ak(h:Heap)(H:Hp):Heap:=hideAll h (trk h H)
theorem Pt(h:Heap)(H:Hp):(Ak h H).7=h.7:=PySem.W.hideAll_size _ _
theorem RK(e:h.get? b=_s o)(n:H b=_n):(Ak h H).get? b=_s o :=
 hideAll_get _ e λa=>by
  let q:(H b).isSome=true:=(List.mem_filter.mp a).2;rw[n] at q;simp at q
def iS(e:(Ak h H).get? b=_s o):h.get? b=_s o/\H b=none:=by
 let a:h.get? b=_s o:=of_hideAll (trk h H) e;erw[a,?_];cases q:H b with
 | none=>rfl
 | some x =>
  let c:b∈trk h H:=List.mem_filter.mpr (zN.mpr (xP a),by simp[q]);let z:(Ak h H).get? b=none:=hideAll_none (trk h H) c;rw[z] at e;ext e
structure Mod (K:uFg) (mg:jI) (base:Heap):Prop where
 kin:K.In base
 glob:base.Ns _g mg
 blt:∃mb,base.Ns builtinsNs mb/\∀x:Str,x ≠ "__name__" -> mb x=_o x
 nolimit:base.NoLimit
structure Cx where
 prog:jQ
 w:jR
 K:uFg
 mg:Str->Option jO
 base:Heap
 A:jS
 N:List Str
 s₀:jN
 H₀:Hp
 env:Env
 outer:List Env
 stack:List Env
 ex:List jP
 fn:Str->Bool
 calm:Bool
 pn:List (jP×Obj)
 xe:jO->jN->Prop
def frs(l:List Env):List jP:=l.filterMap (·.frame)
abbrev Cx.fs(X:Cx):List jP:=frs X.outer
def Cr(a:Scope)(x:Str):Prop:=a.names.lookup x=_s .local\/a.names.lookup x=_s .cell\/a.names.lookup x=_s .free
def CP(a:Scope)(x:Str):Prop:=a.names.lookup x=_s .local\/a.names.lookup x=_s .cell
def Qx(env:Env)(h:Heap)(m:jI)(x:Str)(u:jO):Prop :=
 (env.kindOf x=_s .local/\m x=_s u)\/((env.kindOf x=_s .cell\/env.kindOf x=_s .free)/\∃c,env.cells.lookup x=_s c/\h.IsCell c (_s u))
structure Cx.Ok (X:Cx):Prop where
 mod:Mod X.K X.mg X.base
 kind:X.env.scope.kind=.function
 glob:X.env.globals=_g
 blt:X.env.builtins=builtinsNs
 above:X.s₀.8<=X.env.locals
 inj:∀x y c,X.env.cells.lookup x=_s c->X.env.cells.lookup y=_s c->x=y
 has:∀x,(X.env.kindOf x=_s .cell\/X.env.kindOf x=_s .free)->∃c,X.env.cells.lookup x=_s c
 ie:∀x c,X.fn x=_t->X.env.cells.lookup x=_s c->X.s₀.8<=c
 hd:X.calm=_t->X.A.handled=_n
 frames:X.A.frames=_s X.stack
 oS:X.stack=X.outer\/(X.stack=X.env::X.outer/\X.env.frame=_s X.env.locals)
 exf:∀b∈X.ex,b≠X.env.locals/\∀x c,X.env.cells.lookup x=_s c->c≠b
 bs:∀b o,X.base.get? b=_s o->X.s₀.heap.get? b=_s o/\X.H₀ b=_n
 ib:X.base.7<=X.s₀.8
 oB:∀b o,X.base.get? b=_s o->b∉X.ex
 ir:∀b∈X.ex,b∉X.fs
 o7:X.s₀.heap.FunFrames X.base X.outer
 iz:∀b∈X.fs,X.H₀ b=_n
structure ZE (X:Cx) (B:List (jP×Obj)) (Y:List (Option V)) (H:Hp) (s:jN):Prop where
 ok:X.Ok
 os:s.os=X.s₀.os
 bare:AllBare s.gens
 base:Un X.fs X.ex X.H₀ H X.s₀.heap s.heap
 loc:∃m,s.heap.Ns X.env.locals m/\∀(i:Nat)(x:Str)(v:V),X.N[i]?=_s x->Y[i]?=_s (_s v)->Cr X.env.scope x->∃u,ZH v u/\Qx X.env s.heap m x u
 cell:∀x c,X.env.cells.lookup x=_s c->∃v,s.heap.IsCell c v
 free:H X.env.locals=_n
 ix:∀x c,X.env.cells.lookup x=_s c->H c=_n
 pin:∀p∈X.pn++B,s.heap.get? p.1=_s p.2/\H p.1=_n/\p.1≠X.env.locals/\p.1∉X.fs/\∀v,p.2.data ≠ .cell v
 og:YW X.prog X.w H s.heap
 len:Y.9=X.N.9
section
variable{X:Cx}
theorem Cx.Ok.nofr(c:X.Ok){b:jP}{o:Obj}(e:X.base.get? b=_s o):b∉X.fs:=λa=>by
 have:=(c.o7.mem a).1;rw[e] at this;ext this
theorem ZE.bs(I:ZE X B Y H s):∀b o,X.base.get? b=_s o->s.heap.get? b=_s o/\H b=none:=λb o e =>
 (I.base.keep b o (I.ok.bs b o e).1 (I.ok.bs b o e).2 (I.ok.nofr e) (I.ok.oB b o e),I.base.free b o (I.ok.bs b o e).1 (I.ok.bs b o e).2 (I.ok.oB b o e))
theorem ZE.bk(I:ZE X B Y H s):∀b o,X.base.get? b=_s o->s.heap.get? b=_s o:=λb o e=>(I.bs b o e).1
theorem ZE.mod(I:ZE X B Y H s):Mod X.K X.mg X.base:=I.ok.mod
theorem ZE.oi(I:ZE X B Y H s):X.K.In s.heap:=I.ok.mod.kin.keeps I.bk
theorem ZE.lt(I:ZE X B Y H s):X.env.locals<s.8:=let ⟨_,a,_⟩:=I.loc;a.lt
theorem ZE.sz(I:ZE X B Y H s):X.s₀.8<=s.8:=xX I.ok.above (yS I.lt)
theorem ZE.nofs(I:ZE X B Y H s){a:jP}(h:s.8<=a):a∉X.fs:=λb=>by
 let(_,o,c,_):=I.ok.o7.mem b;rwa[_a (yO (xP c) (xX I.sz h)) (zS _)]
theorem ZE.cne(I:ZE X B Y H s):∀x c,X.env.cells.lookup x=_s c->c≠X.env.locals:=λx c e z=>by
 let(v,o,f,d):=I.cell x c e;let(m,(h,g,e,b,a,_),_):=I.loc;rw[z,b] at f;ext f;rw[a] at d;ext d
def ZE.o7(I:ZE X B Y H s):s.heap.FunFrames X.base X.outer:=by
 let a:∀(l:List Env),(∀b∈frs l,b∈X.fs)->X.s₀.heap.FunFrames X.base l->s.heap.FunFrames X.base l:=by
  intro l
  induction l with
  | nil=>intro _ _;trivial
  | cons c r l =>
   intro f c;let(h,(L,o,d,i,j,g),k):=c;let c:L∈X.fs:=f L (by unfold frs;rw[zT,d];rwa[xZ]);let(m,e):=I.base.slot L o j (I.ok.iz L c) c λz=>I.ok.ir L z c;rwa[h,(L,_,d,i,e,g),l (λb c=>f b (by unfold frs;rw[zT,d];rwa[xM _ c])) k]
 rwa[a X.outer (λ_ c=>c) I.ok.o7]
def ZE.stack(I:ZE X B Y H s):s.heap.FunFrames X.base X.stack:=by
 rcases I.ok.oS with e | ⟨e,hf⟩
 .rw[e];rwa[I.o7]
 .rw[e];let(m,a,_):=I.loc;erw[.cons (by rw[I.ok.kind];decide) hf a ?_ I.o7];rwa[Heap.get?_none_of_le (xX I.ok.ib I.ok.above)]
theorem ZE.oV(I:ZE X B Y H s):∀b∈frs X.stack,b∈X.env.locals::X.fs:=λb a=>by
 rcases I.ok.oS with e | ⟨e,hf⟩
 .grind
 .rw[e] at a;unfold frs at a;rw[zT,hf] at a;rwa[a]
theorem ZE.oU(I:ZE X B Y H s):∀b∈frs X.stack,H b=none:=λb a=>by
 rcases xD.mp (I.oV b a) with e | a
 .rw[e];rwa[I.free]
 .let(_,o,c,_):=I.ok.o7.mem a;rwa[I.base.free b o c (I.ok.iz b a) λz=>I.ok.ir b z a]
def ZE.step{g':Array GenState}{t':Nat}{d':Drawn}{ch:jM}(I:ZE X B Y H s)(g:∀b∈ch,(b∈X.ex\/X.s₀.8<=b)/\b≠X.env.locals/\(∀x c,X.env.cells.lookup x=_s c->c≠b)/\∀p∈X.pn++B,p.1≠b)(keep:∀b o,b≠X.env.locals->b∉X.fs->b∉ch->s.heap.get? b=_s o->H b=_n->h'.get? b=_s o)(l:∀b o,b≠X.env.locals->b∈X.fs->b∉ch->s.heap.get? b=_s o->H b=_n->∃M,h'.get? b=_s {o with slots:=M })(f:∀b o,b∉ch->s.heap.get? b=_s o->H b=_n->J b=_n)(t:∀b o,b∉ch->s.heap.get? b=_s o->∃C,h'.get? b=_s C)(y:∀b L,H b=_s (.tup L)->J b=_s (.tup L))(j:∀b o u,H b=_s (.frz o u)->J b=_s (.frz o u))(E:∀b F,H b=_s (.tbl F)->∃a,J b=_s (.tbl (F++a)))(ns:∀m,s.heap.Ns X.env.locals m->h'.Ns X.env.locals m)(K:YW X.prog X.w J h')(N:AllBare g') :
  ZE X B Y J {s with heap:=h',gens:=g',drawn:=d',toks:=t' }:=by
 let A:∀b o,X.s₀.heap.get? b=_s o->b≠X.env.locals:=λb o e=>yG (yO (xP e) I.ok.above);let i:∀b o,X.s₀.heap.get? b=_s o->b∉X.ex->b∉ch:=λb o e a r=>by
  rcases(g b r).1 with z | z
  .rwa[a z]
  .rwa[_a (yO (xP e) z) (zS _)]
 let d:∀x c,X.env.cells.lookup x=_s c->∀v,s.heap.IsCell c v->h'.IsCell c v:=λx c e v ⟨o,w,G⟩=>by
  let h:c∉ch:=λz=>(g c z).2.2.1 x c e S
  by_cases n:c∈X.fs
  .let(M,q):=l c o (I.cne x c e) n h w (I.ix x c e);rwa[_,q,G]
  .rwa[o,keep c o (I.cne x c e) n h w (I.ix x c e),G]
 erw[I.ok,I.os,N,(λb o e n r a=>?_,λb o e n r a=>?_,λb o e n a=>?_,λb o e a=>?_,λb L e=>y b L (I.base.j3 b L e),λb o L e=>j b o L (I.base.o6 b o L e),λb F e=>?_),?_,λx c e=>?_,?_,λx c e=>?_,λp N=>?_,K,I.len]
 .rwa[keep b o (A b o e) r (i b o e a) (I.base.keep b o e n r a) (I.base.free b o e n a)]
 .let(M,j):=I.base.slot b o e n r a;let(K,y):=l b _ (A b o e) r (i b o e a) j (I.base.free b o e n a);rwa[K,y]
 .let(C,j):=I.base.there b o e a;rwa[f b C (i b o e a) j (I.base.free b o e n a)]
 .let(C,j):=I.base.there b o e a;rwa[t b C (i b o e a) j]
 .let(a,j):=I.base.oW b F e;let(i,y):=E b _ j;rwa[a++i,by rw[y,Array.append_assoc]]
 .let(m,a,t):=I.loc;erw[m,ns m a,λi x v j y a=>?_];let(u,r,l):=t i x v j y a;erw[u,r,?_];rcases l with l | ⟨k,c,e,z⟩
  .rwa[.inl l]
  .rwa[.inr (k,c,e,d x c e _ z)]
 .let(v,z):=I.cell x c e;rwa[v,d x c e v z]
 .let(m,(o,_,_,w,_),_):=I.loc;rwa[f _ o (λz=>(g _ z).2.1 S) w I.free]
 .let(v,o,w,G):=I.cell x c e;rwa[f c o (λz=>(g c z).2.2.1 x c e S) w (I.ix x c e)]
 .let(e,n,a,i,d):=I.pin p N;let h:p.1∉ch:=λz=>(g p.1 z).2.2.2 p N S;rwa[keep p.1 p.2 a i h e n,f p.1 p.2 h e n,a,i,d]
def ZE.un(I:ZE X B Y H s)(u:Un X.fs [] H J s.heap h')(d:YW X.prog X.w J h'):ZE X B Y J {s with heap:=h',toks:=t' }:=by
 let(m,(o,b,a,f,r),_):=id I.loc;let(a,g):=u.any f I.free (by simp)
 exact I.step (g':=s.gens) (d':=s.drawn) (ch:=[]) (λ_ z=>nomatch z) (λb o _ a _ e n=>u.keep b o e n a (by simp)) (λb o _ a _ e n=>u.slot b o e n a (by simp)) (λb o _ e n=>u.free b o e n (by simp)) (λb o _ e=>u.there b o e (by simp)) u.j3 u.o6 u.oW (λa e=>by
  let(i,c,b,a,h):=e;rw[f] at a;ext a
  rwa[_,c,b,g,h]) d I.bare
def ZE.call(I:ZE X B Y H s)(u:Un (frs X.stack) ch H J s.heap h')(g:YW X.prog X.w J h')(i:AllBare g')(a:∀b∈ch,(b∈X.ex\/X.s₀.8<=b)/\b≠X.env.locals/\(∀x c,X.env.cells.lookup x=_s c->c≠b)/\∀p∈X.pn++B,p.1≠b) :
  ZE X B Y J {s with heap:=h',gens:=g',drawn:=d',toks:=t' }:=by
 let(m,(o,e,d,h,r),_):=id I.loc;let(d,f):=u.any h I.free λz=>(a _ z).2.1 S
 exact I.step (ch:=ch) a (λb o f d a e n=>u.keep b o e n (λz=>(xD.mp (I.oV b z)).elim f d) a) (λb o _ _ a e n=>u.any e n a) (λb o a e n=>u.free b o e n a) (λb o a e=>u.there b o e a) u.j3 u.o6 u.oW (λa j=>by
  let(l,e,d,a,k):=j;rw[h] at a;ext a
  rwa[_,e,d,f,k]) g i
def ZE.turned(I:ZE X B Y H s)(k:∀b o,b≠it->s.heap.get? b=_s o->h'.get? b=_s o)(a:H it=_n)(h:it≠X.env.locals)(d:it∈X.ex\/X.s₀.8<=it)(d:∀x c,X.env.cells.lookup x=_s c->c≠it)(d:∀p∈X.pn++B,p.1≠it):ZE X B Y H {s with heap:=h',toks:=t' }:=by
 let d:∀b u,H b=_s u->b≠it:=λb u e z=>by rw[z,a] at e;ext e
 refine I.step (g':=s.gens) (d':=s.drawn) (ch:=[it]) (λb a=>?_) (λb o _ _ a e _=>k b o (λz=>a (by simp[z])) e) (λb o _ _ a e _=>(o.slots,k b o (λz=>a (by simp[z])) e)) (λ_ _ _ _ n=>n)
  (λb o a e=>(o,k b o (λz=>a (by simp[z])) e)) (λ_ _ e=>e) (λ_ _ _ e=>e) (λb f e=>(#[],by rw[e];simp)) (λm i=>?_) (λb u e=>?_) I.bare
 .grind
 .let(o,g,f,j,r):=i;rwa[o,g,f,k _ o (Ne.symm h) j,r]
 .erw[(I.og b u e).oR (λc v a q=>k c v ?_ q) (λ_ q=>q) λ_ _ q=>q];rcases a with z | z
  .rw[z];rwa[d b u e]
  .rwa[d c _ z]
theorem ZE.tok(I:ZE X B Y H s)(t:Nat):ZE X B Y H {s with toks:=t }:=I.un (h':=s.heap) (t':=t) Un.refl I.og
theorem ZE.kept(I:ZE X B Y H s)(k:∀b u,s.heap.get? b=_s u->h'.get? b=_s u):ZE X B Y H {s with heap:=h',toks:=t' }:=I.un (Un.kept k) (I.og.kept k)
theorem ZE.laid{a:jP}{o:HO}{t':Nat}(I:ZE X B Y H s)(k:∀b u,s.heap.get? b=_s u->h'.get? b=_s u)(c:s.8<=a)(d:ZM X.prog X.w (upd H a o) h' a o) :
  ZE X B Y (upd H a o) {s with heap:=h',toks:=t' }:=I.un (Un.laid k c (I.og.fresh c)) (I.og.laid k c d)
theorem ZE.write(I:ZE X B Y H s)(f:Ct (H x))(d:e=x\/H e=_s (.own x))(k:∀b u,b≠e->s.heap.get? b=_s u->h'.get? b=_s u)(a:∃u,h'.get? e=_s u)(c:ZM X.prog X.w (upd H x o) h' x o):ZE X B Y (upd H x o) {s with heap:=h',toks:=t' }:=I.un (Un.write f d k a) (I.og.write f d k a c)
theorem ZE.oM(I:ZE X B Y H s)(h:∀p∈pins',s.heap.get? p.1=_s p.2/\H p.1=_n/\p.1≠X.env.locals/\p.1∉X.fs/\∀v,p.2.data ≠ .cell v):ZE X pins' Y H s :=
 (I.ok,I.os,I.bare,I.base,I.loc,I.cell,I.free,I.ix,λp a=>(xK.mp a).elim (λz=>I.pin p (yP _ z)) (h p),I.og,I.len)
def Ki{N:jJ}(e:N.Nodup){i j:Nat}{x:Str}(a:N[i]?=_s x)(b:N[j]?=_s x):i=j:=by
 let(d,c):=xH.mp a;let(f,d):=xH.mp b;rwa[(List.getElem_inj e).mp (c.trans d.6)]
def fJ(I:ZE X B Y H s)(hN:X.N.Nodup)(R:X.N[i]?=_s x)(w:CP X.env.scope x)(r:ZH v u)(h:∀b,ZE X B (Y.set i (_s v)) H b->(∃a,Heap.SameBut a s.heap b.heap/\(a=X.env.locals\/X.env.cells.lookup x=_s a))->Q _u b)(c:X.fn x=_t\/X.env.scope.names.lookup x=_s .local:=by first | rwa[.inl S]| rwa[.inr S]| assumption):_w M A (storeName X.env x u) Q E s:=by
 let(m,hn,hl):=id I.loc;let g:(X.env.scope.kind==.class || (X.env.scope.kind==.module&&X.env.locals != X.env.globals))=false:=by rw[I.ok.kind];rfl
 let F:i<Y.9:=by rw[I.len];rwa[(xH.mp R).1]
 let G:=I.cne;let l:∀{a:jP}{N:Heap},(∃o,s.heap.get? a=_s o/\H a=_n)->Heap.SameBut a s.heap N->YW X.prog X.w H N:=λ{a N} c f b j e=>by
  let(_,_,d):=c;erw[(I.og b j e).oR (λc Z t q=>(f.2 c ?_).trans q) (λ_ q=>q) λ_ _ q=>q];rintro rfl;rcases t with rfl | t
  .rw[d] at e;ext e
  .rw[d] at t;ext t
 rcases w with O | O
 .erw[wpAny_storeName_local O hn (λN d f=>?_) g];let(z,_,_,k,_):=id hn;erw[h _ (I.ok,I.os,I.bare,(λb o e n J w=>?_,λb o e n J w=>?_,I.base.free,λb o e w=>?_,I.base.j3,I.base.o6,I.base.oW),(_,d,λj y v' g C e3=>?_),λy c e=>?_,I.free,I.ix,λp hp=>?_,l (z,k,I.free) f,by simpa using I.len) (_,f,.inl S)]
  .rwa[(f.2 b (yG (yO (xP e) I.ok.above))).trans (I.base.keep b o e n J w)]
  .let(sl,g):=I.base.slot b o e n J w;rwa[sl,(f.2 b (yG (yO (xP e) I.ok.above))).trans g]
  .let(o',g):=I.base.there b o e w;rwa[o',(f.2 b (yG (yO (xP e) I.ok.above))).trans g]
  .by_cases L:j=i
   .subst L;rw[R] at g;ext g;rw[List.getElem?_set_self F] at C;ext C;rwa[u,r,.inl (O,by simp)]
   .rw[List.getElem?_set_ne (Ne.symm L)] at C;let(u',r',q):=hl j y v' g C e3;erw[u',r',?_];rcases q with⟨k,e⟩ | ⟨k,c,e,z⟩
    .erw[.inl (k,?_)];have:y≠x:=λe=>L (Ki hN g (e▸R));simp[this,e]
    .rwa[.inr (k,c,e,z.sameBut f (G y c e))]
  .let(Z,z):=I.cell y c e;rwa[Z,z.sameBut f (G y c e)]
  .let(e,n,W,nf,d):=I.pin p hp;rwa[(f.2 p.1 W).trans e,n,W,nf,d]
 .let K:X.fn x=true:=by grind
  let(c,t):=I.ok.has x (.inl O);let(Z,z):=I.cell x c t;erw[wpAny_storeName_cell I.ok.kind O t z (λN P f=>?_)];let(oc,T,U):=id z;erw[h {s with heap:=N } (I.ok,I.os,I.bare,(λb o e n J w=>?_,λb o e n J w=>?_,I.base.free,λb o e w=>?_,I.base.j3,I.base.o6,I.base.oW),(m,hn.sameBut f (Ne.symm (G x c t)),λj y v' g C e3=>?_),λy m e=>?_,I.free,I.ix,λp hp=>?_,l (oc,T,I.ix x c t) f,by simpa using I.len) (c,f,.inr t)]
  .rwa[(f.2 b (yG (yO (xP e) (I.ok.ie x c K t)))).trans (I.base.keep b o e n J w)]
  .let(sl,g):=I.base.slot b o e n J w;rwa[sl,(f.2 b (yG (yO (xP e) (I.ok.ie x c K t)))).trans g]
  .let(o',g):=I.base.there b o e w;rwa[o',(f.2 b (yG (yO (xP e) (I.ok.ie x c K t)))).trans g]
  .by_cases L:j=i
   .subst L;rw[R] at g;ext g;rw[List.getElem?_set_self F] at C;ext C;rwa[u,r,.inr (.inl O,c,t,P)]
   .rw[List.getElem?_set_ne (Ne.symm L)] at C;let(u',r',q):=hl j y v' g C e3;erw[u',r',?_];rcases q with q | ⟨k,m,e,z'⟩
    .rwa[.inl q]
    .erw[.inr (k,m,e,z'.sameBut f ?_)];rintro rfl;rwa[L (Ki hN g (I.ok.inj _ _ _ e t▸R))]
  .by_cases b:m=c
   .subst b;rwa[_,P]
   .let(c,g):=I.cell y m e;rwa[c,g.sameBut f b]
  .let(e,n,W,nf,d):=I.pin p hp;erw[(f.2 p.1 ?_).trans e,n,W,nf,d];intro q;rw[q,T] at e;let b:oc=p.2:=ma e;rwa[d Z (by rw[<- b];rwa[U])]
theorem Dn(I:ZE X B Y H s)(b:X.N.Nodup)(d:X.N[i]?=_s x)(e:CP X.env.scope x)(r:ZH v u)(h:∀a,ZE X B (Y.set i (_s v)) H a->Q _u a)(c:autoParam (X.fn x=_t\/X.env.scope.names.lookup x=_s .local) fJ._auto_1):_w M A (storeName X.env x u) Q E s :=
 fJ I b d e r (λa b _=>h a b) c
def ZE.ig(I:ZE X B Y H s)(i:s'.os=s.os)(u:Un (frs X.stack) ch H J s.heap s'.heap)(d:YW X.prog X.w J s'.heap)(h:AllBare s'.gens)(a:∀b∈ch,(b∈X.ex\/X.s₀.8<=b)/\b≠X.env.locals/\(∀x c,X.env.cells.lookup x=_s c->c≠b)/\∀p∈X.pn++B,p.1≠b):ZE X B Y J s':=by
 let(e,g,f,k,j):=s';let e:j=s.os:=i;subst e;rwa[I.call (g':=g) (t':=k) (d':=f) u d h a]
end
abbrev XK:=jO->Option jP->Hp->Prop
abbrev St:=List (Option V)
abbrev VK:=V->Hp->Prop
abbrev TE:=St->Hp->VK->Prop
abbrev TT:=St->Hp->(Bool->Hp->Prop)->Prop
abbrev TA:=St->Hp->(List V->Hp->Prop)->Prop
structure YF where
 nx:St->Hp->Prop
 rt:VK
 bk:St->Hp->Prop:=λ_ _=>False
 ct:St->Hp->Prop:=λ_ _=>False
abbrev TS:=YF->St->Hp->Prop
def EP(X:Cx)(B:List (jP×Obj))(Y:St)(Q:VK)(u:jO)(a:jN):Prop:=∃v J,ZE X B Y J a/\ZH v u/\Q v J
def TP(X:Cx)(B:List (jP×Obj))(Y:St)(Q:Bool->Hp->Prop)(b:Bool)(a:jN):Prop:=∃J,ZE X B Y J a/\Q b J
def AP(X:Cx)(B:List (jP×Obj))(Y:St)(Q:List V->Hp->Prop)(us:jK)(b:jN):Prop:=∃a J,ZE X B Y J b/\ZJ a us/\Q a J
def SP(X:Cx)(B:List (jP×Obj))(D:YF)(f:Flow)(b:jN):Prop :=
 match f with
 | .next=>∃ a J,ZE X B a J b/\D.nx a J
 | .brk=>∃ a J,ZE X B a J b/\D.bk a J
 | .cont=>∃ a J,ZE X B a J b/\D.ct a J
 | .ret u=>∃v a J,ZE X B a J b/\ZH v u/\D.rt v J
def PE(X:Cx)(e:Expr)(t:TE):Prop :=
 ∀(B:List (jP×Obj))(s:jN)(Y:St)(H:Hp)(Q:VK),ZE X B Y H s->t Y H Q->_w (_m X.prog X.w) X.A (eval e X.env) (EP X B Y Q) X.xe s
def PT(X:Cx)(e:Expr)(t:TT):Prop :=
 ∀(B:List (jP×Obj))(s:jN)(Y:St)(H:Hp)(Q:Bool->Hp->Prop),ZE X B Y H s->t Y H Q->_w (_m X.prog X.w) X.A (isTrue e X.env (eval e X.env)) (TP X B Y Q) X.xe s
def PW(X:Cx)(e:Expr)(t:TT):Prop :=
 ∀(a:Sem jO)(B:List (jP×Obj))(s:jN)(Y:St)(H:Hp)(Q:Bool->Hp->Prop),ZE X B Y H s->t Y H Q->_w (_m X.prog X.w) X.A (isTrue e X.env a) (TP X B Y Q) X.xe s
theorem PW.pt(h:PW X e t):PT X e t:=h _
def PA(X:Cx)(es:List Expr)(t:TA):Prop :=
 ∀(a:Pos)(B:List (jP×Obj))(s:jN)(Y:St)(H:Hp)(Q:List V->Hp->Prop),ZE X B Y H s->t Y H Q->_w (_m X.prog X.w) X.A (spliced (backTo a (_e es X.env))) (AP X B Y Q) X.xe s
def PS(X:Cx)(st:Stmt)(t:TS):Prop :=
 ∀(B:List (jP×Obj))(s:jN)(Y:St)(H:Hp)(D:YF),ZE X B Y H s->t D Y H->_w (_m X.prog X.w) X.A (exec st X.env) (SP X B D) X.xe s
def Ba(X:Cx)(st:List Stmt)(t:TS):Prop :=
 ∀(B:List (jP×Obj))(s:jN)(Y:St)(H:Hp)(D:YF),ZE X B Y H s->t D Y H->_w (_m X.prog X.w) X.A (execs st X.env) (SP X B D) X.xe s
theorem thn{c:Type}{t:Sem c}{Q b:c->jN->Prop}(h:_w M A t Q E s)(hQ:∀a s,Q a s->b a s):_w M A t b E s:=wpAny_mono h hQ λ_ _ x=>x
section
variable{X:Cx}
inductive YL(i:Nat)(Y:St)(H:Hp)(Q:VK):Prop
 |mk(v)(_:Y[i]?=_s (_s v))(_:Q v H)
def tC(v:V):TE:=λ_ H Q=>Q v H
def Dz{i:Nat}{x:Str}{pos:Pos}(a:X.N[i]?=_s x)(j:Cr X.env.scope x)(f:autoParam ((x==("__debug__":Str))=false) y3z)(d:autoParam ((x==("__classdict__":Str))=false) y3z):PE X (.Name x pos) (YL i):=by
 intro B s Y H Q I h;let(v,e,h):=h;let(m,g,b):=I.loc;let(u,r,l):=b i x v a e j;let a:EP X B Y Q u s:=(v,H,I,r,h);rcases l with⟨b,e⟩ | ⟨b,c,hc,hcell⟩
 .rwa[wpAny_Name (wpAny_loadName_local I.ok.kind b g e a) f]
 .rcases b with b | b
  .rwa[wpAny_Name (wpAny_loadName_cell I.ok.kind b hc hcell a) f]
  .rwa[wpAny_Name (wpAny_loadName_free I.ok.kind b hc hcell a d) f]
def Gl(X:Cx)(x:Str):Prop:=X.env.kindOf x=_s .globalImplicit
theorem BM{E:jH}{B:List (jP×Obj)}{s:jN}{Y:St}{H:Hp}{x:Str}{u:jO}{pos:Pos}{Q:jH}(I:ZE X B Y H s)(b:Gl X x)(c:X.mg x=_s u)(h:Q u s)(a:autoParam ((x==("__debug__":Str))=false) y3z):_w (_m X.prog X.w) X.A (eval (.Name x pos) X.env) Q E s :=
 Calls.Name_function_global I.ok.kind b (Calls.loadGlobal_global (by rw[I.ok.glob];rwa[I.mod.glob.keeps I.bk]) c h) a
def Uo{E:jH}{B:List (jP×Obj)}{s:jN}{Y:St}{H:Hp}{x:Str}{u:jO}{pos:Pos}{Q:jH}(I:ZE X B Y H s)(d:Gl X x)(e:X.mg x=_n)(g:_o x=_s u)(h:Q u s)(f:x ≠ "__name__" := by decide)(c:autoParam ((x==("__debug__":Str))=false) y3z):_w (_m X.prog X.w) X.A (eval (.Name x pos) X.env) Q E s:=by
 let(i,a,b):=I.mod.blt;rwa[Calls.Name_function_global I.ok.kind d (Calls.loadGlobal_builtin (by rw[I.ok.glob];rwa[I.mod.glob.keeps I.bk]) e (by rw[I.ok.blt];rwa[a.keeps I.bk]) ((b x f).trans g) h) c]
theorem O7(b:Gl X x)(c:X.mg x=_s u)(r:ZH v u)(a:autoParam ((x==("__debug__":Str))=false) y3z):PE X (.Name x pos) (tC v) :=
 λ_ _ _ H _ I h=>BM I b c (v,H,I,r,h) a
theorem gS{x:Str}{v:V}{u:jO}{pos:Pos}(b:Gl X x)(c:X.mg x=_n)(e:_o x=_s u)(r:ZH v u)(d:x ≠ "__name__" := by decide)(a:autoParam ((x==("__debug__":Str))=false) y3z):PE X (.Name x pos) (tC v) :=
 λ_ _ _ H _ I h=>Uo I b c e (v,H,I,r,h) d a
variable{a b:Expr}{ta tb:TE}{pos:Pos}
inductive dA(Q:Bool->Hp->Prop)(x:V)(d:Hp):Prop
 |mk(c)(_:x=.bl c)(_:Q c d)
def tB(t:TE):TT:=λY H Q=>t Y H λx c=>dA Q x c
variable{tA tB':TT}{rest:List Expr}
def RD(t u:TT):TT:=λY H Q=>t Y H λc d=>if c=_t then u Y d Q else Q _x d
def Rh(t u:TT):TT:=λY H Q=>t Y H λc d=>if c=_t then Q _t d else u Y d Q
def O5(t:TT):TT:=λY H Q=>t Y H λc d=>Q (!c) d
inductive AX(tb:TE)(Y:St)(Q:VK)(x:V)(d:Hp):Prop
 |mk(c)(_:x=.bl c)(_:if c=_t then tb Y d Q else Q (.bl _x) d)
def Xv(ta tb:TE):TE:=λY H Q=>ta Y H λx c=>AX tb Y Q x c
inductive By(Q:VK)(x:V)(d:Hp):Prop
 |mk(c)(_:x=.bl c)(_:Q (.bl (!c)) d)
def XS(ta:TE):TE:=λY H Q=>ta Y H λx c=>By Q x c
theorem Oa {op} (h:PE X a t):PE X (.BoolOp op [a] pos) t:=λB s Y H Q I c=>BoolOp_one (h B s Y H Q I c)
def bJ(t:TT)(ta tb:TE):TE:=λY H Q=>t Y H λc d=>if c=_t then ta Y d Q else tb Y d Q
end
def ZG(K:uFg)(H:Hp)(a:jP)(L:aG):Prop :=
 Rd H a (.lst L)\/
  ∃o b n,K.lookup a=_s o/\o.cls=.type "list" /\ o.dict=_n/\o.data=.seq b n/\b.5<=_z/\ZJ L b.toList
def ZR(K:uFg)(H:Hp)(a:jP)(L:aG):Prop :=
 Rd H a (.tup L)\/
  ∃o b n,K.lookup a=_s o/\o.cls=.type "tuple" /\ o.data=.seq b n/\b.5<=_z/\ZJ L b.toList
def eP:jO->Option V
 | .none=>_s .non
 | .bool b=>_s (.bl b)
 | .int i _=>_s (.int i)
 | .str x _=>_s (.str x)
 | .bytes b _=>_s (.byt b)
 | .float b _=>_s (.flt b)
 | .ref a=>_s (.ref a)
 | .type n=>_s (.ty n)
 | _=>_n
def ZH.abs(r:ZH x u):eP u=_s x:=by
 cases x with
 | non=>ext r;rfl
 | bl _=>ext r;rfl
 | int _=>let(t,S):=r;rfl
 | str _=>let(t,S):=r;rfl
 | byt _=>let(t,S):=r;rfl
 | flt _=>let(t,S):=r;rfl
 | ref _=>ext r;rfl
 | ty _=>ext r;rfl
theorem ZH.inj(r:ZH x u)(q:ZH y u):x=y:=ma (r.abs.symm.trans q.abs)
theorem ZJ.inj:∀{L ys:aG}{us:jK},ZJ L us->ZJ ys us->L=ys:=λ{L ys us} r s=>by
 induction r generalizing ys with
 | nil=>ext s;rfl
 | cons r _ a=>cases s with | cons q t=>rw[r.inj q,a t]
section
variable{X:Cx}{B:List (jP×Obj)}{Y:St}{H:Hp}{s:jN}{a:jP}{L ys:aG}
theorem ZG.of{K:uFg}(h:H a=_s (.lst L)):ZG K H a L:=.inl (.inl h)
theorem ZR.of{K:uFg}(h:H a=_s (.tup L)):ZR K H a L:=.inl (.inl h)
def ZE.list(I:ZE X B Y H s)(h:ZG X.K H a L):∃b:List jO,ZJ L b/\PlainL s.heap a b.4/\L.9<=sizeLine:=by
 rcases h with h | ⟨o,b,n,hk,hc,hd,hs,hz,r⟩
 .let(z,b,n,r,e):=h.ok I.og;rwa[b,r,(_,n,e,S,S,S),z]
 .erw[b.toList,r,(o,n,I.oi a o hk,hc,hd,by simpa using hs),?_];let e:=r.9;simp only[Array.length_toList] at e;lia
def ZE.tuple(I:ZE X B Y H s)(h:ZR X.K H a L):∃b:List jO,ZJ L b/\IsTup s.heap a b.4/\L.9<=sizeLine:=by
 rcases h with h | ⟨o,b,n,hk,hc,hs,hz,r⟩
 .let(z,b,r,p):=h.ok I.og;rwa[b,r,p,z]
 .erw[b.toList,r,(o,I.oi a o hk,hc,n,by simpa using hs),?_];let e:=r.9;simp only[Array.length_toList] at e;lia
def ZE.oq(I:ZE X B Y H s)(h:ZG X.K H a L)(h':ZG X.K H a ys):L=ys:=by
 let(c,r,(o,n,e,_,_,d),_):=I.list h;let(b,i,(k,j,g,_,_,f),_):=I.list h';rw[e] at g;ext g;rw[d] at f;injection f with d _
 have:c=b:=by simpa using congrArg Array.toList d
 subst this;rwa[r.inj i]
def ZE.oZ(I:ZE X B Y H s)(h:ZR X.K H a L)(h':ZR X.K H a ys):L=ys:=by
 let(c,r,(o,e,_,n,d),_):=I.tuple h;let(b,i,(k,g,_,j,f),_):=I.tuple h';rw[e] at g;ext g;rw[d] at f;injection f with d _
 have:c=b:=by simpa using congrArg Array.toList d
 subst this;rwa[r.inj i]
end
abbrev Cx.ja(X:Cx)(E:jH):Cx:={X with xe:=E }
abbrev Cx.oG(X:Cx):Cx:=X.ja λ_ _=>False
theorem Cx.Ok.ja{X:Cx}(a:X.Ok)(E:jH):(X.ja E).Ok :=
 (a.mod,a.kind,a.glob,a.blt,a.above,a.inj,a.has,a.ie,a.hd,a.frames,a.oS,a.exf,a.bs,a.ib,a.oB,a.ir,a.o7,a.iz)
theorem Cx.Ok.j7{X:Cx}{E:jH}(a:(X.ja E).Ok):X.Ok :=
 (a.mod,a.kind,a.glob,a.blt,a.above,a.inj,a.has,a.ie,a.hd,a.frames,a.oS,a.exf,a.bs,a.ib,a.oB,a.ir,a.o7,a.iz)
section
variable{X:Cx}{B:List (jP×Obj)}{Y:St}{H:Hp}{s:jN}{E:jH}
theorem ZE.ja(I:ZE X B Y H s)(E:jH):ZE (X.ja E) B Y H s:=(I.ok.ja E,I.os,I.bare,I.base,I.loc,I.cell,I.free,I.ix,I.pin,I.og,I.len)
theorem ZE.j7(I:ZE (X.ja E) B Y H s):ZE X B Y H s:=(I.ok.j7,I.os,I.bare,I.base,I.loc,I.cell,I.free,I.ix,I.pin,I.og,I.len)
def SP.j7(h:SP (X.ja E) B D f s'):SP X B D f s':=by
 cases f with
 | next=>let(a,J,I,q):=h;rwa[a,J,I.j7,q]
 | brk=>let(a,J,I,q):=h;rwa[a,J,I.j7,q]
 | cont=>let(a,J,I,q):=h;rwa[a,J,I.j7,q]
 | ret u=>let(v,a,J,I,r,q):=h;rwa[v,a,J,I.j7,r,q]
theorem Ba.oG{st:List Stmt}{t:TS}(h:Ba X.oG st t):Ba X st t:=λB s Y H D I a =>
 wpAny_mono (h B s Y H D (I.ja _) a) (λ_ _ q=>q.j7) λ_ _ z=>False.elim z
end
section
variable{X:Cx}{st:Stmt}{rest:List Stmt}{t u:TS}{te:TE}
def Y0:TS:=λD Y H=>D.nx Y H
def Ug(t u:TS):TS:=λD Y H=>t {D with nx:=u D } Y H
def ZE.quiet{B:List (jP×Obj)}{Y:St}{H:Hp}{s:jN}(I:ZE X B Y H s):interactive X.env=false:=by simp[interactive,I.ok.kind]
def FJ(te:TE):TS:=λD Y H=>te Y H λ_ a=>D.nx Y a
def eB(te:TE):TS:=λD Y H=>te Y H D.rt
def DL(c:TT)(t u:TS):TS:=λD Y H=>c Y H λb a=>if b=_t then t D Y a else u D Y a
end
abbrev TG:=V->St->Hp->(St->Hp->Prop)->Prop
abbrev TV:=List V->St->Hp->(St->Hp->Prop)->Prop
def PG(X:Cx)(a:Expr)(t:TG):Prop :=
 ∀(B:List (jP×Obj))(s:jN)(Y:St)(H:Hp)(v:V)(u:jO)(Q:St->Hp->Prop),ZE X B Y H s->ZH v u->t v Y H Q ->
  _w (_m X.prog X.w) X.A (assign a X.env u) (λ_ b=>∃ a J,ZE X B a J b/\Q a J) X.xe s
def Hz(X:Cx)(c:List Expr)(t:TV):Prop :=
 ∀(B:List (jP×Obj))(s:jN)(Y:St)(H:Hp)(b:aG)(a:jK)(Q:St->Hp->Prop),ZE X B Y H s->ZJ b a->t b Y H Q ->
  _w (_m X.prog X.w) X.A (assignInOrder ((assignEach c X.env).map (·.2)) a) (λ_ b=>∃ a J,ZE X B a J b/\Q a J) X.xe s
abbrev Dw:=V->V->V->Hp->(Hp->Prop)->Prop
def Qi(X:Cx)(t:Dw):Prop :=
 ∀(B:List (jP×Obj))(s:jN)(Y:St)(H:Hp)(o i v:V)(b a u:jO)(Q:Hp->Prop),ZE X B Y H s->ZH o b->ZH i a->ZH v u->t o i v H Q ->
  _w (_m X.prog X.w) X.A (setItem b a u) (λ_ a=>∃J,ZE X B Y J a/\Q J) X.xe s
abbrev Eb:=V->V->Hp->VK->Prop
def FP(X:Cx)(op:Operator)(t:Eb):Prop :=
 ∀(B:List (jP×Obj))(s:jN)(Y:St)(H:Hp)(x y:V)(v u:jO)(Q:VK),ZE X B Y H s->ZH x v->ZH y u->t x y H Q ->
  _w (_m X.prog X.w) X.A (inplaceOp op v u) (EP X B Y Q) X.xe s
section
variable{X:Cx}{pos:Pos}
def Wl(i:Nat):TG:=λv Y H Q=>Q (Y.set i (_s v)) H
def EA(a:X.N.Nodup)(c:X.N[i]?=_s x)(d:CP X.env.scope x)(b:autoParam (X.fn x=_t\/X.env.scope.names.lookup x=_s .local) fJ._auto_1):PG X (.Name x pos) (Wl i):=by
 intro B s Y H v u Q I r h;rwa[wpAny_assign_Name (Dn I a c d r (λc a=>(_,H,a,h)) b)]
def E4:TV:=λa Y H Q=>a=[]/\Q Y H
inductive UJ(t:TG)(u:TV)(vs:aG)(Y:St)(H:Hp)(Q:St->Hp->Prop):Prop
 |mk(v r)(_:vs=v::r)(_:t v Y H λa J=>u r a J Q)
inductive Jn(K:uFg)(n:Nat)(t:TV)(v:V)(Y:St)(H:Hp)(Q:St->Hp->Prop):Prop
 |mk(a L)(_:v=.ref a)(_:ZR K H a L)(_:L.9=n)(_:t L Y H Q)
def L6{es:List Expr}{k:Nat}{t:TV}{n:Nat}(e:X.calm=_t)(h:Hz X es t)(g:autoParam ((assignEach es X.env).9=n) y1z)(b:autoParam ((assignEach es X.env).findIdx? (·.1)=none) y1z):PG X (.Tuple es k pos) (Jn X.K n t):=by
 intro B s Y H v u Q I r c;let(a,L,d,i,f,c):=c;subst d;ext r;let(j,a,d,l):=I.tuple i;erw[assign_Tuple_tuple (I.ok.hd e) d (by simp[g,<- f,a.9]) b λb f=>?_];let d:ZE X B Y H {s with heap:=b }:=I.kept (t':=s.toks) λb o e=>f b o (yG (xP e)) e;rwa[h B _ Y H L _ Q d (by simpa using a) c]
def Rj(a b:TE)(t:Dw):TG:=λv Y H Q=>a Y H λo a=>b Y a λi a=>t o i v a λa=>Q Y a
def J7(a:TE)(g:TG):TS:=λD Y H=>a Y H λx a=>g x Y a D.nx
def MJ{i:Nat}{x:Str}{e:Expr}{b:TE}{a:Pos}(c:X.N.Nodup)(g:X.N[i]?=_s x)(j:CP X.env.scope x)(d:PE X e b)(hs:autoParam (swapsWith e (_s (.Name x a)) pos.line X.env=pure false) y1z)(f:autoParam (X.fn x=_t\/X.env.scope.names.lookup x=_s .local) fJ._auto_1) :
  PS X (.Assign [.Name x a] e pos) (J7 b (Wl i)):=by
 intro B s Y H D I h;erw[wpAny_Assign_Name (thn (d B s Y H _ I h) λv k ⟨y,a,b,h,d⟩=>?_) hs];rwa[Dn b c g j h (λc b=>(_,a,b,d)) f]
def Ga(i:Nat)(a:TE)(b:Eb):TS:=λD Y H=>∃x,Y[i]?=_s (_s x)/\a Y H λy a=>b x y a λz a=>D.nx (Y.set i (_s z)) a
def iI(j:X.N.Nodup)(g:X.N[i]?=_s x)(d:CP X.env.scope x)(n:PE X e te)(t:FP X op ti)(o:autoParam (X.fn x=_t\/X.env.scope.names.lookup x=_s .local) fJ._auto_1) :
  PS X (.AugAssign (.Name x pos') op e pos) (Ga i te ti):=by
 intro B s Y H D I h;let(v,b,h):=h;let(m,p,f):=I.loc;let a:Cr X.env.scope x:=by rcases d with k | k;rwa[.inl k];rwa[.inr (.inl k)]
 let(u,r,l):=f i x v g b a;erw[wpAny_AugAssign_Name ?_];let f:_w (_m X.prog X.w) X.A (eval e X.env) (λw a=>_w (_m X.prog X.w) X.A (inplaceOp op u w) (λr b=>_w (_m X.prog X.w) X.A (storeName X.env x r) (λ_=>SP X B D .next) X.xe b) X.xe a) X.xe s:=by
  erw[thn (n B s Y H _ I h) λw n ⟨y,a,b,m,h⟩=>?_];erw[thn (t B n Y a v y u w _ b r m h) λz n ⟨r,a,b,m,h⟩=>?_];rwa[Dn b j g d m (λg b=>(_,a,b,h)) o]
 rcases l with⟨a,b⟩ | ⟨a,c,hc,hcell⟩
 .rwa[wpAny_loadName_local I.ok.kind a p b f]
 .rcases a with a | a
  .rwa[wpAny_loadName_cell I.ok.kind a hc hcell f]
  .rcases d with k | k
   .have:X.env.scope.names.lookup x=_s .free:=a;rw[k] at this;ext this
   .have:X.env.scope.names.lookup x=_s .free:=a;rw[k] at this;ext this
inductive ipI(f:Int->Int->Int)(x y:V)(H:Hp)(Q:VK):Prop
 |mk(i j)(_:x=.int i)(_:y=.int j)(_:Q (.int (f i j)) H)
end
def iB(c:TT)(e:TS):TS:=λD Y H=>∃W:Nat->St->Hp->Prop,(∃m,W m Y H)/\∀m Y H,W m Y H ->
 c Y H λb d=>if b=_t then ∃N:St->Hp->Prop,(∀ a J,N a J->∃b,b<m/\W b a J)/\e {D with nx:=N,ct:=N,bk:=D.nx } Y d else D.nx Y d
structure It where
 go:Nat->Hp->Prop
 jb:Nat->Hp->V->Hp->Prop
 stop:Nat->Hp->Prop
def Vt(X:Cx)(B:List (jP×Obj))(H:Hp)(b:jP):Prop :=
 H b=_n/\b≠X.env.locals/\b∉X.fs/\(b∈X.ex\/X.s₀.8<=b)/\(∀x c,X.env.cells.lookup x=_s c->c≠b)/\∀p∈X.pn++B,p.1≠b
def ZE.iw{X:Cx}{B:List (jP×Obj)}{Y:St}{H J:Hp}{s:jN}{b:jP}(I:ZE X B Y H s)(a:s.8<=b)(c:J b=_n):Vt X B J b:=by
 erw[c,Nat.ne_of_gt (yO I.lt a),I.nofs a,.inr (xX I.sz a),λx c e z=>?_,λp d z=>?_]
 .let(v,q):=I.cell x c e;rwa[_a (yO q.lt (by rw[z];rwa[a])) (zS _)]
 .rwa[_a (yO (xP (I.pin p d).1) (by rw[z];rwa[a])) (zS _)]
structure VJ (P:jQ) (w:jR) (K:uFg) (tg:Expr) (Jqz:It) (fp:jM) (it:jP) (tn:Nat->Heap->Prop):Prop where
 mem:it∈fp
 obj:∀i h,tn i h->∀b∈fp,∃o,h.get? b=_s o/\∀v,o.data ≠ .cell v
 keep:∀i h h',tn i h->(∀b∈fp,∀o,h.get? b=_s o->h'.get? b=_s o)->tn i h'
 item:∀(X:Cx),X.prog=P->X.w=w->X.K=K->X.calm=_t->∀(i:Nat)(B:List (jP×Obj))(s:jN)(Y:St)(H:Hp)(E:jH),ZE X B Y H s->(∀b∈fp,Vt X B H b)->tn i s.heap->Jqz.go i H ->
  _w (_m P w) X.A (pyNext (.ref it)) (λr s1=>∃u,r=_s u /\
   _w (_m P w) X.A (letOwnedTupleGo tg (.ref it) u) (λ_ s2=>∃x J,ZE X B Y J s2/\ZH x u/\Jqz.jb i H x J/\tn (i+1) s2.heap/\∀b∈fp,J b=_n) E s1) E s
 done:∀(X:Cx),X.prog=P->X.w=w->X.K=K->X.calm=_t->∀(i:Nat)(B:List (jP×Obj))(s:jN)(Y:St)(H:Hp)(E:jH),ZE X B Y H s->(∀b∈fp,Vt X B H b)->tn i s.heap->Jqz.stop i H ->
  _w (_m P w) X.A (pyNext (.ref it)) (λr s1=>r=_n/\ZE X B Y H s1) E s
 self:∀(A:jS)(i:Nat)(s:jN)(Q:jH)(E:jH),tn i s.heap->Q (.ref it) s->_w (_m P w) A (pyIter (.ref it)) Q E s
abbrev TI:=St->Hp->(It->Hp->Prop)->Prop
def Dp(X:Cx)(B:List (jP×Obj))(Y:St)(f:Expr)(R:It->Hp->Prop)(b:jO)(d:jN):Prop :=
 ∃it c e a J,b=.ref it/\ZE X B Y J d/\VJ X.prog X.w X.K f a c it e/\e 0 d.heap/\(∀b∈c,Vt X B J b)/\R a J
def PI(X:Cx)(b a:Expr)(c:TI):Prop :=
 ∀(B:List (jP×Obj))(s:jN)(Y:St)(H:Hp)(R:It->Hp->Prop),ZE X B Y H s->c Y H R ->
  _w (_m X.prog X.w) X.A (eval a X.env) (λv a=>_w (_m X.prog X.w) X.A (pyIter v) (Dp X B Y b R) X.xe a) X.xe s
def B1(d:s.heap.get? it=_s o)(a:o.cls=.type n)(b:o.data=.fields vs)(c:["enumerate","zip","dict_itemiterator","dict_reverseitemiterator","odict_iterator","itertools.zip_longest","itertools.pairwise"].contains n=_x)(hQ:Q _u s):_w M A (letOwnedTupleGo tg (.ref it) u) Q E s:=by
  unfold letOwnedTupleGo;ext tg<;>first
    | rwa[_p hQ]
    | (ext u<;>first
        | rwa[_p hQ]
        | (refine _b (wpAny_load d ?_)
           rw[a,b];show _w M A (if (["enumerate","zip","dict_itemiterator","dict_reverseitemiterator","odict_iterator","itertools.zip_longest","itertools.pairwise"].contains n&&vs[0]?==_s (rawInt _))=_t then _ else _) Q E s;rw[_i (by intro h;rw[c,wH] at h;ext h)]
           rwa[_p hQ]))
def JJ(K:uFg)(a:jP):It :=
 (λi H=>∃L x,ZG K H a L/\L[i]?=_s x,λi H x J=>J=H/\∀L,ZG K H a L->L[i]?=_s x,λi H=>∃L,ZG K H a L/\L.9<=i)
def GA(K:uFg)(a:jP):It :=
 (λi H=>∃L x,ZR K H a L/\L[i]?=_s x,λi H x J=>J=H/\∀L,ZR K H a L->L[i]?=_s x,λi H=>∃L,ZR K H a L/\L.9<=i)
def JD(lo:Int)(n:Nat):It:=(λi _=>i<n,λi H x J=>J=H/\x=.int (lo+i),λi _=>n<=i)
def XU{P:jQ}{w:jR}{K:uFg}{b:Expr}(a it:jP):VJ P w K b (JJ K a) [it] it (λi h=>h.IsListIter it a i) where
 mem:=by simp
 obj:=λi h st b f=>by
  let e:b=it:=by simpa using f
  subst e;let(o,e,c,d):=st;rwa[o,e,λv z=>by rw[d] at z;ext z]
 keep:=λi h j st k=>st.at λo e=>k it (by simp) o e
 item:=by
  intro X z C y M i B s Y H E I k st A;subst z C y;let(L,x,l,F):=A;let(G,J,p,Q):=I.list l;let(u,g,R):=J.get F;let(m,n,O,r,t,v):=k it (by simp);erw[wpAny_pyNext_list_item st p.isList (x:=u) (by simpa using g) λj g T=>?_];let N:ZE X B Y H {s with heap:=j }:=I.turned (t':=s.toks) (λb o f e=>(T.2 b f).trans e) m n r t v;let(o,e,c,d):=id g;rwa[u,S,B1 (s:={s with heap:=j }) e c d aA (x,H,N,R,(S,λd c=>by rw[I.oq c l];rwa[F]),g,λb f=>(k b f).1)]
 done:=by
  intro X z C y M i B s Y H E I k st A;subst z C y;let(L,l,F):=A;let(G,J,p,Q):=I.list l;let(m,n,O,r,t,v):=k it (by simp);let c:=J.9;rwa[wpAny_pyNext_list_end (I.ok.hd M) st p.isList (by simp;lia) λj c=>(S,I.turned (t':=s.toks) (λb o f e=>c b o f e) m n r t v)]
 self:=λ_ _ _ _ _ st h=>wpAny_pyIter_listiter st h
def Qu{P:jQ}{w:jR}{K:uFg}{b:Expr}(a it:jP):VJ P w K b (GA K a) [it] it (λi h=>h.IsTupleIter it a i) where
 mem:=by simp
 obj:=λi h st b f=>by
  let e:b=it:=by simpa using f
  subst e;let(o,e,c,d):=st;rwa[o,e,λv z=>by rw[d] at z;ext z]
 keep:=λi h l st k=>st.at λo e=>k it (by simp) o e
 item:=by
  intro X A F z M i B s Y H E I k st C;subst A F z;let(L,x,m,G):=C;let(g,J,p,Q):=I.tuple m;let(u,j,R):=J.get G;let(n,r,O,t,v,y):=k it (by simp);erw[wpAny_pyNext_tuple_item st (show s.heap.IsTuple a g.4 from p) (x:=u) (by simpa using j) λl j T=>?_];let N:ZE X B Y H {s with heap:=l }:=I.turned (t':=s.toks) (λb o f e=>(T.2 b f).trans e) n r t v y;let(o,e,c,d):=id j;rwa[u,S,B1 (s:={s with heap:=l }) e c d aA (x,H,N,R,(S,λd c=>by rw[I.oZ c m];rwa[G]),j,λb f=>(k b f).1)]
 done:=by
  intro X A F z M i B s Y H E I k st C;subst A F z;let(L,m,G):=C;let(g,J,p,Q):=I.tuple m;let(n,r,O,t,v,y):=k it (by simp);let c:=J.9;rwa[wpAny_pyNext_tuple_end (I.ok.hd M) st (show s.heap.IsTuple a g.4 from p) (by simp;lia) λl c=>(S,I.turned (t':=s.toks) (λb o f e=>c b o f e) n r t v y)]
 self:=λ_ _ _ _ _ st h=>wpAny_pyIter_tupleiter st h
def O9{P:jQ}{w:jR}{K:uFg}{a:Expr}(it:jP)(lo:Int)(n:Nat):VJ P w K a (JD lo n) [it] it (λi h=>IsRangeIter h it (lo+(i:Nat) * 1) ((n:Int) - (i:Nat)) 1) where
 mem:=by simp
 obj:=λi h st b a=>by grind
 keep:=λi h d st k=>k it (by simp) _ st
 item:=by
  intro X r y p u i B s Y H E I f st x;subst r y p;let(g,j,A,k,l,m):=f it (by simp);let W:=Walks.range (prog:=X.prog) (w:=X.w) (I.ok.hd u) it lo 1 n;erw[W.item i s _ _ x st λv d z e c C=>?_];let(t,S):=e;let v:ZE X B Y H {s with heap:=d,toks:=z }:=I.turned (λb o a e=>C b o (by simpa using a) e) g j k l m;erw[_,S,B1 (s:={s with heap:=d,toks:=z }) (n:="range_iterator") c S S aA (.int (lo+i),H,v,(t,?_),(S,S),c,λb a=>(f b a).1)];rw[Int.mul_one]
 done:=by
  intro X r y p u i B s Y H E I f st x;subst r y p;let(g,j,A,k,l,m):=f it (by simp);rwa[wpAny_pyNext_range_end (I.ok.hd u) st (by have:n<=i:=x;lia) λd c=>(S,I.turned (t':=s.toks) (λb o a e=>c b o a e) g j k l m)]
 self:=λ_ _ _ _ _ st h=>wpAny_pyIter_rangeiter st h
section
variable{X:Cx}{tg:Expr}
inductive Bc(K:uFg)(R:It->Hp->Prop)(x:V)(b:Hp):Prop
 |mk(a)(_:x=.ref a)(_:(∃L,ZG K b a L))(_:R (JJ K a) b)
def Sy(K:uFg)(a:TE):TI:=λY H R=>a Y H λx a=>Bc K R x a
inductive BV(K:uFg)(R:It->Hp->Prop)(x:V)(b:Hp):Prop
 |mk(a)(_:x=.ref a)(_:(∃L,ZR K b a L))(_:R (GA K a) b)
def OQ(K:uFg)(a:TE):TI:=λY H R=>a Y H λx a=>BV K R x a
def Ik{B:List (jP×Obj)}{Y:St}{H:Hp}{s:jN}{R:It->Hp->Prop}{E:jH}{lo a:Int}{t u v:Tok}{tk:Nat}(I:ZE X B Y H s)(b : -(2^62)<=lo)(c:lo<2^62)(d : -(2^62)<=a)(e:a<2^62)(q:R (JD lo (a - lo).toNat) H):_w (_m X.prog X.w) X.A (pyIter (.ref s.8)) (Dp X B Y tg R) E {s with heap:=s.heap.push {cls:=.type "range", data:=.fields #[.int lo t,.int a u,.int 1 v] },toks:=tk }:=by
 erw[wpAny_pyIter_range (IsRange.new ..) (small_one b c d e) ?_];let c:ZE X B Y H {s with heap:=s.heap.push {cls:=.type "range", data:=.fields #[.int lo t,.int a u,.int 1 v] },toks:=tk }:=I.kept λb o e=>xB _ e;erw[(s.heap.push {cls:=.type "range", data:=.fields #[.int lo t,.int a u,.int 1 v] }).7,[(s.heap.push {cls:=.type "range", data:=.fields #[.int lo t,.int a u,.int 1 v] }).7],_,_,H,S, c.kept (t':=tk) λb o e=>xB _ e,O9 _ lo (a - lo).toNat,?_,λb g=>?_,q]
 .let d:lo+((0:Nat):Int) * 1=lo:=by simp
  let f:(((a - lo).toNat:Nat):Int) - ((0:Nat):Int)=Builtin.Range.rangeSize lo a 1:=by rw[rangeSize_one];split<;>lia
  show IsRangeIter _ _ (lo+((0:Nat):Int) * 1) ((((a - lo).toNat:Nat):Int) - ((0:Nat):Int)) 1;rw[d,f];rwa[xI _ S]
 .let e:b=(s.heap.push {cls:=.type "range", data:=.fields #[.int lo t,.int a u,.int 1 v] }).7:=by simpa using g
  subst e;rwa[c.iw (xE _) (c.og.fresh (xE _))]
inductive Bn(R:It->Hp->Prop)(vs:aG)(a:Hp):Prop
 |mk(j)(_:vs=[.int j])(_:-(2^62)<=j)(_:j<2^62)(_:R (JD 0 j.toNat) a)
def Pj(a:TA):TI:=λY H R=>a Y H λb a=>Bn R b a
inductive Bx(R:It->Hp->Prop)(vs:aG)(a:Hp):Prop
 |mk(i j)(_:vs=[.int i,.int j])(_:(-(2^62)<=i/\i<2^62 /\ -(2^62)<=j/\j<2^62))(_:R (JD i (j - i).toNat) a)
def hV(a:TA):TI:=λY H R=>a Y H λb a=>Bx R b a
def jG(a:TI)(g:TG)(d:TS):TS:=λD Y H=>a Y H λa b=>∃W:Nat->Nat->St->Hp->Prop,(∃m,W 0 m Y b)/\∀i m Y H,W i m Y H ->
 (a.stop i H/\D.nx Y H)\/(a.go i H/\∃N:St->Hp->Prop,(∀ b J,N b J->∃c,c<m/\W (i+1) c b J)/\∀x J,a.jb i H x J->g x Y J λa b=>d {D with nx:=N,ct:=N,bk:=D.nx } a b)
def AZ(a:jM)(h:Heap):List (jP×Obj):=a.filterMap λb=>(h.get? b).map λo=>(b,o)
theorem Cv(a:b∈fp)(e:h.get? b=_s o):(b,o)∈AZ fp h:=yV.mpr (b,a,by rw[e];rfl)
def IV(a:p∈AZ fp h):p.1∈fp/\h.get? p.1=_s p.2:=by
 let(b,c,e):=yV.mp a;cases q:h.get? b with
 | none=>rw[q] at e;ext e
 | some o =>
  rw[q] at e;let a:(b,o)=p:=ma e;subst a;rwa[c,q]
theorem ZE.pinned{B:List (jP×Obj)}{Y:St}{H:Hp}{s:jN}{a:jM}(I:ZE X B Y H s)(d:∀b∈a,Vt X B H b)(i:∀b∈a,∃o,s.heap.get? b=_s o/\∀v,o.data ≠ .cell v):ZE X (B++AZ a s.heap) Y H s :=
 I.oM λp a=>(xK.mp a).elim (λz=>I.pin p (xO _ z)) λz=>by
  let(c,e):=IV z;let(f,g,h,_):=d p.1 c;let(o,a,d):=i p.1 c;rw[e] at a;ext a;rwa[e,f,g,h,d]
theorem ZE.j5{B pl:List (jP×Obj)}{Y:St}{H:Hp}{s:jN}(I:ZE X (B++pl) Y H s):ZE X B Y H s:=I.oM λp a=>I.pin p (xO _ (yP _ a))
end
def X8{K:uFg}{a:jP}{L:aG}{g:TG}{f:TS}{D:YF}{Y:St}{H:Hp}(Pv:Nat->St->Hp->Prop)(h:Pv 0 Y H)(k:∀i Y H,i<=L.9->Pv i Y H->ZG K H a L)(hs:∀i x Y H,L[i]?=_s x->Pv i Y H->g x Y H λc d=>f {D with nx:=Pv (i+1),ct:=Pv (i+1),bk:=D.nx } c d)(j:∀ Y H,Pv L.length Y H->D.nx Y H) :
  ∃W:Nat->Nat->St->Hp->Prop,(∃m,W 0 m Y H)/\∀i m Y H,W i m Y H ->
   ((JJ K a).stop i H/\D.nx Y H)\/((JJ K a).go i H/\∃N:St->Hp->Prop,(∀ b J,N b J->∃e,e<m/\W (i+1) e b J)/\∀x J,(JJ K a).jb i H x J->g x Y J λc d=>f {D with nx:=N,ct:=N,bk:=D.nx } c d):=by
 erw[λi m Y H=>m=L.9 - i/\i<=L.9/\Pv i Y H,(L.9,by simp,yJ _,h),?_];rintro i m Y H ⟨rfl,c,p⟩;let q:=k i Y H c p
 by_cases c:i<L.9
 .erw[.inr ((L,L[i],q,by simp[c]),Pv (i+1),λb J d=>(L.9 - (i+1),(),S,c,d),λx J y=>?_)];let(e,y):=y;subst e;rwa[hs i x Y _ (y L q) p]
 .let e:i=L.9:=by lia
  subst e;rwa[.inl ((L,q,xE _),j Y H p)]
def XH{lo:Int}{n:Nat}{g:TG}{e:TS}{D:YF}{Y:St}{H:Hp}(Pv:Nat->St->Hp->Prop)(f:Pv 0 Y H)(hs:∀i Y H,i<n->Pv i Y H->g (.int (lo+i)) Y H λa c=>e {D with nx:=Pv (i+1),ct:=Pv (i+1),bk:=D.nx } a c)(h:∀ Y H,Pv n Y H->D.nx Y H) :
  ∃W:Nat->Nat->St->Hp->Prop,(∃m,W 0 m Y H)/\∀i m Y H,W i m Y H ->
   ((JD lo n).stop i H/\D.nx Y H)\/((JD lo n).go i H/\∃N:St->Hp->Prop,(∀ b J,N b J->∃d,d<m/\W (i+1) d b J)/\∀x J,(JD lo n).jb i H x J->g x Y J λa c=>e {D with nx:=N,ct:=N,bk:=D.nx } a c):=by
 erw[λi m Y H=>m=n - i/\i<=n/\Pv i Y H,(n,by simp,yJ _,f),?_];rintro i m Y H ⟨rfl,a,p⟩
 by_cases a:i<n
 .erw[.inr (a,Pv (i+1),λb J c=>(n - (i+1),(),S,a,c),λx J y=>?_)];let(e,y):=y;subst e y;rwa[hs i Y _ a p]
 .let e:i=n:=by lia
  subst e;rwa[.inl (xE _,h Y H p)]
abbrev R2:=V->V->Hp->VK->Prop
def As(X:Cx)(f:jO->jO->Sem jO)(r:R2):Prop :=
 ∀(B:List (jP×Obj))(s:jN)(Y:St)(H:Hp)(x y:V)(v u:jO)(Q:VK),ZE X B Y H s->ZH x v->ZH y u->r x y H Q ->
  _w (_m X.prog X.w) X.A (f v u) (EP X B Y Q) X.xe s
def Qp(X:Cx)(f:jO->Sem jO)(r:V->Hp->VK->Prop):Prop :=
 ∀(B:List (jP×Obj))(s:jN)(Y:St)(H:Hp)(x:V)(v:jO)(Q:VK),ZE X B Y H s->ZH x v->r x H Q ->
  _w (_m X.prog X.w) X.A (f v) (EP X B Y Q) X.xe s
def JE(X:Cx)(f:jO)(r:List V->Hp->VK->Prop):Prop :=
 ∀(B:List (jP×Obj))(s:jN)(Y:St)(H:Hp)(L:aG)(a:jK)(Q:VK),ZE X B Y H s->ZJ L a->r L H Q ->
  _w (_m X.prog X.w) X.A (call f a) (EP X B Y Q) X.xe s
def gF(X:Cx)(r:V->Hp->(Bool->Hp->Prop)->Prop):Prop :=
 ∀(B:List (jP×Obj))(s:jN)(Y:St)(H:Hp)(x:V)(v:jO)(Q:Bool->Hp->Prop),ZE X B Y H s->ZH x v->r x H Q ->
  _w (_m X.prog X.w) X.A (truthy v) (TP X B Y Q) X.xe s
def T8(r:R2)(a b:TE):TE:=λY H Q=>a Y H λx a=>b Y a λy a=>r x y a Q
def dF(r:V->Hp->VK->Prop)(a:TE):TE:=λY H Q=>a Y H λx a=>r x a Q
inductive rI(C:Int->Int->Prop)(g:Int->Int->V)(x y:V)(H:Hp)(Q:VK):Prop
 |mk(i j)(_:x=.int i)(_:y=.int j)(_:C i j)(_:Q (g i j) H)
inductive Ah(g:Int->Int->V)(x y:V)(H:Hp)(Q:VK):Prop
 |mk(i j)(_:x=.int i)(_:y=.int j)(_:Q (g i j) H)
inductive rU(g:Int->V)(x:V)(H:Hp)(Q:VK):Prop
 |mk(i)(_:x=.int i)(_:Q (g i) H)
def E6(j:PE X a ta)(k:PE X b tb){B:List (jP×Obj)}{s:jN}{Y:St}{H:Hp}{R:V->V->Hp->Prop}(I:ZE X B Y H s)(h:ta Y H λx i=>tb Y i λy c=>R x y c){Q:jH}{f:jO->jO->Sem jO}(l:∀v u g x y c,ZE X B Y c g->ZH x v->ZH y u->R x y c->_w (_m X.prog X.w) X.A (f v u) Q X.xe g) :
  _w (_m X.prog X.w) X.A (eval a X.env) (λv d=>_w (_m X.prog X.w) X.A (eval b X.env) (λu e=>_w (_m X.prog X.w) X.A (f v u) Q X.xe e) X.xe d) X.xe s:=by
 erw[thn (j B s Y H _ I h) λv m ⟨x,i,d,j,e⟩=>?_];erw[thn (k B m Y i _ d e) λu g ⟨y,c,d,i,e⟩=>?_];rwa[l v u g x y c d j i e]
def opI{f:jO->jO->Sem jO}{C:Int->Int->Prop}{g:Int->Int->Int}(rule:∀i j t u s Q E,C i j->Q (.int (g i j) s.toks) {s with toks:=s.toks+1 }->_w (_m X.prog X.w) X.A (f (.int i t) (.int j u)) Q E s) :
  As X f (rI C λi j=>.int (g i j)):=by
 intro B s Y H x y v u Q I b c h;let(i,j,S,S,a,q):=h;let(t,S):=b;let(b,S):=c;rwa[rule i j t b s _ _ a (.int (g i j),H,I.tok _,(_,S),q)]
def K4{f:jO->jO->Sem jO}{g:Int->Int->Int}(rule:∀i j t u s Q E,Q (.int (g i j) s.toks) {s with toks:=s.toks+1 }->_w (_m X.prog X.w) X.A (f (.int i t) (.int j u)) Q E s) :
  As X f (Ah λi j=>.int (g i j)):=by
 intro B s Y H x y v u Q I a b h;let(i,j,S,S,q):=h;let(t,S):=a;let(a,S):=b;rwa[rule i j t a s _ _ (.int (g i j),H,I.tok _,(_,S),q)]
def Ei{f:jO->jO->Sem jO}{g:Int->Int->Bool}(rule:∀i j t u s Q E,Q (.bool (g i j)) s->_w (_m X.prog X.w) X.A (f (.int i t) (.int j u)) Q E s) :
  As X f (Ah λi j=>.bl (g i j)):=by
 intro B s Y H x y v u Q I a b h;let(i,j,S,S,q):=h;let(t,S):=a;let(a,S):=b;rwa[rule i j t a s _ _ (.bl (g i j),H,I,S,q)]
def Kr(i j:Int):Prop:=0<j/\j<1073741824
def Mi(i j:Int):Prop:=0<=j/\j<=1000000/\i.natAbs<2^64
def Ae(i j:Int):Prop:=(-(2^64)<i/\i<2^64)\/(-(2^64)<j/\j<2^64)
def Ae.ok(h:Ae i j):IntMulOk i j:=by
 rcases h with⟨a,b⟩ | ⟨a,b⟩
 .rwa[.of_left (intBits_le_64 a b)]
 .rwa[.of_right (intBits_le_64 a b)]
def KQ:V->V->Bool
 | .non,.non=>_t | .non,.int _=>_t | .int _,.non=>_t | .non,.bl _=>_t | .bl _,.non=>_t | .non,.str _=>_t | .str _,.non=>_t
 | .int _,.int _=>_t | .bl _,.bl _=>_t | .str _,.str _=>_t | .byt _,.byt _=>_t
 | .int _,.str _=>_t | .str _,.int _=>_t | .bl _,.str _=>_t | .str _,.bl _=>_t
 | _,_=>_x
def Ci:R2:=λx y H Q=>KQ x y=_t/\Q (.bl (decide (x=y))) H
def eK:R2:=λx y H Q=>KQ x y=_t/\Q (.bl (!decide (x=y))) H
def MC:decide (V.int i=V.int j)=(i==j):=by
 rw[zF];simp
def ME:decide (V.bl i=V.bl j)=(i==j):=by
 rw[zF];simp
def GN:decide (V.str i=V.str j)=(i==j):=by
 rw[zF];simp
def MS:decide (V.byt i=V.byt j)=(i.toList==j.toList):=by
 rw[zF];ext i;ext j;simp
section
variable{b:Expr}{ta tb tc:TE}
def Yv{B:List (jP×Obj)}{Y:St}{H:Hp}{s:jN}{Q:VK}{k a:Bool}(I:ZE X B Y H s)(q:Q (.bl k) H)(e:k=a):EP X B Y Q (.bool a) s:=by
 subst e;rwa[.bl k,H,I,S,q]
def Zo(b:Expr)(h:autoParam (op ≠ .In) y3z)(d:autoParam (op ≠ .NotIn) y3z):behindInMarks op b=false:=by
 let a:(op==CmpOp.In)=false:=by ext op<;>first | rfl | rwa[_a S h]
 let c:(op==CmpOp.NotIn)=false:=by ext op<;>first | rfl | rwa[_a S d]
 ext b<;>simp[behindInMarks,a,c]
def BH(t:TE):TT:=λY H Q=>t Y H λx J=>∃k,x=.bl k/\Q k J
inductive JU(d:R2)(tc:TE)(Y:St)(Q:VK)(y z:V)(a:Hp):Prop
 |mk(k)(_:z=.bl k)(_:(if k=_t then tc Y a λe c=>d y e c Q else Q (.bl _x) a))
def HC(r c:R2)(ta tb tc:TE):TE:=λY H Q=>ta Y H λx a=>tb Y a λy a=>r x y a λz a=>JU c tc Y Q y z a
def IW(K:uFg)(x:V)(H:Hp)(k:Bool):Prop :=
 match x with
 | .non=>k=_x
 | .bl b=>k=b
 | .int i=>k=(i != 0)
 | .str y=>y.9<=_z/\k=((y.9:Int) != 0)
 | .byt y=>y.5<=_z/\k=((y.5:Int) != 0)
 | .ref p=>(∃L,ZG K H p L/\k = !L.isEmpty)\/(∃L,ZR K H p L/\k = !L.isEmpty)\/∃U,H p=_s (.dK U)/\k = !U.isEmpty
 | _=>False
def PF{κ:Type}{U:List (κ×V)}{vs:List (κ×jO)}(r:KV U vs):(!vs.isEmpty)= !U.isEmpty:=by
 ext r<;>rfl
def Hh(r:ZJ L its):(!its.toArray.isEmpty)= !L.isEmpty:=by
 ext r<;>simp
def Be:(sizeLine:Nat)<2^63:=by rw[sizeLine_eq];decide
def O8:gF X (λx H Q=>∃k,IW X.K x H k/\Q k H):=by
 intro B s Y H x v Q I c h;let(k,e,q):=h;let a:=Be;let a:_z=16777216:=sizeLine_eq;cases x with
 | non =>
  ext c;let a:k=false:=e;subst a;rwa[truthy_none (H,I,q)]
 | bl b =>
  ext c;let a:k=b:=e;subst a;rwa[wpAny_truthy_bool (H,I,q)]
 | int i =>
  let(t,S):=c;let a:k=(i != 0):=e;subst a;rwa[PySem.P.truthy_int (H,I,q)]
 | str y =>
  let(t,S):=c;obtain⟨d,a⟩:y.9<=_z/\k=((y.9:Int) != 0):=e;subst a;rwa[PySem.P.truthy_str () (H,I.tok _,q)]
 | byt y =>
  let(t,S):=c;obtain⟨d,a⟩:y.5<=_z/\k=((y.5:Int) != 0):=e;subst a;rwa[PySem.W.truthy_bytes () (H,I.tok _,q)]
 | ref p =>
  ext c;let a:(∃L,ZG X.K H p L/\k = !L.isEmpty)\/(∃L,ZR X.K H p L/\k = !L.isEmpty)\/∃U,H p=_s (.dK U)/\k = !U.isEmpty:=e;rcases a with⟨L,d,a⟩ | ⟨L,d,a⟩ | ⟨U,d,a⟩
  .subst a;let(f,r,g,h):=I.list d;let c:=r.9;rwa[wpAny_truthy_list g.isList (by simp only[xU];lia) (H,I.tok _,by rw[Hh r];rwa[q])]
  .subst a;let(f,r,g,h):=I.tuple d;let c:=r.9;rwa[truthy_tuple g (by simp only[xU];lia) (H,I.tok _,by rw[Hh r];rwa[q])]
  .subst a;obtain⟨h,f,a,r,m⟩:U.9<=_z/\(p==sysModules)=_x/\∃a,KV U a/\s.heap.DictOf (We X.prog X.w) p a:=I.og p _ d;let c:U.9=a.9:=m9 r;rwa[wpAny_truthy_dict f m () (H,I.tok _,by rw[PF r];rwa[q])]
 | _=>rwa[(show False from e).elim]
def Up(r:ZJ [x] us):∃u,us=[u]/\ZH x u:=by
 cases r with
 | cons a c=>ext c;rwa[_,S,a]
def DA(r:ZJ [x,y] us):∃u a,us=[u,a]/\ZH x u/\ZH y a:=by
 cases r with
 | cons a c =>
  cases c with
  | cons c d=>ext d;rwa[_,_,S,a,c]
end
structure UN (h:Heap) (x dx C:jP) (mA:jI):Prop where
 obj:h.get? x=_s (instObj C dx)
 ns:h.Ns1 dx mA
 ne:dx≠x
def cZ{h:Heap}{a:jP}{b:jI}(n:h.Ns1 a b):∃od,h.get? a=_s od/\∀name,lookIn name od=_s (b name):=by
 let(o,c,f,e,a,d,_,b):=n;erw[o,e,λname=>?_];let e:=b name;unfold nsFind findBy at e;rw[<- Array.find?_toList] at e;unfold lookIn;rw[a];dsimp only;split
 .grind
 .rename_i q;rw[q] at e;let a:c.toList.any (·.refKey)=false:=by
   rw[List.any_eq_false];intro y f;let(z,t,b):=d y (Array.mem_toList_iff.mp f);simp[DictEntry.refKey,b]
  let b:¬c.toList.any (·.refKey)=true:=by rw[a];rwa[xJ]
  rw[_i b];rwa[congrArg _s e]
theorem UN.look(I:UN h x dx C mA):∃od,InstAt h x (instObj C dx) C (_s od)/\∀name,lookIn name od=_s (mA name) :=
 let ⟨od,b,a⟩:=cZ I.ns
 (od,(I.obj,S,S,b),a)
section
variable{prog:jQ}{w:jR}{A:jS}{E:jH}{s:jN}{K:uFg}{x dx C f:jP}{mA:jI}{name:Str}{v:jO}
def OS{a:Bool}{Q:jH}(X:K.In s.heap)(I:UN s.heap x dx C mA)(d:plainGet K C name=_t)(e:hasDictIn K C=_t)(c:PySem.W.findIn K (.ref C) name=_s _n)(g:mA name=_s v)(b:handedIn v=_t)(h:Q v {s with toks:=s.toks+1 }) :
  _w (_m prog w) A (getAttr (.ref x) name a) Q E s:=by
 let(od,J,a):=I.look;rwa[PySem.W.get_value X J (plainGet_of d).1 (PySem.W.findObj_own e c S (by rw[a,g])) b h]
def eG{pl:Sem Bool}{Q:jO×List jO->jN->Prop}(X:K.In s.heap)(I:UN s.heap x dx C mA)(a:plainGet K C name=_t)(b:PySem.W.findIn K (.ref C) name=_s (_s (.ref f)))(d:isFn K (.ref f)=_t)(e:mA name=_n)(h:Q (.ref f,[.ref x]) s) :
  _w (_m prog w) A (getMethod (.ref x) name pl) Q E s:=by
 let(od,J,c):=I.look;rwa[PySem.W.method_fn X J (plainGet_of a).1 (plainGet_of a).2 b (beq_iff_eq.mp d) (by show (lookIn name od).map (·.isSome)=_s _x;rw[c,e];rfl) h]
def Xf{ns:jJ}{Q:Unit->jN->Prop}(X:K.In s.heap)(I:UN s.heap x dx C mA)(hs:PySem.W.findIn K (.ref C) "__setattr__"=_s (_s (.builtin "object.__setattr__")))(b:plainOver K C=_t)(c:takerIn K C name=_s _n)(d:hasDictIn K C=_t)(k:PySem.Within mA ns)(hsz:ns.9<=_z)(h:∀h',UN h' x dx C (λy=>if y=name then _s v else mA y)->Heap.SameBut dx s.heap h'->Q _u {s with heap:=h',toks:=s.toks+2 }) :
  _w (_m prog w) A (setAttr (.ref x) name v) Q E s:=by
 let(od,J,e):=I.look;erw[PySem.W.set_plain X J hs (PySem.W.osa_open (s:={s with toks:=s.toks+1 }) (r:=_n) X J b c λb=>?_)];let(e,c,b):=PySem.W.any_some d;let d:s.heap.get? x=_s (.ref C,_s dx,.plain,#[]):=I.obj;erw[_b (_p (_b (_b (wpAny_loadPart d (_b (PySem.W.Looks.here (s:={s with toks:=s.toks+1 }) (PySem.W.looks_clsIn X c) ?_))))))];rw[b];erw[_p (a:=_s dx) (_b (_p (_b ?_)))];erw[wpAny_nsSet1 (s:={s with toks:=s.toks+1 }) I.ns λh' b c=>?_];let(l,j,i,g,e,d):=b.count (PySem.Within.cons name v k);erw[_b (wpAny_lookBehind g (by rw[e];rwa[pastItsLine_dict (xX d (by rw[yH];lia))]) ?_)];rwa[_p (h _ ((c.2 _ (Ne.symm I.ne)).trans I.obj,b,I.ne) c)]
def cS{R:Result->jN->Prop}{vs:jK}{kw:List (Str×jO)}(X:K.In s.heap)(c:makesIn K C=_t)(a:PySem.W.findIn K (.ref C) "__init__"=_s (_s (.ref f)))(b:typeIn K (.ref f)=_s (.type "function"))(h:codeAny (_m prog w) (A.under (.builtin "type.__call__" (.ref C::vs,kw))) (.call (.ref f) (.ref (s.8+1)::vs,kw)) (PySem.W.InitBack (s.8+1) R) {s with heap:=(s.heap.push emptyDict).push (instObj C s.8) }) :
  codeAny (_m prog w) A (.call (.ref C) (vs,kw)) R s:=by
 let(e,g,d,t,os):=s;rwa[PySem.W.make_core (PySem.W.makes_of X c) (PySem.W.looks_findIn X a) (λa=>PySem.W.bind_fn X a b) (.inl S) h]
end
def Zu(f:Str)(v:V):List (Str×V)->List (Str×V)
 | []=>[(f,v)]
 | (g,x)::r=>if g=f then (g,v)::r else (g,x)::Zu f v r
theorem Y8(f g:Str)(v:V):∀a:List (Str×V),(Zu f v a).lookup g=if g=f then _s v else a.lookup g
 | []=>by
  show List.lookup g [(f,v)]=_
  by_cases h:g=f
  .grind
  .grind
 | (k,x)::r=>by
  let a:=Y8 f g v r;rw[show Zu f v ((k,x)::r)=(if k=f then (k,v)::r else (k,x)::Zu f v r) from S]
  by_cases a:k=f
  .grind
  .grind
theorem FB(f:Str)(v:V):∀a:List (Str×V),f∈(Zu f v a).map (·.1)/\∀g,g∈a.map (·.1)->g∈(Zu f v a).map (·.1)
 | []=>(by simp[Zu],λg h=>by simp at h)
 | (k,x)::r=>by
  let(a,b):=FB f v r;rw[show Zu f v ((k,x)::r)=(if k=f then (k,v)::r else (k,x)::Zu f v r) from S]
  by_cases a:k=f
  .grind
  .grind
theorem AY(f:Str)(v:V):∀a:List (Str×V),(Zu f v a).9<=a.9+1
 | []=>by simp[Zu]
 | (k,x)::r=>by
  let a:=AY f v r;rw[show Zu f v ((k,x)::r)=(if k=f then (k,v)::r else (k,x)::Zu f v r) from S]
  by_cases a:k=f
  .grind
  .grind
def YT.some_of(r:YT (_s v) o):∃u,o=_s u/\ZH v u:=by
 cases o with
 | none=>rwa[(show False from r).elim]
 | some u=>rwa[u,S,r]
def YT.none_of(r:YT _n o):o=none:=by
 cases o with
 | none=>rfl
 | some u=>rwa[(show False from r).elim]
def iG(r:ZH v u):handedIn u=true:=by
 cases v with
 | non=>cases (show u=Value.none from r);rfl
 | bl b=>cases (show u=Value.bool b from r);rfl
 | int i=>let(t,e):=(show ∃t,u=Value.int i t from r);ext e;rfl
 | str x=>let(t,e):=(show ∃t,u=Value.str x t from r);ext e;rfl
 | byt b=>let(t,e):=(show ∃t,u=Value.bytes b t from r);ext e;rfl
 | flt b=>let(t,e):=(show ∃t,u=Value.float b t from r);ext e;rfl
 | ref a=>cases (show u=Value.ref a from r);rfl
 | ty n=>cases (show u=Value.type n from r);rfl
def CY(c:YW P w H h)(e:H a=_s (.ins C dx fs)):∃b,UN h a dx C b/\(∀f,YT (fs.lookup f) (b f))/\PySem.Within b (fs.map (·.1))/\fs.9<=1000/\H dx=_s (.own a):=by
 let(d,z,g,i,b,n,r,q):=(show ZM P w H h a (.ins C dx fs) from c a _ e);rwa[b,(i,n,g),r,q,z,d]
structure UM (K:uFg) (C:jP):Prop where
 pg:plainGet K C Str.empty=_t
 hd:hasDictIn K C=_t
 po:plainOver K C=_t
 sa:PySem.W.findIn K (.ref C) "__setattr__"=_s (_s (.builtin "object.__setattr__"))
theorem UM.get{K:uFg}{C:jP}(c:UM K C)(f:Str):plainGet K C f=true:=c.pg
def ZW(K:uFg)(C:jP)(f:Str):Prop:=PySem.W.findIn K (.ref C) f=_s _n
def ZW.taker{K:uFg}{C:jP}{f:Str}(n:ZW K C f):takerIn K C f=_s none:=by
 unfold takerIn;rw[show PySem.W.findIn K (.ref C) f=_s _n from n];rfl
structure Tv (K:uFg) (C:jP) (m:Str) (f:jP):Prop where
 at_:PySem.W.findIn K (.ref C) m=_s (_s (.ref f))
 fn:isFn K (.ref f)=_t
 kp:keepIn K (.ref f)=_t
section
variable{X:Cx}{B:List (jP×Obj)}{Y:St}{H:Hp}{s:jN}{a C dx:jP}{fs:List (Str×V)}{f:Str}{v:V}{A:jS}{E:jH}
def fF{b:Bool}{Q:jH}(I:ZE X B Y H s)(e:H a=_s (.ins C dx fs))(c:UM X.K C)(n:ZW X.K C f)(l:fs.lookup f=_s v)(h:∀u d,ZE X B Y H d->ZH v u->Q u d):_w (_m X.prog X.w) A (getAttr (.ref a) f b) Q E s:=by
 let(i,O,r,_,_,_):=CY I.og e;let(u,g,d):=YT.some_of (v:=v) (o:=i f) (by rw[<- l];rwa[r f]);rwa[OS I.oi O (c.get f) c.hd n g (iG d) (h u _ (I.tok _) d)]
def Es{m:Str}{g:jP}{pl:Sem Bool}{Q:jO×List jO->jN->Prop}(I:ZE X B Y H s)(e:H a=_s (.ins C dx fs))(c:UM X.K C)(k:Tv X.K C m g)(l:fs.lookup m=_n)(h:Q (.ref g,[.ref a]) s):_w (_m X.prog X.w) A (getMethod (.ref a) m pl) Q E s:=by
 let(d,O,r,_,_,_):=CY I.og e;let b:d m=none:=YT.none_of (by rw[<- l];rwa[r m]);rwa[eG I.oi O (c.get m) k.at_ k.fn b h]
def hG{y:V}{u:jO}{Q:Unit->jN->Prop}(I:ZE X B Y H s)(e:H a=_s (.ins C dx fs))(c:UM X.K C)(n:ZW X.K C f)(d:fs.9<1000)(m:ZH y u)(h:∀b,ZE X B Y (upd H a (.ins C dx (Zu f y fs))) b->Q _u b):_w (_m X.prog X.w) A (setAttr (.ref a) f u) Q E s:=by
 let(i,O,r,j,_,g):=CY I.og e;let b:(fs.map (·.1)).9<=sizeLine:=by rw[xA,sizeLine_eq];lia
 erw[Xf I.oi O c.sa c.po n.taker c.hd j b λb d p=>h _ ?_];let l:∃o,b.get? dx=_s o:=let ⟨o,_,_,b,_⟩:=d.ns;(o,b)
 erw[I.write (x:=a) (e:=dx) (by rw[e];rwa[True.intro]) (.inr g) (λb q k z=>(p.2 b k).trans z) l ?_];erw[by rw[Zd O.ne];rwa[g],?_,O.ne,d.obj,_,d.ns,λg=>?_,λg b=>?_]
 .have:=AY f y fs;lia
 .show YT ((Zu f y fs).lookup g) (if g=f then _s u else i g);rw[Y8]
  by_cases q:g=f
  .rw[_j q,_j q];rwa[m]
  .rw[_i q,_i q];rwa[r g]
 .by_cases q:g=f
  .rw[q];rwa[(FB f y fs).1]
  .erw[(FB f y fs).2 g (j g λz=>b ?_)];show (if g=f then _s u else i g)=_n;rw[_i q];rwa[z]
def ZE.made(I:ZE X B Y H s):ZE X B Y (upd (upd H s.heap.objs.size (.own (s.8+1))) (s.8+1) (.ins C s.heap.objs.size []))
  {s with heap:=(s.heap.push emptyDict).push (instObj C s.8) }:=by
 let c:(s.heap.push emptyDict).get? s.8=_s emptyDict:=xI s.heap S;let g:((s.heap.push emptyDict).push (instObj C s.8)).get? (s.8+1)=_s (instObj C s.8):=by
  have:=xI (s.heap.push emptyDict) (o:=instObj C s.8) S
  (rw[yY] at this;assumption)
 let h:(s.heap.push emptyDict).Ns s.heap.objs.size (λ_=>_n):=(emptyDict,#[],_,c,S,(λe b=>_a b (by simp)),λ_=>rfl);let d:=I.laid (a:=s.8) (o:=.own (s.8+1)) (h':=s.heap.push emptyDict) (t':=s.toks) (λb u q=>xB _ q) (xE _) (_,c);erw[d.laid (a:=s.8+1) (o:=.ins C s.heap.objs.size []) (t':=s.toks) (λb u q=>xB _ q) (me (yY _ _)) ?_];let b:s.8≠s.8+1:=yG (mh _);erw[by rw[Zd b,Zi],yJ _,b,g,λ_=>_n,(Heap.Ns1.of_empty h).at λo q=>xB _ q,λ_=>True.intro,λy b=>_a S b]
theorem Pe(c:attributeBase e f env (eval e env)=eval e env)(h:_w (_m prog w) A (eval e env) (λo b=>_w (_m prog w) A (getAttr o f _t) Q E b) E s):_w (_m prog w) A (eval (.Attribute e f pos) env) Q E s :=
 Attribute_any_ h (by rw[arm_eval_Attribute,c])
end
inductive C7(K:uFg)(f:Str)(Q:VK)(x:V)(b:Hp):Prop
 |mk(a C dx fs v)(_:x=.ref a)(_:b a=_s (.ins C dx fs))(_:UM K C)(_:ZW K C f)(_:fs.lookup f=_s v)(_:Q v b)
def FK(K:uFg)(a:TE)(f:Str):TE:=λY H Q=>a Y H λx a=>C7 K f Q x a
inductive sFld_(K:uFg)(f:Str)(D:YF)(Y:St)(y x:V)(b:Hp):Prop
 |mk(a C dx fs)(_:x=.ref a)(_:b a=_s (.ins C dx fs))(_:UM K C)(_:ZW K C f)(_:fs.9<1000)(_:D.nx Y (upd b a (.ins C dx (Zu f y fs))))
def dZ(K:uFg)(b a:TE)(f:Str):TS:=λD Y H=>a Y H λy a=>b Y a λx a=>sFld_ K f D Y y x a
def IJ(b:PE X e ta)(a:attributeBase e f X.env (eval e X.env)=eval e X.env):PE X (.Attribute e f pos) (FK X.K ta f):=by
 intro B s Y H Q I h;erw[Pe a (thn (b B s Y H _ I h) λu m ⟨x,b,d,i,a,C,j,k,v,h,g,c,n,l,q⟩=>?_)];subst h;obtain rfl:u=Value.ref a:=i;rwa[fF d g c n l λg d a c=>(v,b,a,c,q)]
section
variable{X:Cx}{B:List (jP×Obj)}{Y:St}{H:Hp}{s:jN}{A:jS}{E:jH}{Q:jH}{c:jO}{b:Bool}
inductive WE (K:uFg) (H:Hp):V->jO->Prop where
 | non:WE K H .non (.type "NoneType")
 | bl (x:Bool):WE K H (.bl x) (.type "bool")
 | int (i:Int):WE K H (.int i) (.type "int")
 | str (x:Str):WE K H (.str x) (.type "str")
 | flt (x:UInt64):WE K H (.flt x) (.type "float")
 | lst {a:jP}{L:aG}(e:H a=_s (.lst L)):WE K H (.ref a) (.type "list")
 | frz {a:jP}{o:Obj}{L:aG}(e:H a=_s (.frz o (.lst L))):WE K H (.ref a) (.type "list")
 | tup {a:jP}{L:aG}(e:H a=_s (.tup L)):WE K H (.ref a) (.type "tuple")
 | dK {a:jP}{U:List (ZN×V)}(e:H a=_s (.dK U)):WE K H (.ref a) (.type "dict")
 | dT {a:jP}{U:List (List ZN×V)}(e:H a=_s (.dT U)):WE K H (.ref a) (.type "dict")
 | ins {a C d:jP}{f:List (Str×V)}(e:H a=_s (.ins C d f)) (h:UM K C) (i:PySem.W.findIn K (.ref C) "__class__"=_s (_s (.builtin "object.__class__")))
   (k:PySem.W.specialIn K (.builtin "object.__class__") "__get__"=_s (_s (.builtin "getset_descriptor.__get__"))) (g:PySem.W.takesIn K (.builtin "object.__class__")=_s _t)
   (j:PySem.W.mroIn K C (.type "object")=_s _t):WE K H (.ref a) (.ref C)
def SX{x:V}{u t:jO}(I:ZE X B Y H s)(f:ZH x u)(a:WE X.K H x t)(e:kitOne X.K t c=_s b)(h:∀tk,Q (.bool b) {s with toks:=tk }) :
  _w (_m X.prog X.w) A (call (.builtin "isinstance") [u,c]) Q E s:=by
 cases a with
 | non=>cases (show u=Value.none from f);rwa[kia_one PySem.W.kitx_none I.oi True.intro e (λz=>nomatch z) h]
 | bl y=>cases (show u=Value.bool y from f);rwa[kia_one PySem.W.kitx_bool I.oi True.intro e (λz=>nomatch z) h]
 | int i=>let(t,q):=(show ∃t,u=Value.int i t from f);ext q;rwa[kia_one PySem.W.kitx_int I.oi True.intro e (λz=>nomatch z) h]
 | str y=>let(t,q):=(show ∃t,u=Value.str y t from f);ext q;rwa[kia_one PySem.W.kitx_str I.oi True.intro e (λz=>nomatch z) h]
 | flt y=>let(t,q):=(show ∃t,u=Value.float y t from f);ext q;rwa[kia_one PySem.W.kitx_float I.oi True.intro e (λz=>nomatch z) h]
 | @lst a L d =>
  cases (show u=Value.ref a from f);let(_,_,n,_,g):=(show ZM X.prog X.w H s.heap a (.lst L) from I.og a _ d);rwa[kia_one kitx_list I.oi (_,g,S) e (λz=>nomatch z) h]
 | @frz a i L d =>
  cases (show u=Value.ref a from f);let(_,_,_,n,_,g):=(show ZM X.prog X.w H s.heap a (.frz i (.lst L)) from I.og a _ d);rwa[kia_one kitx_list I.oi (_,g,S) e (λz=>nomatch z) h]
 | @tup a L d =>
  cases (show u=Value.ref a from f);let(_,_,_,p):=(show ZM X.prog X.w H s.heap a (.tup L) from I.og a _ d);let(o,g,i,_):=p;rwa[kia_one PySem.W.kitx_tuple I.oi (o,g,i) e (λz=>nomatch z) h]
 | @dK a U d =>
  cases (show u=Value.ref a from f);let(_,_,j,_,p):=(show ZM X.prog X.w H s.heap a (.dK U) from I.og a _ d);let(o,k,j,g,i,_):=p;rwa[kia_one kitx_dict I.oi (o,g,i.1) e (λz=>nomatch z) h]
 | @dT a U d =>
  cases (show u=Value.ref a from f);let(_,_,L,_,o,k,j,g,i,_):=(show ZM X.prog X.w H s.heap a (.dT U) from I.og a _ d);rwa[kia_one kitx_dict I.oi (o,g,i.1) e (λz=>nomatch z) h]
 | @ins a C m n d i j l g k =>
  cases (show u=Value.ref a from f);let(a,O,_):=CY I.og d;let(od,J,_):=O.look;rwa[kia_one (PySem.W.kitx_own (i.get _) i.hd j l g k) I.oi J e (λz=>nomatch z) h]
end
structure ZO (k:Nat) (A:jS):Prop where
 hd:A.handled=_n
 dp:A.depth+3 * k+5<recursionLimit
 un:A.units+16 * k+200<cLine
theorem ZO.mono(r:ZO k A)(h:j<=k):ZO j A:=(r.hd,by have:=r.dp;lia,by have:=r.un;lia)
theorem ZO.deeper(r:ZO (k+1) A)(env:Env):ZO k (A.deeper env) :=
 (r.hd,by have:=r.dp;show A.depth+1+3 * k+5<_;lia,by have:=r.un;show A.units+3+16 * k+200<_;lia)
def Rn{A:jS}{C:jP}{us:jK}{kw:List (Str×jO)}:(A.under (.builtin "type.__call__" (.ref C::us,kw))).depth=A.depth+1:=by
 first | rfl | simp[Around.under,Code.weight,Code.isCreation,Code.isGuard,Code.isCaller,Code.frames,Code.isFrame,guardIds]
def XB{A:jS}{C:jP}{us:jK}{kw:List (Str×jO)}:(A.under (.builtin "type.__call__" (.ref C::us,kw))).units=A.units+1:=by
 first | rfl | simp[Around.under,Code.cUnits,Code.frames,Code.isFrame]
theorem ZO.make(r:ZO (k+1) A)(C:jP)(us:jK)(kw:List (Str×jO)):ZO k (A.under (.builtin "type.__call__" (.ref C::us,kw))) :=
 (r.hd,by have:=r.dp;rw[Rn];lia,by have:=r.un;rw[XB];lia)
def ZO.depth(r:ZO k A):A.depth<recursionLimit:=by have:=r.dp;lia
def ZO.units(r:ZO k A):A.units+64<cLine:=by have:=r.un;lia
def ZO.units0(r:ZO k A):A.units<cLine:=by have:=r.un;lia
def Vu:TA:=λ_ H Q=>Q [] H
def Uq(a:TE)(b:TA):TA:=λY H Q=>a Y H λx a=>b Y a λL a=>Q (x::L) a
section
variable{t:TA}
def RE(t:TA):TE:=λY H Q=>t Y H λL a=>L.9<=_z/\∀p,a p=_n->Q (.ref p) (upd a p (.tup L))
def NY(t:TA):TE:=λY H Q=>t Y H λL a=>L.9<=_z/\∀p,a p=_n->Q (.ref p) (upd a p (.lst L))
end
abbrev Sp:=List V->Hp->VK->XK->Prop
abbrev UO:=List Env->Hp->jN->XK->jO->jN->Prop
structure UE (P:jQ) (w:jR) (K:uFg) (mg:jI) (base:Heap) (A:jS) (outer:List Env) (s:jN) (H:Hp):Prop where
 frames:A.frames=_s outer
 mod:Mod K mg base
 bs:∀b o,base.get? b=_s o->s.heap.get? b=_s o/\H b=_n
 ib:base.7<=s.8
 o7:s.heap.FunFrames base outer
 iz:∀b∈frs outer,H b=_n
 og:YW P w H s.heap
 bare:AllBare s.gens
def CE(outer:List Env)(P:jQ)(w:jR)(H:Hp)(s:jN)(Q:VK)(u:jO)(a:jN):Prop :=
 ∃v J,a.os=s.os/\AllBare a.gens/\Un (frs outer) [] H J s.heap a.heap/\YW P w J a.heap/\ZH v u/\Q v J
def CR(CX:UO)(outer:List Env)(P:jQ)(w:jR)(H:Hp)(s:jN)(Q:VK)(E:XK)(r:Result)(a:jN):Prop :=
 match r with
 | .ok (.ret u)=>CE outer P w H s Q u a
 | .ok _=>False
 | .error e=>CX outer H s E e a
structure YG (P:jQ) (w:jR) (K:uFg) (mg:jI) (base:Heap) (CX:UO) (k:Nat) (f:jP) (fd:FuncData) (ps:jJ) (sp:Sp):Prop where
 len:∀vs H Q E,sp vs H Q E->vs.9=ps.9
 run:∀(A:jS)(outer:List Env)(s:jN)(H:Hp)(args:Args)(us:jK)(vs:aG)(Q:VK)(E:XK),ZO k A->UE P w K mg base A outer s H->BindsTo s fd args (ps.zip us)->ZJ vs us->sp vs H Q E ->
  codeAny (_m P w) A (.call (.ref f) args) (CR CX outer P w H s Q E) s
theorem YG.mono{P:jQ}{w:jR}{K:uFg}{mg:jI}{Z:Heap}{CX:UO}{j k:Nat}{f:jP}{a:FuncData}{b:jJ}{sp:Sp}(F:YG P w K mg Z CX j f a b sp)(h:j<=k) :
  YG P w K mg Z CX k f a b sp:=(F.len,λA a s H b d e Q E c=>F.run A a s H b d e Q E (c.mono h))
theorem YG.imp{P:jQ}{w:jR}{K:uFg}{mg:jI}{Z:Heap}{CX:UO}{k:Nat}{f:jP}{b:FuncData}{c:jJ}{sp a:Sp}(F:YG P w K mg Z CX k f b c sp)(h:∀vs H Q E,a vs H Q E->sp vs H Q E):YG P w K mg Z CX k f b c a :=
 (λvs H Q E q=>F.len vs H Q E (h _ _ _ _ q),λA a s H b j vs Q E e d c i g=>F.run A a s H b j vs Q E e d c i (h _ _ _ _ g))
theorem UE.make{P:jQ}{w:jR}{K:uFg}{mg:jI}{Z:Heap}{A:jS}{outer:List Env}{s:jN}{H:Hp}(e:UE P w K mg Z A outer s H)(C:jP)(us:jK)(kw:List (Str×jO)) :
  UE P w K mg Z (A.under (.builtin "type.__call__" (.ref C::us,kw))) outer s H:=(by first | rwa[e.frames]| (simpa [Around.under,Code.envs,Code.isFrame,pushEnvs] using e.frames),e.mod,e.bs,e.ib,e.o7,e.iz,e.og,e.bare)
section
variable{X:Cx}{B:List (jP×Obj)}{Y:St}{H:Hp}{s s':jN}
theorem ZE.env0(I:ZE X B Y H s):UE X.prog X.w X.K X.mg X.base X.A X.stack s H :=
 (I.ok.frames,I.ok.mod,I.bs,xX I.ok.ib I.sz,I.stack,I.oU,I.og,I.bare)
def ZE.after{Q:VK}{u:jO}(I:ZE X B Y H s)(h:CE X.stack X.prog X.w H s Q u s'):EP X B Y Q u s':=by
 let(v,J,os,a,f,b,r,q):=h;let(e,g,d,t,c):=s';obtain rfl:c=s.os:=os;rwa[v,J,I.call (h':=e) (g':=g) (d':=d) (t':=t) (ch:=[]) f b a (λb z=>_a z (by simp)),r,q]
end
def E9(sp:Sp)(a:aG)(E:XK)(t:TA):TE:=λY H Q=>t Y H λc b=>sp (c++a) b Q E
inductive Bi(C:jP)(m:Str)(sp:Sp)(b:aG)(E:XK)(t:TA)(Y:St)(Q:VK)(x:V)(c:Hp):Prop
 |mk(a dx fs)(_:x=.ref a)(_:c a=_s (.ins C dx fs))(_:fs.lookup m=_n)(_:t Y c λd c=>sp (x::(d++b)) c Q E)
def Ew(C:jP)(m:Str)(sp:Sp)(a:aG)(E:XK)(b:TE)(t:TA):TE:=λY H Q=>b Y H λx b=>Bi C m sp a E t Y Q x b
def Mb(C:jP)(sp:Sp)(c:aG)(E:XK)(t:TA):TE:=λY H Q=>t Y H λd b=>∀x a,b x=_n->b a=_n->a≠x ->
 sp (.ref x::(d++c)) (upd (upd b a (.own x)) x (.ins C a [])) (λv a=>v=.non/\Q (.ref x) a) E
def YR(K:uFg)(c:FuncData)(b:jJ)(F:jK):Prop :=
 ∀s a,K.In s.heap->(a++F).9=b.9->BindsTo s c (a,[]) (b.zip (a++F))
theorem YR.all{K:uFg}{b:FuncData}{a:jJ}(h:∀us:List jO,us.9=a.9->bindArgs b (us,[])=pure (a.zip us)):YR K b a []:=λs us _ a=>by
 rw[yC] at a |-;rwa[.of_eq (h us a)]
def AS(CX:UO)(X:Cx)(E:XK):Prop:=∀(B:List (jP×Obj))(Y:St)(H:Hp)(s:jN)(e:jO)(a:jN),ZE X B Y H s->CX X.stack H s E e a->X.xe e a
section
variable{X:Cx}{CX:UO}{k:Nat}{f C:jP}{fd:FuncData}{ps:jJ}{sp:Sp}{dvs:aG}{F:jK}{E:XK}{x m:Str}{p pos apos:Pos}{e o:Expr}{es:List Expr}{ta:TE}{t:TA}
def FI{B:List (jP×Obj)}{Y:St}{H:Hp}{s:jN}{Q:VK}{us:jK}{vs:aG}(a:YG X.prog X.w X.K X.mg X.base CX k f fd ps sp)(g:ZO k X.A)(c:YR X.K fd ps F)(d:ZJ dvs F)(i:AS CX X E)(I:ZE X B Y H s)(r:ZJ vs us)(h:sp (vs++dvs) H Q E):_w (_m X.prog X.w) X.A (call (.ref f) us) (EP X B Y Q) X.xe s:=by
 let b:ZJ (vs++dvs) (us++F):=r.append d;let d:(us++F).9=ps.9:=by rw[<- b.9];rwa[a.len _ _ _ _ h]
 erw[wpAny_call (codeAny_mono (a.run X.A X.stack s H (us,[]) (us++F) (vs++dvs) Q E g I.env0 (c s us I.oi d) b h) λr b a=>?_)];cases r with
 | error e=>rwa[i B Y H s e b I a]
 | ok b =>
  cases b with
  | ret u=>rwa[I.after a]
  | next=>rwa[False.elim a]
  | brk=>rwa[False.elim a]
  | cont=>rwa[False.elim a]
abbrev sEq(X:Cx)(e:Expr)(es:List Expr):Prop:=_e (e::es) X.env=(_x,eval e X.env)::_e es X.env
abbrev sFq(X:Cx)(pos:Pos)(es:List Expr):Prop:=(backTo pos (_e es X.env)).any (·.1)=_x
def Xr(a:YG X.prog X.w X.K X.mg X.base CX k f fd ps sp)(u:ZO k X.A)(l:Gl X x)(r:X.mg x=_s (.ref f))(n:keepIn X.K (.ref f)=_t)(g:YR X.K fd ps F)(i:ZJ dvs F)(v:AS CX X E)(d:PA X (e::es) t)(b:autoParam ((x==("__debug__":Str))=false) y3z)(j:autoParam (sEq X e es) y1z)(c:autoParam (sFq X pos es) y1z) :
  PE X (.Call (.Name x p) (e::es) [] pos) (E9 sp dvs E t):=by
 intro B s Y H Q I h;erw[wpAny_Call_Name_kw (BM I l r ?_ b)];erw[callWith_K (h₀:=X.base) I.ok.mod.kin n (thn (d pos B s Y H _ I h) λl h ⟨n,d,b,r,q⟩=>(b.oi,?_)) j c];rwa[FI a u g i v b r q]
def dQ{pl:Sem Bool}(j:PE X o ta)(c:UM X.K C)(i:Tv X.K C m f)(b:YG X.prog X.w X.K X.mg X.base CX k f fd ps sp)(z:ZO k X.A)(w:YR X.K fd ps F)(y:ZJ dvs F)(G:AS CX X E)(v:PA X (e::es) t)(g:autoParam (sEq X e es) y1z)(d:autoParam (sFq X pos es) y1z)(A:autoParam (eval (.Call (.Attribute o m apos) (e::es) [] pos) X.env=(do
   let a <- eval o X.env
   standAt apos.atName
   let (f,first) <- holding [a] (getMethod a m pl)
   callWith pos f first (backTo pos (_e (e::es) X.env)) (backToKw pos (keywordEach [] X.env)))) y1z) :
  PE X (.Call (.Attribute o m apos) (e::es) [] pos) (Ew C m sp dvs E ta t):=by
 intro B s Y H Q I h;erw[methodCall_KW (pl:=pl) (thn (j B s Y H _ I h) λu H ⟨x,j,h,s,a,J,K,r,n,l,q⟩=>?_) A];subst r;obtain rfl:u=Value.ref a:=s;erw[Es h n c i l ?_];erw[callWith_K (first:=[.ref a]) (h₀:=X.base) I.ok.mod.kin i.kp (thn (v pos B H Y j _ h q) λj s ⟨l,n,h,r,i⟩=>(h.oi,?_)) g d];rwa[FI (us:=.ref a::j) (vs:=.ref a::l) b z w y G h (.cons S r) i]
def Xg(d:PE X o ta)(c:UM X.K C)(g:Tv X.K C m f)(b:YG X.prog X.w X.K X.mg X.base CX k f fd ps sp)(r:ZO k X.A)(j:YR X.K fd ps F)(n:ZJ dvs F)(w:AS CX X E)(v:autoParam (eval (.Call (.Attribute o m apos) [] [] pos) X.env=(do
   let a <- eval o X.env
   standAt apos.atName
   let (f,first) <- holding [a] (getMethod a m pl)
   callWith pos f first (backTo pos (_e [] X.env)) (backToKw pos (keywordEach [] X.env)))) y1z) :
  PE X (.Call (.Attribute o m apos) [] [] pos) (Ew C m sp dvs E ta Vu):=by
 intro B s Y H Q I h;erw[methodCall_KW (pl:=pl) (thn (d B s Y H _ I h) λu B ⟨x,y,d,s,a,z,A,i,h,l,q⟩=>?_) v];subst i;obtain rfl:u=Value.ref a:=s;erw[Es d h c g l ?_];rwa[callWith_K0 (first:=[.ref a]) d.oi g.kp (FI (us:=[.ref a]) (vs:=[.ref a]) b r j n w d (.cons S .nil) q)]
structure Mk (K:uFg) (C f:jP):Prop where
 makes:makesIn K C=_t
 init:PySem.W.findIn K (.ref C) "__init__"=_s (_s (.ref f))
 fn:isFn K (.ref f)=_t
 kp:keepIn K (.ref C)=_t
def Pc{B:List (jP×Obj)}{Y:St}{H:Hp}{s:jN}{Q:VK}{us:jK}{vs:aG}(M:Mk X.K C f)(a:YG X.prog X.w X.K X.mg X.base CX k f fd ps sp)(j:ZO (k+1) X.A)(g:YR X.K fd ps F)(i:ZJ dvs F)(l:AS CX X E)(I:ZE X B Y H s)(r:ZJ vs us)(h:∀x b,H x=_n->H b=_n->b≠x->sp (.ref x::(vs++dvs)) (upd (upd H b (.own x)) x (.ins C b [])) (λv c=>v=.non/\Q (.ref x) c) E) :
  _w (_m X.prog X.w) X.A (call (.ref C) us) (EP X B Y Q) X.xe s:=by
 let c:=h (s.8+1) s.heap.objs.size (I.og.fresh (zV _)) (I.og.fresh (xE _)) (yG (mh _));let b:=ZE.made (C:=C) I;let d:ZJ (V.ref (s.8+1)::(vs++dvs)) (Value.ref (s.8+1)::(us++F)):=.cons S (r.append i);let i:(Value.ref (s.8+1)::us++F).9=ps.9:=by
  let e:=d.9;rw[a.len _ _ _ _ c] at e;rwa[e.6]
 erw[wpAny_call (cS (f:=f) I.oi M.makes M.init (beq_iff_eq.mp M.fn) (codeAny_mono (a.run _ X.stack _ _ (Value.ref (s.8+1)::us,[]) (Value.ref (s.8+1)::(us++F)) _ _ E (j.make C us []) (b.env0.make C us []) (g _ (Value.ref (s.8+1)::us) b.oi i) d c) λr c a=>?_))];cases r with
 | error e=>rwa[l B Y _ _ e c b a]
 | ok c =>
  cases c with
  | ret u =>
   let(v,J,c,i,d,g):=b.after a;subst d;rwa[i,(V.ref (s.8+1),J,c,S,g)]
  | next=>rwa[False.elim a]
  | brk=>rwa[False.elim a]
  | cont=>rwa[False.elim a]
def gI(M:Mk X.K C f)(a:YG X.prog X.w X.K X.mg X.base CX k f fd ps sp)(j:ZO (k+1) X.A)(g:Gl X x)(i:X.mg x=_s (.ref C))(c:YR X.K fd ps F)(d:ZJ dvs F)(l:AS CX X E)(b:autoParam ((x==("__debug__":Str))=false) y3z):PE X (.Call (.Name x p) [] [] pos) (Mb C sp dvs E Vu):=by
 intro B s Y H Q I h;erw[wpAny_Call_Name_kw (BM I g i ?_ b)];rwa[callWith_K0 I.oi M.kp (Pc (us:=[]) M a j c d l I .nil h)]
end
section
variable{X:Cx}{CX:UO}{k:Nat}{f:jP}{fd:FuncData}{ps ks:jJ}{sp:Sp}{E:XK}{x:Str}{p pos:Pos}{e:Expr}{es:List Expr}{kws:List Keyword}{t tk:TA}
variable{g:List jO->List jO->List jO}{gV:List V->List V->List V}
end
structure ZP (N P:jJ) (sc:Scope):Prop where
 kind:sc.kind=.function
 co:sc.isCoroutine=_x
 gen:sc.isGenerator=_x
 nd:N.Nodup
 pre:N.take P.9=P
 par:∀x∈P,sc.names.lookup x=_s .local\/sc.names.lookup x=_s .cell
 nofree:∀y∈sc.names,y.2 ≠ .free
theorem Ht{kindOf:Str->Option NameKind}{x:Str}:∀{a:List (Str×jO)}{m:jI},(∀v,(x,v)∉a)->bindL kindOf a m x=m x
 | [],_,_=>rfl
 | (n,v)::r,m,h=>by
  unfold bindL;rw[Ht λw a=>h w (xM _ a)];split
  .grind
  .rfl
theorem Hl{kindOf:Str->Option NameKind}{x:Str}:∀{a:List (Str×jO)}{m:jI},(∀v,(x,v)∉a)->bindC kindOf a m x=m x
 | [],_,_=>rfl
 | (n,v)::r,m,h=>by
  unfold bindC;rw[Hl λw a=>h w (xM _ a)];split
  .rfl
  .grind
theorem LX{kindOf:Str->Option NameKind}{x:Str}{v:jO}:∀{P:jJ}{vs:jK}{i:Nat}{m:jI},P.Nodup->P[i]?=_s x->vs[i]?=_s v->kindOf x=_s .local ->
  bindL kindOf (P.zip vs) m x=_s v
 | [],_,_,_,_,h,_,_=>by simp at h
 | _::_,[],_,_,_,_,h,_=>by simp at h
 | p::P,w::vs,0,m,nd,h1,h2,hk=>by
  simp at h1 h2;subst h1;subst h2;show bindL kindOf ((p,w)::P.zip vs) m p=_;unfold bindL;rw[Ht λv a=>(yK.mp nd).1 (zE a).1,_j hk];simp
 | p::P,w::vs,i+1,m,nd,h1,h2,hk=>by
  show bindL kindOf ((p,w)::P.zip vs) m x=_;unfold bindL;rwa[LX (i:=i) (yK.mp nd).2 (by simpa using h1) (by simpa using h2) hk]
theorem Ld{kindOf:Str->Option NameKind}{x:Str}{v:jO}:∀{P:jJ}{vs:jK}{i:Nat}{m:jI},P.Nodup->P[i]?=_s x->vs[i]?=_s v->kindOf x≠_s .local ->
  bindC kindOf (P.zip vs) m x=_s v
 | [],_,_,_,_,h,_,_=>by simp at h
 | _::_,[],_,_,_,_,h,_=>by simp at h
 | p::P,w::vs,0,m,nd,h1,h2,hk=>by
  simp at h1 h2;subst h1;subst h2;show bindC kindOf ((p,w)::P.zip vs) m p=_;unfold bindC;rw[Hl λv a=>(yK.mp nd).1 (zE a).1,_i hk];simp
 | p::P,w::vs,i+1,m,nd,h1,h2,hk=>by
  show bindC kindOf ((p,w)::P.zip vs) m x=_;unfold bindC;rwa[Ld (i:=i) (yK.mp nd).2 (by simpa using h1) (by simpa using h2) hk]
def start(N:jJ)(vs:aG):St:=vs.map _s++List.replicate (N.9 - vs.9) _n
def Y9(CX:UO)(P:jQ)(w:jR)(K:uFg)(mg:jI)(Z:Heap)(N:jJ)(qual:Str)(a:Scope)(f:jP)(b:jO)(A:jS)(outer:List Env)(s:jN)(H:Hp)(E:XK):Cx where
 prog:=P
 w:=w
 K:=K
 mg:=mg
 base:=Z
 A:=A.deeper (envOfC qual a s.heap.objs.size f b)
 N:=N
 s₀:=s
 H₀:=H
 env:=envOfC qual a s.heap.objs.size f b
 outer:=outer
 stack:=envOfC qual a s.heap.objs.size f b::outer
 ex:=[]
 calm:=_t
 fn:=λ_=>_t
 pn:=[]
 xe:=λe c=>_w (_m P w) (A.deeper (envOfC qual a s.heap.objs.size f b)) (leaving (envOfC qual a s.heap.objs.size f b) e) (λ_ a=>CX outer H s E e a) (λb a=>CX outer H s E b a) c
def MT{a:Scope}{n:Nat}{x:Str}(h:a.names.lookup x=_s .cell):∃c,(cellsFrom n a.names []).lookup x=_s c:=by
 let q:=cellsFrom_some a.names n [] (.inl h);rwa[Option.isSome_iff_exists.mp q]
def HB{CX:UO}{P:jQ}{w:jR}{K:uFg}{mg:jI}{Z:Heap}{N j:jJ}{qual:Str}{d:Scope}{f:jP}{a:jO}{A:jS}{outer:List Env}{s b:jN}{H:Hp}{E:XK}{us:jK}{vs:aG}(S:ZP N j d)(i:A.handled=_n)(e0:UE P w K mg Z A outer s H)(c:vs.9=j.9)(r:ZJ vs us)(x:InCallC s s.heap.objs.size (bindL (envOfC qual d s.heap.objs.size f a).kindOf (j.zip us) λ_=>_n) (cellsFrom (s.8+1) d.names []) (bindC (envOfC qual d s.heap.objs.size f a).kindOf (j.zip us) λ_=>_n) b) :
  ZE (Y9 CX P w K mg Z N qual d f a A outer s H E) [] (start N vs) H b:=by
 let b:j.9<=N.9:=by have:=congrArg List.length S.pre;rw[xY] at this;lia
 let(k,b,rfl,l):=x.done;let e:∀b:jP,b∉(Y9 CX P w K mg Z N qual d f a A outer s H E).ex:=λb z=>_a (show b∈([]:jM) from z) (by simp);erw[(e0.mod,S.kind,rfl,rfl,xE _,λy z c k g=>?_,λy a=>?_,λy c _ h=>?_,λ_=>i,Around.frames_deeper e0.frames,.inr (rfl,rfl),λb z=>_a z (e b),e0.bs,e0.ib,λb _ _=>e b,λb z=>_a z (e b),e0.o7,e0.iz), rfl,e0.bare,Un.kept l,(_,x.toInCall.ns,λi y v k g b=>?_),λy c h=>(_,x.cell y c h),e0.og.fresh (xE _),λy c h=>?_,λp b=>_a (show p∈([]:List (jP×Obj)) from b) (by simp),e0.og.kept l,?_]
 .rwa[name_of_addr x.apart (mem_of_lookup k) (mem_of_lookup g)]
 .let a:d.names.lookup y=_s .cell\/d.names.lookup y=_s .free:=a;rcases a with a | a
  .rwa[MT a]
  .rwa[_a rfl (S.nofree _ (mem_of_lookup a))]
 .rwa[yS (x.above y c (mem_of_lookup h))]
 .let e:i<vs.9:=by
   unfold start at g
   by_cases e:i<vs.9
   .rwa[e]
   .grind
  let l:vs[i]?=_s v:=by
   unfold start at g;rw[wF (by simpa using e),xF] at g;cases e:vs[i]? with
   | none=>rw[e] at g;ext g
   | some a=>rw[e] at g;ext g;rfl
  let(u,g,m):=r.get l;let b:j[i]?=_s y:=by
   rw[<- S.pre,List.getElem?_take_of_lt ()];rwa[k]
  let a:j.Nodup:=by rw[<- S.pre];rwa[S.nd.sublist (List.take_sublist _ _)]
  erw[u,m,?_];rcases S.par y (xN b) with k | k
  .rwa[.inl (k,LX a b g k)]
  .let(c,e):=MT (n:=s.8+1) k;erw[.inr (.inl k,c,e,?_)];let q:=x.cell y c e;rw[Ld a b g (by show d.names.lookup y≠_;rw[k];decide)] at q;rwa[q]
 .rwa[e0.og.fresh (yS (x.above y c (mem_of_lookup h)))]
 .unfold start;show _=N.9;rw[xG,xA,zZ];lia
def Ko{CX:UO}{P:jQ}{w:jR}{K:uFg}{mg:jI}{Z:Heap}{k:Nat}{f:jP}{name qual:Str}{b:Arguments}{c:List Stmt}{a:Scope}{i kV doc pm cdv ct oc:jO}{an od:Option jP}{osl:Array (Option jO)}{N g:jJ}{sp:Sp}(u:K.lookup f=_s (oc,od,.func (fnOf name qual b c a i kV doc pm an cdv ct),osl))(h:codeIn K cdv qual=_t)(S:ZP N g a)(e:∀vs H Q E,sp vs H Q E->vs.9=g.9)(d:∀A outer s H vs Q E,ZO k (A.deeper (envOfC qual a s.heap.objs.size f cdv))->sp vs H Q E -> ∃t,Ba (Y9 CX P w K mg Z N qual a f cdv A outer s H E) c t/\t {nx:=λ_ J=>Q .non J,rt:=Q } (start N vs) H) :
  YG P w K mg Z CX (k+1) f (fnOf name qual b c a i kV doc pm an cdv ct) g sp:=by
 erw[e,λA outer s H b n vs Q E i e0 m r c=>?_];let p:=e _ _ _ _ c;let l:K.In s.heap:=e0.mod.kin.keeps λb o e=>(e0.bs b o e).1;let j:s.heap.NoLimit:=e0.mod.nolimit.keeps λb o e=>(e0.bs b o e).1;let b:∀y∈g.zip n,a.names.lookup y.1=_s .local\/(a.names.lookup y.1=_s .cell/\((cellsFrom (s.8+1) a.names []).lookup y.1).isSome=_t):=λ⟨n,v⟩ g=>by
  rcases S.par n (zE g).1 with q | q
  .rwa[.inl q]
  .rwa[.inr (q,cellsFrom_some _ _ _ (.inl q))]
 erw[codeAny_call_function i.depth (l _ _ u) rfl S.co S.gen rfl (codeRec_of l h) (m _ _ _ _ ?_)];erw[wpAny_newFunctionEnv_cells S.kind b λg h b x=>?_];subst h;erw[j.keeps x.toInCall.keep,codeAny_func ?_];let(t,h,g):=d A outer s H vs Q E (i.deeper _) c;let I:ZE (Y9 CX P w K mg Z N qual a f cdv A outer s H E) [] (start N vs) H b:=HB S i.hd e0 p r x;erw[wpAny_mono (h [] b (start N vs) H _ I g) (λh g c=>?_) λe g c=>c];let d:∀{b:St}{J:Hp}{v:V}{u:jO},ZE (Y9 CX P w K mg Z N qual a f cdv A outer s H E) [] b J g->ZH v u->Q v J->CE outer P w H s Q u g :=
  λ{b J v u} a e q=>(v,J,a.os,a.bare,a.base,a.og,e,q)
 cases h with
 | ret u =>
  let(v,b,J,a,e,q):=c;rwa[d a e q]
 | next =>
  let(b,J,a,q):=c;rwa[d (v:=V.non) (u:=Value.none) a rfl q]
 | brk =>
  let(_,_,_,q):=c;rwa[False.elim q]
 | cont =>
  let(_,_,_,q):=c;rwa[False.elim q]
section
variable{X:Cx}{x:Str}{p pos:Pos}{e:Expr}{es:List Expr}{t:TA}{id:String}{r:List V->Hp->VK->Prop}
def B7(r:List V->Hp->VK->Prop)(t:TA):TE:=λY H Q=>t Y H λb a=>r b a Q
def SL(d:JE X (.builtin id) r)(g:Gl X x)(i:X.mg x=_n)(k:_o x=_s (.builtin id))(c:PA X (e::es) t)(j:x ≠ "__name__" := by decide)(a:autoParam ((x==("__debug__":Str))=false) y3z)(f:autoParam (sEq X e es) y1z)(b:autoParam (sFq X pos es) y1z):PE X (.Call (.Name x p) (e::es) [] pos) (B7 r t):=by
 intro B s Y H Q I h;erw[wpAny_Call_Name_kw (Uo I g i k ?_ j a)];rwa[callWith_builtin1 (thn (c pos B s Y H _ I h) λj i ⟨k,a,c,h,g⟩=>d B i Y a k j Q c h g) f b]
def iD(d:JE X (.type T) r)(g:Gl X x)(i:X.mg x=_n)(k:_o x=_s (.type T))(c:PA X (e::es) t)(j:x ≠ "__name__" := by decide)(a:autoParam ((x==("__debug__":Str))=false) y3z)(f:autoParam (sEq X e es) y1z)(b:autoParam (sFq X pos es) y1z):PE X (.Call (.Name x p) (e::es) [] pos) (B7 r t):=by
 intro B s Y H Q I h;erw[wpAny_Call_Name_kw (Uo I g i k ?_ j a)];rwa[callWith_type1 (thn (c pos B s Y H _ I h) λj i ⟨k,a,c,h,g⟩=>d B i Y a k j Q c h g) f b]
end
end L2
namespace HT
open PySem PyProof.Rows
section
open PySem.SeqAt
open PySem.AutoSeq1 (wpAny_loadPart')
open PySem.MeetsSeq PySem.MeetsSeq2 PySem.MeetsSeq3
end
def sIx(n d:Nat):Option Int->Nat
 | none=>d
 | some v=>if v<0 then (v+(n:Int)).toNat else min v.toNat n
theorem sIx_none(n d:Nat):sIx n d _n=d:=rfl
def sIx_nat(n d k:Nat):sIx n d (_s (k:Int))=min k n:=by
 show (if (k:Int)<0 then ((k:Int)+(n:Int)).toNat else min (k:Int).toNat n)=min k n;rw[_i (),yI]
end HT
namespace L2
open PySem PySem.Spec PyProof.Rows
abbrev TO:=St->Hp->(Option Int->Hp->Prop)->Prop
def PO(X:Cx)(e:Option Expr)(t:TO):Prop :=
 ∀(B:List (jP×Obj))(s:jN)(Y:St)(H:Hp)(Q:Option Int->Hp->Prop),ZE X B Y H s->t Y H Q ->
  _w (_m X.prog X.w) X.A (evalPart e X.env) (λu a=>∃o J,ZE X B Y J a/\IsPart u o/\Q o J) X.xe s
def OH:TO:=λ_ H Q=>Q _n H
inductive Bp(Q:Option Int->Hp->Prop)(x:V)(a:Hp):Prop
 |mk(i)(_:x=.int i)(_:Q (_s i) a)
def eA(t:TE):TO:=λY H Q=>t Y H λx a=>Bp Q x a
section
variable{X:Cx}{te:TE}{lo hi:Option Expr}{tl th:TO}
def GP(X:Cx)(r:V->Option Int->Option Int->Hp->VK->Prop):Prop :=
 ∀(B:List (jP×Obj))(s:jN)(Y:St)(H:Hp)(x:V)(v b c:jO)(lo hi:Option Int)(a:jP)(Q:VK),ZE X B Y H s->ZH x v->s.heap.IsSliceOf a b c .none->IsPart b lo->IsPart c hi->r x lo hi H Q ->
  ∃T id,typeLookup (.type T) "__getitem__"=pure (_s (.builtin id))/\s.TypeIs v T/\_w (_m X.prog X.w) X.A (getItem v (.ref a)) (EP X B Y Q) X.xe s
def fG(r:V->Option Int->Option Int->Hp->VK->Prop)(te:TE)(tl th:TO):TE:=λY H Q=>te Y H λx a=>tl Y a λl a=>th Y a λu a=>r x l u a Q
def Uw(L:aG)(lo hi:Option Int):List V:=(L.drop (HT.sIx L.length 0 lo)).take (HT.sIx L.length L.length hi - HT.sIx L.length 0 lo)
def gX(L:aG)(lo hi:Option Int):(Uw L lo hi).9<=L.9:=by
 unfold Uw;rw[xY,wI];lia
end
def ixN(n:Nat)(i:Int):Option Nat:=if 0<=i then (if i<n then _s i.toNat else _n) else if -(n:Int)<=i then _s (i+n).toNat else _n
def atI{a:Type}(L:List a)(i:Int):Option a:=(ixN L.length i).bind λj=>L[j]?
def HL(h:ixN n i=_s j):seqIndex? i n=_s j/\j<n /\ -(n:Int)<=i/\i<n:=by
 unfold ixN at h
 by_cases b:0<=i
 .rw[_j b] at h
  by_cases a:i<n
  .rw[_j a] at h;let e:i.toNat=j:=ma h;rwa[by rw[seqIndex_of b a,e],(),(),a]
  .rw[_i a] at h;ext h
 .rw[_i b] at h
  by_cases a : -(n:Int)<=i
  .rw[_j a] at h;let e:(i+n).toNat=j:=ma h;rwa[by rw[seqIndex_neg () a,e],(),a,()]
  .rw[_i a] at h;ext h
def Gs{a:Type}{L:List a}{v:a}(h:atI L i=_s v):∃j,seqIndex? i L.9=_s j/\L[j]?=_s v/\j<L.9 /\ -(L.9:Int)<=i/\i<L.9:=by
 unfold atI at h;cases e:ixN L.length i with
 | none=>rw[e] at h;ext h
 | some j =>
  rw[e] at h;let(a,b,c,d):=HL e;rwa[j,a,h,b,c,d]
def Yy{a:Type}{L:List a}{j:Nat}{v:a}(h:L[j]?=_s v):atI L (j:Int)=_s v:=by
 let a:j<L.9:=(xH.mp h).1;let e:ixN L.length (j:Int)=_s j:=by
  unfold ixN;rw[_j (),_j ()];simp
 unfold atI;rw[e];rwa[h]
def Ph(b:Expr):Prop:=∀o i,subscripted b _x o i=operate [o,i] (getItem o i)
def Ex(X:Cx)(r:R2):Prop :=
 ∀(b a:Expr)(B:List (jP×Obj))(s:jN)(Y:St)(H:Hp)(x y:V)(v u:jO)(Q:VK),ZE X B Y H s->ZH x v->ZH y u->r x y H Q ->
  subscripted a _x v u=operate [v,u] (getItem v u)->_w (_m X.prog X.w) X.A (subscriptTail b a v u) (EP X B Y Q) X.xe s
def KD(X:Cx)(id:String)(r:V->List V->Hp->VK->Prop):Prop :=
 ∀(B:List (jP×Obj))(s:jN)(Y:St)(H:Hp)(x:V)(L:aG)(v:jO)(a:jK)(Q:VK),ZE X B Y H s->ZH x v->ZJ L a->r x L H Q ->
  _w (_m X.prog X.w) X.A (call (.builtin id) (v::a)) (EP X B Y Q) X.xe s
section
variable{X:Cx}{a b:Expr}
inductive Bw(K:uFg)(x y:V)(H:Hp)(Q:VK):Prop
 |mk(p L i v)(_:x=.ref p)(_:y=.int i)(_:ZG K H p L)(_:atI L i=_s v)(_:Q v H)
inductive Tx(K:uFg)(x y:V)(H:Hp)(Q:VK):Prop
 |mk(p L i v)(_:x=.ref p)(_:y=.int i)(_:ZR K H p L)(_:atI L i=_s v)(_:Q v H)
inductive C5(x y:V)(H:Hp)(Q:VK):Prop
 |mk(z i c)(_:x=.str z)(_:y=.int i)(_:z.9<=_z)(_:atI z.cps.toList i=_s c)(_:Q (.str ⟨#[c]⟩) H)
def Ls:Ex X (Bw X.K):=by
 intro d c B s Y H x y v u Q I f g h l;let(p,L,i,z,S,S,c,e,q):=h;ext f;let(t,S):=g;let(f,r,g,d):=I.list c;let(j,d,c,h,m,n):=Gs e;let(w,h,e):=r.get c;let o:=r.9;let c:=Be;let c:EP X B Y Q w s:=(z,H,I,e,q)
 by_cases k:0<=i
 .let e:i.toNat=j:=by
   rw[seqIndex_of k n] at d;rwa[ma d]
  rwa[item_listR g.isList k () (by rw[e];simpa using h) c l]
 .let e:(i+(f.toArray.5:Int)).toNat=j:=by
   rw[seqIndex_neg () m] at d;rw[xU,<- o];rwa[ma d]
  exact subscriptTail_builtinR (x:=w) g.isList.typeIs slot_list_getitem.lookup
   (wpAny_getItem_list_neg (Q:=λr d=>r=w/\EP X B Y Q r d) g.isList () (by rw[xU]<;>lia) () (by rw[e];simpa using h) (S,c)) l
def KO:Ex X (Tx X.K):=by
 intro d c B s Y H x y v u Q I e f h k;let(p,L,i,z,S,S,c,d,q):=h;ext e;let(t,S):=f;let(f,r,e,g):=I.tuple c;let(j,g,c,f,h,i):=Gs d;let(w,f,d):=r.get c;let h:=r.9;let c:=Be;let c:EP X B Y Q w s:=(z,H,I,d,q);exact subscriptTail_builtinR (x:=w) e.typeIs slot_tuple_getitem.lookup
  (getItem_tuple (j:=j) (Q:=λr d=>r=w/\EP X B Y Q r d) e () () (by rw[xU,<- h];rwa[g]) (by simpa using f) (S,c)) k
def NR:Ex X C5:=by
 intro d c B s Y H x y v u Q I e f h l;let(z,i,c,S,S,d,k,q):=h;let(t,S):=e;let(d,S):=f;let(j,d,g,h,e,f):=Gs k;let h:z.cps.toList.9=z.9:=by simp[Str.length]
 rw[h] at d e f;let e:=Be
 exact tail_any (typeIs_str s z t) slot_str_getitem.lookup (getItem_str (c:=c) (by
  let e:decide (i < -(2^63:Int))=false:=yM ();let f:decide (i>=2^63)=false:=yM ()
  rw[e,f,Bool.or_false]) (by rw[d];simpa using g) (.str ⟨#[c]⟩,H,I.tok _,(_,S),q)) l
def RW(c:jK)(n j:Nat)(u:jO):Obj.mapSeq (·.setIfInBounds j u) {cls:=.type "list", data:=.seq c.toArray n }={cls:=.type "list", data:=.seq (c.set j u).toArray n }:=by
 simp[Obj.mapSeq]
def ZE.lst{B:List (jP×Obj)}{Y:St}{H:Hp}{s:jN}{p:jP}{L:aG}(I:ZE X B Y H s)(h:H p=_s (.lst L)) :
  ∃c n,ZJ L c/\s.heap.get? p=_s {cls:=.type "list", data:=.seq c.toArray n }/\L.9<=sizeLine:=by
 let(z,c,n,r,e):=I.og p _ h;rwa[c,n,r,e,z]
def ZE.lstUpd{B:List (jP×Obj)}{Y:St}{H:Hp}{s:jN}{p:jP}{L ys:aG}{c its':jK}{n d:Nat}{f:Obj->Obj}(I:ZE X B Y H s)(h:H p=_s (.lst L))(i:s.heap.get? p=_s {cls:=.type "list", data:=.seq c.toArray n })(g:f {cls:=.type "list", data:=.seq c.toArray n }={cls:=.type "list", data:=.seq its'.toArray d })(r:ZJ ys its')(hz:ys.9<=_z)(t:Nat) :
  ZE X B Y (upd H p (.lst ys)) {s with heap:=s.heap.update p f,toks:=t }:=by
 let e:(s.heap.update p f).get? p=_s {cls:=.type "list", data:=.seq its'.toArray d }:=by
  rw[wA f i (by rw[g]<;>rfl),g]
 erw[I.write (x:=p) (e:=p) (by rw[h];trivial) (.inl S) (λb u c q=>(zK _ _ (Ne.symm c)).trans q) (_,e) ?_];rwa[hz,its',d,r,e]
inductive CJ(o i v:V)(H:Hp)(Q:Hp->Prop):Prop
 |mk(p L k j)(_:o=.ref p)(_:i=.int k)(_:H p=_s (.lst L))(_:ixN L.length k=_s j)(_:Q (upd H p (.lst (L.set j v))))
def QB(lo c:Option Int)(n:Nat):(sliceBounds lo c _n n).1=((HT.sIx n 0 lo:Nat):Int)/\(sliceBounds lo c _n n).2.1=((HT.sIx n n c:Nat):Int)/\(sliceBounds lo c _n n).2.2=1:=by
 erw[?_,?_,rfl]
 .cases lo with
  | none=>simp[sliceBounds,HT.sIx]
  | some i =>
   simp only[sliceBounds,HT.sIx,Option.getD_none,show (1:Int) > 0 by decide,if_true]
   by_cases h:i<0
   .simp only[h,if_true]<;>lia
   .simp only[h,if_false]<;>lia
 .cases c with
  | none=>simp[sliceBounds,HT.sIx]
  | some i =>
   simp only[sliceBounds,HT.sIx,Option.getD_none,show (1:Int) > 0 by decide,if_true]
   by_cases h:i<0
   .simp only[h,if_true]<;>lia
   .simp only[h,if_false]<;>lia
def Pk(c:jK)(lo d:Option Int):slicePick c.toArray lo d _n=((c.drop (HT.sIx c.length 0 lo)).take (HT.sIx c.length c.length d - HT.sIx c.length 0 lo)).4:=by
 let(e,f,g):=QB lo d c.toArray.5;unfold slicePick;rw[e,f,g];simp only[sliceRange_one,pick_run,xU]<;>rfl
inductive CS(K:uFg)(x:V)(lo c:Option Int)(H:Hp)(Q:VK):Prop
 |mk(a L)(_:x=.ref a)(_:ZG K H a L)(_:∀p,H p=_n->Q (.ref p) (upd H p (.lst (Uw L lo c))))
def NN:GP X (CS X.K):=by
 intro B s Y H x v g k lo d c Q I e f i j h;let(a,L,S,c,q):=h;ext e;let(h,r,e,g):=I.list c;let c:=r.9;erw["list", _,slot_list_getitem.lookup,e.isList.typeIs,?_];erw[wpAny_getItem_list_slice e.isList f i j .none (by simp) ?_ (by rw[xU]<;>lia)];rw[Pk,<- c];erw[.ref s.8,_,I.laid (t':=s.toks) (o:=.lst (Uw L lo d)) (λb c q=>xB _ q) (xE _) ?_,S,q _ (I.og.fresh (xE _))];rwa[xX (gX L lo d) g,_,0,(r.drop (HT.sIx L.length 0 lo)).take (HT.sIx L.length L.length d - HT.sIx L.length 0 lo),xI _ S]
def JM:V->Bool
 | .non=>_t
 | .bl _=>_t
 | .int _=>_t
 | .str _=>_t
 | _=>_x
def eqV:V->V->Bool
 | .non,.non=>_t
 | .bl a,.bl b=>a==b
 | .bl a,.int b=>(if a then 1 else 0)== b
 | .int a,.bl b=>a==(if b then 1 else 0)
 | .int a,.int b=>a==b
 | .str a,.str b=>a==b
 | _,_=>_x
def Po(f:ZH y u)(c:ZH x v)(g:JM y=_t)(e:JM x=_t):SeqAt.EqAt A s u v (eqV y x):=by
 cases y with
 | non =>
  ext f;cases x with
  | non=>ext c;rwa[SeqAt.EqAt.same _]
  | bl b=>ext c;rwa[SeqAt.EqAt.none_bool b]
  | int b=>let(t,S):=c;rwa[SeqAt.EqAt.none_int b t]
  | str b=>let(t,S):=c;rwa[SeqAt.EqAt.none_str b t]
  | _=>rwa[_a (show _x=_t from e) xJ]
 | bl a =>
  ext f;cases x with
  | non=>ext c;rwa[SeqAt.EqAt.bool_none a]
  | bl b=>ext c;rwa[SeqAt.EqAt.bool_bool a b]
  | int b=>let(t,S):=c;rwa[SeqAt.EqAt.bool_int a b t]
  | str b=>let(t,S):=c;rwa[SeqAt.EqAt.bool_str a b t]
  | _=>rwa[_a (show _x=_t from e) xJ]
 | int a =>
  let(d,S):=f;cases x with
  | non=>ext c;rwa[SeqAt.EqAt.int_none a d]
  | bl b=>ext c;rwa[SeqAt.EqAt.int_bool a d b]
  | int b=>let(t,S):=c;rwa[SeqAt.EqAt.int_int a d b t]
  | str b=>let(t,S):=c;rwa[SeqAt.EqAt.int_str a d b t]
  | _=>rwa[_a (show _x=_t from e) xJ]
 | str a =>
  let(d,S):=f;cases x with
  | non=>ext c;rwa[SeqAt.EqAt.str_none a d]
  | bl b=>ext c;rwa[SeqAt.EqAt.str_bool a d b]
  | int b=>let(t,S):=c;rwa[SeqAt.EqAt.str_int a d b t]
  | str b=>let(t,S):=c;rwa[SeqAt.EqAt.str_str a d b t]
  | _=>rwa[_a (show _x=_t from e) xJ]
 | _=>rwa[_a (show _x=_t from g) xJ]
def eqU(x:V)(u:jO):Bool:=match u with
 | .none=>eqV .non x
 | .bool b=>eqV (.bl b) x
 | .int i _=>eqV (.int i) x
 | .str z _=>eqV (.str z) x
 | _=>_x
def MQ(r:ZH y u)(f:JM y=_t):eqU x u=eqV y x:=by
 cases y with
 | non=>ext r;rfl
 | bl b=>ext r;rfl
 | int i=>let(t,S):=r;rfl
 | str z=>let(t,S):=r;rfl
 | _=>rwa[_a (show _x=_t from f) xJ]
theorem Cg:∀{L:aG}{us:jK},ZJ L us->L.all JM=_t->us.any (eqU x)=L.any λy=>eqV y x
 | _,_,.nil,_=>rfl
 | y::L,u::us,.cons r t,f=>by
  rw[List.all_cons,yR] at f;rw[mi,mi,MQ r f.1,Cg t f.2]
theorem Cj(e:ZH x v)(d:JM x=_t):∀{L:aG}{us:jK},ZJ L us->L.all JM=_t->∀u∈us,SeqAt.EqAt A s u v (eqU x u)
 | _,_,.nil,_=>λu c=>by ext c
 | y::L,u::us,.cons r t,f=>λg c=>by
  rw[List.all_cons,yR] at f;rcases xD.mp c with rfl | c
  .rw[MQ r f.1];rwa[Po r e f.1 d]
  .rwa[Cj e d t f.2 g c]
def inV(x:V)(L:aG):Bool:=L.any λy=>eqV y x
inductive Ea(K:uFg)(c:Bool)(x y:V)(H:Hp)(Q:VK):Prop
 |mk(p L)(_:y=.ref p)(_:(ZG K H p L\/ZR K H p L))(_:JM x=_t)(_:L.all JM=_t)(_:Q (.bl (if c then !inV x L else inV x L)) H)
def Xa:As X (_c .In) (Ea X.K _x):=by
 intro B s Y H x y v u Q I j c h;let(p,L,S,d,i,e,q):=h;ext c;rcases d with d | d
 .let(c,r,g,h):=I.list d;erw[SeqAt.in_listAt (eqU x) g.isList (λw f=>Cj j i r e w (by simpa using f)) (.bl _,H,I,S,?_)];rw[show c.toArray.any (eqU x)=c.any (eqU x) by simp,Cg r e];rwa[q]
 .let(c,r,g,h):=I.tuple d;erw[SeqAt.in_tupleAt (eqU x) g (λw f=>Cj j i r e w (by simpa using f)) (.bl _,H,I,S,?_)];rw[show c.toArray.any (eqU x)=c.any (eqU x) by simp,Cg r e];rwa[q]
def hJ:As X (_c .NotIn) (Ea X.K _t):=by
 intro B s Y H x y v u Q I j c h;let(p,L,S,d,i,e,q):=h;ext c;rcases d with d | d
 .let(c,r,g,h):=I.list d;erw[SeqAt.notIn_listAt (eqU x) g.isList (λw f=>Cj j i r e w (by simpa using f)) (.bl _,H,I,S,?_)];rw[show c.toArray.any (eqU x)=c.any (eqU x) by simp,Cg r e];rwa[q]
 .let(c,r,g,h):=I.tuple d;erw[SeqAt.notIn_tupleAt (eqU x) g (λw f=>Cj j i r e w (by simpa using f)) (.bl _,H,I,S,?_)];rw[show c.toArray.any (eqU x)=c.any (eqU x) by simp,Cg r e];rwa[q]
def bO:JE X (.builtin "len") (λL H Q=>∃p ys,L=[.ref p]/\(ZG X.K H p ys\/ZR X.K H p ys)/\Q (.int ys.9) H):=by
 intro B s Y H L c Q I r h;let(p,ys,S,d,q):=h;let(u,S,c):=Up r;ext c;let c:=Be;rcases d with d | d
 .let(e,g,f,h):=I.list d;let c:=g.9;rwa[Calls.call_len_list f.isList (by simp only[xU]<;>lia) (.int ys.9,H,I.tok _,(s.toks+1,by rw[xU,c]),q)]
 .let(e,g,f,h):=I.tuple d;let c:=g.9;rwa[len_tuple f (by simp only[xU]<;>lia) (.int ys.9,H,I.tok _,(s.toks+1,by rw[xU,c]),q)]
def Ks:JE X (.type "list") (λL H Q=>∃p ys,L=[.ref p]/\(ZG X.K H p ys\/ZR X.K H p ys)/\∀l,H l=_n->Q (.ref l) (upd H l (.lst ys))):=by
 intro B s Y H L c Q I r h;let(p,ys,S,j,q):=h;let(u,S,c):=Up r;ext c;let h:∀(c:jK),ZJ ys c->ys.9<=_z->∀(d:Heap)(f:Nat),(∀b e,s.heap.get? b=_s e->d.get? b=_s e)->
   d.get? s.8=_s {cls:=.type "list", dict:=_n,data:=.seq c.toArray f,slots:=#[] }->EP X B Y Q (.ref s.8) {s with heap:=d }:=λc g k d f kp e =>
  (.ref s.8,_,I.laid (t':=s.toks) kp (xE _) (show ZM X.prog X.w _ d _ (.lst ys) from(k,c,f,g,e)),S,q _ (I.og.fresh (xE _)))
 rcases j with j | j
 .let(c,g,t,k):=I.list j;let i:=g.9;let(o,s,m,n,r):=t.isList;rwa[call_list_seq p (.inl S) s m r (λd f kp e=>h c g k d f kp e) (by simp only[xU]<;>lia)]
 .let(c,g,t,k):=I.tuple j;let i:=g.9;let(o,s,m,n,r):=t;rwa[call_list_seq p (.inr S) s m r (λd f kp e=>h c g k d f kp e) (by simp only[xU]<;>lia)]
def Qk:JE X (.type "tuple") (λL H Q=>∃p ys,L=[.ref p]/\((ZG X.K H p ys/\∀l,H l=_n->Q (.ref l) (upd H l (.tup ys)))\/(ZR X.K H p ys/\Q (.ref p) H))):=by
 intro B s Y H L c Q I r h;let(p,ys,S,h):=h;let(u,S,c):=Up r;ext c;rcases h with⟨f,q⟩ | ⟨f,q⟩
 .let(c,h,g,j):=I.list f;let d:=h.9;erw[call_tuple_list g.isList (λd kp=>?_) (by simp only[xU]<;>lia)];let i:ZE X B Y H {s with heap:=d }:=I.kept (t':=s.toks) kp;let k:ZE X B Y (upd H d.objs.size (.tup ys)) {s with heap:=d.push {cls:=.type "tuple", data:=.seq c.4 } } :=
   i.laid (t':=s.toks) (λb o e=>xB _ e) (xE _) (show ZM X.prog X.w _ _ _ (.tup ys) from(j,c,h,IsTup.new _ _))
  rwa[.ref d.7,_,k,S,q _ (i.og.fresh (xE _))]
 .let(c,h,g,j):=I.tuple f;rwa[call_tuple_same g (.ref p,H,I,S,q)]
def tyV(K:uFg)(T:String)(x:V)(H:Hp):Prop:=match x with
 | .str _=>T="str"
 | .int _=>T="int"
 | .ref p=>(T="list" /\ ∃L,ZG K H p L)\/(T="tuple" /\ ∃o,K.lookup p=_s o/\o.cls=.type "tuple" /\ o.dict=_n)\/
   (T="dict" /\ ((∃U,H p=_s (.dK U))\/∃U,H p=_s (.dT U)))\/(T="set" /\ ∃S n,H p=_s (.set S n))
 | _=>False
def IL{B:List (jP×Obj)}{Y:St}{H:Hp}{s:jN}{T:String}{x:V}{v:jO}(I:ZE X B Y H s)(r:ZH x v)(f:tyV X.K T x H) :
  s.TypeIs v T/\∀a,v=.ref a->∃c,s.heap.get? a=_s c/\c.dict=none:=by
 cases x with
 | str z =>
  let(t,rfl):=r;cases (show T="str" from f);rwa[typeIs_str s z t,λ_ e=>nomatch e]
 | int i =>
  let(t,rfl):=r;cases (show T="int" from f);rwa[typeIs_int s i t,λ_ e=>nomatch e]
 | ref p =>
  ext r;rcases f with⟨rfl,L,c⟩ | ⟨rfl,o,d,hc,g⟩ | ⟨rfl,d⟩ | ⟨rfl,S,n,d⟩
  .let(i,_,h,_):=I.list c;erw[h.isList.typeIs,λa e=>?_];ext e;let(o,n,e,c,g,_):=h;rwa[o,e,g]
  .erw[(o,I.oi p o d,hc),λa e=>?_];ext e;rwa[o,I.oi _ o d,g]
  .let z:∃o,s.heap.get? p=_s o/\o.ExactDict:=by
    rcases d with⟨U,d⟩ | ⟨U,d⟩
    .let(_,_,_,_,o,_,_,e,c,_):=I.og p _ d;rwa[o,e,c]
    .let(_,_,_,_,o,_,_,e,c,_):=I.og p _ d;rwa[o,e,c]
   let(o,e,c):=z;erw[(o,e,c.1),λa g=>?_];ext g;rwa[o,e,c.2.1]
  .let(o,_,_,_,e,c,_):=I.og p _ d;erw[(o,e,c.1),λa g=>?_];ext g;rwa[o,e,c.2.1]
 | _=>rwa[False.elim f]
def OZ(K:uFg)(T:String)(r:V->List V->Hp->VK->Prop)(c:TE):TE:=λY H Q=>c Y H λx c=>tyV K T x c/\r x [] c Q
def E8(K:uFg)(T:String)(r:V->List V->Hp->VK->Prop)(c:TE)(t:TA):TE:=λY H Q=>c Y H λx c=>tyV K T x c/\t Y c λL c=>r x L c Q
variable{o e:Expr}{es:List Expr}{to:TE}{t:TA}{name:Str}{apos cpos:Pos}{T id:String}{r:V->List V->Hp->VK->Prop}
end
def jD(X:Cx)(id:String)(r:V->List V->Hp->VK->Prop):Prop :=
 ∀(B:List (jP×Obj))(s:jN)(Y:St)(H:Hp)(x:V)(L:aG)(v:jO)(a:jK)(Q:VK),ZE X B Y H s->ZH x v->ZJ L a->r x L H Q ->
  _w (_m X.prog X.w) X.A (call (.builtin id) (v::a)) (EP X B Y Q) X.xe s
theorem ZJ.one:∀{x:V}{us:jK},ZJ [x] us->∃u,us=[u]/\ZH x u:=λh=>by
 cases h with | cons r t=>ext t;rwa[_,S,r]
theorem ZJ.zero:∀{us:jK},ZJ [] us->us=[]
 | _,.nil=>rfl
theorem ZJ.eraseIdx:∀{L:aG}{us:jK}(i:Nat),ZJ L us->ZJ (L.eraseIdx i) (us.eraseIdx i)
 | _,_,_,.nil=>.nil
 | _,_,0,.cons _ t=>t
 | _,_,i+1,.cons r t=>.cons r (ZJ.eraseIdx i t)
theorem ZJ.rep(h:ZJ L us):∀k:Nat,ZJ (List.replicate k L).flatten (List.replicate k us).flatten
 | 0=>.nil
 | k+1=>by
  rw[yW,yW,wP,wP];rwa[ZJ.append h (ZJ.rep h k)]
theorem Lf{a:Type}:∀(l:List a)(i:Nat),(l.eraseIdx i).9<=l.9
 | [],_=>xE _
 | _::_,0=>zV _
 | _::r,i+1=>mj (Lf r i)
theorem LG(b:jK):∀k a,
  List.foldl (λc d=>c++d) a.toArray (List.replicate k b.4)=(a++(List.replicate k b).flatten).4
 | 0,a=>by simp
 | k+1,a=>by
  let e:a.4++b.4=(a++b).4:=by simp
  let c:(a++b)++(List.replicate k b).flatten=a++(List.replicate (k+1) b).flatten:=by grind
  rw[<- c,<- LG b k (a++b),<- e,yW,zX]
section
variable{X:Cx}{B:List (jP×Obj)}{Y:St}{H:Hp}{s:jN}{l:jP}{L ys:aG}
def ZE.lset{a its':jK}{n:Nat}{f:Array jO->Array jO}{t':Nat}(I:ZE X B Y H s)(b:H l=_s (.lst L))(e:s.heap.get? l=_s {cls:=.type "list", data:=.seq a.toArray n })(c:f a.4=its'.4)(d:ZJ ys its')(hz:ys.9<=_z) :
  ZE X B Y (upd H l (.lst ys)) {s with heap:=s.heap.update l (Obj.mapSeq f),toks:=t' }:=by
 let q:=IsL.update e f;rw[c] at q;erw[I.write (x:=l) (e:=l) (by rw[b];rwa[trivial]) (.inl S) (λc u a b=>(zK s.heap (Obj.mapSeq f) (Ne.symm a)).trans b) (_,q) ?_];rwa[hz,its',_,d,q]
theorem ZE.lnew{a:jK}{t':Nat}(I:ZE X B Y H s)(b:ZJ ys a)(hz:ys.9<=_z) :
  ZE X B Y (upd H s.heap.objs.size (.lst ys)) {s with heap:=s.heap.push {cls:=.type "list", data:=.seq a.4 },toks:=t' } :=
 I.laid (λ_ _ q=>xB _ q) (xE _) (hz,a,0,b,xI _ S)
theorem ZE.fresh(I:ZE X B Y H s):H s.8=none:=I.og.fresh (xE _)
def ZE.ou(I:ZE X B Y H s)(b:H l=_s (.lst L)):L.9<=_z/\∃(a:jK)(n:Nat),ZJ L a/\L.9=a.9/\s.heap.get? l=_s {cls:=.type "list", data:=.seq a.toArray n }:=by
 let(z,a,n,r,e):=I.og l _ b;rwa[z,a,n,r,r.9,e]
def OW(h:n<=_z):Builtin.List.listTooLong n=false:=by
 unfold Builtin.List.listTooLong;rwa[yM ()]
end
inductive VS(x:V)(vs:aG)(H:Hp)(Q:VK):Prop
 |mk(l L y)(_:x=.ref l)(_:vs=[y])(_:H l=_s (.lst L))(_:L.9<_z)(_:Q .non (upd H l (.lst (L ++ [y]))))
inductive AG(x:V)(vs:aG)(H:Hp)(Q:VK):Prop
 |mk(l L i k y)(_:x=.ref l)(_:vs=[.int i])(_:H l=_s (.lst L))(_:-(2^63)<=i)(_:i<2^63)(_:seqIndex? i L.9=_s k)(_:L[k]?=_s y)(_:Q y (upd H l (.lst (L.eraseIdx k))))
inductive AL(x:V)(vs:aG)(H:Hp)(Q:VK):Prop
 |mk(l L)(_:x=.ref l)(_:vs=[])(_:H l=_s (.lst L))(_:Q .non (upd H l (.lst [])))
inductive Fb(x y:V)(H:Hp)(Q:VK):Prop
 |mk(l b L zs)(_:x=.ref l)(_:y=.ref b)(_:H l=_s (.lst L))(_:H b=_s (.lst zs))(_:L.9+zs.9<=_z)(_:∀p,H p=_n->Q (.ref p) (upd H p (.lst (L++zs))))
inductive Gu(x y:V)(H:Hp)(Q:VK):Prop
 |mk(l k L)(_:x=.ref l)(_:y=.int k)(_:H l=_s (.lst L))(_:-(2^63)<=k)(_:k<2^63)(_:L.9 * k.toNat<=_z)(_:∀p,H p=_n->Q (.ref p) (upd H p (.lst (List.replicate k.toNat L).flatten)))
def eQ{a:Type}(L:List a)(k:Nat):(List.replicate k L).flatten.9=k * L.9:=by
 induction k with
 | zero=>simp
 | succ k a=>rw[yW,wP,xG,a,Nat.succ_mul,Nat.add_comm]
section
set_option maxRecDepth 100000 in
end
section
variable{κ:Type} [DecidableEq κ]
def Zx(U:List (κ×V))(k:κ):Option V:=(U.find? λa=>decide (a.1=k)).map (·.2)
def Z4(U:List (κ×V))(k:κ)(v:V):List (κ×V) :=
 if (U.any λa=>decide (a.1=k))=_t then U.map (λa=>if a.1=k then (a.1,v) else a) else U ++ [(k,v)]
def Uh{p:κ×V}{r:List (κ×V)}{k:κ}(e:p.1=k):Zx (p::r) k=_s p.2:=by simp[Zx,zY,e]
def Ux{p:κ×V}{r:List (κ×V)}{k:κ}(e:¬p.1=k):Zx (p::r) k=Zx r k:=by simp[Zx,zY,e]
theorem AH(k:κ):∀U:List (κ×V),(U.any λa=>decide (a.1=k))=(Zx U k).isSome
 | []=>rfl
 | p::r=>by
  rw[mi]
  by_cases e:p.1=k
  .simp only[Uh e,yE e,Bool.true_or,Option.isSome_some]
  .rw[Ux e,yM e,Bool.false_or];rwa[AH k r]
theorem MF(k j:κ)(y:V):∀U:List (κ×V),Zx (U.map λa=>if a.1=k then (a.1,y) else a) j=(Zx U j).map λx=>if j=k then y else x
 | []=>rfl
 | p::r=>by
  let a:=MF k j y r;rw[yD]
  by_cases h:p.1=k
  .rw[_j h]
   by_cases e:p.1=j
   .rw[Uh (p:=(p.1,y)) e,Uh e,wM,_j (e.symm.trans h)]
   .rw[Ux (p:=(p.1,y)) e,Ux e,a]
  .rw[_i h]
   by_cases e:p.1=j
   .rw[Uh (p:=p) e,Uh e,wM,_i (λz=>h (e.trans z))]
   .rw[Ux (p:=p) e,Ux e,a]
theorem Na(k j:κ)(y:V):∀U:List (κ×V),Zx U k=_n->Zx (U ++ [(k,y)]) j=if j=k then _s y else Zx U j
 | [],_=>by
  by_cases e:k=j
  .rw[_j e.6];rwa[Uh (p:=(k,y)) e]
  .rw[_i (λz=>e z.6)];rwa[Ux (p:=(k,y)) e]
 | p::r,hn=>by
  rw[yN];let a:¬p.1=k:=λz=>by rw[Uh z] at hn;ext hn
  rw[Ux a] at hn;let b:=Na k j y r hn
  by_cases e:p.1=j
  .rw[Uh e,Uh e,_i (λz=>a (e.trans z))]
  .rw[Ux e,Ux e,b]
def Ui(U:List (κ×V))(k j:κ)(y:V):Zx (Z4 U k y) j=if j=k then _s y else Zx U j:=by
 unfold Z4
 by_cases a:(U.any λb=>decide (b.1=k))=_t
 .rw[_j a,MF];rw[AH] at a
  by_cases e:j=k
  .let(x,b):=Option.isSome_iff_exists.mp a;rw[_j e,e,b,wM,_j S]
  .rw[_i e];cases Zx U j with
   | none=>rfl
   | some x=>rw[wM,_i e]
 .rw[_i a];erw[Na k j y U ?_];rw[AH] at a;cases q:Zx U k with
  | none=>rfl
  | some x=>rw[q] at a;rwa[(a S).elim]
def Vv(U:List (κ×V))(k:κ)(v:V):(Z4 U k v).9<=U.9+1:=by
 unfold Z4;split
 .rw[xA];lia
 .grind
def Iq{U:List (κ×V)}{k:κ}(v:V)(h:Zx U k=_n):Z4 U k v=U ++ [(k,v)]:=by
 unfold Z4;rw[AH,h];rwa[_i aA]
def YT.oh(r:YT o u):o.isSome=u.isSome:=by
 cases o with
 | none=>cases u with
  | none=>rfl
  | some _=>rwa[(show False from r).elim]
 | some _=>cases u with
  | none=>rwa[(show False from r).elim]
  | some _=>rfl
def YT.getD(r:YT o u)(a:ZH d d'):ZH (o.getD d) (u.getD d'):=by
 cases o with
 | none=>cases u with
  | none=>rwa[a]
  | some _=>rwa[(show False from r).elim]
 | some _=>cases u with
  | none=>rwa[(show False from r).elim]
  | some _=>rwa[r]
def KV.val(r:KV U vs)(k:κ):YT (Zx U k) (valueAt vs k):=by
 unfold KV at r
 induction r with
 | nil=>rwa[True.intro]
 | @cons p q a c h t g =>
  let(d,f):=h
  by_cases e:p.1=k
  .let a:q.1=k:=d.symm.trans e;let b:valueAt (q::c) k=_s q.2:=by simp[valueAt,zY,a]
   rw[Uh e,b];rwa[f]
  .let a:¬q.1=k:=λz=>e (d.trans z);let b:valueAt (q::c) k=valueAt c k:=by simp[valueAt,zY,a]
   rw[Ux e,b];rwa[g]
def KV.any(r:KV U vs)(k:κ):(U.any λa=>decide (a.1=k))=vs.any λa=>decide (a.1=k):=by
 unfold KV at r
 induction r with
 | nil=>rfl
 | cons h t a=>rw[mi,mi,a,h.1]
def KV.repl(r:KV U vs)(k:κ)(b:ZH y u) :
  KV (U.map λa=>if a.1=k then (a.1,y) else a) (vs.map λa=>if a.1=k then (a.1,u) else a):=by
 unfold KV at r |-
 induction r with
 | nil=>rwa[.nil]
 | @cons p q b c h t a =>
  rw[yD,yD];erw[.cons ?_ a];let(a,b):=h
  by_cases e:p.1=k
  .grind
  .grind
def KV.put(r:KV U vs)(k:κ)(a:ZH y u):KV (Z4 U k y) (stored vs k u):=by
 unfold Z4 stored;rw[r.any k]
 by_cases e:(vs.any λb=>decide (b.1=k))=_t
 .rw[_j e,_j e];rwa[r.repl k a]
 .rw[_i e,_i e];rwa[Paired.snoc r (S,a)]
theorem KV.length{U:List (κ×V)}{vs:List (κ×jO)}(r:KV U vs):U.9=vs.9:=m9 r
end
def Bd(r:ZH (kV k) u):(We P w).is k u=true:=by
 cases k with
 | inl i=>let(t,e):=(show ∃t,u=Value.int i t from r);subst e;rwa[NV P w i t]
 | inr x=>let(t,e):=(show ∃t,u=Value.str x t from r);subst e;rwa[cD P w x t]
theorem GL:∀{ks:List ZN}{us:jK},ZJ (ks.map kV) us->ItemsAre (We P w) ks us
 | [],_,r=>by rw[wR] at r;ext r;rwa[.nil]
 | k::ks,_,r=>by
  rw[yD] at r;cases r with
  | cons h t=>rwa[.cons (Bd h) (GL t)]
abbrev KT(H:Hp):List (List ZN×V)->List (List ZN×jP×jO)->Prop:=Paired λp q=>p.1=q.1/\H q.2.1=_s (.tup (p.1.map kV))/\ZH p.2 q.2.2
def KT.val(r:KT H U L)(k:List ZN):YT (Zx U k) ((atKey L k).map (·.2)):=by
 induction r with
 | nil=>rwa[True.intro]
 | @cons p q a c h t g =>
  let(d,_,f):=h
  by_cases e:p.1=k
  .let a:q.1=k:=d.symm.trans e;let b:atKey (q::c) k=_s q.2:=by simp[atKey,zY,a]
   rw[Uh e,b];rwa[f]
  .let a:¬q.1=k:=λz=>e (d.trans z);let b:atKey (q::c) k=atKey c k:=by simp[atKey,zY,a]
   rw[Ux e,b];rwa[g]
def KT.repl(r:KT H U L)(k:List ZN)(b:ZH y u) :
  KT H (U.map λa=>if a.1=k then (a.1,y) else a) (L.map (putAt k u)):=by
 induction r with
 | nil=>rwa[.nil]
 | @cons p q b c h t a =>
  rw[yD,yD];erw[.cons ?_ a];let(a,b,c):=h;unfold putAt
  by_cases e:p.1=k
  .grind
  .grind
def KT.put(r:KT H U L)(k:List ZN)(c:H b=_s (.tup (k.map kV)))(a:ZH y u) :
  KT H (Z4 U k y) (storedH L k b u):=by
 let e:(U.any λd=>decide (d.1=k))=(atKey L k).isSome:=by
  rw[AH,(r.val k).oh,mm]
 unfold Z4 storedH;rw[e]
 by_cases q:(atKey L k).isSome=_t
 .rw[_j q,_j q];rwa[r.repl k a]
 .rw[_i q,_i q];rwa[Paired.snoc r (S,c,a)]
theorem KT.keeps(r:KT H U L)(a:∀b ys,H b=_s (.tup ys)->J b=_s (.tup ys)):KT J U L :=
 Paired.mapP r λ_ _ z=>(z.1,a _ _ z.2.1,z.2.2)
theorem Iw(b:YW P w H h)(e:Rd H a u):ZM P w H h a u:=e.ok b
theorem Aq(b:YW P w H h)(e:Rd H a (.dK U)):U.9<=_z/\(a==sysModules)=_x/\∃vs,KV U vs/\h.DictOf (We P w) a vs :=
 show ZM P w H h a (.dK U) from Iw b e
theorem HQ(b:YW P w H h)(e:H a=_s (.dK U)):U.9<=_z/\(a==sysModules)=_x/\∃vs,KV U vs/\h.DictOf (We P w) a vs:=Aq b (.inl e)
def JY(g:YW P w H h)(e:H a=_s (.tup (ks.map kV))):(tupleKind (We P w)).is h ks a:=by
 let(_,b,r,o,c,d,n,f):=(show ZM P w H h a (.tup (ks.map kV)) from g a _ e);rwa[o,b.4,n,c,d,f,by simpa using GL r]
def Bq(f:YW P w H h)(e:Rd H a (.dT U)):U.9<=_z/\(a==sysModules)=_x /\
  ∃L,KT H U L/\h.DictOfH (tupleKind (We P w)) a L:=by
 let(z,y,L,r,o,c,b,d,g,i,j,k):=(show ZM P w H h a (.dT U) from Iw f e);erw[z,y,L,r,o,c,b,d,g,i,j,λx b=>?_,k];let c:∀{l:List (List ZN×V)}{m:List (List ZN×jP×jO)},KT H l m->∀x∈m,(tupleKind (We P w)).is h x.1 x.2.1:=by
  intro l m q
  induction q with
  | nil=>intro x b;rwa[nomatch b]
  | @cons p q i j d t g =>
   intro x b;rcases xD.mp b with e | b
   .subst e;rwa[JY f (by rw[<- d.1];rwa[d.2.1])]
   .rwa[g x b]
 rwa[c r x b]
theorem Kj(b:YW P w H h)(e:H a=_s (.dT U)):U.9<=_z/\(a==sysModules)=_x /\
  ∃L,KT H U L/\h.DictOfH (tupleKind (We P w)) a L:=Bq b (.inl e)
def YD(H:Hp)(a:jP)(y:V)(r:Option V):Prop :=
 (∃U k,Rd H a (.dK U)/\y=kV k/\r=Zx U k)\/∃U k b,Rd H a (.dT U)/\y=.ref b/\H b=_s (.tup (k.map kV))/\r=Zx U k
def YU(H:Hp)(a:jP)(y v:V)(J:Hp):Prop :=
 (∃U k,H a=_s (.dK U)/\y=kV k/\U.9<_z/\J=upd H a (.dK (Z4 U k v)))\/
 ∃U k b,H a=_s (.dT U)/\y=.ref b/\H b=_s (.tup (k.map kV))/\U.9<_z/\J=upd H a (.dT (Z4 U k v))
theorem YD.k{H:Hp}{a:jP}{U:List (ZN×V)}{k:ZN}(e:H a=_s (.dK U)):YD H a (kV k) (Zx U k):=.inl (U,k,.inl e,S,S)
theorem YD.t{H:Hp}{a b:jP}{U:List (List ZN×V)}{k:List ZN}(e:H a=_s (.dT U))(c:H b=_s (.tup (k.map kV))):YD H a (.ref b) (Zx U k):=.inr (U,k,b,.inl e,S,c,S)
theorem YU.k{H:Hp}{a:jP}{U:List (ZN×V)}{k:ZN}{v:V}(e:H a=_s (.dK U))(b:U.9<_z):YU H a (kV k) v (upd H a (.dK (Z4 U k v))):=.inl (U,k,e,S,b,S)
theorem YU.t{H:Hp}{a b:jP}{U:List (List ZN×V)}{k:List ZN}{v:V}(e:H a=_s (.dT U))(c:H b=_s (.tup (k.map kV)))(d:U.9<_z) :
  YU H a (.ref b) v (upd H a (.dT (Z4 U k v))):=.inr (U,k,b,e,S,c,d,S)
section
variable{X:Cx}{B:List (jP×Obj)}{Y:St}{H:Hp}{s:jN}{a:jP}{y v:V}{u r:jO}{o:Option V}{A:jS}{E:jH}
def ZE.big(I:ZE X B Y H s):sysModules<s.8:=by
 let h:_g<s.8:=(I.mod.glob.keeps I.bk).lt;rwa[Nat.lt_trans aA h]
def gL{Q:jH}(t:A.units+1<cLine)(I:ZE X B Y H s)(g:YD H a y (_s v))(n:ZH y u)(h:∀f c,ZE X B Y H c->ZH v f->Q f c) :
  _w (_m X.prog X.w) A (getItem (.ref a) u) Q E s:=by
 rcases g with⟨U,k,e,j,l⟩ | ⟨U,k,b,e,j,eb,l⟩
 .subst j;let(z,p,w,c,i):=Aq I.og e;let(f,m,d):=YT.some_of (v:=v) (o:=valueAt w k) (by rw[l];rwa[c.val k]);rwa[wpAny_getItem_of (Bd n) i.mapOf m (h f _ (I.tok _) d)]
 .subst j;cases (show u=Value.ref b from n);let(z,p,L,c,i):=Bq I.og e;let(f,m,d):=YT.some_of (v:=v) (o:=(atKey L k).map (·.2)) (by rw[l];rwa[c.val k]);let(p,e,c):=xS.mp m;erw[wpAny_getItem_heap (tupleKind_room_in1 t) (JY I.og eb) i e ?_];rw[c];rwa[h f _ (I.tok _) d]
def cB{Q:jH}(m:A.units+1<cLine)(I:ZE X B Y H s)(g:YD H a y o)(j:ZH y u)(h:∀c,ZE X B Y H c->Q (.bool o.isSome) c) :
  _w (_m X.prog X.w) A (_c .In u (.ref a)) Q E s:=by
 rcases g with⟨U,k,e,f,l⟩ | ⟨U,k,b,e,f,eb,l⟩
 .subst f;let(z,i,n,c,d):=Aq I.og e;erw[wpAny_in_of (Bd j) i d.mapOf ?_];rw[<- (c.val k).oh,<- l];rwa[h _ (I.tok _)]
 .subst f;cases (show u=Value.ref b from j);let(z,i,L,c,d):=Bq I.og e;erw[wpAny_in_heap (tupleKind_room_in1 m) (JY I.og eb) i d ?_];let q:=(c.val k).oh;rw[mm] at q;rw[<- q,<- l];rwa[h _ (I.tok _)]
def Qt{Q:jH}(m:A.units+1<cLine)(I:ZE X B Y H s)(g:YD H a y o)(j:ZH y u)(h:∀c,ZE X B Y H c->Q (.bool (!o.isSome)) c) :
  _w (_m X.prog X.w) A (_c .NotIn u (.ref a)) Q E s:=by
 rcases g with⟨U,k,e,f,l⟩ | ⟨U,k,b,e,f,eb,l⟩
 .subst f;let(z,i,n,c,d):=Aq I.og e;erw[wpAny_notIn_of (Bd j) i d.mapOf ?_];rw[<- (c.val k).oh,<- l];rwa[h _ (I.tok _)]
 .subst f;cases (show u=Value.ref b from j);let(z,i,L,c,d):=Bq I.og e;erw[wpAny_notIn_heap (tupleKind_room_in1 m) (JY I.og eb) i d ?_];let q:=(c.val k).oh;rw[mm] at q;rw[<- q,<- l];rwa[h _ (I.tok _)]
theorem DY{h':Heap}{t':Nat}{b:HO}(I:ZE X B Y H s)(d:Ct (H a))(hs:Heap.SameBut a s.heap h')(f:∃q,h'.get? a=_s q)(c:ZM X.prog X.w (upd H a b) h' a b) :
  ZE X B Y (upd H a b) {s with heap:=h',toks:=t' } :=
 I.write (x:=a) (e:=a) d (.inl S) (λb q d z=>(hs.2 b d).trans z) f c
theorem Lz(z:U.9<=_z)(c:(a==sysModules)=_x)(b:KV U vs)(dd:h'.DictOf (We P w) a vs) :
  ZM P w J h' a (.dK U):=(z,c,vs,b,dd)
def bH{J:Hp}{Q:Unit->jN->Prop}(G:A.units+1<cLine)(I:ZE X B Y H s)(g:YU H a y v J)(C:ZH y u)(x:ZH v r)(h:∀c,ZE X B Y J c->Q _u c) :
  _w (_m X.prog X.w) A (setItem (.ref a) u r) Q E s:=by
 rcases g with⟨U,k,e,m,l,j⟩ | ⟨U,k,b,e,m,eb,l,j⟩
 .subst m j;let(z,l,d,c,i):=HQ I.og e;let t:d.9<=sizeLine:=by rw[<- c.9];rwa[z]
  let n:(Z4 U k v).9<=sizeLine:=by have:=Vv U k v;lia
  erw[wpAny_setItem_pairs (hsz:=t) (Bd C) i λw d p=>h _ ?_];let F:∃q,w.get? a=_s q:=let ⟨q,_,_,f,_⟩:=d;(q,f)
  rwa[DY I (by rw[e];rwa[True.intro]) p F (Lz n l (c.put k x) d)]
 .subst m j;cases (show u=Value.ref b from C);let(z,l,L,c,i):=Kj I.og e;let t:L.9<=sizeLine:=by rw[<- m9 c];rwa[z]
  let n:(Z4 U k v).9<=sizeLine:=by have:=Vv U k v;lia
  erw[wpAny_setItem_heap (hsz:=t) (tupleKind_room_in1 G) (JY I.og eb) i λw d p=>h _ ?_];let(q,j,i,f,m,t,w,_,C):=d;erw[DY I (by rw[e];rwa[True.intro]) p (q,f) (n,l,_,(c.put k eb x).keeps λc k d=>?_,q,j,i,f,m,t,w,C)];rw[Zd (IB d e (λz=>nomatch z))];rwa[d]
end
section
variable{X:Cx}{B:List (jP×Obj)}{Y:St}{H:Hp}{s:jN}{a:jP}{U:List (ZN×V)}{k:ZN}{u:jO}{A:jS}{E:jH}
def SQ{Q:jH}(I:ZE X B Y H s)(e:Rd H a (.dK U))(h:∀t b,ZE X B Y H b->Q (.int U.length t) b):_w (_m X.prog X.w) A (call (.builtin "len") [.ref a]) Q E s:=by
 let(z,d,f,b,c):=Aq I.og e;erw[call_len_dict d c (by rw[<- b.9];rw[sizeLine_eq] at z;lia) ?_];rw[<- b.9];rwa[h _ _ (I.tok _)]
end
def Gk(i:Expr):Prop:=∀b a,subscripted i _x b a=operate [b,a] (getItem b a)
def SG{prog:jQ}{w:jR}{A:jS}{E:jH}{s:jN}{env:Env}{b a:Expr}{pos:Pos}{T id:String}{Q:jH}(f:typeLookup (.type T) "__getitem__"=pure (_s (.builtin id)))(hs:Gk a)(h:_w (_m prog w) A (eval b env) (λo d=>_w (_m prog w) A (eval a env) (λi c=>c.TypeIs o T/\_w (_m prog w) A (getItem o i) Q E c) E d) E s) :
  _w (_m prog w) A (eval (.Subscript b a pos) env) Q E s:=by
 erw[Subscript_ (wpAny_mono h (λo d e=>wpAny_mono e (λi c d=>?_) λ_ _ x=>x) λ_ _ x=>x)];let(e,d):=d;unfold subscriptTail;erw[_b ?_];rw[getitemInPython_of_ne e.not_modules];erw[_b (wpAny_specialOf e f ?_)];let e:_w (_m prog w) A (subscripted a _x o i) (λr a=>_w (_m prog w) A (letTemporaryGo b o r >>= λ_=>pure r) Q E a) E c:=by
  rw[hs o i];rwa[wpAny_operating (wpAny_mono d (λr a b=>_b (wpAny_letTemporaryGo (_p b))) λ_ _ x=>x)]
 first
  | rwa[_p (_b e)]
  | rwa[_b (_p (_b e))]
  | rwa[_b e]
def fD{X:Cx}{B:List (jP×Obj)}{Y:St}{H:Hp}{s:jN}{a:jP}{y:V}{o:Option V}(I:ZE X B Y H s)(g:YD H a y o):s.TypeIs (.ref a) "dict" := by
 rcases g with⟨U,k,e,_,_⟩ | ⟨U,k,b,e,_,_,_⟩
 .let(_,_,d,_,c):=Aq I.og e;rwa[c.typeIs]
 .let(_,_,L,_,c):=Bq I.og e;rwa[c.typeIs]
inductive AQ(Q:VK)(x y:V)(b:Hp):Prop
 |mk(a v)(_:x=.ref a)(_:YD b a y (_s v))(_:Q v b)
def L9(a b:TE):TE:=λY H Q=>a Y H λx a=>b Y a λy a=>AQ Q x y a
inductive sDPut_(D:YF)(Y:St)(v x y:V)(b:Hp):Prop
 |mk(a H4)(_:x=.ref a)(_:YU b a y v H4)(_:D.nx Y H4)
def Nk(b c a:TE):TS:=λD Y H=>a Y H λv a=>b Y a λx a=>c Y a λy a=>sDPut_ D Y v x y a
def OG(e:X.A.units+1<cLine)(a:PE X o td)(c:PE X i ty)(hs:Gk i):PE X (.Subscript o i pos) (L9 td ty):=by
 intro B s Y H Q I h;erw[SG PySem.F.slot_dict_getitem.lookup hs (thn (a B s Y H _ I h) λu f ⟨x,a,b,h,d⟩=>thn (c B f Y a _ b d) λk l ⟨y,c,b,j,a,v,d,g,f⟩=>?_)];subst d;obtain rfl:u=Value.ref a:=h;rwa[fD b g,gL e b g j λe d b a=>(v,c,b,a,f)]
def Qv(e:X.A.units+1<cLine)(d:PE X o td)(c:PE X i ty)(a:PE X value tv)(hs:swapsWith value (_s (.Subscript o i pos')) pos.line X.env=pure _x) :
  PS X (.Assign [.Subscript o i pos'] value pos) (Nk td ty tv):=by
 intro B s Y H D I h;erw[wpAny_Assign_Subscript (thn (a B s Y H _ I h) λr g ⟨v,a,b,h,f⟩=>thn (d B g Y a _ b f) λu f ⟨x,a,b,j,d⟩=>thn (c B f Y a _ b d) λm n ⟨y,l,c,k,a,b,d,g,f⟩=>?_) hs];subst d;obtain rfl:u=Value.ref a:=j;rwa[bH e c g k h λc a=>(Y,b,a,f)]
theorem LQ(h:Heap)(a:sysModules<h.7):ZM P w H (h.push {cls:=.type "dict", data:=.dict #[] }) h.objs.size (.dK []) :=
 (yJ _,beq_eq_false_iff_ne.mpr (Ne.symm (yG a)),[],.nil,Heap.DictOf.new h)
theorem Xh(h:Heap)(a:sysModules<h.7):ZM P w H (h.push {cls:=.type "dict", data:=.dict #[] }) h.objs.size (.dT []) :=
 (yJ _,beq_eq_false_iff_ne.mpr (Ne.symm (yG a)),[],.nil,_,#[],0,xI _ S,(S,S,S),S,S,wS)
def SU:TE:=λ_ H Q=>∀p,H p=_n->Q (.ref p) (upd H p (.dK []))
def fN:TE:=λ_ H Q=>∀p,H p=_n->Q (.ref p) (upd H p (.dT []))
def FV:List (TE×TE)->St->Hp->(List (V×V)->Hp->Prop)->Prop
 | [],_,H,Q=>Q [] H
 | (tk,tv)::r,Y,H,Q=>tk Y H λx a=>tv Y a λy a=>FV r Y a λb a=>Q ((x,y)::b) a
abbrev VV:List (V×V)->List (jO×jO)->Prop:=Paired λp q=>ZH p.1 q.1/\ZH p.2 q.2
def Eg(X:Cx)(pos:Pos)(b:List (Option Expr))(a:List Expr)(c:List (TE×TE)):Prop :=
 ∀(B:List (jP×Obj))(s:jN)(Y:St)(H:Hp)(Q:List (V×V)->Hp->Prop),ZE X B Y H s->FV c Y H Q ->
  _w (_m X.prog X.w) X.A (evalPairs (pairTrees b a X.env pos)) (λc b=>∃a J,ZE X B Y J b/\VV a c/\Q a J) X.xe s
theorem dS:Eg X pos [] [] []:=λB s Y H Q I h=>pairTrees_nil_walk ([],H,I,.nil,h)
theorem Xo(a:PE X k tk)(d:PE X v tv)(c:Eg X pos ks vs trs) :
  Eg X pos (_s k::ks) (v::vs) ((tk,tv)::trs):=λB s Y H Q I h =>
 pairTrees_cons_walk (thn (a B s Y H _ I h) λu g ⟨x,a,b,f,e⟩=>thn (d B g Y a _ b e) λh e ⟨y,a,b,g,d⟩=> thn (c B e Y a _ b d) λi h ⟨d,b,c,a,e⟩=>((x,y)::d,b,c,.cons (f,g) a,e))
def A8(U a:List (ZN×V)):List (ZN×V):=a.foldl (λa b=>Z4 a b.1 b.2) U
def KV.merge:∀{a:List (ZN×V)}{b:List (ZN×jO)}{U:List (ZN×V)}{vs:List (ZN×jO)},KV a b->KV U vs->KV (A8 U a) (merged vs b):=by
 intro a b U vs r;unfold KV at r
 induction r generalizing U vs with
 | nil=>intro q;rwa[q]
 | @cons p q b c h t a =>
  intro b;let e:KV (Z4 U p.1 p.2) (stored vs q.1 q.2):=by
   have:=b.put p.1 h.2;rw[<- h.1];rwa[this]
  rwa[a e]
theorem Lk:∀a U,(A8 U a).9<=U.9+a.9
 | [],U=>by show U.9<=U.9+0;lia
 | p::r,U=>by
  let a:=Lk r (Z4 U p.1 p.2);let a:=Vv U p.1 p.2;show (A8 (Z4 U p.1 p.2) r).9<=_;rw[yH];lia
theorem Ie:∀{U:List (ZN×V)}{b:List (jO×jO)},VV (U.map λa=>(kV a.1,a.2)) b->∃d,Carries (We P w) b d/\KV U d
 | [],_,r=>by rw[wR] at r;ext r;rwa[[],True.intro,.nil]
 | p::U,_,r=>by
  rw[yD] at r;cases r with
  | @cons a b c e h t =>
   let(d,c,q):=Ie (P:=P) (w:=w) t;let(e,a):=b;rwa[(p.1,a)::d,(Bd h.1,S,c),.cons (S,h.2) q]
def HP(a:List (TE×TE)):TE:=λY H Q=>∀p,H p=_n->FV a Y (upd H p (.dK [])) λb a=>a p=_s (.dK [])/\∃U:List (ZN×V),b=U.map (λb=>(kV b.1,b.2))/\U.9<=15/\Q (.ref p) (upd a p (.dK (A8 [] U)))
def Py(h:Eg X pos keys values trs)(b:keys.all (·.isSome)=_t)(f:keys.9=values.9)(e:keys ≠ [])(c:keys.9<=15):PE X (.Dict keys values pos) (HP trs):=by
 intro B s Y H Q I q;let g:=I.og.fresh (xE s.8);let d:=I.laid (a:=s.8) (o:=.dK []) (h':=s.heap.push {cls:=.type "dict", data:=.dict #[] }) (t':=s.toks) (λ_ _ q=>xB _ q) (xE _) (LQ s.heap I.big);erw[wpAny_Dict_walk (knd:=We X.prog X.w) b f e c (thn (h B _ Y _ _ d (q _ g)) λl k ⟨j,g,d,b,e,U,c,i,f⟩=>?_)];subst c;let(j,c,rk):=Ie (P:=X.prog) (w:=X.w) b;let(z,g,k,i,b):=HQ d.og e;ext i;erw[j,c,b,λc b i=>(.ref s.8,_,?_,S,f)];let j:(A8 [] U).9<=sizeLine:=by
  let f:=Lk U [];rw[List.length_nil] at f;rw[sizeLine_eq];lia
 let f:∃q,c.get? s.8=_s q:=let ⟨q,_,_,c,_⟩:=b;(q,c)
 rwa[DY d (by rw[e];rwa[True.intro]) i f (Lz j g (rk.merge .nil) b)]
structure M2 (X:Cx) (o:Expr) (m:Str) (apos:Pos) (e f:Expr) (cpos:Pos):Prop where
 base:attributeBase o m X.env (eval o X.env)=eval o X.env
 few:((backTo cpos (_e [e,f] X.env)).all (λx=>!x.1)&&(backToKw cpos (keywordEach [] X.env)).all (λx=>x.1.isSome)
  && decide (([e,f]:List Expr).9+([]:List Keyword).9+(if ([]:List Keyword).isEmpty then 0 else 1)<30))=_t
 line:(apos.endLine==cpos.line)=_t
 trees:backTo cpos (_e [e,f] X.env)= [(_x,eval e X.env),(_x,eval f X.env)]
def FG(H:Hp)(a:jP):Prop:=(∃U,Rd H a (.dK U))\/∃U,Rd H a (.dT U)
def Mn{X:Cx}{B:List (jP×Obj)}{Y:St}{H:Hp}{s:jN}{a:jP}(I:ZE X B Y H s)(d:FG H a) :
  s.TypeIs (.ref a) "dict" /\ (∀b,Value.ref a=.ref b->∃c,s.heap.get? b=_s c/\c.dict=_n)/\(a==sysModules)=false:=by
 rcases d with⟨U,e⟩ | ⟨U,e⟩
 .let(_,i,g,_,f):=Aq I.og e;erw[f.typeIs,λb q=>?_,i];ext q;let(c,_,_,g,h,_):=f;rwa[c,g,h.2.1]
 .let(_,i,L,_,f):=Bq I.og e;erw[f.typeIs,λb q=>?_,i];ext q;let(c,_,_,g,h,_):=f;rwa[c,g,h.2.1]
section
variable{X:Cx}{B:List (jP×Obj)}{Y:St}{H:Hp}{s:jN}{a:jP}{y d:V}{u r:jO}{o:Option V}{A:jS}{E:jH}
def iO{Q:jH}(p:A.units+1<cLine)(I:ZE X B Y H s)(g:YD H a y o)(n:ZH y u)(m:ZH d r)(h:∀e c,ZE X B Y H c->ZH (o.getD d) e->Q e c) :
  _w (_m X.prog X.w) A (call (.builtin "dict.get") [.ref a,u,r]) Q E s:=by
 rcases g with⟨U,k,e,i,l⟩ | ⟨U,k,b,e,i,eb,l⟩
 .subst i;let(z,j,t,c,f):=Aq I.og e;erw[call_meetsIn slot_dict_get f.typeIs entry_dict_get (PySem.F.args_dict_get_3 _ _ _) (meets_dict_get_default (We X.prog X.w) a (Bd n) j r) (_,f.mapOf,h _ _ (I.tok _) ?_)];rw[l];rwa[(c.val k).getD m]
 .subst i;cases (show u=Value.ref b from n);let(z,j,L,c,f):=Bq I.og e;erw[call_meetsIn slot_dict_get f.typeIs entry_dict_get (PySem.F.args_dict_get_3 _ _ _) (meetsH_dict_get_default (tupleKind (We X.prog X.w)) a b j r) (tupleKind_room_in1 p,k,L,JY I.og eb,f,h _ _ (I.tok _) ?_)];rw[l];rwa[(c.val k).getD m]
end
inductive Ab(d c:TE)(Y:St)(Q:VK)(x:V)(b:Hp):Prop
 |mk(a)(_:x=.ref a)(_:FG b a)(_:d Y b λy b=>c Y b λz b=>∃o,YD b a y o/\Q (o.getD z) b)
def Hj(a c b:TE):TE:=λY H Q=>a Y H λx a=>Ab c b Y Q x a
def Qr(k:X.A.units+1<cLine)(a:PE X o td)(i:PE X e ty)(j:PE X f tx)(m:M2 X o "get" apos e f cpos):PE X (.Call (.Attribute o "get" apos) [e,f] [] cpos) (Hj td ty tx):=by
 intro B s Y H Q I h;erw[wpAny_Call_method m.base m.few m.line plainAttrs_dict slot_dict_get PySem.F.type_dict_get (thn (a B s Y H _ I h) λu n ⟨x,c,b,l,a,g,d,h⟩=>?_)];subst g;obtain rfl:u=Value.ref a:=l;let(a,g,_):=Mn b d;erw[a,g,?_];rw[m.trees];erw[mn S (mr (mv (thn (i B n Y c _ b h) λg d ⟨y,a,b,h,c⟩=> mv (thn (j B d Y a _ b c) λi l ⟨z,b,a,c,j,g,d⟩=>mw ?_))))];rwa[iO k a g h c λh g c a=>(_,b,c,a,d)]
section
variable{X:Cx}{B:List (jP×Obj)}{Y:St}{H:Hp}{s:jN}{a:jP}{U:List (ZN×V)}{A:jS}{E:jH}
end
section
variable{X:Cx}{B:List (jP×Obj)}{Y:St}{H:Hp}{s:jN}{a:jP}{y:V}{u:jO}{A:jS}{E:jH}
end
end L2
namespace Att
open PySem PySem.W PySem.Calls PyProof.Rows
def Qs:∀ns vs,WellAll P h vs (ns.map WData.int)->IntsAre vs ns:=by
 intro ns
 induction ns with
 | nil =>
  intro vs w;rw[wR] at w;ext w;rwa[.nil]
 | cons n ns c =>
  intro vs w;rw[yD] at w;cases w with
  | cons a b =>
   ext a;rwa[.cons _ _ (c _ b)]
def bP{l:OpenLaw}{n:Nat}(u:l.most=_s n){P:Params}{h:Heap}{b:List WData}{e:jK}(c:l.row.toRowW.claim.pre b=_t)(m:WellAll P h e b) :
  ∃a vs ns,e=[Value.ref a]/\b=[WData.list (ns.map WData.int)]/\h.get? a=_s {cls:=.type "list", data:=.seq vs.4 }/\IntsAre vs ns/\ns.9<=n:=by
 let k:WShape.hasAll [] b [.list .int]=true:=(pre_splitW c).1;let o:l.pre.holds [] {args:=b }=true:=(pre_splitW c).2;let(d,r,S,p,s):=hasAllW_cons k;obtain rfl:=hasAllW_nil s;let(L,S,t):=hasW_list p;let(ns,S):=items_int t;let g:ns.9<=n:=by
  unfold OpenLaw.pre at o;let i:(WTm.not (.lt (.lit (.int (n:Int))) (.len (.arg 0)))).holds [] {args:=[.list (ns.map .int)] }=true:=by
   let i:=(holds_andW o).1;rw[u] at i;rwa[i]
  let j:=condW_of i (w_not (w_lt w_lit (w_len_list (w_arg S))));rw[xA] at j;erw[Nat.le_of_not_lt λq=>?_];let w:(n:Int)<((ns.9:Nat):Int):=by lia
  first
   | (rw[yE w] at j;rwa[_a j aA])
   | (simp at j;lia)
 cases m with
 | cons x y =>
  ext y;cases x with
  | list v f=>rwa[_,_,ns,S,S,v,Qs ns _ f,g]
theorem OF(l:OpenLaw)(a:List WData):l.row.toRowW.claim.post a (.bool _t) a=true :=
 postW_of (r:=l.row.toRowW) (X:=(_t==_t))
  (show WShape.has [] (.bool _t) .bool=_t by first | rfl | decide | simp[WShape.has,WShape.arms,WShape.armsAll])
  (show (WTm.eq .res (.lit (.bool _t))).value [] {args:=a,res:=_s (.bool _t),after:=a }=_s (.bool (_t==_t)) from w_eq_bool (w_res S) w_lit) S
def attach_call{l:OpenLaw}{n:Nat}{q:jQ}{loose:jJ}{XP:(jI)->Heap->Prop}{YP:jR->Heap->Prop}{d:DefRec}(C:l.most=_s n)(e:d.params.defaults=[])(call:∀w c b mg u g o pm k doc a vs ns, Ground q loose [] XP w c mg u b.heap->YP w b.heap -> b.heap.get? g=_s o->o.data=.func (docDef d.name d.params d.body d.scope pm k doc)->b.heap.CodeRec k d.name->mg d.name=_s (.ref g)-> b.heap.get? a=_s {cls:=.type "list", data:=.seq vs.4 }->IntsAre vs ns->ns.9<=n->b.gens=#[]-> codeAny (_m l.prog w) callerA (.call (.ref g) ([.ref a],[])) (λr m=>r=.ok (.ret (.bool _t))/\OldK b.heap m.heap/\m.os=b.os/\AllBare m.gens) b) :
  WalkO q loose XP YP l.row.toRowW d [] (λf vs=>PySem.call f vs):=by
 intro w c b mg u G Y g o pm k doc y kV E z p i s A h x H j v F t B;obtain rfl:y=.none:=Dflts.none i e;obtain rfl:kV=.none:=Dflts.noKw i;let(a,vs,ns,S,S,i,e,h):=bP C j t;erw[enter_call (codeAny_mono (call w c b mg u g o pm k doc a vs ns G Y E (fd_plain z) p s i e h A) λr m g=>?_)];let(S,b,c,e):=g;rwa[.inl (.bool _t,.bool _t,[],S,λ_=>rfl,.bool _t,OF l _,λ_=>(List.Pairwise.nil,λ_ g=>(nomatch g))),b,c,e]
section
variable{prog:jQ}{w:jR}{A:jS}{E:jH}{s:jN}{K:Frag}
end
end Att
namespace L2
open PySem PySem.Spec PyProof.Rows
theorem Mw:∀{vs:jK}{ns:List Int},IntsAre vs ns->ZJ (ns.map V.int) vs
 | _,_,.nil=>.nil
 | _,_,.cons n t h=>.cons (t,S) (Mw h)
def Fl(H:Hp):Prop:=∀b,H b=_n\/∃o L,H b=_s (.frz o (.lst L))
def QN{P:jQ}{w:jR}{K:uFg}{mg I:jI}{CX:UO}{k:Nat}{d a:jP}{b:FuncData}{x:Str}{sp:Sp}{c:jN}{vs:jK}{ns:List Int}(M:K.In c.heap)(t:c.heap.Ns _g mg)(g:c.heap.Ns builtinsNs I)(E:∀x:Str,x ≠ "__name__" -> I x=_o x)(p:c.heap.NoLimit)(W:c.gens=#[])(C:c.heap.get? a=_s {cls:=.type "list", data:=.seq vs.4 })(f:IntsAre vs ns)(O:ns.9<=_z)(X:ZO k callerA)(F:∀Z:Heap,K.In Z->Z.Ns _g mg->YG P w K mg Z CX k d b [x] sp)(l:∀ (s:jN) (u:jO),BindsTo s b ([u],[]) [(x,u)])(G:∀H:Hp,Fl H->ZG K H a (ns.map V.int)->sp [.ref a] H (λv _=>v=.bl _t) λ_ _ _=>False)(B:∀H e i,CX [] H c (λ_ _ _=>False) e i->False) :
  codeAny (_m P w) callerA (.call (.ref d) ([.ref a],[])) (λr i=>r=.ok (.ret (.bool _t))/\OldK c.heap i.heap/\i.os=c.os/\AllBare i.gens) c:=by
 let Q:=Mw f;let A:=f.9;let j:∀H:Hp,Fl H->ZG K H a (ns.map V.int)->YW P w H c.heap->(∀b,H b≠_n->b=a)->(H a≠_n->K.lookup a=_n)->
   codeAny (_m P w) callerA (.call (.ref d) ([.ref a],[])) (λr i=>r=.ok (.ret (.bool _t))/\OldK c.heap i.heap/\i.os=c.os/\AllBare i.gens) c:=by
  intro H N U y R T;let f:∀{b:jP}{o:Obj},c.heap.get? b=_s o->H b=_n->(Ak c.heap H).get? b=_s o:=λe n=>RK e n;let J:∀{b:jP}{o:Obj}{z:Array DictEntry}{n:Nat},c.heap.get? b=_s o->o.data=.dict z n->H b=none:=λ{b o z n} e d=>by grind
  let h:∀{b:jP}{m:jI},c.heap.Ns b m->(Ak c.heap H).Ns b m:=λ{b m} ⟨o,z,n,e,d,r⟩=>(o,z,n,f e (J e d),d,r)
  let d:K.In (Ak c.heap H):=λb o e=>f (M b o e) (by
   cases q:H b with
   | none=>rfl
   | some u =>
    let f:b=a:=R b (by rw[q];simp);subst f
    rw[T (by rw[q];simp)] at e;ext e)
  let n:Mod K mg (Ak c.heap H):=(d,h t,(I,h g,E),let ⟨z,f,m⟩:=p;(z,h f,m));let e0:UE P w K mg (Ak c.heap H) callerA [] c H:=(S,n,λb o e=>iS e,me (Pt _ _),trivial,λb g=>_a (show b∈([]:jM) from g) (by simp),y,.of_eq W);erw[codeAny_mono ((F _ d (h t)).run callerA [] c H ([.ref a],[]) [.ref a] [.ref a] _ _ X e0 (l c (.ref a)) (.cons S .nil) (G H N U)) λr i h=>?_];cases r with
  | error e=>rwa[(B H e i h).elim]
  | ok c =>
   cases c with
   | next=>rwa[False.elim h]
   | brk=>rwa[False.elim h]
   | cont=>rwa[False.elim h]
   | ret u =>
    let(v,J,os,c,f,d,i,q):=h;let h:v=.bl true:=q;subst h;obtain rfl:u=Value.bool true:=i;erw[rfl,OldK.of_keep λb o e=>?_,os,c];cases q:H b with
    | none=>rwa[f.keep b o e q (by intro z;rwa[_a (show b∈([]:jM) from z) (by simp)]) (by simp)]
    | some u =>
     rcases N b with z | ⟨ob,L,z⟩
     .rw[q] at z;ext z
     .let h:=f.o6 b ob _ z;let(c,_):=y b _ z;let(f,_):=d b _ h;rw[e] at c;ext c;rwa[f]
 cases d:K.lookup a with
 | some o =>
  let e:=M a o d;rw[C] at e;ext e;erw[j (λ_=>_n) (λ_=>.inl S) (.inr (_,vs.4,_,d,S,S,S,by rw[xU,A];rwa[O],by simpa using Q)) (λb u z=>by let c:(none:Option HO)=_s u:=z;ext c) (λb z=>_a S z) λz=>_a S z]
 | none =>
  erw[j (λb=>if b=a then _s (.frz {cls:=.type "list", data:=.seq vs.4 } (.lst (ns.map V.int))) else _n) (λb=>?_) (.inl (.inr ({cls:=.type "list", data:=.seq vs.4 },_j S))) (λb u z=>?_) (λb z=>?_) λ_=>d]
  .by_cases g:b=a
   .rwa[.inr (_,_,_j g)]
   .rwa[.inl (_i g)]
  .by_cases g:b=a
   .let c:=(_j g).symm.trans z;ext c;subst g;rwa[C,by rw[xA];rwa[O],vs,_,Q,C]
   .let c:=(_i g).symm.trans z;ext c
  .by_cases g:b=a
   .rwa[g]
   .rwa[_a (_i g) z]
def walk_of{l:PySem.W.OpenLaw}{n k:Nat}{q:jQ}{loose:jJ}{XP:(jI)->Heap->Prop}{YP:jR->Heap->Prop}{d:DefRec}{K:Params->uFg}{CX:jR->UO}{sp:jR->Sp}{x:Str}(c:l.most=_s n)(t:n<=_z)(b:d.params.defaults=[])(J:ZO k callerA)(C:∀ (w:jR) (h:Heap),YP w h->(K w.params).In h)(F:∀ (w:jR) (mg:jI) (j:jP) (h:Heap),(K w.params).In h->h.Ns _g mg->mg d.name=_s (.ref j)-> ∃m:FuncData,(∀ (s:jN) (u:jO),BindsTo s m ([u],[]) [(x,u)])/\ ∀Z:Heap,(K w.params).In Z->Z.Ns _g mg->YG l.prog w (K w.params) mg Z (CX w) k j m [x] (sp w))(y:∀ (w:jR) (H:Hp) (a:jP) (ns:List Int),ns.9<=n->Fl H->ZG (K w.params) H a (ns.map V.int)->sp w [.ref a] H (λv _=>v=.bl _t) λ_ _ _=>False)(p:∀ (w:jR) (H:Hp) (s:jN) (e:jO) (z:jN),CX w [] H s (λ_ _ _=>False) e z->False) :
  PySem.W.WalkO q loose XP YP l.row.toRowW d [] (λf vs=>PySem.call f vs):=by
 erw[Att.attach_call c b λw A i mg O j o P L B a vs ns G Y N M E r g c b I=>?_];let o:=C w _ Y;let(m,B,A):=F w mg j _ o G.T.g r;rwa[QN o G.T.g G.T.b G.T.builtins G.T.nolimit I g c (xX b t) J A B (λH c g=>y w H a ns b c g) λH e z=>p w H i e z]
def Yr(s:Stmt)(j:Nat):Stmt:=match s with
 | .ClassDef _ _ _ a _ _ _ _ _ _ _=>a.getD j (.Pass (0,0,0,0))
 | _=>.Pass (0,0,0,0)
def Vc(s:Stmt):Arguments:=match s with
 | .FunctionDef _ a _ _ _ _ _ _ _ _=>a
 | _=>{posonlyargs:=[],args:=[],vararg:=_n,kwonlyargs:=[],kw_defaults:=[],kwarg:=_n,defaults:=[] }
def Yw(s:Stmt):List Stmt:=match s with
 | .FunctionDef _ _ b _ _ _ _ _ _ _=>b
 | _=>[]
def Zm(s:Stmt):Scope:=match s with
 | .FunctionDef _ _ _ _ _ _ a _ _ _=>a
 | _=>{kind:=.function,names:=[],isGenerator:=_x,isCoroutine:=_x }
abbrev VG:UO:=λ_ _ _ _ _ _=>False
abbrev E0:XK:=λ_ _ _=>False
theorem Ed:AS VG X E0:=λ_ _ _ _ _ _ _ h=>h.elim
structure Th (K:uFg) (x qual:Str) (st:Stmt) (f:jP) (fd:FuncData):Prop where
 ex:∃(oc:jO)(od:Option jP)(kV doc pm:jO)(an:Option jP)(cdv ct:jO)(osl:Array (Option jO)),
  fd=fnOf x qual (Vc st) (Yw st) (Zm st) .none kV doc pm an cdv ct/\K.lookup f=_s (oc,od,.func fd,osl)/\codeIn K cdv qual=_t
 kp:keepIn K (.ref f)=_t
section
variable{P:jQ}{w:jR}{K:uFg}{mg:jI}{Z:Heap}
def Th.ok{x qual:Str}{st:Stmt}{f:jP}{d:FuncData}{N b:jJ}{k:Nat}{sp:Sp}(F:Th K x qual st f d)(S:ZP N b (Zm st))(c:∀vs H Q E,sp vs H Q E->vs.9=b.9)(a:∀ (cdv:jO) (A:jS) (outer:List Env) (s:jN) (H:Hp) (vs:aG) (Q:VK) (E:XK),ZO k (A.deeper (envOfC qual (Zm st) s.heap.objs.size f cdv))->sp vs H Q E -> ∃t,Ba (Y9 VG P w K mg Z N qual (Zm st) f cdv A outer s H E).oG (Yw st) t/\t {nx:=λ_ J=>Q .non J,rt:=Q } (start N vs) H):YG P w K mg Z VG (k+1) f d b sp:=by
 let(j,od,kV,d,l,h,cdv,i,g,rfl,e,b):=F.ex;erw[Ko e b S c λA outer s H vs Q E c b=>?_];let(t,h,q):=a cdv A outer s H vs Q E c b;rwa[t,h.oG,q]
def Th.binds{x qual:Str}{st:Stmt}{f:jP}{b:FuncData}{a:jJ}(F:Th K x qual st f b)(h:∀ (kV doc pm:jO) (an:Option jP) (cdv ct:jO) (us:jK),us.9=a.9->bindArgs (fnOf x qual (Vc st) (Yw st) (Zm st) .none kV doc pm an cdv ct) (us,[])=pure (a.zip us)):YR K b a []:=by
 let(d,od,kV,doc,pm,an,cdv,ct,b,S,c,a):=F.ex;rwa[.all (h kV doc pm an cdv ct)]
theorem FM{x qual:Str}{st:Stmt}{f:jP}{oc:jO}{od an:Option jP}{osl:Array (Option jO)}{kV doc pm cdv ct:jO}(l:K.lookup f=_s (oc,od,.func (fnOf x qual (Vc st) (Yw st) (Zm st) .none kV doc pm an cdv ct),osl))(c:codeIn K cdv qual=_t)(k:keepIn K (.ref f)=_t):Th K x qual st f (fnOf x qual (Vc st) (Yw st) (Zm st) .none kV doc pm an cdv ct):=((oc,od,kV,doc,pm,an,cdv,ct,osl,S,l,c),k)
end
section
variable{X:Cx}
end
def Zz{A B:Prop}(h:B):if _x=_t then A else B:=by
 rw[_i xJ];rwa[h]
def Z6{A B:Prop}(h:A):if _t=_t then A else B:=by
 rw[_j S];rwa[h]
def ZC(H J:Hp):Prop:=∀b o,H b=_s o->J b=_s o
theorem ZC.refl(H:Hp):ZC H H:=λ_ _ h=>h
theorem ZC.trans(a:ZC H H1)(b:ZC H1 H2):ZC H H2:=λc o h=>b c o (a c o h)
def ZC.free(e:ZC H J)(h:J l=Option.none):H l=Option.none:=by
 cases q:H l with
 | none=>rfl
 | some o =>
  rw[e l o q] at h;ext h
def gH:JE X (.builtin "len") (λL H Q=>∃a U,L=[V.ref a]/\H a=_s (.dK U)/\Q (.int U.9) H):=by
 intro B s Y H L b Q I r h;let(a,U,S,b,q):=h;let(u,S,c):=Up r;ext c;rwa[SQ I (.inl b) λt c b=>(.int U.9,H,b,(t,S),q)]
section
variable{κ:Type} [DecidableEq κ]
def Qh{U:List (κ×V)}{k:κ}(h:Zx U k=_n):¬k∈U.map (·.1):=by
 intro m;let(p,a,e):=zD.mp m;let q:(U.any λb=>decide (b.1=k))=true:=List.any_eq_true.mpr (p,a,yE e);rw[AH,h] at q;rwa[_a q (by simp)]
theorem EY:∀{l:List κ}{k:κ},l.Nodup->¬k∈l->(l ++ [k]).Nodup
 | [],k,_,_=>by simp
 | a::r,k,h,hk=>by
  let(b,c):=yK.mp h;show (a::(r ++ [k])).Nodup;erw[yK.mpr (λm=>?_,EY c λm=>hk (xD.mpr (Or.inr m)))];rcases xK.mp m with q | q
  .rwa[b q]
  .grind
def cO{U:List (κ×V)}{k:κ}(v:V)(a:(U.map (·.1)).Nodup)(h:Zx U k=_n):((Z4 U k v).map (·.1)).Nodup:=by
 rw[Iq v h,xL];rwa[EY a (Qh h)]
end
end L2
end
namespace L2
open PySem PySem.Spec PyProof.Rows
abbrev ccx(X:Cx)(scope:Scope)(cl:List (Str×jP))(C:jP)(N':jJ)(s2:jN)(H2:Hp)(ex:jM)(pn:List (jP×Obj)):Cx where
 prog:=X.prog
 w:=X.w
 K:=X.K
 mg:=X.mg
 base:=X.base
 A:=X.A
 N:=N'
 s₀:=s2
 H₀:=H2
 env:=compEnvC scope cl C X.env
 outer:=X.stack
 stack:=X.stack
 ex:=ex
 fn:=λ_=>_x
 calm:=X.calm
 pn:=pn
 xe:=λ_ _=>False
theorem EF(env:Env):∀(l:List (Str×NameKind))(cs:List (Str×jP)),(∀p∈l,p.2=.free->∃c,env.cells.lookup p.1=_s c)->
  ∃cl,(forIn l cs (λ(x:Str×NameKind) (r:List (Str×jP))=>if (x.2==NameKind.free)=_t then (do let a <- cellOf env x.1;pure (ForInStep.yield ((x.1,a)::r)):Sem (ForInStep (List (Str×jP)))) else pure (ForInStep.yield r)):Sem _)=pure cl /\
   (∀x c,cl.lookup x=_s c->env.cells.lookup x=_s c\/cs.lookup x=_s c)/\(∀x,((x,NameKind.free)∈l\/∃c,cs.lookup x=_s c)->∃c,cl.lookup x=_s c)
 | [],cs,_=>(cs,S,λx c h=>.inr h,λx h=>h.elim (λz=>nomatch z) id)
 | (n,k)::r,cs,h=>by
  let hr:∀p∈r,p.2=.free->∃c,env.cells.lookup p.1=_s c:=λp hp=>h p (xM _ hp)
  by_cases hk:k=.free
  .subst hk;let(c,hc):=h (n,.free) xZ S;let(cl,e,h1,h2):=EF env r ((n,c)::cs) hr;erw[cl,?_,λx d hx=>?_,λx hx=>?_]
   .rw[List.forIn_cons];let e2:cellOf env n=pure c:=by unfold cellOf;rw[hc]
    simp only[beq_self_eq_true,if_true,e2,pure_bind];rwa[e]
   .grind
   .apply h2;rcases hx with hx | ⟨d,hx⟩
    .grind
    .grind
  .let(cl,e,h1,h2):=EF env r cs hr;erw[cl,?_,h1,λx hx=>h2 x ?_]
   .grind
   .grind
def RB(h:∀p∈scope.names,p.2=.free->∃c,env.cells.lookup p.1=_s c) :
  ∃cl,closureFor scope env=pure cl/\(∀x c,cl.lookup x=_s c->env.cells.lookup x=_s c)/\(∀x,(x,NameKind.free)∈scope.names->∃c,cl.lookup x=_s c):=by
 let(cl,e,h1,h2):=EF env scope.names [] h;erw[cl,?_,λx c hx=>(h1 x c hx).elim id (λz=>nomatch z),λx hx=>h2 x (.inl hx)];unfold closureFor;let e':=congrArg (λm:Sem (List (Str×jP))=>m >>= λr=>pure r) e;simp only[pure_bind] at e';rwa[e']
theorem GR{env:Env}{b:NameKind}(c:b ≠ .free):∀{a:List (Str×NameKind)}{x:Str},a.lookup x=_s b ->
  (a.map λ(n,k)=>if (k==NameKind.free&&env.scope.kind==.function&&env.kindOf n==_s .cell) then (n,NameKind.cell) else (n,k)).lookup x=_s b
 | [],_,h=>by simp at h
 | (n,k)::r,x,h=>by
  let i:=@GR env b c r x;show List.lookup x ((if (k==NameKind.free&&env.scope.kind==.function&&env.kindOf n==_s .cell)=_t then (n,NameKind.cell) else (n,k))::_)=_;cases d:x==n with
  | true =>
   simp only[wV,d] at h;let h:_s k=_s b:=h;let f:k=b:=ma h;subst f;let e:(k==NameKind.free)=false:=by simpa using c
   rw[e,wH,wH,_i xJ,wV,d]
  | false =>
   simp only[wV,d] at h
   by_cases g:(k==NameKind.free&&env.scope.kind==.function&&env.kindOf n==_s .cell)=_t
   .grind
   .grind
theorem FS{env:Env}:∀{a:List (Str×NameKind)}{x:Str},a.lookup x=_s .free ->
  ((a.map λ(n,k)=>if (k==NameKind.free&&env.scope.kind==.function&&env.kindOf n==_s .cell) then (n,NameKind.cell) else (n,k)).lookup x=_s .cell)\/
  ((a.map λ(n,k)=>if (k==NameKind.free&&env.scope.kind==.function&&env.kindOf n==_s .cell) then (n,NameKind.cell) else (n,k)).lookup x=_s .free)
 | [],_,h=>by simp at h
 | (n,k)::r,x,h=>by
  let a:=@FS env r x;show (List.lookup x ((if (k==NameKind.free&&env.scope.kind==.function&&env.kindOf n==_s .cell)=_t then (n,NameKind.cell) else (n,k))::_)=_)\/(List.lookup x ((if (k==NameKind.free&&env.scope.kind==.function&&env.kindOf n==_s .cell)=_t then (n,NameKind.cell) else (n,k))::_)=_);cases a:x==n with
  | true =>
   simp only[wV,a] at h;ext h
   by_cases b:(NameKind.free==NameKind.free&&env.scope.kind==.function&&env.kindOf n==_s .cell)=_t
   .grind
   .grind
  | false =>
   simp only[wV,a] at h
   by_cases b:(k==NameKind.free&&env.scope.kind==.function&&env.kindOf n==_s .cell)=_t
   .grind
   .grind
def M4(a:∀y∈scope.names,y.2 ≠ .cell)(h:(relabel scope env).names.lookup x=_s .cell\/(relabel scope env).names.lookup x=_s .free):(Prod.mk (x) (NameKind.free))∈scope.names:=by
 let m:∃a,(a=NameKind.cell\/a=NameKind.free)/\(Prod.mk (x) (a))∈(relabel scope env).names:=by
  rcases h with h | h
  .rwa[_,.inl S,mem_of_lookup h]
  .rwa[_,.inr S,mem_of_lookup h]
 let(a,b,m):=m;let((n,k),b,e):=zD.mp m;let e:(if (k==NameKind.free&&env.scope.kind==.function&&env.kindOf n==_s .cell)=_t then (Prod.mk (n) (NameKind.cell)) else (Prod.mk (n) (k)))=(Prod.mk (x) (a)):=e
 by_cases a:(k==NameKind.free&&env.scope.kind==.function&&env.kindOf n==_s .cell)=_t
 .grind
 .grind
def Xx(I:Nat->jN->Prop)(hEX:∀e s,EX e s->notedBy (_m prog w) A env (λx s'=>R (.error x) s') e s)(turn:∀n s,I n s->_w (_m prog w) A (pyNext it) (λr s₁=>match r with
   | none=>R (.ok .next) s₁
   | some v=>_w (_m prog w) A (letOwnedTupleGo target it v) (λ_ s1=>_w (_m prog w) A (assign target env v) (λ_ s₂ =>
     _w (_m prog w) A (forIn ifs _t λc r=>if r=_t then do let ok <- isTrue c env (eval c env);pure (ForInStep.yield ok) else pure (ForInStep.yield r)) (λok s₃ =>
      if ok=_t then _w (_m prog w) A (eval elt env) (λx s₄ =>
       _w (_m prog w) A (call (.builtin "list.append") [acc,x]) (λ_ s₅=>∃m,m<n/\I m s₅) (λ_ _=>False) s₄) EX s₃
      else ∃m,m<n/\I m s₃) (λ_ _=>False) s₂) (λ_ _=>False) s1) (λ_ _=>False) s₁) (λ_ _=>False) s)(n:Nat)(h:I n s) :
  codeAny (_m prog w) A (.compLoop (.ListComp elt [(target,iter,ifs,0)] scope pos) 0 it acc env) R s:=by
 erw[codeAny_loop S I (λn s hI=>?_) n h];show _w _ A ((compTurn (.ListComp elt [(target,iter,ifs,0)] scope pos) 0 it acc env).onRaise (λx=>do noteFrame x env;theTreesLotGoes x)) _ _ s;erw[wpAny_noted ?_];rw[compTurn_list];erw[_b (wpAny_standAt (_b (wpAny_mono (turn n s hI) (λr s₁ h₁=>?_) λ_ _ h'=>h'.elim)))];cases r with
 | none=>rwa[_p h₁]
 | some v =>
  erw[_b (wpAny_mono h₁ (λ_ s1 h1=>?_) λ_ _ h'=>h'.elim)];erw[_b (wpAny_mono h1 (λ_ s₂ h₂=>_b (wpAny_mono h₂ (λok s₃ h₃=>?_) λ_ _ h'=>h'.elim)) λ_ _ h'=>h'.elim)];cases ok with
  | false=>rwa[_p (S,h₃)]
  | true =>
   rwa[_b (_b (wpAny_mono h₃ (λx s₄ h₄=>_b (wpAny_mono h₄ (λ_ s₅ h₅=>_p (_p (S,h₅))) λ_ _ h'=>h'.elim)) λe s h'=>hEX e s h'))]
abbrev Tw:=St->Hp->(Bool->Hp->Prop)->Prop
def Co(X:Cx)(ifs:List Expr)(t:Tw):Prop :=
 ∀(B:List (jP×Obj))(s:jN)(Y:St)(H:Hp)(Q:Bool->Hp->Prop),ZE X B Y H s->t Y H Q ->
  _w (_m X.prog X.w) X.A (forIn ifs _t λc r=>if r=_t then do let ok <- isTrue c X.env (eval c X.env);pure (ForInStep.yield ok) else pure (ForInStep.yield r)) (TP X B Y Q) X.xe s
theorem iE(h:PT X c t):Co X [c] t:=λB s Y H Q I a=>wpAny_tests_one (h B s Y H Q I a)
structure WH (X:Cx) (scope:Scope) (fr:List (Str×Nat)):Prop where
 slots:∀p∈fr,X.N[p.2]?=_s p.1/\(X.env.kindOf p.1=_s .cell\/X.env.kindOf p.1=_s .free)
 kind:∀p∈fr,scope.names.lookup p.1=_s .free
def inN(locs:jJ)(fr:List (Str×Nat)):List Str:=locs++fr.map (·.1)
def inS(locs:jJ)(fr:List (Str×Nat))(Y:St):St:=List.replicate locs.length _n++fr.map λp=>(Y[p.2]?).join
def inF(fr:List (Str×Nat))(Y:St):St:=fr.map λp=>(Y[p.2]?).join
def Vd(n:Nat)(b:St)(g:TG)(f:Tw)(e:TE)(x:V)(H:Hp)(Y:V->Hp->Prop)(N:Hp->Prop):Prop :=
 ∀a:St,a.9=n->g x (a++b) H λa d=>(∃c:St,c.9=n /\ a=c++b)/\f a d λb c=>if b=_t then e a c Y else N c
def Vz(a:It)(n:Nat)(d:St)(g:TG)(f:Tw)(e:TE)(Q:VK)(b:Hp):Prop:=∃W:Nat->Nat->List V->Hp->Prop,(∃m,W 0 m [] b)/\∀i m b H,W i m b H ->
 (a.stop i H/\b.9<=_z/\∀l,H l=_n->Q (.ref l) (upd H l (.lst b)))\/
 (a.go i H/\b.9<_z/\∃c,c<m/\∀x J,a.jb i H x J->Vd n d g f e x J (λy a=>W (i+1) c (b ++ [y]) a) λa=>W (i+1) c b a)
def Ee(n:Nat)(fr:List (Str×Nat))(a:TI)(g:TG)(c:Tw)(b:TE):TE:=λY H Q=>a Y H λJ a=>Vz J n (inF fr Y) g c b Q a
theorem OP(f:YW P w H h)(d:H D=_n)(a:ZM P w (upd H D o) h D o):YW P w (upd H D o) h:=λb u e=>by
 by_cases c:b=D
 .subst c;rw[Zi] at e;ext e;rwa[a]
 .rw[Zd c] at e;exact(f b u e).oR (λ_ _ _ q=>q) (λc q=>by rw[Zd (Zj q d)];rwa[q]) λc L q=>by rw[Zd (Zj q d)];rwa[q]
section
variable{X:Cx}{scope:Scope}{locs:jJ}{fr:List (Str×Nat)}
def GQ{B:List (jP×Obj)}{Y:St}{H1:Hp}{s2:jN}{it:jP}{fp:jM}{tn:Nat->Heap->Prop}{Jqz:It}{cl:List (Str×jP)}{E:jH}{RR:jO->jP->Result->jN->Prop}{QQ:List V->Hp->Prop}{EE:Hp->jO->jN->Prop}(hc:X.calm=_t)(hkind:scope.kind=.function)(hcell:∀y∈scope.names,y.2 ≠ .cell)(hlo:∀x∈locs,scope.names.lookup x=_s .local)(F:WH X scope fr)(hnd:(inN locs fr).Nodup)(cl1:∀x c,cl.lookup x=_s c->X.env.cells.lookup x=_s c)(cl2:∀x,(x,NameKind.free)∈scope.names->∃c,cl.lookup x=_s c)(inner:∀ (C:jP) (s0:jN) (H0:Hp) (ex:jM) (pn:List (jP×Obj)),PG (ccx X scope cl C (inN locs fr) s0 H0 ex pn) tg g/\Co (ccx X scope cl C (inN locs fr) s0 H0 ex pn) ifs tt)(hel:∀ (C:jP) (pE:List (jP×Obj)) (s:jN) (σ':St) (H:Hp) (Yqz:VK),(∀b∈fp,∃o,(b,o)∈pE)->ZE (ccx X scope cl C (inN locs fr) s2 H1 fp (X.pn++B)) pE σ' H s->te σ' H Yqz -> _w (_m X.prog X.w) X.A (eval elt (compEnvC scope cl C X.env)) (EP (ccx X scope cl C (inN locs fr) s2 H1 fp (X.pn++B)) pE σ' Yqz) (λe s'=>∃pE' σ2 J,ZE (ccx X scope cl C (inN locs fr) s2 H1 fp (X.pn++B)) pE' σ2 J s'/\EE J e s') s)(hER:∀ (D C:jP) (J:Hp) (e:jO) (s':jN) (m:jI),ZE X B Y J s'->Vt X B J C->s'.heap.Ns C m->EE J e s'->notedBy (_m X.prog X.w) X.A (compEnvC scope cl C X.env) (λx s''=>RR (.ref D) C (.error x) s'') e s')(I:ZE X B Y H1 s2)(T:VJ X.prog X.w X.K tg Jqz fp it tn)(st0:tn 0 s2.heap)(hf:∀b∈fp,Vt X B H1 b){W:Nat->Nat->List V->Hp->Prop}(w0:∃m,W 0 m [] H1)(turn:∀i m ys H,W i m ys H -> (Jqz.stop i H/\ys.9<=_z/\QQ ys H)\/ (Jqz.go i H/\ys.9<_z/\∃m',m'<m/\∀x J,Jqz.jb i H x J->Vd locs.length (inF fr Y) g tt te x J (λy H4=>W (i+1) m' (ys ++ [y]) H4) λH3=>W (i+1) m' ys H3))(hRR:∀ (D C:jP) (ys:aG) (J:Hp) (s':jN) (m:jI),J D=_n->D≠C->ZE X B Y (upd J D (.lst ys)) s'->Vt X B (upd J D (.lst ys)) C->s'.heap.Ns C m->QQ ys J->RR (.ref D) C (.ok .next) s') :
  _w (_m X.prog X.w) X.A (newList []) (λacc s₃=>_w (_m X.prog X.w) X.A (newFunctionEnv scope X.env.globals cl [] X.env.qual _n .none (_s X.env)) (λcenv s₄ => codeAny (_m X.prog X.w) X.A (.compStart (.ListComp elt [(tg,iter,ifs,0)] scope pos) 0 (.ref it) acc {cenv with scope:=relabel scope X.env }) (RR acc cenv.locals) s₄) E s₃) E s2:=by
 erw[wpAny_newObj_type (wpAny_newFunctionEnv hcell (by intro y hy;simp at hy) (λh₁ hns₁ hsb₁=>?_) hkind)];dsimp only at hns₁ hsb₁ |-;generalize hH2:s2.heap.push {cls:=.type "list", dict:=_n,data:=.seq ([]:jK).4 }=Hq at hns₁ hsb₁ |-;let hC:Hq.objs.size=s2.8+1:=by rw[<- hH2,yY]
 generalize hDe:s2.8=D at hC |-;generalize hCe:Hq.objs.size=C at hC hns₁ hsb₁ |-;let hDC:D≠C:=by lia
 let below:∀b,b<D->b≠C/\b≠D:=λb hb=>((),());let ltD:∀{b:jP}{o:Obj},s2.heap.get? b=_s o->b<D:=λe=>hDe▸xP e;let old:∀b o,s2.heap.get? b=_s o->h₁.get? b=_s o:=λb o e=>hsb₁.extBut b o (below b (ltD e)).1 (xB _ (hH2▸xB _ e));let hacc:h₁.PlainList D #[]:=(_,hsb₁.extBut _ _ hDC (xB _ (by subst hDe;rwa[hH2▸xI _ S])))
 letI X':Cx:=ccx X scope cl C (inN locs fr) s2 H1 fp (X.pn++B)
 let ltC:s2.8<=C:=by rw[hDe,hC];rwa[zV _]
 let fpC:Vt X B H1 C:=I.iw ltC (I.og.fresh ltC);let fpD:Vt X B H1 D:=I.iw (me hDe) (I.og.fresh (me hDe));let stkN:∀b,b≠X.env.locals->b∉X.fs->b∉frs X.stack:=λb h1 h2 z=>(xD.mp (I.oV b z)).elim h1 h2;let ok':X'.Ok:=by
  erw[I.ok.mod,hkind,I.ok.glob,I.ok.blt,ltC,λx y c h1 h2=>I.ok.inj x y c (cl1 x c h1) (cl1 y c h2),λx hx=>?_,λx c h=>?_,I.ok.hd,I.ok.frames,.inl S,λb hb=>?_,λb o e=>I.bs b o e,xX I.ok.ib I.sz,λb o e hb=>?_,λb hb=>?_,I.stack,I.oU]
  .let(c,hcc):=cl2 x (M4 hcell hx);rwa[c,hcc]
  .ext h
  .erw[λz=>?_,λx c e=>(hf b hb).2.2.2.2.1 x c (cl1 x c e)];let(o,ho,_):=T.obj _ _ st0 b hb;let z':b=C:=z;rwa[(below b (ltD ho)).1 z']
  .let hb':=hf b hb;rcases hb'.2.2.2.1 with z | z
   .rwa[I.ok.oB b o e z]
   .rwa[_a (yO (xP e) (xX I.ok.ib z)) (zS _)]
  .rwa[stkN b (hf b hb).2.1 (hf b hb).2.2.1]
 let I1:ZE X' [] (inS locs fr Y) H1 {s2 with heap:=h₁,toks:=s2.toks+([]:List (Str×jO)).9 }:=by
  erw[ok',I.os.6▸rfl,I.bare,Un.kept old,(_,hns₁,λi x v h1 h2 h3=>?_),λx c e=>?_,I.og.fresh ltC,λx c e=>I.ix x c (cl1 x c e),λp hp=>?_,I.og.kept old,?_]
  .-- a slot of the block that has a value is a free name's
   let hge:locs.9<=i:=by
    by_cases hi:i<locs.9
    .unfold inS at h2;rw[wF (by simpa using hi),List.getElem?_replicate,_j hi] at h2;ext h2
    .lia
   let h1':(fr.map (·.1))[i - locs.9]?=_s x:=by
    let h1:(inN locs fr)[i]?=_s x:=h1;unfold inN at h1;rw[List.getElem?_append_right hge] at h1;rwa[h1]
   let h2':(fr.map λp=>(Y[p.2]?).join)[i - locs.9]?=_s (_s v):=by
    unfold inS at h2;rw[List.getElem?_append_right (by simpa using hge),zZ] at h2;rwa[h2]
   rw[xF] at h1' h2';cases e:fr[i - locs.9]? with
   | none=>rw[e] at h1';ext h1'
   | some p =>
    rw[e] at h1' h2';let ex:p.1=x:=ma h1';let ev:(Y[p.2]?).join=_s v:=ma h2';let(f1,f2):=F.slots p (xN e);let ev':Y[p.2]?=_s (_s v):=by grind
    let(m0,hn0,hl0):=I.loc;let vis0:Cr X.env.scope p.1:=by
     rcases f2 with z | z
     .rwa[.inr (.inl z)]
     .rwa[.inr (.inr z)]
    let(u,ru,lk):=hl0 p.2 p.1 v f1 ev' vis0;let hxm:x∉locs:=λz=>by
     let hnd':=hnd;unfold inN at hnd';rwa[(List.nodup_append.mp hnd').2.2 x z x (zD.mpr (p,xN e,ex)) S]
    erw[u,ru,?_];rcases lk with⟨hk,_⟩ | ⟨hk,c,hcc,hce⟩
    .grind
    .-- in the block it is a cell or free name
     let h3:Cr (relabel scope X.env) x:=h3;let hk':(compEnvC scope cl C X.env).kindOf x=_s .cell\/(compEnvC scope cl C X.env).kindOf x=_s .free:=by
      rcases h3 with z | z | z
      .exfalso;let q:=FS (env:=X.env) (F.kind p (xN e));rw[ex] at q;rcases q with q | q
       .let z':_s NameKind.local=_s NameKind.cell:=z.symm.trans q;ext z'
       .let z':_s NameKind.local=_s NameKind.free:=z.symm.trans q;ext z'
      .rwa[.inl z]
      .rwa[.inr z]
     let(c',hc'):=cl2 x (M4 hcell hk');have:=cl1 x c' hc';rw[<- ex,hcc] at this;ext this;erw[.inr (hk',c,hc',?_)];let(o,ho,hd):=hce;rwa[o,old _ _ ho,hd]
  .let(v,o,ho,hd):=I.cell x c (cl1 x c e);rwa[v,o,old _ _ ho,hd]
  .let hp':p∈X.pn++B:=(xK.mp hp).elim id λz=>nomatch z;let(e,n,ne,nf,d):=I.pin p hp';rwa[old _ _ e,n,(below _ (ltD e)).1,stkN _ ne nf,d]
  .show (inS locs fr Y).9=(inN locs fr).9;unfold inS inN;simp
 let fpLt:∀b∈fp,b<D:=λb hb=>by
  let(o,ho,_):=T.obj _ _ st0 b hb;rwa[ltD ho]
 let(m0,w0):=w0
 letI oD:List jO->Nat->Obj:=λits k=>{cls:=.type "list", data:=.seq its.toArray k }
 let stat:∀{J:Hp}{ob:Obj},(∀b∈fp,J b=_n)->∀b∈fp,Vt X' [(D,ob)] J b:=λ{J ob} hn b hb=>by
  let(f0,f1,f2,f3,f4,f5):=hf b hb;erw[hn b hb,(below b (fpLt b hb)).1,stkN b f1 f2,.inl hb,λx c e=>f4 x c (cl1 x c e),λp hp z=>?_];rcases xK.mp hp with q | q
  .rwa[f5 p q z]
  .grind
 let loop:∀s₃:jN,s₃={s2 with heap:=h₁,toks:=s2.toks+([]:List (Str×jO)).9 }->
   codeAny (_m X.prog X.w) X.A (.compLoop (.ListComp elt [(tg,iter,ifs,0)] scope pos) 0 (.ref it) (.ref D) (compEnvC scope cl C X.env)) (RR (.ref D) C) s₃:=by
  rintro s₃ rfl;erw[Xx (λn s'=>∃(i:Nat)(ls:St)(J:Hp)(ys:aG)(its:jK)(k:Nat),ls.9=locs.9/\ZE X' [(D,oD its k)] (ls++inF fr Y) J s'/\tn i s'.heap/\(∀b∈fp,J b=_n)/\ZJ ys its/\W i n ys J) (EX:=λe s'=>∃pE' σ2 J,ZE X' pE' σ2 J s'/\EE J e s') ?_ ?_ m0 ?_]
  .rintro e s4 ⟨pE',σ2,H3,I4,q⟩;let(mC,hnC,_):=I4.loc;let hnC:s4.heap.Ns C mC:=hnC;let nC:H3 C=none:=I4.free;let I5:ZE X B Y H3 s4:=I.ig (ch:=fp) (show s4.os=s2.os from I4.os) I4.base I4.og I4.bare λb hb=>by
    let(f0,f1,f2,f3,f4,f5):=hf b hb;rwa[f3,f1,f4,f5]
   rwa[hER D C H3 e s4 mC I5 (I.iw ltC nC) hnC q]
  .rintro n s3 ⟨i,ls,H3,ys,its,k,hls,I3,st3,fr3,rv,w3⟩;rcases turn i n ys H3 w3 with⟨stop,hz,q⟩ | ⟨go,hz,m',hm,step⟩
   .erw[thn (T.done X' S S S hc i _ s3 _ H3 (λ_ _=>False) I3 (stat fr3) st3 stop) λr s4 ⟨hr,I4⟩=>?_];subst hr;let(pD,nD,_,_,_):=I4.pin (D,oD its k) (xO _ xZ);let nD:H3 D=none:=nD;let(mC,hnC,_):=I4.loc;let hnC:s4.heap.Ns C mC:=hnC;let nC:H3 C=none:=I4.free;let new:ZM X.prog X.w (upd H3 D (.lst ys)) s4.heap D (.lst ys):=(hz,its,k,rv,pD);let hok4:YW X.prog X.w (upd H3 D (.lst ys)) s4.heap:=OP I4.og nD new;let u4:Un (frs X.stack) fp H1 H3 s2.heap s4.heap:=I4.base;let u5:Un (frs X.stack) fp H1 (upd H3 D (.lst ys)) s2.heap s4.heap:=by
     erw[u4.keep,u4.slot,λb o e n hx=>?_,u4.there,λb L e=>?_,λb o u e=>?_,λb ps e=>?_]
     .rw[Zd (below b (ltD e)).2];rwa[u4.free b o e n hx]
     .rw[Zd (Zj e fpD.1)];rwa[u4.j3 b L e]
     .rw[Zd (Zj e fpD.1)];rwa[u4.o6 b o u e]
     .rw[Zd (Zj e fpD.1)];rwa[u4.oW b ps e]
    let I5:ZE X B Y (upd H3 D (.lst ys)) s4:=by
     erw[I.ig (ch:=fp) ?_ u5 hok4 I4.bare λb hb=>?_]
     .have:s4.os=s2.os:=I4.os;rwa[this]
     .let(f0,f1,f2,f3,f4,f5):=hf b hb;rwa[f3,f1,f4,f5]
    let fpC':Vt X B (upd H3 D (.lst ys)) C:=I.iw ltC (by rw[Zd hDC.6];rwa[nC]);rwa[hRR D C ys H3 s4 mC nD hDC I5 fpC' hnC q]
   .erw[thn (T.item X' S S S hc i _ s3 _ H3 (λ_ _=>False) I3 (stat fr3) st3 go) λr s4 ⟨u,hr,h4⟩=>?_];subst hr;erw[thn h4 λ_ s5 ⟨x,H5,I5,r5,y5,st5,fr5⟩=>?_];let(hg,htt):=inner C s2 H1 fp (X.pn++B);let I5':=I5.pinned (stat fr5) (T.obj _ _ st5);erw[thn (hg _ s5 _ H5 x u _ I5' r5 (step x H5 y5 ls hls)) λ_ s6 ⟨σ6,H6,I6,⟨l6,hl6,e6⟩,q6⟩=>?_];subst e6;erw[thn (htt _ s6 _ H6 _ I6 q6) λok s7 ⟨H7,I7,q7⟩=>?_];let again:∀{H8:Hp}{s8:jN},ZE X' ([(D,oD its k)]++AZ fp s5.heap) (l6++inF fr Y) H8 s8->tn (i+1) s8.heap/\∀b∈fp,H8 b=none:=λ{H8 s8} I8=>by
     erw[T.keep _ _ _ st5 λb hb o e=>(I8.pin (b,o) (xO _ (xO _ (Cv hb e)))).1,λb hb=>?_];let(o,e,d):=T.obj _ _ st5 b hb;rwa[(I8.pin (b,o) (xO _ (xO _ (Cv hb e)))).2.1]
    cases ok with
    | false =>
     rw[_i xJ] at q7 |-;let(a1,a2):=again I7;rwa[m',hm,i+1,l6,H7,ys,its,k,hl6,I7.j5,a1,a2,rv,q7]
    | true =>
     rw[_j S] at q7 |-;erw[thn (hel C _ s7 _ H7 _ (λb hb=>let ⟨o,ho,_⟩:=T.obj _ _ st5 b hb;(o,xO _ (Cv hb ho))) I7 q7) λyv s8 ⟨y,H8,I8,r8,q8⟩=>?_];let(a1,a2):=again I8;let(pD,nD,_,nfD,_):=I8.pin (D,oD its k) (xO _ (yP _ xZ));let nD:H8 D=none:=nD;let hl8:s8.heap.PlainList D its.4:=(k,pD);let hlen:its.toArray.5<=sizeLine:=by
      rw[xU,<- rv.9];lia
     erw[wpAny_list_append_plain (hsz:=hlen) hl8 λh9 hl9 hs9=>?_];let(k9,e9):=hl9;let I9:ZE X' (AZ fp s5.heap) (l6++inF fr Y) H8 s8:=I8.oM λp hp=>I8.pin p (xO _ (xO _ hp));let I10:ZE X' (AZ fp s5.heap) (l6++inF fr Y) H8 {s8 with heap:=h9 }:=by
      erw[I9.turned (it:=D) (t':=s8.toks) (λb o hb e=>(hs9.2 b hb).trans e) nD ?_ ?_ ?_ ?_]
      .rwa[hDC]
      .rwa[.inr (me hDe)]
      .rwa[λx c e=>fpD.2.2.2.2.1 x c (cl1 x c e)]
      .intro p hp z;rcases xK.mp hp with q | q
       .rwa[fpD.2.2.2.2.2 p q z]
       .have:=fpLt p.1 (IV q).1;rwa[(below p.1 this).2 z]
     let e9':h9.get? D=_s (oD (its ++ [yv]) k9):=by
      rw[e9];simp[oD]
     let I11:ZE X' [(D,oD (its ++ [yv]) k9)] (l6++inF fr Y) H8 {s8 with heap:=h9 }:=I10.oM λp hp=>by grind
     erw[m',hm,i+1,l6,H8,ys ++ [y],its ++ [yv],k9,hl6,I11,?_,a2,ZJ.append rv (.cons r8 .nil),q8];rwa[T.keep _ _ _ a1 λb hb o e=>(hs9.2 b (below b (fpLt b hb)).2).trans e]
  .let e0:List.replicate locs.length _n++inF fr Y=inS locs fr Y:=rfl;let(k0,eD):=hacc;erw[0,List.replicate locs.length _n,H1,[],[],k0,by simp,?_,T.keep _ _ _ st0 λb _ o e=>old b o e,λb hb=>(hf b hb).1,.nil,w0];rw[e0];erw[I1.oM λp hp=>?_];let e:p=(D,oD [] k0):=by simpa using hp
   subst e;rwa[eD,fpD.1,hDC,stkN D fpD.2.1 fpD.2.2.1,λv z=>by ext z]
 rwa[codeAny_compStart_list (loop _ S) (T.self _ 0 _ _ _ (T.keep _ _ _ st0 λb _ o e=>old b o e) (loop _ S))]
structure WO (X:Cx) (scope:Scope) (locs:jJ) (fr:List (Str×Nat)):Prop where
 kind:scope.kind=.function
 nocell:∀y∈scope.names,y.2 ≠ .cell
 names:∀y∈scope.names,y.2=.local->scope.names.lookup y.1=_s .local
 own:∀x∈locs,scope.names.lookup x=_s .local
 free:∀y∈scope.names,y.2=.free->y.1∈fr.map (·.1)
 nd:(inN locs fr).Nodup
theorem WH.nil:WH X scope []:=((λ_ h=>nomatch h),(λ_ h=>nomatch h))
theorem WH.cons(b:X.N[j]?=_s x)(c:X.env.kindOf x=_s .cell\/X.env.kindOf x=_s .free)(d:scope.names.lookup x=_s .free)(t:WH X scope fr):WH X scope ((x,j)::fr) :=
 (λp a=>(xD.mp a).elim (λe=>by subst e;rwa[b,c]) (t.slots p),λp a=>(xD.mp a).elim (λe=>by subst e;rwa[d]) (t.kind p))
def WO.clos{B:List (jP×Obj)}{Y:St}{H:Hp}{s:jN}(S:WO X scope locs fr)(F:WH X scope fr)(I:ZE X B Y H s) :
  ∃a,closureFor scope X.env=pure a/\(∀x c,a.lookup x=_s c->X.env.cells.lookup x=_s c)/\(∀x,(x,NameKind.free)∈scope.names->∃c,a.lookup x=_s c):=by
 erw[RB λp b a=>?_];let(q,d,e):=zD.mp (S.free p b a);let(c,a):=I.ok.has q.1 (F.slots q d).2;rwa[c,e▸a]
def dU(S:WO X scope locs fr)(F:WH X scope fr)(w:X.calm=_t)(l:PI X tg iter wi)(c:∀d C k f i j,PG (ccx X scope d C (inN locs fr) k f i j) tg g/\Co (ccx X scope d C (inN locs fr) k f i j) ifs tt/\PE (ccx X scope d C (inN locs fr) k f i j) elt te)(hs:autoParam (∀x,foldedSetIterable iter X.env x=pure x) y5z):PE X (.ListComp elt [(tg,iter,ifs,0)] scope pos) (Ee locs.length fr wi g tt te):=by
 intro B s Y H Q I h;let(d,e,a,b):=S.clos F I;rw[eval_ListComp];erw[wpAny_comprehension_free (use:=_n) rfl hs e S.kind S.names (thn (l B s Y H _ I h) λv l e=>thn e λe v p=>?_)];let(it,u,z,l,r,e,t,T,n,o,W,y,m):=p;subst e;erw[GQ (QQ:=λp J=>∀l,J l=_n->Q (.ref l) (upd J l (.lst p))) (EE:=λ_ _ _=>False) w S.kind S.nocell S.own F S.nd a b (λC k f i j=>let ⟨a,b,_⟩:=c d C k f i j;(a,b)) (λC i s f H a _ I h=>wpAny_mono ((c d C v r u (X.pn++B)).2.2 i s f H a I h) (λ_ _ q=>q) λ_ _ z=>z.elim) (λ_ _ _ _ _ _ _ _ _ z=>z.elim) t T n o y m λD C p J l m nD a c k d q=>?_];erw[m,d,λd a=>?_];let(d,f,o,h,i,j):=k;rwa[.ref D,_,c.turned (it:=C) (t':=l.toks) (λb o c e=>(a.2 b c).trans e) d f h i j,rfl,q D nD]
def PR(S:WO X scope locs fr)(F:WH X scope fr)(L:X.calm=_t)(v:PI X l a wi)(c:∀f C n j k m,PG (ccx X scope f C (inN locs fr) n j k m) l g/\Co (ccx X scope f C (inN locs fr) n j k m) e tt/\PE (ccx X scope f C (inN locs fr) n j k m) d te)(K:X.N.Nodup)(u:X.N[i]?=_s x)(A:X.env.scope.names.lookup x=_s .local)(o:swapsWith (.ListComp d [(l,a,e,0)] scope pos) (_s (.Name x b)) spos.line X.env=pure _t)(hs:autoParam (∀x,foldedSetIterable a X.env x=pure x) y5z):PS X (.Assign [.Name x b] (.ListComp d [(l,a,e,0)] scope pos) spos) (J7 (Ee locs.length fr wi g tt te) (Wl i)):=by
 intro B s Y H w I h;let(f,r,p,t):=S.clos F I;rw[exec_Assign_Name_used _ _ _ _ o];erw[_b (wpAny_standAt (_b ?_))];show _w _ X.A (do let _ <- comprehension (.ListComp d [(l,a,e,0)] scope pos) scope X.env _ (newList []) _x (eval a X.env) (_s (assign (.Name x b) X.env))) _ _ s;erw[_b (wpAny_mono (wpAny_comprehension_free (use:=_s (assign (.Name x b) X.env)) (Q:=λ_ o=>SP X B w .next o) rfl hs r S.kind S.names (thn (v B s Y H _ I h) λv b a=>thn a λa M b=>?_)) (λ_ o a=>_p (_p a)) λ_ _ e=>e)];let(it,G,l,a,z,e,E,T,v,y,W,N,d):=b;subst e;erw[GQ (QQ:=λr J=>∀l,J l=_n->Wl i (.ref l) Y (upd J l (.lst r)) w.nx) (EE:=λ_ _ _=>False) L S.kind S.nocell S.own F S.nd p t (λC n j k m=>let ⟨a,b,_⟩:=c f C n j k m;(a,b)) (λC k s j H a _ I h=>wpAny_mono ((c f C M z G (X.pn++B)).2.2 k s j H a I h) (λ_ _ q=>q) λ_ _ z=>z.elim) (λ_ _ _ _ _ _ _ _ _ z=>z.elim) E T v y N d λD C r J o m nD d a c p q=>?_];let(d,f,y,l,n,s):=c;let(h,k,j,c,d,f):=id p;let c:ZE X (B ++ [(C,h)]) Y (upd J D (.lst r)) o:=a.oM λp o=>(xK.mp o).elim (λz=>a.pin p (xO _ z)) λz=>by grind
 erw[wpAny_assign_Name (Dn (v:=.ref D) c K u (.inl A) rfl (λc a=>?_) (.inr A))];let(o,p,t,u,v):=a.pin (C,h) (xO _ (xO _ xZ));erw[m,(h,k,j,o,d,f),λf d=>?_];let f:ZE X B (Y.set i (_s (.ref D))) (upd J D (.lst r)) c:=a.j5;rwa[_,_,f.turned (it:=C) (t':=c.toks) (λb o a e=>(d.2 b a).trans e) p t l n s,q D nD]
end
section
variable{X:Cx}{scope:Scope}{cl:List (Str×jP)}{C:jP}{N':jJ}{s0:jN}{H0:Hp}{ex:jM}{pn:List (jP×Obj)}
theorem pvL(i:Nat){x:Str}{pos:Pos}(b:autoParam (N'[i]?=_s x) y1z)(h:autoParam (scope.names.lookup x=_s .local) y1z)(c:autoParam ((x==("__debug__":Str))=false) y3z)(a:autoParam ((x==("__classdict__":Str))=false) y3z) :
  PE (ccx X scope cl C N' s0 H0 ex pn) (.Name x pos) (YL i):=Dz b (.inl (lookup_relabel_local h)) c a
theorem pvF(i:Nat){x:Str}{pos:Pos}(b:autoParam (N'[i]?=_s x) y1z)(h:autoParam (scope.names.lookup x=_s .free) y1z)(c:autoParam ((x==("__debug__":Str))=false) y3z)(a:autoParam ((x==("__classdict__":Str))=false) y3z) :
  PE (ccx X scope cl C N' s0 H0 ex pn) (.Name x pos) (YL i):=Dz b ((FS h).elim (λz=>.inr (.inl z)) λz=>.inr (.inr z)) c a
theorem pgL(i:Nat){x:Str}{pos:Pos}(a:N'.Nodup)(b:autoParam (N'[i]?=_s x) y1z)(h:autoParam (scope.names.lookup x=_s .local) y1z):PG (ccx X scope cl C N' s0 H0 ex pn) (.Name x pos) (Wl i) :=
 EA (X:=ccx X scope cl C N' s0 H0 ex pn) a b (.inl (lookup_relabel_local h)) (.inr (lookup_relabel_local h))
end
def sgn(x:Str)(i:Nat):V:=.str ⟨#[x.cps.getD i 0]⟩
def E7(x:Str):It:=(λi _=>i<x.9,λi H v J=>J=H/\v=sgn x i,λi _=>i=x.9)
def KB(a:A.handled=_n)(I:jP)(x:Str)(t:Tok) :
  Walks P w A I [I] [I] x.cps.size (SignAt x) (λi h=>h.IsStrIter I (strIterType x) x t i):=by
 unfold strIterType;cases b:x.cps.all (· < 128)
 .rwa[Walks.strWide a I x t]
 .rwa[Walks.strAscii a I x t]
def gD{P:jQ}{w:jR}{K:uFg}{a:Expr}(it:jP)(x:Str)(t:Tok):VJ P w K a (E7 x) [it] it (λi h=>h.IsStrIter it (strIterType x) x t i) where
 mem:=by simp
 obj:=λi h st b a=>by
  let e:b=it:=by simpa using a
  subst e;let(o,e,c,d):=st;rwa[o,e,λv z=>by rw[d] at z;ext z]
 keep:=λi h g st k=>let ⟨o,f,r⟩:=st;(o,k it (by simp) o f,r)
 item:=by
  intro X y C r z i B s Y H E I j st A;subst y C r;let(k,l,L,m,n,p):=j it (by simp);erw[(KB (I.ok.hd z) it x t).item i s _ _ A st λv g G J f F=>?_];let(c,u,v,S):=J;let c:ZE X B Y H {s with heap:=g,toks:=G }:=I.turned (λb o a e=>F b o (by simpa using a) e) k l m n p;let(o,e,J,d):=id f;let M:["enumerate","zip","dict_itemiterator","dict_reverseitemiterator","odict_iterator","itertools.zip_longest","itertools.pairwise"].contains (strIterType x)=false:=by
   unfold strIterType;split<;>decide
  erw[_,S,B1 (s:={s with heap:=g,toks:=G }) e J d M (sgn x i,H,c,(u,?_),(S,S),f,λb a=>(j b a).1)];rw[zW,v]
  all_goals rfl
 done:=by
  intro X y C r z i B s Y H E I j st A;subst y C r;let(k,l,L,m,n,p):=j it (by simp);let e:i=x.cps.5:=A;subst e;rwa[(KB (I.ok.hd z) it x t).done s _ _ st λg G F=>(S,I.turned (λb o a e=>F b o (by simpa using a) e) k l m n p)]
 self:=λA i s Q E st h=>by
  let st:s.heap.IsStrIter it (strIterType x) x t i:=st;unfold strIterType at st;split at st
  .rwa[wpAny_pyIter_striter_ascii st h]
  .rwa[wpAny_pyIter_striter_wide st h]
inductive Cy(R:It->Hp->Prop)(v:V)(a:Hp):Prop
 |mk(x)(_:v=.str x)(_:R (E7 x) a)
def SM(a:TE):TI:=λY H R=>a Y H λv a=>Cy R v a
def HR(h:IsPart v o):∃l:Option (Int×Tok),v=partValue l/\l.map (·.1)=o:=by
 cases h with
 | none=>rwa[_n,S,rfl]
 | int i t=>rwa[_s (i,t),S,rfl]
def gM:∀{us:jK},ZJ (ys.map V.str) us->StrsAre us ys:=by
 induction ys with
 | nil=>intro us r;rw[wR] at r;ext r;rwa[.nil]
 | cons n b a =>
  intro us r;rw[yD] at r;cases r with
  | cons b c =>
   let(t,e):=b;subst e;rwa[.cons n t (a c)]
section
variable{X:Cx}
def Kl:JE X (.builtin "isinstance") (λL H Q=>∃x n t b,L=[x,.ty n]/\WE X.K H x t/\kitOne X.K t (.type n)=_s b/\Q (.bl b) H):=by
 intro B s Y H L a Q I r h;let(x,n,t,b,S,d,e,q):=h;let(u,f,S,c,a):=DA r;ext a;rwa[SX I c d e λa=>(.bl b,H,I.tok _,S,q)]
end
section
variable{K:uFg}
end
def YC(K:uFg)(mg:jI)(x:Str)(st:Stmt):Prop:=∃f a,Th K x x st f a/\mg x=_s (.ref f)
def Fn(P:jQ)(w:jR)(K:uFg)(mg:jI)(Z:Heap)(x:Str)(b:jJ)(k:Nat)(sp:Sp):Prop :=
 ∃f a,mg x=_s (.ref f)/\keepIn K (.ref f)=_t/\YR K a b []/\YG P w K mg Z VG k f a b sp
theorem Fn.imp{P:jQ}{w:jR}{K:uFg}{mg:jI}{Z:Heap}{x:Str}{b:jJ}{k:Nat}{sp a:Sp}(F:Fn P w K mg Z x b k sp)(h:∀vs H Q E,a vs H Q E->sp vs H Q E):Fn P w K mg Z x b k a :=
 let ⟨f,e,a,b,c,d⟩:=F;(f,e,a,b,c,d.imp h)
section
variable{P:jQ}{w:jR}{K:uFg}{mg:jI}{Z:Heap}
def YC.fn{x:Str}{st:Stmt}{N b:jJ}{k:Nat}{sp:Sp}(h:YC K mg x st)(S:ZP N b (Zm st))(d:∀ (kV doc pm:jO) (an:Option jP) (cdv ct:jO) (us:jK),us.9=b.9->bindArgs (fnOf x x (Vc st) (Yw st) (Zm st) .none kV doc pm an cdv ct) (us,[])=pure (b.zip us))(c:∀vs H Q E,sp vs H Q E->vs.9=b.9)(a:∀ (f:jP) (cdv:jO) (A:jS) (outer:List Env) (s:jN) (H:Hp) (vs:aG) (Q:VK) (E:XK),ZO k (A.deeper (envOfC x (Zm st) s.heap.objs.size f cdv))->sp vs H Q E -> ∃t,Ba (Y9 VG P w K mg Z N x (Zm st) f cdv A outer s H E).oG (Yw st) t/\t {nx:=λ_ J=>Q .non J,rt:=Q } (start N vs) H):Fn P w K mg Z x b (k+1) sp:=by
 let(f,b,F,e):=h;rwa[f,b,e,F.kp,F.binds d,F.ok S c λcdv A outer s H vs Q E b q=>a f cdv A outer s H vs Q E b q]
theorem bL{h:Heap}{x:Str}{st:Stmt}{f:jP}{oc:jO}{od an:Option jP}{osl:Array (Option jO)}{kV doc pm cdv ct:jO}(b:K.In h)(G:h.Ns _g mg)(a:nsIn K _g x=_s (_s (.ref f)))(l:K.lookup f=_s (oc,od,.func (fnOf x x (Vc st) (Yw st) (Zm st) .none kV doc pm an cdv ct),osl))(c:codeIn K cdv x=_t)(k:keepIn K (.ref f)=_t):YC K mg x st:=(f,_,FM l c k,mg_of b G a)
theorem hQ{h:Heap}(x:Str)(st:Stmt)(f c:jP)(pm:jO)(a:K.In h)(G:h.Ns _g mg)(e:nsIn K _g x=_s (_s (.ref f))/\K.lookup f=_s (.type "function", _n,.func (fnOf x x (Vc st) (Yw st) (Zm st) .none .none .none pm _n (.ref c) .none),#[])/\codeIn K (.ref c) x=_t/\keepIn K (.ref f)=true:=by walk_at "k"):YC K mg x st:=bL a G e.1 e.2.1 e.2.2.1 e.2.2.2
end
def JO(sp:Sp)(t:TA):TE:=λY H Q=>t Y H λb a=>sp b a Q E0
def dP{k:Nat}{a:jJ}{sp:Sp}{x:Str}{p pos:Pos}{e:Expr}{es:List Expr}{t:TA}(F:Fn X.prog X.w X.K X.mg X.base x a k sp)(m:ZO k X.A)(i:Gl X x)(c:PA X (e::es) t)(a:autoParam ((x==("__debug__":Str))=false) y3z)(g:autoParam (sEq X e es) y1z)(b:autoParam (sFq X pos es) y1z) :
  PE X (.Call (.Name x p) (e::es) [] pos) (JO sp t):=by
 let(f,h,l,j,d,G):=F;intro B s Y H Q I h;erw[Xr G m i l j d .nil Ed c a g b B s Y H Q I ?_];let e:E9 sp [] E0 t=JO sp t:=by
  unfold E9 JO;simp only[yC]
 rw[e];rwa[h]
theorem Ym:_o "len"=_s (.builtin "len"):=aA
theorem Dr:_o "max"=_s (.builtin "max"):=aA
theorem Nc:_o "min"=_s (.builtin "min"):=aA
theorem BC:_o "sum"=_s (.builtin "sum"):=aA
theorem Rt:_o "all"=_s (.builtin "all"):=aA
theorem FY:_o "sorted"=_s (.builtin "sorted"):=aA
theorem Uj:_o "isinstance"=_s (.builtin "isinstance"):=aA
theorem V8:_o "list"=_s (.type "list"):=aA
theorem Ge:_o "bool"=_s (.type "bool"):=aA
theorem MU:_o "int"=_s (.type "int"):=aA
theorem KN:_o "str"=_s (.type "str"):=aA
theorem Gz:_o "tuple"=_s (.type "tuple"):=aA
def ZF(s:jP)(H J:Hp):Prop:=∀b o,b≠s->H b=_s o->J b=_s o
theorem ZF.refl:ZF s H H:=λ_ _ _ e=>e
theorem ZF.trans(a:ZF s H H1)(b:ZF s H1 H2):ZF s H H2:=λc o n e=>b c o n (a c o n e)
theorem ZF.upd:ZF s H (upd H s o):=λb _ n e=>by rw[Zd n];rwa[e]
theorem ZF.new(h:H l=_n):ZF s H (L2.upd H l o):=λb _ _ e=>by rw[Zd (Zj e h)];rwa[e]
theorem ZC.new(h:H l=_n):ZC H (L2.upd H l o):=λb _ e=>by rw[Zd (Zj e h)];rwa[e]
theorem ZC.x(h:ZC H J):ZF s H J:=λb o _ e=>h b o e
def ZL(H:Hp)(s b:jP):Prop:=∃(c:List Int)(i a st cnt:Int),H s=_s (.lst [.ref b,.int i,.int a,.int st,.int cnt])/\H b=_s (.lst (c.map V.int))/\0<=i/\b≠s
def ZL.keep(h:ZL H s la)(k:ZC H J):ZL J s la:=by
 let(f,i,a,st,cnt,b,c,d,e):=h;rwa[f,i,a,st,cnt,k _ _ b,k _ _ c,d,e]
def ZL.oj(h:ZL H s la)(k:ZF l H J)(f:l≠s)(g:l≠la):ZL J s la:=by
 let(j,i,a,st,cnt,b,c,d,e):=h;rwa[j,i,a,st,cnt,k _ _ f.symm b,k _ _ g.symm c,d,e]
def ZL.ne(h:ZL H s la)(a:H l=_n):l≠s/\l≠la:=by
 let(g,i,b,st,cnt,c,d,e,f):=h;rwa[(Zj c a).6,(Zj d a).6]
def Zy{c A B:Prop} [Decidable c] (a:c->A) (a:¬c->B):if decide c=_t then A else B:=by grind
def Vi{c A B:Prop} [Decidable c] (a:¬c->A) (a:c->B):if (!decide c)=_t then A else B:=by grind
def Oy{ns:List Int}{i:Int}(a:0<=i)(b:i<(ns.map V.int).9):atI (ns.map V.int) i=_s (.int (ns.getD i.toNat 0)):=by
 let(j,S):=yL a;rw[xA] at b;erw[Yy ?_];rw[xF,yI,xT,xC ()];rfl
def Nm(a:Scope)(x:Str)(k:NameKind):Prop:=a.names.lookup x=_s k/\(x==("__debug__":Str))=_x/\(x==("__classdict__":Str))=_x/\x ≠ "__name__"
instance (a:Scope) (x:Str) (k:NameKind):Decidable (Nm a x k):=by unfold Nm;rwa[inferInstance]
section
variable{X:Cx}{x:Str}{pos:Pos}
theorem al1{b:Type _}{P:List b->Prop}(k:∀a,P [a]):∀l:List b,l.9=1->P l:=λl h=>by cases l with
 | nil=>ext h
 | cons a l=>cases l with
  | nil=>rwa[k a]
  | cons=>cases mB h
theorem al2{c:Type _}{P:List c->Prop}(k:∀a b,P [a,b]):∀l:List c,l.9=2->P l:=λl h=>by cases l with
 | nil=>ext h
 | cons a l=>rwa[al1 (P:=λl=>P (a::l)) (k a) l (mB h)]
theorem al3{d:Type _}{P:List d->Prop}(k:∀a b c,P [a,b,c]):∀l:List d,l.9=3->P l:=λl h=>by cases l with
 | nil=>ext h
 | cons a l=>rwa[al2 (P:=λl=>P (a::l)) (k a) l (mB h)]
theorem al4{e:Type _}{P:List e->Prop}(k:∀a b c d,P [a,b,c,d]):∀l:List e,l.9=4->P l:=λl h=>by cases l with
 | nil=>ext h
 | cons a l=>rwa[al3 (P:=λl=>P (a::l)) (k a) l (mB h)]
theorem al5{f:Type _}{P:List f->Prop}(k:∀a b c d e,P [a,b,c,d,e]):∀l:List f,l.9=5->P l:=λl h=>by cases l with
 | nil=>ext h
 | cons a l=>rwa[al4 (P:=λl=>P (a::l)) (k a) l (mB h)]
theorem al6{g:Type _}{P:List g->Prop}(k:∀a b c d e f,P [a,b,c,d,e,f]):∀l:List g,l.9=6->P l:=λl h=>by cases l with
 | nil=>ext h
 | cons a l=>rwa[al5 (P:=λl=>P (a::l)) (k a) l (mB h)]
theorem al7{h:Type _}{P:List h->Prop}(k:∀a b c d e f g,P [a,b,c,d,e,f,g]):∀l:List h,l.9=7->P l:=λl h=>by cases l with
 | nil=>ext h
 | cons a l=>rwa[al6 (P:=λl=>P (a::l)) (k a) l (mB h)]
theorem al8{i:Type _}{P:List i->Prop}(k:∀a b c d e f g h,P [a,b,c,d,e,f,g,h]):∀l:List i,l.9=8->P l:=λl h=>by cases l with
 | nil=>ext h
 | cons a l=>rwa[al7 (P:=λl=>P (a::l)) (k a) l (mB h)]
def nmB(X:Cx)(x:Str)(k:NameKind):Bool:=decide (Nm X.env.scope x k)
def ndB(X:Cx):Bool:=decide X.N.Nodup
abbrev nB(X:Cx)(x:Str)(k:NameKind):Prop:=nmB X x k=_t
abbrev nD(X:Cx):Prop:=ndB X=_t
theorem od [Decidable p] (h:decide p=_t):p:=zR h
theorem fsc{N P:jJ}{b:Scope}(a:autoParam (b.kind=.function) y1z)(h:autoParam (decide (b.isCoroutine=_x/\b.isGenerator=_x/\N.Nodup/\N.take P.9=P/\(∀x∈P,b.names.lookup x=_s .local\/b.names.lookup x=_s .cell)/\∀y∈b.names,y.2 ≠ .free)=true) y2z):ZP N P b :=
 have ⟨b,c,d,e,f,g⟩:=od h;(a,b,c,d,e,f,g)
theorem pvN(i:Nat)(n:Nm X.env.scope x .local)(a:autoParam (X.N[i]?=_s x) y1z):PE X (.Name x pos) (YL i):=Dz a (.inl n.1) n.2.1 n.2.2.1
theorem RF(n:Nm X.env.scope x .globalImplicit)(a:X.mg x=_s u)(r:ZH v u):PE X (.Name x pos) (tC v):=O7 n.1 a r n.2.1
theorem SY(n:Nm X.env.scope x .globalImplicit)(a:X.mg x=_n)(b:_o x=_s u)(r:ZH v u):PE X (.Name x pos) (tC v):=gS n.1 a b r n.2.2.2 n.2.1
theorem SS{k:Nat}{a:jJ}{sp:Sp}{p:Pos}{e:Expr}{es:List Expr}{t:TA}(F:Fn X.prog X.w X.K X.mg X.base x a k sp)(d:ZO k X.A)(n:Nm X.env.scope x .globalImplicit)(b:PA X (e::es) t)(c:autoParam (sEq X e es) y1z)(a:autoParam (sFq X pos es) y1z) :
  PE X (.Call (.Name x p) (e::es) [] pos) (JO sp t):=dP F d n.1 b n.2.1 c a
theorem QV{p:Pos}{e:Expr}{es:List Expr}{t:TA}{id:String}{r:List V->Hp->VK->Prop}(c:JE X (.builtin id) r)(n:Nm X.env.scope x .globalImplicit)(f:X.mg x=_n)(g:_o x=_s (.builtin id))(b:PA X (e::es) t)(d:autoParam (sEq X e es) y1z)(a:autoParam (sFq X pos es) y1z):PE X (.Call (.Name x p) (e::es) [] pos) (B7 r t):=SL c n.1 f g b n.2.2.2 n.2.1 d a
theorem PY{p:Pos}{e:Expr}{es:List Expr}{t:TA}{T:String}{r:List V->Hp->VK->Prop}(c:JE X (.type T) r)(n:Nm X.env.scope x .globalImplicit)(f:X.mg x=_n)(g:_o x=_s (.type T))(b:PA X (e::es) t)(d:autoParam (sEq X e es) y1z)(a:autoParam (sFq X pos es) y1z):PE X (.Call (.Name x p) (e::es) [] pos) (B7 r t):=iD c n.1 f g b n.2.2.2 n.2.1 d a
theorem Sl{i:Nat}{e:Expr}{b:TE}{a:Pos}(c:X.N.Nodup)(n:Nm X.env.scope x .local)(d:PE X e b)(f:autoParam (X.N[i]?=_s x) y1z)(hs:autoParam (swapsWith e (_s (.Name x a)) pos.line X.env=pure false) y1z) :
  PS X (.Assign [.Name x a] e pos) (J7 b (Wl i)):=MJ c f (.inl n.1) d hs (.inr n.1)
theorem eR{i:Nat}{e:Expr}{b:TE}{a:Pos}(c:X.N.Nodup)(n:Nm X.env.scope x .cell)(d:PE X e b)(f:autoParam (X.fn x=true) y1z)(g:autoParam (X.N[i]?=_s x) y1z)(hs:autoParam (swapsWith e (_s (.Name x a)) pos.line X.env=pure false) y1z) :
  PS X (.Assign [.Name x a] e pos) (J7 b (Wl i)):=MJ c g (.inr n.1) d hs (.inl f)
theorem hZ(a:X.N.Nodup)(n:Nm X.env.scope x .local)(b:PE X e te)(d:FP X op ti)(c:autoParam (X.N[i]?=_s x) y1z) :
  PS X (.AugAssign (.Name x pos') op e pos) (Ga i te ti):=iI a c (.inl n.1) b d (.inr n.1)
theorem fU(a:X.N.Nodup)(n:Nm X.env.scope x .local)(b:autoParam (X.N[i]?=_s x) y1z):PG X (.Name x pos) (Wl i):=EA a b (.inl n.1) (.inr n.1)
end
section
variable{X:Cx}{scope:Scope}{cl:List (Str×jP)}{C:jP}{N':jJ}{s0:jN}{H0:Hp}{ex:jM}{pn:List (jP×Obj)}{x:Str}{pos:Pos}
theorem PV(n:autoParam (Nm scope x .globalImplicit) y4z):Nm (ccx X scope cl C N' s0 H0 ex pn).env.scope x .globalImplicit:=(GR aA n.1,n.2)
theorem nmC(n:autoParam (Nm scope x .globalImplicit) y4z):nB (ccx X scope cl C N' s0 H0 ex pn) x .globalImplicit:=yE (PV n)
theorem WH.ij{j:Nat}{fr:List (Str×Nat)}(n:Nm X.env.scope x .cell)(t:WH X scope fr)(m:autoParam (Nm scope x .free) y4z)(a:autoParam (X.N[j]?=_s x) y1z):WH X scope ((x,j)::fr):=.cons a (.inl n.1) m.1 t
end
def cs(x:Str):List Nat:=x.cps.toList
def Vl(x:Str):(cs x).9=x.9:=by unfold cs;rwa[Array.length_toList]
def DX(x y:Str):cs (x++y)=cs x++cs y:=by unfold cs;rw[Str.cps_append,Array.toList_append]
def Kn(l:List Nat):cs ⟨l.4⟩=l:=by unfold cs;simp
def IQ(L:List Nat)(lo:Nat):∀m,lo+m<=L.9->((List.range m).map (lo + ·)).filterMap (L[·]?)=(L.drop lo).take m:=by
 intro m
 induction m with
 | zero=>intro _;simp
 | succ m a =>
  intro h;rw[List.range_succ,xL,yT,a (),xQ,List.getElem?_drop];have:lo+m<L.9:=by lia
  simp[xC this]
def LD(a b:Nat):min (a:Int) (b:Int)=((min a b:Nat):Int):=by
 rcases Nat.le_total a b with z | z
 .rw[mE z,Int.min_eq_left (Int.ofNat_le.mpr z)]
 .rw[Nat.min_eq_right z,Int.min_eq_right (Int.ofNat_le.mpr z)]
def GS(m n:Nat):(if (m:Int)<(n:Int) then ((n:Int) - (m:Int)+1 - 1) / 1 else 0).toNat=n - m:=by
 rw[Int.add_sub_cancel,Int.ediv_one];split
 .rwa[Int.toNat_sub n m]
 .rename_i z;rw[Nat.sub_eq_zero_of_le (Nat.le_of_not_lt λy=>z (Int.ofNat_lt.mpr y))];rfl
def FT(x:Str)(h:0<=i):cs (Txt.slice x _n (_s i))=(cs x).take i.toNat:=by
 let(k,S):=yL h;rw[yI];let b:=Vl x;let e:Builtin.Str.strSliceIndices _n (_s (k:Int)) 1 x.9=(List.range (min k x.9)).map (0 + ·):=by
  unfold Builtin.Str.strSliceIndices sliceRange;simp only[show (1:Int) > 0 by decide,if_true];rw[_i (Int.not_lt.mpr (Int.natCast_nonneg k)),LD,Int.max_eq_right (Int.natCast_nonneg _)];have:=GS 0 (min k x.9);rw[show ((0:Nat):Int)=0 from S] at this;rw[this];apply List.map_congr_left;intro j _;rw[Int.one_mul];rfl
 unfold Txt.slice;rw[e];let a:(cs x).take (min k x.9)=(cs x).take k:=by rw[<- b];rwa[List.take_eq_take_min.symm]
 rw[<- a];generalize a:min k x.9=m;let c:m<=x.9:=a▸Nat.min_le_right k _;split
 .rename_i a;rw[xA,wQ] at a;let a:m=x.9:=by simpa using a
  rw[zL (by rw[b,a];rwa[xE _])]
 .have:=IQ (cs x) 0 m (by rw[b,Nat.zero_add];rwa[c]);rw[mD] at this;rw[Kn,<- this];congr 1;funext k;unfold cs;simp
def XI(x:Str)(h:0<=i):cs (Txt.slice x (_s i) _n)=(cs x).drop i.toNat:=by
 let(k,S):=yL h;rw[yI];let a:=Vl x;let e:Builtin.Str.strSliceIndices (_s (k:Int)) _n 1 x.9=(List.range (x.9 - min k x.9)).map (min k x.9 + ·):=by
  unfold Builtin.Str.strSliceIndices sliceRange;simp only[show (1:Int) > 0 by decide,if_true];rw[_i (Int.not_lt.mpr (Int.natCast_nonneg k)),LD,Int.max_eq_right (Int.natCast_nonneg _),GS];apply List.map_congr_left;intro j _;rw[Int.one_mul];rfl
 unfold Txt.slice;rw[e];let b:(cs x).drop (min k x.9)=(cs x).drop k:=by
  rcases Nat.le_total k x.9 with z | z
  .rw[mE z]
  .rw[Nat.min_eq_right z,wO (me a),wO (by rw[a];rwa[z])]
 rw[<- b];generalize b:min k x.9=m;let c:m<=x.9:=b▸Nat.min_le_right k _;split
 .rename_i b;rw[xA,wQ] at b;let b:x.9 - m=x.9:=by simpa using b
  have:m=0\/x.9=0:=by
   rcases Nat.eq_zero_or_pos m with z | z
   .rwa[.inl z]
   .rwa[.inr (Classical.byContradiction λy=>_a b (yG (Nat.sub_lt (Nat.pos_of_ne_zero y) z)))]
  rcases this with z | z
  .rw[z,mD]
  .rw[List.length_eq_zero_iff.mp (a.trans z),List.drop_nil]
 .rw[Kn,<- zL (l:=(cs x).drop m) (i:=x.9 - m) (by rw[wI,a];rwa[xE _]),<- IQ (cs x) m (x.9 - m) (by rw[a,Nat.add_sub_cancel' c];rwa[xE _])];congr 1;funext k;unfold cs;simp
def cQ:∀ys:List Str,cs (Txt.join "" ys)=(ys.map cs).flatten:=by
 let c:∀(ys:jJ)(a:Array Nat),(ys.foldl (λb p=>b++(("":Str)).cps++p.cps) a).toList=a.toList++(ys.map cs).flatten:=by
  intro ys
  induction ys with
  | nil=>intro a;simp
  | cons y r b =>
   intro a;rw[zX,b];have:(("":Str)).cps=#[]:=aA
   rw[this];simp[cs]
 intro ys;show (cs (Builtin.Str.glued "" ys))=_;unfold Builtin.Str.glued;cases ys with
 | nil=>decide +kernel
 | cons y r =>
  show (List.foldl _ y.cps r).toList=_;rw[c];rfl
def BD(x:Str):Prop:=∀c∈cs x,97<=c/\c<=122
def letters:Str:="abcdefghijklmnopqrstuvwxyz"
theorem jA:cs letters=(List.range 26).map (97 + ·):=aA
def EN(a:0<=d)(b:d<26):atI letters.cps.toList d=_s (97+d.toNat):=by
 let(j,S):=yL a;erw[Yy ?_];show (cs letters)[j]?=_;rw[jA,xF,wJ ()];rfl
def CV{a:It}{e:Nat}{d:St}{g:TG}{h:Tw}{f:TE}{Q:VK}{H:Hp}{L:aG}(Pv:Nat->List V->Hp->Prop)(n:Pv 0 [] H)(b:L.9<=1000000)(j:∀i H ys,i<L.9->Pv i ys H->a.go i H)(r:∀i H x J ys,i<L.9->Pv i ys H->a.jb i H x J->J=H/\L[i]?=_s x)(k:∀H ys,Pv L.length ys H->a.stop L.length H)(b:∀i ys H,Pv i ys H->ys.9<=i)(step:∀i x ys H,L[i]?=_s x->Pv i ys H->Vd e d g h f x H (λy J=>Pv (i+1) (ys ++ [y]) J) λJ=>Pv (i+1) ys J)(o:∀ys H,Pv L.length ys H->∀l,H l=_n->Q (.ref l) (upd H l (.lst ys))) :
  Vz a e d g h f Q H:=by
 let c:∀{x:V}{H:Hp}{Y m:V->Hp->Prop}{N a:Hp->Prop},Vd e d g h f x H Y N->Y=m->N=a->Vd e d g h f x H m a:=λh a d=>by subst a;subst d;rwa[h]
 erw[λi m ys H=>m=L.9 - i/\i<=L.9/\Pv i ys H,(L.9,by simp,yJ _,n),?_];rintro i m ys H ⟨rfl,a,p⟩;let a:=b i ys H p;let a:(1000000:Nat)<sizeLine:=by decide
 by_cases a:i<L.9
 .erw[.inr (j i H ys a p,(),L.9 - (i+1),(),λx J y=>?_)];let(e,b):=r i H x J ys a p y;subst e;erw[c (step i x ys _ b p) ?_ ?_]
  .funext y H4;apply propext;rwa[λq=>(S,a,q),λq=>q.2.2]
  .funext H3;apply propext;rwa[λq=>(S,a,q),λq=>q.2.2]
 .let e:i=L.9:=by lia
  subst e;rwa[.inl (k H ys p,(),o ys H p)]
def BJ(lo:Int)(n:Nat):List V:=(List.range n).map λk=>V.int (lo+(k:Nat))
def B2(lo:Int)(n:Nat):(BJ lo n).9=n:=by simp[BJ]
def Ru{lo:Int}{n i:Nat}{x:V}(h:(BJ lo n)[i]?=_s x):i<n/\x=.int (lo+(i:Nat)):=by
 let a:i<n:=by have:=(xH.mp h).1;(rw[B2] at this;assumption)
 erw[a,?_];unfold BJ at h;rw[xF,wJ a] at h;rwa[(ma h).6]
def KR{lo:Int}{n:Nat}{c:Nat}{b:St}{g:TG}{e:Tw}{d:TE}{Q:VK}{H:Hp}(Pv:Nat->List V->Hp->Prop)(f:Pv 0 [] H)(j:n<=1000000)(a:∀i ys H,Pv i ys H->ys.9<=i)(step:∀i ys H,i<n->Pv i ys H->Vd c b g e d (.int (lo+(i:Nat))) H (λy J=>Pv (i+1) (ys ++ [y]) J) λJ=>Pv (i+1) ys J)(h:∀ys H,Pv n ys H->∀l,H l=_n->Q (.ref l) (upd H l (.lst ys))) :
  Vz (JD lo n) c b g e d Q H:=by
 erw[CV (L:=BJ lo n) Pv f (by rw[B2];rwa[j]) ?_ ?_ ?_ a ?_ ?_]
 .intro i H ys a _;rw[B2] at a;rwa[a]
 .rintro i H x J ys a _ ⟨rfl,rfl⟩;rw[B2] at a;erw[rfl,?_];unfold BJ;rw[xF,wJ a];rfl
 .intro H ys _;rw[B2];rwa[xE _]
 .intro i x ys H b p;let(a,S):=Ru b;rwa[step i ys H a p]
 .intro ys H p;rw[B2] at p;rwa[h ys H p]
def Uy{K:uFg}{a:jP}{L:aG}{e:Nat}{d:St}{g:TG}{h:Tw}{f:TE}{Q:VK}{H:Hp}(Pv:Nat->List V->Hp->Prop)(j:Pv 0 [] H)(m:L.9<=1000000)(c:∀i ys H,i<=L.9->Pv i ys H->ZG K H a L)(b:∀i ys H,Pv i ys H->ys.9<=i)(step:∀i x ys H,L[i]?=_s x->Pv i ys H->Vd e d g h f x H (λy J=>Pv (i+1) (ys ++ [y]) J) λJ=>Pv (i+1) ys J)(k:∀ys H,Pv L.length ys H->∀l,H l=_n->Q (.ref l) (upd H l (.lst ys))) :
  Vz (JJ K a) e d g h f Q H:=by
 erw[CV (L:=L) Pv j m ?_ ?_ ?_ b step k]
 .intro i H ys b p;rwa[L,L[i],c i ys H (yS b) p,by simp[b]]
 .rintro i H x J ys b p ⟨rfl,y⟩;rwa[rfl,y L (c i ys _ (yS b) p)]
 .intro H ys p;rwa[L,c _ ys H (xE _) p,xE _]
def OJ(Pv:Nat->List V->Hp->Prop)(c:Pv 0 [] H)(e:x.9<=1000000)(a:∀i ys H,Pv i ys H->ys.9<=i)(step:∀i ys H,i<x.9->Pv i ys H->Vd nl fv g tt te (sgn x i) H (λy J=>Pv (i+1) (ys ++ [y]) J) λJ=>Pv (i+1) ys J)(d:∀ys H,Pv x.length ys H->∀l,H l=_n->Q (.ref l) (upd H l (.lst ys))) :
  Vz (E7 x) nl fv g tt te Q H:=by
 let b:((List.range x.9).map λi=>sgn x i).9=x.9:=by simp
 erw[CV (L:=(List.range x.9).map λi=>sgn x i) Pv c (by rw[b];rwa[e]) ?_ ?_ ?_ a ?_ ?_]
 .intro i H ys a _;rw[b] at a;rwa[a]
 .rintro i H v J ys a _ ⟨rfl,rfl⟩;rw[b] at a;erw[rfl,?_];rw[xF,wJ a];rfl
 .intro H ys _;rw[b];rwa[rfl]
 .intro i v ys H c p;let a:i<x.9:=by have:=(xH.mp c).1;(rw[b] at this;assumption)
  rw[xF,wJ a] at c;ext c;rwa[step i ys H a p]
 .intro ys H p;rw[b] at p;rwa[d ys H p]
theorem Uz{b:St}(h:b.9=1):∃a,b=[a]:=al1 (P:=λl=>∃a,l=[a]) (λa=>(a,S)) b h
theorem BG{c:St}(h:c.9=2):∃a b,c=[a,b]:=al2 (P:=λl=>∃a b,l=[a,b]) (λa b=>(a,b,S)) c h
structure QE (X:Cx) (e:Expr) (t:TE):Prop where
 h:PE X e t
structure QT (X:Cx) (e:Expr) (t:TT):Prop where
 h:PT X e t
structure QW (X:Cx) (e:Expr) (t:TT):Prop where
 h:PW X e t
structure QS (X:Cx) (s:Stmt) (t:TS):Prop where
 h:PS X s t
structure WZ (X:Cx) (s:List Stmt) (t:TS):Prop where
 h:Ba X s t
structure QA (X:Cx) (es:List Expr) (t:TA):Prop where
 h:PA X es t
structure QG (X:Cx) (e:Expr) (t:TG):Prop where
 h:PG X e t
structure BF (X:Cx) (es:List Expr) (t:TV):Prop where
 h:Hz X es t
structure QI (X:Cx) (tg iter:Expr) (t:TI):Prop where
 h:PI X tg iter t
structure QO (X:Cx) (e:Option Expr) (t:TO):Prop where
 h:PO X e t
structure EK (X:Cx) (es:List Expr) (t:Tw):Prop where
 h:Co X es t
structure WC (X:Cx) (f:jO->jO->Sem jO) (r:R2):Prop where
 h:As X f r
structure Nf (X:Cx) (f:jO->Sem jO) (r:V->Hp->VK->Prop):Prop where
 h:Qp X f r
structure QC (X:Cx) (f:jO) (r:List V->Hp->VK->Prop):Prop where
 h:JE X f r
theorem QC.imp(h:QC X f r)(i:∀L H Q,r' L H Q->r L H Q):QC X f r':=⟨λp s Y H x u Q I v k=>h.h p s Y H x u Q I v (i x H Q k)⟩
structure BN (X:Cx) (r:R2):Prop where
 h:Ex X r
structure FZ (X:Cx) (r:V->Option Int->Option Int->Hp->VK->Prop):Prop where
 h:GP X r
structure QM (X:Cx) (id:String) (r:V->List V->Hp->VK->Prop):Prop where
 h:KD X id r
structure BZ (X:Cx) (t:Dw):Prop where
 h:Qi X t
structure Fe (X:Cx) (op:Operator) (t:Eb):Prop where
 h:FP X op t
section
variable{X:Cx}{a b c:Expr}{ta tb te:TE}{pos p pos':Pos}{st:Stmt}{rest:List Stmt}{t u:TS}{x:Str}{es:List Expr}{e:Expr}
theorem Zr:WZ X [] Y0:=⟨λ_ _ Y H _ I h=>wpAny_execs_nil (Y,H,I,h)⟩
theorem Zc(d:QS X st t)(g:WZ X rest u):WZ X (st::rest) (Ug t u):=⟨by
 let d:=d.h;let g:=g.h;intro B s Y H D I h;erw[wpAny_execs_cons (thn (d B s Y H {D with nx:=u D } I h) λf h q=>?_)];cases f with
 | next =>
  let(d,J,f,q):=q;rwa[g B h d J D f q]
 | ret v=>rwa[q]
 | brk=>rwa[q]
 | cont=>rwa[q]⟩
theorem Zf(d:QS X st t):WZ X [st] t:=⟨by
 let d:=d.h;intro B s Y H D I h;erw[wpAny_execs_cons (thn (d B s Y H D I h) λf d q=>?_)];cases f with
 | next=>rwa[wpAny_execs_nil q]
 | ret v=>rwa[q]
 | brk=>rwa[q]
 | cont=>rwa[q]⟩
theorem Zv(h:QE X e te):QS X (.Return (_s e) pos) (eB te):=⟨by
 let d:=h.h;intro B s Y H D I h
 rwa[wpAny_Return_some (thn (d B s Y H _ I h) λv j ⟨x,d,f,i,g⟩=>(x,Y,d,f,i,g))]⟩
theorem Zs{c:Expr}{a b:List Stmt}{h:TT}(d:QT X c h)(f:WZ X a t)(g:WZ X b u):QS X (.If c a b pos) (DL h t u):=⟨by
 let d:=d.h;let f:=f.h;let g:=g.h;intro B s Y H D I h;erw[wpAny_If (thn (d B s Y H _ I h) λd k ⟨h,i,j⟩=>?_)];cases d with
 | true=>rwa[f B k Y h D i j]
 | false=>rwa[g B k Y h D i j]⟩
theorem Zl(d:QE X e te)(hs:autoParam (swapsWith e _n pos.line X.env=pure false) y1z):QS X (.Expr e pos) (FJ te):=⟨by
 let d:=d.h;intro B s Y H D I h
 rwa[wpAny_Expr_any (thn (d B s Y H _ I h) λv i ⟨x,d,f,h,g⟩=>(Y,d,f,g)) I.quiet hs]⟩
theorem Zw(i:Nat)(f:QE X e te)(d:autoParam (nD X) y2z)(n:autoParam (nB X x .local) y2z)(g:autoParam (X.N[i]?=_s x) y1z)(hs:autoParam (swapsWith e (_s (.Name x pos')) pos.line X.env=pure false) y1z) :
  QS X (.Assign [.Name x pos'] e pos) (J7 te (Wl i)):=⟨Sl (od d) (od n) f.h g hs⟩
theorem MH{i:Nat}(d:X.N.Nodup)(n:Nm X.env.scope x .cell)(f:QE X e te)(g:autoParam (X.fn x=true) y1z)(h:autoParam (X.N[i]?=_s x) y1z)(hs:autoParam (swapsWith e (_s (.Name x pos')) pos.line X.env=pure false) y1z) :
  QS X (.Assign [.Name x pos'] e pos) (J7 te (Wl i)):=⟨eR d n f.h g h hs⟩
theorem Jl{d:Expr}{g:TG}(f:QE X e te)(i:QG X d g)(hs:autoParam (swapsWithSole [d] e pos.line X.env=pure false) y1z)(k:autoParam (swappedStores [d] e X.env=pure none) y1z)(j:autoParam ((assignEach [d] X.env).map (·.2)= [assign d X.env]) y1z):QS X (.Assign [d] e pos) (J7 te g):=⟨by
 let f:=f.h;let i:=i.h;intro B s Y H D I h;erw[wpAny_Assign_stores (thn (f B s Y H _ I h) λv m ⟨x,d,f,l,h⟩=>?_) hs k];rw[j]
 rwa[thn (i B m Y d x v _ f l h) λ_ d q=>q]⟩
theorem Lo(i:Nat){op:Operator}{d:Eb}(g:QE X e te)(j:Fe X op d)(f:autoParam (nD X) y2z)(n:autoParam (nB X x .local) y2z)(h:autoParam (X.N[i]?=_s x) y1z) :
  QS X (.AugAssign (.Name x pos') op e pos) (Ga i te d):=⟨hZ (od f) (od n) g.h j.h h⟩
theorem fW:Fe X .Add (ipI λi j=>i+j):=⟨by
 intro B s Y H x y v u Q I g k h;let(i,j,d,f,q):=h;subst d;subst f;let(t,rfl):=g;let(d,rfl):=k
 rwa[iadd_int (.int _,H,I.tok _,(_,rfl),q)]⟩
theorem dE:Fe X .Sub (ipI λi j=>i - j):=⟨by
 intro B s Y H x y v u Q I g k h;let(i,j,d,f,q):=h;subst d;subst f;let(t,rfl):=g;let(d,rfl):=k
 rwa[isub_int (.int _,H,I.tok _,(_,rfl),q)]⟩
def Bv(d:It)(g:TG)(tb:TS)(D:YF)(Y:St)(f:Hp):Prop:=∃W:Nat->Nat->St->Hp->Prop,(∃m,W 0 m Y f)/\∀i m Y H,W i m Y H ->
 (d.stop i H/\D.nx Y H)\/(d.go i H/\∃N:St->Hp->Prop,(∀ f J,N f J->∃h,h<m/\W (i+1) h f J)/\∀x J,d.jb i H x J->g x Y J λd f=>tb {D with nx:=N,ct:=N,bk:=D.nx } d f)
def GT(d:TI)(g:TG)(tb:TS):TS:=λD Y H=>d Y H λJ d=>Bv J g tb D Y d
theorem Y5(k:PassesOwn (_m X.prog X.w) X.A X.env X.xe)(C:X.calm=_t)(d:QI X tg iter wi)(y:QG X tg g)(j:WZ X body t)(hs:autoParam (∀x,foldedSetIterable iter X.env x=pure x) y5z):QS X (.For tg iter body [] pos) (GT wi g t):=⟨by
 have d:=d.h;have y:=y.h;have j:=j.h;intro B s Y H D I h;refine wpAny_For (thn (d B s Y H _ I h) λv f d=>thn d λd f i=>?_) hs;obtain⟨it,o,F,d,s,e,w,T,f,h,W,⟨z,A⟩,r⟩:=i;subst e;have d:∀{J:Hp},(∀b∈o,J b=_n)->∀b∈o,Vt X B J b:=λi b j=>⟨i b j,(h b j).2⟩;refine codeAny_forLoop_any (λn m=>∃i l J,ZE X B l J m/\F i m.heap/\(∀b∈o,J b=_n)/\W i n l J) ?_ z ⟨0,Y,s,w,f,λb j=>(h b j).1,A⟩;rintro n E ⟨i,f,w,A,m,h,s⟩;rcases r i n f w s with⟨s,H⟩ | ⟨go,N,hN,step⟩
 .refine wpAny_passesOwn k (thn (T.done X rfl rfl rfl C i B E f w X.xe A (d h) m s) λr I ⟨z,G⟩=>?_);subst z;exact wpAny_execs_nil ⟨f,w,G,H⟩
 .refine wpAny_passesOwn k (thn (T.item X rfl rfl rfl C i B E f w X.xe A (d h) m go) λr I ⟨u,z,h⟩=>?_);subst z;refine wpAny_passesOwn k (thn h λ_ w ⟨x,r,z,A,C,s,m⟩=>?_);have h:=z.pinned (d m) (T.obj _ _ s);refine wpAny_passesOwn k (thn (y _ w f r x u _ h A (step x r C)) λ_ r ⟨d,f,h,m⟩=>?_);refine wpAny_passesOwn k (thn (j _ r d f _ h m) λf d r=>?_);have again:∀{h:St}{k:Hp},ZE X (B++AZ o w.heap) h k d->N h k->∃m,m<n/\∃i l J,ZE X B l J d/\F i d.heap/\(∀b∈o,J b=_n)/\W i m l J:=λ{h k} l m=>by
   obtain⟨n,d,w⟩:=hN h k m;refine⟨n,d,i+1,h,k,l.j5,T.keep _ _ _ s λb j o e=>(l.pin (Prod.mk (b) (o)) (xO _ (xO _ (Cv j e)))).1,λb j=>?_,w⟩;obtain⟨o,e,d⟩:=T.obj _ _ s b j;exact(l.pin (Prod.mk (b) (o)) (xO _ (xO _ (Cv j e)))).2.1
  cases f with
  | next=>obtain⟨h,k,l,m⟩:=r;exact again l m
  | cont=>obtain⟨h,k,l,m⟩:=r;exact again l m
  | brk=>obtain⟨h,k,l,r⟩:=r;exact⟨h,k,l.j5,r⟩
  | ret v=>obtain⟨f,h,k,l,d,r⟩:=r;exact⟨f,h,k,l.j5,d,r⟩⟩
theorem PC(k:PassesOwn (_m X.prog X.w) X.A X.env X.xe)(j:QT X c tc)(i:WZ X body t):QS X (.While c body [] pos) (iB tc t):=⟨by
 let j:=j.h;let i:=i.h;intro B s Y H D I h;let(W,(g,l),d):=h;erw[wpAny_While (codeAny_whileLoop (λn h=>∃ f J,ZE X B f J h/\W n f J) ?_ g (Y,H,I,l))];rintro n l ⟨g,f,h,m⟩;erw[wpAny_passesOwn k (thn (j B l g f _ h (d n g f m)) λb d ⟨o,r,h⟩=>?_)];cases b with
 | true =>
  let(N,s,h):=h;rw[_j rfl];erw[wpAny_passesOwn k (thn (i B d g o _ r h) λf d i=>?_)];cases f with
  | next =>
   let(d,f,j,m):=i;let(l,k,n):=s d f m;rwa[l,k,d,f,j,n]
  | cont =>
   let(d,f,j,m):=i;let(l,k,n):=s d f m;rwa[l,k,d,f,j,n]
  | brk=>rwa[i]
  | ret v=>rwa[i]
 | false =>
  rw[_i xJ]
  rwa[wpAny_execs_nil (g,o,r,h)]⟩
theorem Z8(i:Nat)(d:autoParam (nD X) y2z)(n:autoParam (nB X x .local) y2z)(f:autoParam (X.N[i]?=_s x) y1z):QG X (.Name x pos) (Wl i):=⟨fU (od d) (od n) f⟩
theorem Ip{i:Nat}(d:X.N.Nodup)(n:Nm X.env.scope x .cell)(f:autoParam (X.fn x=true) y1z)(g:autoParam (X.N[i]?=_s x) y1z):QG X (.Name x pos) (Wl i):=⟨EA d g (.inr n.1) (.inl f)⟩
theorem Vf:BF X [] E4:=⟨by
 intro B s Y H f d Q I r h;let(e,h):=h;subst e;ext r
 rwa[assignInOrder_nil (Y,H,I,h)]⟩
theorem Ye{t:TG}{u:TV}(d:QG X e t)(f:BF X es u)(hs:autoParam ((assignEach (e::es) X.env).map (·.2)=assign e X.env::(assignEach es X.env).map (·.2)) y1z):BF X (e::es) (UJ t u):=⟨by
 let d:=d.h;let f:=f.h;intro B s Y H i g Q I r h;let(v,i,g,h):=h;subst g;cases r with
 | cons r j =>
  rw[hs];erw[assignInOrder_cons (thn (d B s Y H _ _ _ I r h) λ_ k ⟨d,g,h,i⟩=>?_)]
  rwa[f B k d g _ _ Q h j i]⟩
theorem JA{k:Nat}{t:TV}{n:Nat}(f:X.calm=_t)(h:BF X es t)(g:autoParam ((assignEach es X.env).9=n) y1z)(d:autoParam ((assignEach es X.env).findIdx? (·.1)=none) y1z):QG X (.Tuple es k pos) (Jn X.K n t):=⟨L6 f h.h g d⟩
theorem Bh{o i:Expr}{k h:TE}{t:Dw}(j:QE X o k)(g:QE X i h)(hs:BZ X t)(l:autoParam (∀v,assign (.Subscript o i pos) X.env v=(do
   let d <- holding [v] (eval o X.env)
   let f <- holding [v,d] (eval i X.env)
   standAt pos
   holding [v,d,f] (setItem d f v)
   release [v,d,f] [])) y5z):QG X (.Subscript o i pos) (Rj k h t):=⟨by
 let j:=j.h;let g:=g.h;let hs:=hs.h;intro B s Y H v u Q I r h;rw[l];erw[_b (wpAny_holding (thn (j B s Y H _ I h) λd m ⟨x,h,j,l,k⟩=>?_))];erw[_b (wpAny_holding (thn (g B m Y h _ j k) λf m ⟨y,g,h,k,j⟩=>?_))];erw[_b (wpAny_standAt (_b (wpAny_holding (thn (hs B m Y g x y v d f u _ h l k r j) λ_ h ⟨d,f,g⟩=>?_))))]
 rwa[wpAny_release (Y,d,f,g)]⟩
theorem Bs:BZ X CJ:=⟨by
 intro B s Y H o i v j g u Q I f d y h;let(p,L,k,j,rfl,rfl,g,l,q):=h;ext f;let(t,rfl):=d;let(d,n,r,i,m):=I.lst g;let(f,h,o,w):=HL l;let h:=r.9;let l:=Be;let l:ZE X B Y (upd H p (.lst (L.set j v))) {s with heap:=s.heap.update p (Obj.mapSeq (·.setIfInBounds j u)) } :=
  I.lstUpd g i (RW d n j u) (r.set y j) (by rw[List.length_set];rwa[m]) s.toks
 by_cases m:0<=k
 .let g:k.toNat=j:=by
   rw[seqIndex_of m w] at f;rwa[ma f]
  rwa[PySem.W.ki_setAt i m () (by rw[xU,<- h];rwa[w]) (by rw[g];rwa[_,l,q])]
 .let g:(k+(d.toArray.5:Int)).toNat=j:=by
   rw[seqIndex_neg () o] at f;rw[xU,<- h];rwa[ma f]
  rwa[PySem.W.ki_setBack i () (by rw[xU,<- h];rwa[o]) () (by rw[g];rwa[_,l,q])]⟩
variable{tg:Expr}
theorem Ys(d:QE X l te):QI X tg l (Sy X.K te):=⟨by
 let d:=d.h;intro B s Y H R I h;erw[thn (d B s Y H _ I h) λv f ⟨x,g,d,j,i⟩=>?_];let(a,e,(L,h),q):=i;subst e;ext j;let(i,k,p,j):=d.list h;erw[wpAny_pyIter_list p.isList ?_];erw[f.8,[f.8],_,_,g,rfl,d.kept (t':=f.toks) λb o e=>xB _ e,XU a _,(_,xI _ rfl,rfl,rfl),λb g=>?_,q];let e:b=f.8:=by simpa using g
 subst e
 rwa[d.iw (xE _) (d.og.fresh (xE _))]⟩
theorem HY(d:QE X l te):QI X tg l (OQ X.K te):=⟨by
 let d:=d.h;intro B s Y H R I h;erw[thn (d B s Y H _ I h) λv d ⟨x,h,f,j,g⟩=>?_];let(a,e,(L,i),q):=g;subst e;ext j;let(g,k,p,j):=f.tuple i;erw[wpAny_pyIter_tuple (show d.heap.IsTuple a g.4 from p) ?_];erw[d.8,[d.8],_,_,h,rfl,f.kept (t':=d.toks) λb o e=>xB _ e,Qu a _,(_,xI _ rfl,rfl,rfl),λb g=>?_,q];let e:b=d.8:=by simpa using g
 subst e
 rwa[f.iw (xE _) (f.og.fresh (xE _))]⟩
theorem cF(d:QE X l te):QI X tg l (SM te):=⟨by
 let d:=d.h;intro B s Y H R I h;erw[thn (d B s Y H _ I h) λv d ⟨y,g,f,i,h⟩=>?_];let(x,e,q):=h;subst e;let(t,rfl):=i;erw[wpAny_pyIter_strU ?_];erw[d.8,[d.8],_,_,g,rfl,f.kept (t':=d.toks) λb o e=>xB _ e,gD _ x t,(_,xI _ rfl,rfl,rfl),λb g=>?_,q];let e:b=d.8:=by simpa using g
 subst e
 rwa[f.iw (xE _) (f.og.fresh (xE _))]⟩
theorem Au{a:Expr}{ta:TA}(g:X.mg "range"=_n)(d:QA X [a] ta)(f:autoParam (nB X "range" .globalImplicit) y2z)(hs:autoParam (_e [a] X.env=[(_x,eval a X.env)]) y1z):QI X tg (.Call (.Name "range" p) [a] [] pos) (Pj ta):=⟨by
 let f:=(od f).1;let d:=d.h;intro B s Y H R I h;erw[Call_ (Uo I f g boot_range (callWith_type1 (thn (d pos B s Y H _ I h) λj i ⟨k,g,f,h,d⟩=>?_) hs rfl))];let(j,e,d,g,q):=d;subst e;cases h with
 | cons r h =>
  ext h;let(t,rfl):=r
  rwa[call_range_1 (Ik f () () d g (by simpa using q))]⟩
theorem Ol{a b:Expr}{ta:TA}(i:X.mg "range"=_n)(f:QA X [a,b] ta)(g:autoParam (nB X "range" .globalImplicit) y2z)(hs:autoParam (_e [a,b] X.env=[(_x,eval a X.env),(_x,eval b X.env)]) y1z)(d:autoParam (_e [b] X.env=[(_x,eval b X.env)]) y1z) :
  QI X tg (.Call (.Name "range" p) [a,b] [] pos) (hV ta):=⟨by
 let g:=(od g).1;let f:=f.h;intro B s Y H R I h;erw[Call_ (Uo I g i boot_range (callWith_type1 (thn (f pos B s Y H _ I h) λj i ⟨k,h,g,m,f⟩=>?_) (by rw[hs,d]) (by rw[d];rfl)))];let(i,j,e,(f,h,k,l),q):=f;subst e;cases m with
 | cons r d =>
  cases d with
  | cons i d =>
   ext d;let(t,rfl):=r;let(d,rfl):=i
   rwa[call_range_2 (Ik g f h k l q)]⟩
theorem Zb:QA X [] Vu:=⟨λ_ _ _ _ H Q I h=>mw ([],H,I,.nil,h)⟩
theorem Za{t:TA}(d:QE X e te)(f:QA X es t)(hs:autoParam (sEq X e es) y1z):QA X (e::es) (Uq te t):=⟨by
 let d:=d.h;let f:=f.h;intro pos B s Y H Q I h;rw[hs];show _w _ _ (spliced ((_x,eval e X.env)::backTo pos (_e es X.env))) _ _ s;erw[mv (thn (d B s Y H _ I h) λu j ⟨x,d,g,i,h⟩=>?_)]
 rwa[thn (f pos B j Y d _ g h) λk j ⟨L,d,f,h,g⟩=>(x::L,d,f,.cons i h,g)]⟩
theorem Z7 {x1} {t:TA}(h:QA X es t):QE X (.Tuple es x1 pos) (RE t):=⟨by
 let h:=h.h;intro B s Y H Q I d;erw[wpAny_Tuple_spliced (thn (h pos B s Y H _ I d) λj d ⟨L,f,g,r,z,q⟩=>(by rw[<- r.9];rwa[z],?_))];let i:f d.8=none:=g.og.fresh (xE _);erw[.ref d.8,upd f d.heap.objs.size (.tup L),g.laid (t':=d.toks) (λb u e=>xB _ e) (xE _) ?_,rfl,q _ i]
 rwa[z,j,r,(_,xI _ rfl,rfl,_,rfl)]⟩
theorem Yn{t:TA}(h:QA X es t):QE X (.List es pos) (NY t):=⟨by
 let h:=h.h;intro B s Y H Q I d;erw[wpAny_List_spliced (thn (h pos B s Y H _ I d) λj d ⟨L,f,g,r,z,q⟩=>(by rw[<- r.9];rwa[z],?_))];let i:f d.8=none:=g.og.fresh (xE _);erw[.ref d.8,upd f d.heap.objs.size (.lst L),g.laid (t':=d.toks) (λb u e=>xB _ e) (xE _) ?_,rfl,q _ i]
 rwa[z,j,0,r,xI _ rfl]⟩
theorem Ur(d:QT X a tA):QT X (.UnaryOp .Not a pos) (O5 tA):=⟨by
 let d:=d.h;intro B s Y H Q I h
 rwa[isTrue_not (d B s Y H (λc d=>Q (!c) d) I h)]⟩
theorem QW.pt(h:QW X e tA):QT X e tA:=⟨PW.pt h.h⟩
theorem V9(d:QT X a tA):QW X (.BoolOp .And [a] pos) tA:=⟨by
 let d:=d.h;intro f B s Y H Q I h;erw[isTrue_and (thn (d B s Y H Q I h) λc d e=>?_)];cases c with
 | true=>rwa[isTrue_and_nil e]
 | false=>rwa[e]⟩
theorem Ff(d:QT X a tA):QW X (.BoolOp .Or [a] pos) tA:=⟨by
 let d:=d.h;intro f B s Y H Q I h;erw[isTrue_or (thn (d B s Y H Q I h) λc d e=>?_)];cases c with
 | false=>rwa[isTrue_or_nil e]
 | true=>rwa[e]⟩
theorem Vo{rest:List Expr}(d:QT X a tA)(f:QW X (.BoolOp .And (b::rest) pos) tB'):QW X (.BoolOp .And (a::b::rest) pos) (RD tA tB'):=⟨by
 let d:=d.h;let f:=f.h;intro j B s Y H Q I h;erw[isTrue_and (thn (d B s Y H _ I h) λc i ⟨d,g,h⟩=>?_)];cases c with
 | true=>rwa[f j B i Y d Q g h]
 | false=>rwa[d,g,h]⟩
theorem Gq{rest:List Expr}(d:QT X a tA)(f:QW X (.BoolOp .Or (b::rest) pos) tB'):QW X (.BoolOp .Or (a::b::rest) pos) (Rh tA tB'):=⟨by
 let d:=d.h;let f:=f.h;intro j B s Y H Q I h;erw[isTrue_or (thn (d B s Y H _ I h) λc i ⟨d,g,h⟩=>?_)];cases c with
 | true=>rwa[d,g,h]
 | false=>rwa[f j B i Y d Q g h]⟩
theorem Zn(g:WC X (_c op) r)(d:QE X a ta)(f:QE X b tb)(i:behindInMarks op b=_x):QT X (.Compare a [op] [b] pos) (BH (T8 r ta tb)):=⟨by
 let g:=g.h;let d:=d.h;let f:=f.h;intro B s Y H Q I h
 refine wpAny_isTrue_Compare1 (thn (d B s Y H _ I h) λv l ⟨x,d,h,k,j⟩=>thn (f B l Y d _ h j) λu l ⟨y,d,f,j,h⟩=>
  thn (g B l Y d x y v u _ f k j h) λc j ⟨z,d,f,h,k,e,g⟩=>?_) i
 subst e;ext h
 rwa[wpAny_truthy_bool (d,f,g)]⟩
theorem Jq(g:WC X (_c op) r)(d:QE X a ta)(f:QE X b tb)(i:behindInMarks op b=_x):QE X (.Compare a [op] [b] pos) (T8 r ta tb):=⟨by
 let g:=g.h;let d:=d.h;let f:=f.h;intro B s Y H Q I h
 rwa[wpAny_Compare1 (E6 d f I h λv u k x y d f h j q=>g B k Y d x y v u Q f h j q) i]⟩
theorem M1(j:WC X (_c op) r)(f:WC X (_c op') r')(d:QE X a ta)(g:QE X b tb)(i:QE X c tc)(m:lastMarks [op,op'] [b,c]=false:=by with_unfolding_all rfl):QE X (.Compare a [op,op'] [b,c] pos) (HC r r' ta tb tc):=⟨by
 let j:=j.h;let f:=f.h;let d:=d.h;let g:=g.h;let i:=i.h;intro B s Y H Q I h
 refine Compare_chain (thn (d B s Y H _ I h) λv l ⟨x,d,h,n,k⟩=>chain_link (thn (g B l Y d _ h k) λu k ⟨y,d,g,l,h⟩=>
  thn (j B k Y d x y v u _ g n l h) λd o ⟨z,g,h,n,k,e,j⟩=>?_)) m
 subst e;ext n;erw[wpAny_truthy_bool ?_];cases k with
 | false=>rwa[ite_ff (.bl _x,g,h,rfl,j)]
 | true=>rwa[ite_tt (chain_last (thn (i B o Y g _ h j) λk j ⟨m,d,g,i,h⟩=>f B j Y d y m u k Q g l i h))]⟩
theorem B0(j:WC X (_c op) r)(f:WC X (_c op') r')(d:QE X a ta)(g:QE X b tb)(i:QE X c tc)(m:autoParam (lastMarks [op,op'] [b,c]=false) M1._auto_1):QT X (.Compare a [op,op'] [b,c] pos) (BH (HC r r' ta tb tc)):=⟨by
 let j:=j.h;let f:=f.h;let d:=d.h;let g:=g.h;let i:=i.h;intro B s Y H Q I h
 refine isTrue_chain (thn (d B s Y H _ I h) λv l ⟨x,d,h,n,k⟩=>test_link (thn (g B l Y d _ h k) λu k ⟨y,d,g,l,h⟩=>
  thn (j B k Y d x y v u _ g n l h) λd o ⟨z,g,h,n,k,e,j⟩=>?_)) m
 subst e;ext n;erw[wpAny_truthy_bool ?_];cases k with
 | false =>
  let(m,d,k):=j;ext d;rwa[ite_ff (g,h,k)]
 | true =>
  erw[ite_tt (test_last (thn (i B o Y g _ h j) λk j ⟨m,d,g,i,h⟩=>thn (f B j Y d y m u k _ g l i h) λj l ⟨m,d,f,i,k,g,h⟩=>?_))];subst g;ext i
  rwa[wpAny_truthy_bool (d,f,h)]⟩
theorem Wq(h:QE X e te)(i:autoParam (∀d,isTrue e X.env d=(do let v <- d;standAt e.pos;holding [v] (truthy v))) y5z):QT X e (tB te):=⟨by
 let h:=h.h;intro B s Y H Q I d;erw[isTrue_plain (thn (h B s Y H _ I d) λv d ⟨x,f,g,k,j⟩=>?_) (i _)];let(d,rfl,q):=j;ext k
 rwa[wpAny_truthy_bool (f,g,q)]⟩
theorem Ze {i j pos}:QE X (.Constant (.int i) j pos) (tC (.int i)):=⟨λ_ _ _ H _ I h=>wpAny_Constant_int (.int i,H,I.tok _,(_,rfl),h)⟩
theorem V0 {b j pos}:QE X (.Constant (.bool b) j pos) (tC (.bl b)):=⟨λ_ _ _ H _ I h=>Constant_bool (.bl b,H,I,rfl,h)⟩
theorem Wa {j pos}:QE X (.Constant .none j pos) (tC .non):=⟨λ_ _ _ H _ I h=>Constant_none (.non,H,I,rfl,h)⟩
theorem Z9 {x j pos}:QE X (.Constant (.str x) j pos) (tC (.str x)):=⟨λ_ _ _ H _ I h=>Calls.Constant_str (.str x,H,I.tok _,(_,rfl),h)⟩
theorem qvN(i:Nat)(n:autoParam (nB X x .local) y2z)(d:autoParam (X.N[i]?=_s x) y1z):QE X (.Name x pos) (YL i):=⟨pvN i (od n) d⟩
abbrev Q0{X x p}:=@qvN X x p 0
abbrev Q1{X x p}:=@qvN X x p 1
abbrev Q2{X x p}:=@qvN X x p 2
abbrev Q3{X x p}:=@qvN X x p 3
abbrev Q4{X x p}:=@qvN X x p 4
abbrev Q5{X x p}:=@qvN X x p 5
abbrev Q6{X x p}:=@qvN X x p 6
abbrev Q7{X x p}:=@qvN X x p 7
abbrev Q8{X x p}:=@qvN X x p 8
theorem qvC(i:Nat)(n:Nm X.env.scope x .cell)(d:autoParam (X.N[i]?=_s x) y1z):QE X (.Name x pos) (YL i):=⟨Dz d (.inr (.inl n.1)) n.2.1 n.2.2.1⟩
theorem Wh{v:V}{u:jO}(d:X.mg x=_s u)(r:ZH v u)(n:autoParam (nB X x .globalImplicit) y2z):QE X (.Name x pos) (tC v):=⟨RF (od n) d r⟩
theorem Uk{v:V}{u:jO}(d:X.mg x=_n)(f:_o x=_s u)(r:ZH v u)(n:autoParam (nB X x .globalImplicit) y2z):QE X (.Name x pos) (tC v):=⟨SY (od n) d f r⟩
theorem Z0(g:WC X (binaryOp op) r)(d:QE X a ta)(f:QE X b tb):QE X (.BinOp a op b pos) (T8 r ta tb):=⟨by
 let g:=g.h;let d:=d.h;let f:=f.h;intro B s Y H Q I h
 rwa[wpAny_BinOp (E6 d f I h λv u j x y d f h i q=>g B j Y d x y v u Q f h i q)]⟩
theorem Jx(f:Nf X (unaryOp op) r)(d:QE X a ta):QE X (.UnaryOp op a pos) (dF r ta):=⟨by
 let f:=f.h;let d:=d.h;intro B s Y H Q I h
 rwa[UnaryOp_ (thn (d B s Y H _ I h) λv j ⟨x,d,g,i,h⟩=>f B j Y d x v Q g i h)]⟩
theorem RY(d:QE X a ta):QE X (.UnaryOp .Not a pos) (XS ta):=⟨by
 let d:=d.h;intro B s Y H Q I h;erw[UnaryOp_ (thn (d B s Y H _ I h) λv i ⟨x,f,g,h,d⟩=>?_)];let(c,rfl,d):=d;ext h
 rwa[not_of (wpAny_truthy_bool (.bl (!c),f,g,rfl,d))]⟩
theorem Bu {op} (h:QE X a ta):QE X (.BoolOp op [a] pos) ta:=⟨Oa h.h⟩
theorem AK{rest:List Expr}(d:QE X a ta)(f:QE X (.BoolOp .And (b::rest) pos) tb):QE X (.BoolOp .And (a::b::rest) pos) (Xv ta tb):=⟨by
 let d:=d.h;let f:=f.h;intro B s Y H Q I h;erw[BoolOp_and (thn (d B s Y H _ I h) λv j ⟨x,g,h,i,d⟩=>?_)];let(c,rfl,d):=d;ext i;erw[wpAny_truthy_bool ?_];cases c with
 | true=>rwa[f B j Y g Q h d]
 | false=>rwa[.bl _x,g,h,rfl,d]⟩
theorem cH(d:QT X c tA)(f:QE X a ta)(g:QE X b tb):QE X (.IfExp c a b pos) (bJ tA ta tb):=⟨by
 let d:=d.h;let f:=f.h;let g:=g.h;intro B s Y H Q I h;erw[wpAny_IfExp (thn (d B s Y H _ I h) λd k ⟨h,i,j⟩=>?_)];cases d with
 | true=>rwa[f B k Y h Q i j]
 | false=>rwa[g B k Y h Q i j]⟩
theorem JT:QO X _n OH:=⟨by
 intro B s Y H Q I h;rw[evalPart_none]
 rwa[_p (_n,H,I,.none,h)]⟩
theorem JV(h:QE X e te):QO X (_s e) (eA te):=⟨by
 let h:=h.h;intro B s Y H Q I d;rw[evalPart_some];erw[thn (h B s Y H _ I d) λu i ⟨x,d,f,j,g⟩=>?_];let(i,rfl,q):=g;let(t,rfl):=j
 rwa[_s i,d,f,.int i t,q]⟩
theorem JZ{lo i:Option Expr}{k h:TO}{r:V->Option Int->Option Int->Hp->VK->Prop}(j:FZ X r)(d:QE X e te)(f:QO X lo k)(g:QO X i h):QE X (.Subscript e (.Slice lo i _n p2) pos) (fG r te k h):=⟨by
 let j:=j.h;let d:=d.h;let f:=f.h;let g:=g.h;intro B s Y H Q I h;erw[Subscript_ (thn (d B s Y H _ I h) λv l ⟨x,d,h,z,k⟩=>?_)];erw[wpAny_Slice (thn (f B l Y d _ h k) λf m ⟨l,d,h,s,k⟩=>thn (g B m Y d _ h k) λg d ⟨u,h,k,w,y⟩=>?_)];rw[evalPart_none];erw[_p ?_];let m:ZE X B Y h {d with heap:=d.heap.push {cls:=.type "slice", data:=.fields #[f,g,.none] } }:=k.kept (t':=d.toks) λb k q=>xB _ q;let(T,id,k,o,n):=j B {d with heap:=d.heap.push {cls:=.type "slice", data:=.fields #[f,g,.none] } } Y h x v f g l u d.heap.objs.size Q m z (Heap.IsSliceOf.new ..) s w y;show _w (_m X.prog X.w) X.A (subscriptTail e (.Slice lo i _n p2) v (.ref d.8)) (EP X B Y Q) X.xe {d with heap:=d.heap.push {cls:=.type "slice", data:=.fields #[f,g,.none] } }
 rwa[tail_any (ops:=[.ref d.8,v]) o k n (by with_unfolding_all rfl)]⟩
theorem Zh(g:BN X r)(d:QE X a ta)(f:QE X b tb)(hs:Ph b:=by rwa[λ_ _=>rfl]):QE X (.Subscript a b pos) (T8 r ta tb):=⟨by
 let g:=g.h;let d:=d.h;let f:=f.h;intro B s Y H Q I h
 rwa[Subscript_ (E6 d f I h λv u j x y d f h i q=>g a b B j Y d x y v u Q f h i q (hs _ _))]⟩
theorem Zk{k:Nat}{d:jJ}{sp:Sp}{t:TA}(F:Fn X.prog X.w X.K X.mg X.base x d k sp)(f:QA X (e::es) t)(h:ZO k X.A:=by rwa[ZO.mono (by assumption) (by first | decide | lia)])(n:autoParam (nB X x .globalImplicit) y2z)(g:autoParam (sEq X e es) y1z)(d:autoParam (sFq X pos es) y1z) :
  QE X (.Call (.Name x p) (e::es) [] pos) (JO sp t):=⟨SS F h (od n) f.h g d⟩
theorem Z1{t:TA}{id:String}{r:List V->Hp->VK->Prop}(g:QC X (.builtin id) r)(i:X.mg x=_n)(j:_o x=_s (.builtin id))(f:QA X (e::es) t)(n:autoParam (nB X x .globalImplicit) y2z)(h:autoParam (sEq X e es) y1z)(d:autoParam (sFq X pos es) y1z):QE X (.Call (.Name x p) (e::es) [] pos) (B7 r t):=⟨QV g.h (od n) i j f.h h d⟩
theorem J4{t:TA}{T:String}{r:List V->Hp->VK->Prop}(g:QC X (.type T) r)(i:X.mg x=_n)(j:_o x=_s (.type T))(f:QA X (e::es) t)(n:autoParam (nB X x .globalImplicit) y2z)(h:autoParam (sEq X e es) y1z)(d:autoParam (sFq X pos es) y1z):QE X (.Call (.Name x p) (e::es) [] pos) (B7 r t):=⟨PY g.h (od n) i j f.h h d⟩
theorem Yz{o:Expr}{h:TE}{t:TA}{name:Str}{g d:Pos}{T id:String}{r:V->List V->Hp->VK->Prop}(y:PlainAttrs T)(l:Slot T name id)(w:typeOf (.builtin id)=pure (.type "method_descriptor"))(n:QM X id r)(v:QE X o h)(m:QA X (e::es) t)(i:autoParam (attributeBase o name X.env (eval o X.env)=eval o X.env) y1z)(k:autoParam (((backTo d (_e (e::es) X.env)).all (λx=>!x.1)&&(backToKw d (keywordEach [] X.env)).all (λx=>x.1.isSome)
   && decide ((e::es).9+([]:List Keyword).9+(if ([]:List Keyword).isEmpty then 0 else 1)<30))=true) y1z)(j:autoParam ((g.endLine==d.line)=true) y1z)(hs:autoParam (sEq X e es) y1z)(f:autoParam ((backTo d (_e es X.env)).any (·.1)=false) y1z) :
  QE X (.Call (.Attribute o name g) (e::es) [] d) (E8 X.K T r h t):=⟨by
 let n:=n.h;let v:=v.h;let m:=m.h;intro B s Y H Q I h;erw[wpAny_Call_method_late i k j rfl (thn (v B s Y H _ I h) λv z ⟨x,j,g,i,A,s⟩=>?_)];let(h,k):=IL g i A;erw[T,id,y,l,w,h,k,?_];let h:=m d B z Y j _ g s;rw[hs] at h |-;erw[mn (by show (_x || (backTo d (_e es X.env)).any (·.1))=_x;rw[f]<;>rfl) (mr ?_)]
 rwa[thn h λk j ⟨l,d,f,h,g⟩=>n B j Y d x l v k Q f i h g]⟩
theorem Y7:WC X (binaryOp .Add) (Ah λi j=>.int (i+j)):=⟨K4 λ_ _ _ _ _ _ _ q=>add_int q⟩
theorem Ub:WC X (binaryOp .Sub) (Ah λi j=>.int (i - j)):=⟨K4 λ_ _ _ _ _ _ _ q=>sub_int q⟩
theorem LL:WC X (binaryOp .Mult) (rI Ae λi j=>.int (i * j)):=⟨opI λ_ _ _ _ _ _ _ d q=>mul_int q d.ok⟩
theorem Dt:WC X (binaryOp .FloorDiv) (rI Kr λi j=>.int (i / j)):=⟨opI λi j _ _ _ _ _ d q=>by
 let f:(0:Int)<j:=d.1;let f:j<1073741824:=d.2
 rwa[floordiv_int () (by rw[Int.fdiv_eq_ediv_of_nonneg i ()];rwa[q]) (.inl (PyProof.noPylong_small ()))]⟩
theorem BE:WC X (binaryOp .Mod) (rI (λ_ j=>0<j) λi j=>.int (i % j)):=⟨opI λi j _ _ _ _ _ d q=>by
 let f:(0:Int)<j:=d
 rwa[mod_int' () (by rw[Int.fmod_eq_emod_of_nonneg i ()];rwa[q])]⟩
theorem dW:WC X (binaryOp .Pow) (rI Mi λi j=>.int (i^j.toNat)):=⟨opI λ_ _ _ _ _ _ _ d q=>pow_int_small d.1 d.2.1 d.2.2 q⟩
theorem Jv:Nf X (unaryOp .USub) (rU λi=>.int (-i)):=⟨by
 intro B s Y H x v Q I d h;let(i,rfl,q):=h;let(t,rfl):=d
 rwa[neg_int (.int (-i),H,I.tok _,(_,rfl),q)]⟩
def M6(g:Str->Str->V):R2:=λx y H Q=>∃i j,x=.str i/\y=.str j/\Q (g i j) H
theorem Nw:WC X (_c .LtE) (M6 λi j=>.bl (!decide (j.cps.toList<i.cps.toList))):=⟨by
 intro B s Y H x y v u Q I d f h;let(i,j,rfl,rfl,q):=h;let(t,rfl):=d;let(d,rfl):=f
 rwa[P.le_str (.bl _,H,I,rfl,q)]⟩
theorem Kb:WC X (_c .Lt) (M6 λi j=>.bl (decide (i.cps.toList<j.cps.toList))):=⟨by
 intro B s Y H x y v u Q I d f h;let(i,j,rfl,rfl,q):=h;let(t,rfl):=d;let(d,rfl):=f
 rwa[lt_str (Yv I q rfl)]⟩
def gK:R2:=λx y H Q=>∃i j,x=.str i/\y=.str j/\i.9+j.9<=_z/\Q (.str (i++j)) H
theorem DN:WC X (binaryOp .Add) gK:=⟨by
 intro B s Y H x y v u Q I f g h;let(i,j,rfl,rfl,d,q):=h;let(t,rfl):=f;let(f,rfl):=g
 rwa[add_str (λf g=>(.str (i++j),H,I.tok _,(_,rfl),q)) d]⟩
theorem JG:WC X (binaryOp .Add) Fb:=⟨by
 intro B s Y H x y v u Q I f g h;let(l,b,L,k,rfl,rfl,d,i,j,q):=h;ext f;ext g;let(z,f,n,r,g,e):=I.ou d;let(l,d,k,j,h,g):=I.ou i;erw[PySem.P.add_list e g ?_ (by rw[xU,xU];lia)];let g:f.4++d.4=(f++d).4:=by simp
 rw[g]
 rwa[.ref _,_,I.lnew (t':=s.toks) (r.append j) (by rw[xG];lia),rfl,q _ I.fresh]⟩
theorem Nb:WC X (binaryOp .Mult) Gu:=⟨by
 intro B s Y H x y v u Q I d i h;obtain⟨l,k,L,rfl,rfl,g,f,j,v,q⟩:=h;cases d;obtain⟨t,rfl⟩:=i;obtain⟨z,d,n,r,h,e⟩:=I.ou g;have i:d.toArray.5 * k.toNat<=sizeLine:=by rw[xU,<- h];exact v
 have g:¬d.toArray.5 * k.toNat > (2^63 - 1) / 8:=by
  have:(sizeLine:Nat)<=(2^63 - 1) / 8:=by decide
  lia
 have h:¬(!Builtin.List.listFitsIndex k)=true:=by
  rw[fitsIndex_both f j];exact xJ
 have f:¬Builtin.List.listTooLong (d.toArray.5 * k.toNat)=true:=by
  rw[OW i];exact xJ
 have i:List.foldl (λj o=>j++o) #[] (List.replicate (if d.toArray.isEmpty=_t then 0 else k.toNat) d.4)=(List.replicate k.toNat d).flatten.4:=by
  have w:∀m:Nat,List.foldl (λj o=>j++o) #[] (List.replicate m d.4)=(List.replicate m d).flatten.4:=λm=>by
   have:=LG d m [];rw[zP] at this;exact this
  rw[w];cases d with
  | nil=>simp
  | cons a j=>rw[_i (by simp)]
 refine wpAny_binaryOp_repeat_ref (T:="list") (U:="int") aA ⟨_,e,rfl⟩ (λj=>typeIs_int j k t) noFill_list_mul F.fills_int_mul F.slot_int_rmul repeat_list F.slot_int_index.lookup
  (call_meets F.slot_int_rmul (typeIs_int s k t) F.entry_int_rmul (F.args_int_rmul_2 _ _) (int___rmul___int_list k t l d.toArray n)
   ⟨e,rfl,⟨_,e,rfl⟩,call_meets F.slot_list_mul ⟨_,e,rfl⟩ F.entry_list_mul (F.args_list_mul_2 _ _) (AutoListH.list___mul___list_int_3 l d.toArray n k t h g f) ⟨e,?_⟩⟩)
 rw[i]
 exact⟨.ref _,_,I.lnew (t':=s.toks) (r.rep k.toNat) (by rw[eQ,Nat.mul_comm];exact v),rfl,q _ I.fresh⟩⟩
theorem Yp:WC X (_c .Eq) Ci:=⟨by
 intro B s Y H x y v u Q I k d h;let(g,q):=h;cases x with
 | non =>
  ext k;cases y with
  | non=>ext d;rwa[PySem.EqNone.eq_none_none (Yv I q (by simp))]
  | bl j=>ext d;rwa[PySem.EqNone.eq_none_bool (Yv I q (by simp))]
  | int j=>let(f,rfl):=d;rwa[PySem.EqNone.eq_none_int (Yv I q (by simp))]
  | str j=>let(f,rfl):=d;rwa[PySem.EqNone.eq_none_str (Yv I q (by simp))]
  | _=>rwa[_a (show _x=_t from g) xJ]
 | bl i =>
  ext k;cases y with
  | non=>ext d;rwa[PySem.EqNone.eq_bool_none (Yv I q (by simp))]
  | bl j=>ext d;rwa[eq_bool (Yv I q ME)]
  | str j=>let(f,rfl):=d;rwa[PySem.EqMixed.eq_bool_str (Yv I q (by simp))]
  | _=>rwa[_a (show _x=_t from g) xJ]
 | int i =>
  let(t,rfl):=k;cases y with
  | non=>ext d;rwa[PySem.EqNone.eq_int_none (Yv I q (by simp))]
  | int j=>let(f,rfl):=d;rwa[eq_int (Yv I q MC)]
  | str j=>let(f,rfl):=d;rwa[PySem.EqMixed.eq_int_str (Yv I q (by simp))]
  | _=>rwa[_a (show _x=_t from g) xJ]
 | str i =>
  let(t,rfl):=k;cases y with
  | non=>ext d;rwa[PySem.EqNone.eq_str_none (Yv I q (by simp))]
  | bl j=>ext d;rwa[PySem.EqMixed.eq_str_bool (Yv I q (by simp))]
  | int j=>let(f,rfl):=d;rwa[PySem.EqMixed.eq_str_int (Yv I q (by simp))]
  | str j=>let(f,rfl):=d;rwa[eq_str (Yv I q GN)]
  | _=>rwa[_a (show _x=_t from g) xJ]
 | byt i =>
  let(t,rfl):=k;cases y with
  | byt j=>let(f,rfl):=d;rwa[PySem.W.eq_bytes (Yv I q MS)]
  | _=>rwa[_a (show _x=_t from g) xJ]
 | _=>ext y<;>rwa[_a (show _x=_t from g) xJ]⟩
theorem BA:WC X (_c .NotEq) eK:=⟨by
 intro B s Y H x y v u Q I k d h;let(g,q):=h;cases x with
 | non =>
  ext k;cases y with
  | non=>ext d;rwa[PySem.EqNone.ne_none_none (Yv I q (by simp))]
  | bl j=>ext d;rwa[PySem.EqNone.ne_none_bool (Yv I q (by simp))]
  | int j=>let(f,rfl):=d;rwa[PySem.EqNone.ne_none_int (Yv I q (by simp))]
  | str j=>let(f,rfl):=d;rwa[PySem.EqNone.ne_none_str (Yv I q (by simp))]
  | _=>rwa[_a (show _x=_t from g) xJ]
 | bl i =>
  ext k;cases y with
  | non=>ext d;rwa[PySem.EqNone.ne_bool_none (Yv I q (by simp))]
  | bl j=>ext d;rwa[ne_bool (Yv I q (congrArg not ME))]
  | str j=>let(f,rfl):=d;rwa[PySem.EqMixed.ne_bool_str (Yv I q (by simp))]
  | _=>rwa[_a (show _x=_t from g) xJ]
 | int i =>
  let(t,rfl):=k;cases y with
  | non=>ext d;rwa[PySem.EqNone.ne_int_none (Yv I q (by simp))]
  | int j=>let(f,rfl):=d;rwa[ne_int (Yv I q (congrArg not MC))]
  | str j=>let(f,rfl):=d;rwa[PySem.EqMixed.ne_int_str (Yv I q (by simp))]
  | _=>rwa[_a (show _x=_t from g) xJ]
 | str i =>
  let(t,rfl):=k;cases y with
  | non=>ext d;rwa[PySem.EqNone.ne_str_none (Yv I q (by simp))]
  | bl j=>ext d;rwa[PySem.EqMixed.ne_str_bool (Yv I q (by simp))]
  | int j=>let(f,rfl):=d;rwa[PySem.EqMixed.ne_str_int (Yv I q (by simp))]
  | str j=>let(f,rfl):=d;rwa[ne_str (Yv I q (congrArg not GN))]
  | _=>rwa[_a (show _x=_t from g) xJ]
 | byt i =>
  let(t,rfl):=k;cases y with
  | byt j=>let(f,rfl):=d;rwa[PySem.W.ne_bytes (Yv I q (congrArg not MS))]
  | _=>rwa[_a (show _x=_t from g) xJ]
 | _=>ext y<;>rwa[_a (show _x=_t from g) xJ]⟩
theorem J5:WC X (_c .Lt) (Ah λi j=>.bl (decide (i<j))):=⟨Ei λ_ _ _ _ _ _ _ q=>lt_int q⟩
theorem Wr:WC X (_c .LtE) (Ah λi j=>.bl (decide (i<=j))):=⟨Ei λ_ _ _ _ _ _ _ q=>le_int q⟩
theorem J8:WC X (_c .Gt) (Ah λi j=>.bl (decide (j<i))):=⟨Ei λ_ _ _ _ _ _ _ q=>gt_int q⟩
theorem AE:WC X (_c .GtE) (Ah λi j=>.bl (decide (j<=i))):=⟨Ei λ_ _ _ _ _ _ _ q=>ge_int q⟩
def cY:R2:=λx y H Q=>y=.non/\Q (.bl (decide (x=.non))) H
def Ou:R2:=λx y H Q=>y=.non/\Q (.bl (!decide (x=.non))) H
theorem E2:WC X (_c .Is) cY:=⟨by
 intro B s Y H x y v u Q I d f h;let(rfl,q):=h;ext f;erw[is_none_gen (Yv I q ?_)];ext x<;>first
  | (ext d;rfl)
  | (let(t,rfl):=d;rfl)⟩
theorem Az:WC X (_c .IsNot) Ou:=⟨by
 intro B s Y H x y v u Q I d f h;let(rfl,q):=h;ext f;erw[isnot_none_gen (Yv I q ?_)];ext x<;>first
  | (ext d;rfl)
  | (let(t,rfl):=d;rfl)⟩
theorem GM:WC X (_c .In) (Ea X.K _x):=⟨Xa⟩
theorem HA:WC X (_c .NotIn) (Ea X.K _t):=⟨hJ⟩
theorem Yg:BN X (Bw X.K):=⟨Ls⟩
theorem Zq:BN X (Tx X.K):=⟨KO⟩
theorem Fg:BN X C5:=⟨NR⟩
theorem Ce:FZ X (CS X.K):=⟨NN⟩
def NH:V->Option Int->Option Int->Hp->VK->Prop:=λx lo d H Q=>∃z,x=.str z/\z.9<=_z/\Q (.str (Txt.slice z lo d)) H
theorem Ej:FZ X NH:=⟨by
 intro B s Y H x v l m lo f k Q I j d g i h;let(z,rfl,f,q):=h;let(t,rfl):=j;let(l,rfl,rfl):=HR g;let(u,rfl,rfl):=HR i;erw["str", _,F.slot_str_getitem.lookup,typeIs_str _ _ _,?_];erw[wpAny_getItem_str_slice (l:=l) (u:=u) (st:=_n) d rfl (post_val_or_str (xX (Txt.slice_le z _ _) f,λd k=>?_))]
 rwa[.str _,H,I.tok _,(d,rfl),q]⟩
inductive Aj(K:uFg)(L:aG)(H:Hp)(Q:VK):Prop
 |mk(p ys)(_:L=[.ref p])(_:(ZG K H p ys\/ZR K H p ys))(_:Q (.int ys.9) H)
theorem Yu:QC X (.builtin "len") (Aj X.K):=.imp ⟨bO⟩ λ_ _ _ ⟨p,y,a,b,k⟩=>(p,y,a,b,k)
def RS:List V->Hp->VK->Prop:=λL H Q=>∃z,L=[.str z]/\z.9<=_z/\Q (.int z.9) H
theorem FU:QC X (.builtin "len") RS:=⟨by
 intro B s Y H L d Q I r h;let(z,rfl,d,q):=h;let(u,rfl,t,rfl):=Up r;let d:=Be
 rwa[len_str () (.int z.9,H,I.tok _,(_,rfl),q)]⟩
def dM:List V->Hp->VK->Prop:=λL H Q=>∃i j,L=[.int i,.int j]/\Q (.int (if j > i then j else i)) H
def PX:List V->Hp->VK->Prop:=λL H Q=>∃i j,L=[.int i,.int j]/\Q (.int (if j<i then j else i)) H
theorem EG(d:X.calm=_t):QC X (.builtin "max") dM:=⟨by
 intro B s Y H L f Q I r h;let(i,j,rfl,q):=h;let(u,g,rfl,(t,rfl),(f,rfl)):=DA r;erw[max_two_ints (I.ok.hd d) λd f k=>(_,H,I.kept k,?_,q)]
 by_cases d:j > i
 .rw[_j d,_j d];rwa[_,rfl]
 .rw[_i d,_i d];rwa[_,rfl]⟩
theorem SA(d:X.calm=_t):QC X (.builtin "min") PX:=⟨by
 intro B s Y H L f Q I r h;let(i,j,rfl,q):=h;let(u,g,rfl,(t,rfl),(f,rfl)):=DA r;erw[min_two_ints (I.ok.hd d) λd f k=>(_,H,I.kept k,?_,q)]
 by_cases d:j<i
 .rw[_j d,_j d];rwa[_,rfl]
 .rw[_i d,_i d];rwa[_,rfl]⟩
def OT(K:uFg):List V->Hp->VK->Prop:=λL H Q=>∃(a:jP)(d:List Bool),L=[.ref a]/\ZG K H a (d.map V.bl)/\Q (.bl (d.all id)) H
theorem eY(j:X.calm=_t):QC X (.builtin "all") (OT X.K):=⟨by
 intro B s Y H L d Q I r h;let(a,f,rfl,g,q):=h;let(u,rfl,m):=Up r;ext m;let(d,r,p,_):=I.list g;let g:a<s.8:=by let(o,n,e,_):=p;rwa[xP e]
 erw[call_all_walk (wpAny_pyIter_list p.isList ?_)];erw[s.8,_,_,_,_,_,λi=>f.getD i _t,rfl,Walks.list (A:=X.A.in1) (I.ok.hd j) _ a (yG g) d.4,((_,xI _ rfl,rfl,rfl),p.isList.push _),?_,λw B y=>?_]
 .intro i v l k j g z;let g:d.toArray[i]?=_s v:=g;let k:d[i]?=_s v:=by simpa using g
  let j:f.9=d.9:=by have:=r.9;simpa using this
  let g:i<d.9:=(xH.mp k).1;let l:(f.map V.bl)[i]?=_s (V.bl (f.getD i _t)):=by grind
  let(u,n,m):=r.get l;rw[k] at n;ext n;ext m;rwa[wpAny_truthy_bool z]
 .let j:d.toArray.5=f.9:=by have:=r.9;simp at this |-;lia
  let e:(List.range d.toArray.5).all (λi=>f.getD i _t)=f.all id:=by
   rw[j,zF,zU,zU];constructor
   .intro h b l;let(i,g,e):=List.mem_iff_getElem.mp l;have:=h i (zN.mpr g);rw[xT,xC g,e] at this;rwa[this]
   .intro h i g;let g:=zN.mp g;rw[xT,xC g];rwa[h _ (zH g)]
  erw[.bl (f.all id),H,I.kept (h':=w) (t':=B) (λb o d=>y b o ?_ (xB _ d)),by rw[e];rfl,q];intro z;have:b=s.8:=by simpa using z
  rwa[_a (xP d) (by rw[this];rwa[zS _])]⟩
def Su(K:uFg):List V->Hp->VK->Prop:=λL H Q=>∃(a:jP)(d:List Int),L=[.ref a]/\ZG K H a (d.map V.int)/\(∀n∈d,-1000000000<=n/\n<=1000000000)/\d.9<=1000000/\Q (.int d.sum) H
theorem B4(C:X.calm=_t):QC X (.builtin "sum") (Su X.K):=⟨by
 intro B s Y H L d Q I r h;obtain⟨a,d,rfl,i,g,f,q⟩:=h;obtain⟨u,rfl,y⟩:=Up r;cases y;obtain⟨f,z,p,_⟩:=I.list i;have v:a<s.8:=by obtain⟨o,n,e,_⟩:=p;exact xP e
 have i:d.9=f.9:=by have:=z.9;simpa using this
 have m:∀k,k<=d.9->preSum (λi=>d.getD i 0) k=(d.take k).sum:=by
  intro k
  induction k with
  | zero=>intro _;simp[preSum]
  | succ k w =>
   intro r;have j:k<d.9:=r;rw[preSum,w (yS j),xQ,List.sum_append,xT,xC j];simp
 have k:∀l:List Int,(∀n∈l,-1000000000<=n/\n<=1000000000)->-1000000000 * (l.9:Int)<=l.sum/\l.sum<=1000000000 * (l.9:Int):=by
  intro l
  induction l with
  | nil=>intro _;simp
  | cons x l w =>
   intro h;have j:=h x xZ;have j:=w λn l=>h n (xM _ l);rw[wL,yH];lia
 refine call_sum_walk (wpAny_pyIter_list p.isList ?_);refine⟨s.8,_,_,_,_,_,λi=>d.getD i 0,rfl,Walks.list (A:=X.A.in1) (I.ok.hd C) _ a (yG v) f.4,⟨⟨_,xI _ rfl,rfl,rfl⟩,p.isList.push _⟩,?_,?_,?_,λw C B r=>?_⟩
 .intro b g;show b<(s.heap.push _).7;rw[yY];rcases xD.mp g with rfl | g
  .exact mh _
  .grind
 .intro i v j;have j:f.toArray[i]?=_s v:=j;have h:f[i]?=_s v:=by simpa using j
  have j:i<f.9:=(xH.mp h).1;have g:(d.map V.int)[i]?=_s (V.int (d.getD i 0)):=by grind
  obtain⟨u,j,y⟩:=z.get g;rw[h] at j;cases j;exact y
 .intro j h;have h:j<f.toArray.5:=h;rw[xU] at h;have h:j<d.9:=by lia
  refine⟨?_,?_⟩
  .show InLong (d.getD j 0);rw[xT,xC h];have:=g _ (zH h);show -(2^63)<=d[j]/\d[j]<2^63;lia
  .rw[m (j+1) h];have:=k (d.take (j+1)) λn l=>g n (List.mem_of_mem_take l);have g:(d.take (j+1)).9<=1000000:=by rw[xY];lia
   show -(2^63)<=_/\_<2^63;lia
 .have e:preSum (λi=>d.getD i 0) f.toArray.5=d.sum:=by grind
  refine⟨.int d.sum,H,I.kept (h':=w) (t':=C) (λb o d=>r b o ?_ (xB _ d)),⟨B,by rw[e]⟩,q⟩;intro z;have:b=s.8:=by simpa using z
  exact _a (xP d) (by rw[this];exact zS _)⟩
def LU(K:uFg):List V->Hp->VK->Prop:=λL H Q=>∃x n t b,L=[x,.ty n]/\WE K H x t/\kitOne K t (.type n)=_s b/\Q (.bl b) H
theorem Jr:QC X (.builtin "isinstance") (LU X.K):=⟨Kl⟩
inductive Tr(K:uFg)(L:aG)(H:Hp)(Q:VK):Prop
 |mk(p ys)(_:L=[.ref p])(_:(ZG K H p ys\/ZR K H p ys))(_:∀l,H l=_n->Q (.ref l) (upd H l (.lst ys)))
theorem A0:QC X (.type "list") (Tr X.K):=.imp ⟨Ks⟩ λ_ _ _ ⟨p,y,a,b,k⟩=>(p,y,a,b,k)
def NA(K:uFg):V->List V->Hp->VK->Prop:=λx L H Q=>∃d a f,x=.str d/\L=[.ref a]/\ZG K H a (f.map V.str)/\(f.map (·.length)).sum+f.9 * d.9<=16777216/\Q (.str (Txt.join d f)) H
theorem Re:QM X "str.join" (NA X.K):=⟨by
 intro B s Y H x L v d Q I i g h;let(j,a,k,rfl,rfl,d,f,q):=h;let(t,rfl):=i;let(u,rfl,h):=Up g;ext h;let(g,r,p,_):=I.list d
 rwa[join_list p.isList (gM r) f λd k=>(.str _,H,I.tok _,(d,rfl),q)]⟩
theorem Y1:QM X "list.append" VS:=⟨by
 intro B s Y H x i v f Q I g d h;let(l,L,y,rfl,rfl,f,i,q):=h;ext g;let(u,rfl,g):=d.one;let(z,d,n,r,h,e):=I.ou f;erw[call_meets aE (_,e,rfl) F.entry_list_append (F.args_list_append_2 _ _) (PySem.list_append l d.toArray n u (by rw[xU];lia)) (e,?_)];erw[.non,_,I.lset (its':=d ++ [u]) f e (by simp) (r.append (.cons g .nil)) ?_,rfl,q];rw[xG,wB]
 lia⟩
theorem P0:QM X "list.pop" AG:=⟨by
 intro B s Y H x i v g Q I d f h;let(l,L,i,k,y,rfl,rfl,g,j,m,o,v,q):=h;ext d;let(u,rfl,d):=f.one;let(t,rfl):=d;let(z,d,n,r,h,e):=I.ou g;let(w,s,f):=r.get v;refine call_meets F.slot_list_pop (_,e,rfl) F.entry_list_pop (F.args_list_pop_2 _ _)
  (MeetsSeq.list_pop_at l d.toArray n i t k w (fitsIndex_both j m) (by rw[xU,<- h];rwa[o]) (by rw[<- wT];rwa[s]) (by rw[xU];lia)) (e,?_)
 erw[y,_,I.lset (its':=d.eraseIdx k) g e ?_ (r.eraseIdx k) ?_,f,q]
 .grind
 .have:=Lf L k
  lia⟩
end
def Bl{lo:Int}{n:Nat}(m:Nat)(e:n=m)(Pv:Nat->St->Hp->Prop)(c:Pv 0 Y H)(hs:∀i Y H,i<m->Pv i Y H->g (.int (lo+i)) Y H λa b=>tb {D with nx:=Pv (i+1),ct:=Pv (i+1),bk:=D.nx } a b)(d:∀ Y H,Pv m Y H->D.nx Y H):Bv (JD lo n) g tb D Y H:=by
 subst e;rwa[XH Pv c hs d]
theorem Ws{K:uFg}{a:jP}(L:aG)(Pv:Nat->St->Hp->Prop)(d:Pv 0 Y H)(f:∀i Y H,i<=L.9->Pv i Y H->ZG K H a L)(hs:∀i x Y H,L[i]?=_s x->Pv i Y H->g x Y H λb c=>tb {D with nx:=Pv (i+1),ct:=Pv (i+1),bk:=D.nx } b c)(e:∀ Y H,Pv L.length Y H->D.nx Y H):Bv (JJ K a) g tb D Y H:=X8 Pv d f hs e
section
variable{X:Cx}{tg elt iter:Expr}{ifs:List Expr}{scope:Scope}{pos:Pos}{locs:jJ}{fr:List (Str×Nat)}{g:TG}{tt:Tw}{te:TE}
theorem Jz:EK X [] (λ_ H Q=>Q _t H):=⟨λ_ _ _ H _ I h=>wpAny_tests_nil (H,I,h)⟩
theorem Jb(h:QT X c t):EK X [c] t:=⟨iE h.h⟩
structure Lx (X:Cx) (scope:Scope) (N':jJ) (tg:Expr) (ifs:List Expr) (elt:Expr) (g:TG) (tt:Tw) (te:TE):Prop where
 h:∀(cl:List (Str×jP))(C:jP)(s0:jN)(H0:Hp)(ex:jM)(pn:List (jP×Obj)),QG (ccx X scope cl C N' s0 H0 ex pn) tg g/\EK (ccx X scope cl C N' s0 H0 ex pn) ifs tt/\QE (ccx X scope cl C N' s0 H0 ex pn) elt te
theorem Vg{a:TI}(S:WO X scope locs fr)(F:WH X scope fr)(b:X.calm=_t)(c:QI X tg iter a)(d:Lx X scope (inN locs fr) tg ifs elt g tt te)(hs:autoParam (∀x,foldedSetIterable iter X.env x=pure x) y5z):QE X (.ListComp elt [(tg,iter,ifs,0)] scope pos) (Ee locs.length fr a g tt te) :=
 ⟨dU S F b c.h (λf C j e h i=>let ⟨a,b,c⟩:=d.h f C j e h i;(a.h,b.h,c.h)) hs⟩
theorem DS{c:TI}{i:Nat}{x:Str}{a b:Pos}(S:WO X scope locs fr)(F:WH X scope fr)(h:X.calm=_t)(j:QI X tg iter c)(d:Lx X scope (inN locs fr) tg ifs elt g tt te)(l:X.N.Nodup)(n:Nm X.env.scope x .local)(f:swapsWith (.ListComp elt [(tg,iter,ifs,0)] scope pos) (_s (.Name x a)) b.line X.env=pure _t)(e:autoParam (X.N[i]?=_s x) y1z)(hs:autoParam (∀x,foldedSetIterable iter X.env x=pure x) y5z):QS X (.Assign [.Name x a] (.ListComp elt [(tg,iter,ifs,0)] scope pos) b) (J7 (Ee locs.length fr c g tt te) (Wl i)) :=
 ⟨PR S F h j.h (λj C o h k m=>let ⟨a,b,c⟩:=d.h j C o h k m;(a.h,b.h,c.h)) l e n.1 f hs⟩
end
section
variable{X:Cx}{scope:Scope}{cl:List (Str×jP)}{C:jP}{N':jJ}{s0:jN}{H0:Hp}{ex:jM}{pn:List (jP×Obj)}{x:Str}{pos:Pos}
theorem Yj(i:Nat)(n:autoParam (Nm scope x .local) y4z)(a:autoParam (N'[i]?=_s x) y1z):QE (ccx X scope cl C N' s0 H0 ex pn) (.Name x pos) (YL i):=⟨pvL i a n.1 n.2.1 n.2.2.1⟩
theorem Wx(i:Nat)(n:autoParam (Nm scope x .free) y4z)(a:autoParam (N'[i]?=_s x) y1z):QE (ccx X scope cl C N' s0 H0 ex pn) (.Name x pos) (YL i):=⟨pvF i a n.1 n.2.1 n.2.2.1⟩
theorem Y6(i:Nat)(a:N'.Nodup)(n:autoParam (Nm scope x .local) y4z)(b:autoParam (N'[i]?=_s x) y1z):QG (ccx X scope cl C N' s0 H0 ex pn) (.Name x pos) (Wl i):=⟨pgL i a b n.1⟩
end
section
variable{P:jQ}{w:jR}{K:uFg}{mg:jI}{Z:Heap}
theorem YC.fnQ{x:Str}{st:Stmt}{N a:jJ}{k:Nat}{sp:Sp}(h:YC K mg x st)(S:ZP N a (Zm st))(d:∀ (kV doc pm:jO) (an:Option jP) (cdv ct:jO) (us:jK),us.9=a.9->bindArgs (fnOf x x (Vc st) (Yw st) (Zm st) .none kV doc pm an cdv ct) (us,[])=pure (a.zip us))(b:∀vs H Q E,sp vs H Q E->vs.9=a.9)(c:∀ (f:jP) (cdv:jO) (A:jS) (outer:List Env) (s:jN) (H:Hp) (vs:aG) (Q:VK) (E:XK),ZO k (A.deeper (envOfC x (Zm st) s.heap.objs.size f cdv))->sp vs H Q E -> ∃t,WZ (Y9 VG P w K mg Z N x (Zm st) f cdv A outer s H E).oG (Yw st) t/\t {nx:=λ_ J=>Q .non J,rt:=Q } (start N vs) H):Fn P w K mg Z x a (k+1) sp :=
 h.fn S d b λf cdv A outer s H vs Q E d q=>let ⟨t,a,b⟩:=c f cdv A outer s H vs Q E d q;(t,a.h,b)
theorem Dv(h:k<=60):ZO k (({}:jS).deeper e) :=
 ZO.deeper (ZO.mono (k:=61) (S,aA,aA) ()) e
theorem YC.fq{x:Str}{st:Stmt}{b:jJ}{k:Nat}{sp:Sp}(h:YC K mg x st)(N:jJ)(a:∀{f:jP}{cdv:jO}{A:jS}{outer:List Env}{s:jN}(H:Hp) (vs:aG) (Q:VK) (E:XK),ZO k (A.deeper (envOfC x (Zm st) s.heap.objs.size f cdv))->sp vs H Q E->vs.9=b.9/\∃t,WZ (Y9 VG P w K mg Z N x (Zm st) f cdv A outer s H E).oG (Yw st) t/\t {nx:=λ_ J=>Q .non J,rt:=Q } (start N vs) H)(S:ZP N b (Zm st):=by rwa[fsc])(d:autoParam (k<=60) y3z)(c:∀ (kV doc pm:jO) (an:Option jP) (cdv ct:jO) (us:jK),us.9=b.9->bindArgs (fnOf x x (Vc st) (Yw st) (Zm st) .none kV doc pm an cdv ct) (us,[])=pure (b.zip us):=by exact λ_ _ _ _ _ _=>by first | rwa[al1 λ_=>rfl]| rwa[al2 λ_ _=>rfl]| rwa[al3 λ_ _ _=>rfl]| rwa[al4 λ_ _ _ _=>rfl]| rwa[al5 λ_ _ _ _ _=>rfl]| rwa[al6 λ_ _ _ _ _ _=>rfl]| rwa[al7 λ_ _ _ _ _ _ _=>rfl]| rwa[al8 λ_ _ _ _ _ _ _ _=>rfl]):Fn P w K mg Z x b (k+1) sp :=
 h.fnQ S c (λvs H Q E h=>(a (f:=0) (cdv:=.none) (A:={}) (outer:=[]) (s:={}) H vs Q E (Dv d) h).1) λ_ _ _ _ _ H vs Q E b q=>(a H vs Q E b q).2
end
theorem Jy(R:St->Hp->Prop)(d:∀ a J,R a J->u D a J)(c:∀b:YF,(∀ a J,R a J->b.nx a J)->(∀v J,D.rt v J->b.rt v J)->(∀ a J,D.bk a J->b.bk a J)->(∀ a J,D.ct a J->b.ct a J)->t b Y H):Ug t u D Y H :=
 c {D with nx:=u D } d (λ_ _ h=>h) (λ_ _ h=>h) (λ_ _ h=>h)
theorem opq{t:TS}{D:YF}{Y:St}{H:Hp}(h:∀b:YF,(∀ a J,D.nx a J->b.nx a J)->(∀v J,D.rt v J->b.rt v J)->(∀ a J,D.bk a J->b.bk a J)->(∀ a J,D.ct a J->b.ct a J)->t b Y H):t D Y H:=h D (λ_ _ h=>h) (λ_ _ h=>h) (λ_ _ h=>h) (λ_ _ h=>h)
def Nu:(([a]:List Nat)<[b])↔a<b:=by
 constructor
 .intro h;rcases List.cons_lt_cons_iff.mp h with z | ⟨_,z⟩
  .rwa[z]
  .rwa[_a z (by simp)]
 .intro h;rwa[List.cons_lt_cons_iff.mpr (.inl h)]
theorem Yb(h:Q (Y.set i (_s v)) H):Wl i v Y H Q:=h
theorem Th.okQ{P:jQ}{w:jR}{K:uFg}{mg:jI}{Z:Heap}{x qual:Str}{st:Stmt}{f:jP}{d:FuncData}{N b:jJ}{k:Nat}{sp:Sp}(F:Th K x qual st f d)(S:ZP N b (Zm st))(a:∀vs H Q E,sp vs H Q E->vs.9=b.9)(c:∀cdv A outer s H vs Q E,ZO k (A.deeper (envOfC qual (Zm st) s.heap.objs.size f cdv))->sp vs H Q E -> ∃t,WZ (Y9 VG P w K mg Z N qual (Zm st) f cdv A outer s H E).oG (Yw st) t/\t {nx:=λ_ J=>Q .non J,rt:=Q } (start N vs) H):YG P w K mg Z VG (k+1) f d b sp :=
 F.ok S a λcdv A outer s H vs Q E d q=>let ⟨t,a,b⟩:=c cdv A outer s H vs Q E d q;(t,a.h,b)
def Da(K:uFg):Sp:=λc H Q _=>∃(a:jP)(b:List Int),c=[.ref a]/\ZG K H a (b.map V.int)/\b.9<=63/\∀J,Q (.bl _t) J
theorem walkLaw{l:PySem.W.OpenLaw}{q:jQ}{loose:jJ}{XP:(jI)->Heap->Prop}{YP:jR->Heap->Prop}{d:DefRec}{K:Params->uFg}(g:l.most=_s 63)(a:d.params.defaults=[])(e:∀w h,YP w h->(K w.params).In h)(F:∀w mg b h,(K w.params).In h->h.Ns _g mg->mg d.name=_s (.ref b)-> ∃c:FuncData,(∀s u,BindsTo s c ([u],[]) [("_law_script", u)])/\∀Z:Heap,(K w.params).In Z->Z.Ns _g mg->YG l.prog w (K w.params) mg Z VG 40 b c ["_law_script"] (Da (K w.params))) :
  PySem.W.WalkO q loose XP YP l.row.toRowW d [] (λf vs=>PySem.call f vs) :=
 L2.walk_of (n:=63) (k:=40) (x:="_law_script") (CX:=λ_=>VG) (sp:=λw=>Da (K w.params)) g aA a (S,aA,aA) e F (λ_ _ a e c _ b=>(a,e,S,b,c,λ_=>rfl)) λ_ _ _ _ _ z=>z
section
variable{X:Cx}{scope:Scope}{cl:List (Str×jP)}{C:jP}{N':jJ}{s0:jN}{H0:Hp}{ex:jM}{pn:List (jP×Obj)}{pos:Pos}{es:List Expr}{k:Nat}{t:TV}
theorem AW(n:Nat)(b:X.calm=_t)(h:BF (ccx X scope cl C N' s0 H0 ex pn) es t)(c:autoParam ((assignEach es (ccx X scope cl C N' s0 H0 ex pn).env).9=n) y1z)(a:autoParam ((assignEach es (ccx X scope cl C N' s0 H0 ex pn).env).findIdx? (·.1)=none) y1z) :
  QG (ccx X scope cl C N' s0 H0 ex pn) (.Tuple es k pos) (Jn X.K n t):=⟨L6 (X:=ccx X scope cl C N' s0 H0 ex pn) b h.h c a⟩
theorem C6:BN (ccx X scope cl C N' s0 H0 ex pn) (Bw X.K):=⟨Ls (X:=ccx X scope cl C N' s0 H0 ex pn)⟩
theorem JS:BN (ccx X scope cl C N' s0 H0 ex pn) (Tx X.K):=⟨KO (X:=ccx X scope cl C N' s0 H0 ex pn)⟩
theorem jB:QC (ccx X scope cl C N' s0 H0 ex pn) (.type "list") (Tr X.K):=.imp ⟨Ks (X:=ccx X scope cl C N' s0 H0 ex pn)⟩ λ_ _ _ ⟨p,y,a,b,k⟩=>(p,y,a,b,k)
theorem Ig:QC (ccx X scope cl C N' s0 H0 ex pn) (.builtin "isinstance") (LU X.K):=⟨Kl (X:=ccx X scope cl C N' s0 H0 ex pn)⟩
end
def Cb(a b:jO):Prop:=a=b\/∃c t u,a=.str c t/\b=.str c u
def Cb.rel(h:Cb a b)(r:ZH y a):ZH y b:=by
 rcases h with rfl | ⟨c,t,u,rfl,rfl⟩
 .rwa[r]
 .cases y with
  | str z=>let(k,e):=r;ext e;rwa[u,rfl]
  | non=>ext r
  | bl _=>ext r
  | int _=>let(_,e):=r;ext e
  | byt _=>let(_,e):=r;ext e
  | flt _=>let(_,e):=r;ext e
  | _=>ext r
structure J9 (P:jQ) (w:jR) (it l:jP) (St:Nat->Heap->Prop) (Hs:Heap->List jO->Prop):Prop where
 obj:∀k h,St k h->∃o,h.get? it=_s o/\∀v,o.data ≠ .cell v
 keep:∀k h h',St k h->(∀o,h.get? it=_s o->h'.get? it=_s o)->St k h'
 src:∀h h' its,Hs h its->(∀o,h.get? l=_s o->h'.get? l=_s o)->Hs h' its
 item:∀(A:jS)(k:Nat)(s:jN)(its:jK)(x:jO)(Q:jH)(E:jH),St k s.heap->Hs s.heap its->its[k]?=_s x ->
  (∀x' h' tk,Cb x x'->St (k+1) h'->Heap.SameBut it s.heap h'->Q x' {s with heap:=h',toks:=tk })->_w (_m P w) A (Builtin.SmallTypes.nextOf (.ref it)) Q E s
 done:∀(A:jS)(k:Nat)(s:jN)(its:jK)(Q:jH)(E:jH),A.handled=_n->St k s.heap->Hs s.heap its->its[k]?=_n ->
  (∀h' e,Heap.ExtBut it s.heap h'->(∃o,h'.get? e=_s o/\o.cls=.type "StopIteration")->E (.ref e) {s with heap:=h' })->_w (_m P w) A (Builtin.SmallTypes.nextOf (.ref it)) Q E s
theorem IF(it l:jP):J9 P w it l (λk h=>h.IsListIter it l k) (λh a=>h.IsList l a.4) where
 obj:=λk h st=>by
  let(o,e,c,d):=st;rwa[o,e,λv z=>by rw[d] at z;ext z]
 keep:=λk h c st d=>st.at d
 src:=λh c a b d=>b.at d
 item:=λA k s a x Q E st b d hQ=>wpAny_nextOf_list_item st b (by simpa using d) λc=>hQ x c s.toks (.inl S)
 done:=λA k s a Q E e st b d c=>wpAny_nextOf_list_end e st b (by simpa using d) c
def PD{it t:jP}{k:Nat}{a:jK}{x:jO}{Q:jH}(st:s.heap.IsTupleIter it t k)(g:s.heap.IsTuple t a.4)(h:a[k]?=_s x)(hQ:∀h',h'.IsTupleIter it t (k+1)->Heap.SameBut it s.heap h'->Q x {s with heap:=h' }):_w (_m P w) A (Builtin.SmallTypes.nextOf (.ref it)) Q E s:=by
 let(o,c,f,b):=id st;let(j,e,_,i,d):=id g;unfold Builtin.SmallTypes.nextOf;erw[_b (wpAny_callSpecial?_slot (name:=Str.ofString "__next__") st.typeIs F.slot_tuple_iterator_next (wpAny_call_entry F.slot_tuple_iterator_next st.typeIs F.entry_tuple_iterator_next ?_ (F.args_tuple_iterator_next_1 _)))];show _w _ _ (field (.ref it) 0 >>= _) _ _ s;erw[_b (_d c b (x:=.ref t) S ?_)];show _w _ _ (if (Value.ref t==Value.none)=_t then _ else _) _ _ s;rw[_i (show ¬((Value.ref t==Value.none)=_t) from xJ)];show _w _ _ (field (.ref it) 1 >>= _) _ _ s;erw[_b (_d c b (x:=.int k 0) S ?_)];show _w _ _ (seqItems? (.ref t) >>= _) _ _ s;erw[_b (wpAny_seqItems e d ?_)];let d:a.toArray[k]?=_s x:=by simpa using h
 simp only[yI,d];erw[_b (wpAny_setField c b (by simp) ?_)];erw[_p (_,S,_p (hQ _ ?_ (mG ..)))];erw[_,wA _ c ?_,?_,?_]
 .let(c,d,a,e):=o;subst b;rfl
 .let(c,d,a,e):=o;subst b;rwa[f]
 .let(c,d,a,e):=o;subst b;rfl
def bT{it t:jP}{k:Nat}{b:jK}{Q:jH}(h:A.handled=_n)(st:s.heap.IsTupleIter it t k)(j:s.heap.IsTuple t b.4)(l:b[k]?=_n)(i:∀h' e,Heap.ExtBut it s.heap h'->(∃o,h'.get? e=_s o/\o.cls=.type "StopIteration")->E (.ref e) {s with heap:=h' }):_w (_m P w) A (Builtin.SmallTypes.nextOf (.ref it)) Q E s:=by
 let(o,f,d,c):=id st;let(p,g,_,n,d):=id j;unfold Builtin.SmallTypes.nextOf;erw[_b (wpAny_callSpecial?_slot (name:=Str.ofString "__next__") st.typeIs F.slot_tuple_iterator_next (wpAny_call_entry F.slot_tuple_iterator_next st.typeIs F.entry_tuple_iterator_next ?_ (F.args_tuple_iterator_next_1 _)))];show _w _ _ (field (.ref it) 0 >>= _) _ _ s;erw[_b (_d f c (x:=.ref t) S ?_)];show _w _ _ (if (Value.ref t==Value.none)=_t then _ else _) _ _ s;rw[_i (show ¬((Value.ref t==Value.none)=_t) from xJ)];show _w _ _ (field (.ref it) 1 >>= _) _ _ s;erw[_b (_d f c (x:=.int k 0) S ?_)];show _w _ _ (seqItems? (.ref t) >>= _) _ _ s;erw[_b (wpAny_seqItems g d ?_)];let d:b.toArray[k]?=none:=by simpa using l
 simp only[yI,d];erw[_b (wpAny_rule (_b (wpAny_setField f c (by simp) ?_)))];show _w _ _ (newExc (.type "StopIteration") [] >>= _) _ _ _;erw[_b ?_];simp only[newExc,newTuple];erw[_b (wpAny_newObj_type ?_ (by size_fits))];erw[_b (m:=firstArgMember _ _) (wpAny_of_eq (a:=Value.none) (by first | rfl | (simp only[firstArgMember];rfl)) ?_)];erw[wpAny_newObj_type ?_ (by size_fits)];simp only[raiseNew];erw[_b (wpAny_handled ?_)]
 first | rw[show A.in1.handled=_n from h] | rw[h]
 erw[_b (_p (wpAny_throw ?_))];rwa[i _ _ (((mG ..).extBut.push _).push _) (_,xI _ S,S)]
theorem Km(it l:jP):J9 P w it l (λk h=>h.IsTupleIter it l k) (λh a=>h.IsTuple l a.4) where
 obj:=λk h st=>by
  let(o,e,c,d):=st;rwa[o,e,λv z=>by rw[d] at z;ext z]
 keep:=λk h c st d=>st.at d
 src:=λh c a b d=>let ⟨o,e,r⟩:=b;(o,d o e,r)
 item:=λA k s a x Q E st b d hQ=>PD st b d λc=>hQ x c s.toks (.inl S)
 done:=λA k s a Q E e st b d c=>bT e st b d c
structure ZA (z TI TO i1 i2 l1 l2:jP):Prop where
 a1:TI≠z
 a2:TO≠z
 a3:i1≠z
 a4:i2≠z
 a5:TI≠TO
 a6:TI≠i1
 a7:TI≠i2
 a8:TO≠i1
 a9:TO≠i2
 a10:i1≠i2
 b1:l1≠z
 b2:l1≠TO
 b3:l1≠i1
 b4:l1≠i2
 b5:l2≠z
 b6:l2≠TO
 b7:l2≠i1
 b8:l2≠i2
section
variable{P:jQ}{w:jR}{A:jS}{E:jH}{s:jN}{z TI TO i1 i2 l1 l2:jP}{S1 S2:Nat->Heap->Prop}{H1 H2:Heap->List jO->Prop}{k:Nat}{L ys:jK}{x y a b:jO}
def Sn{Q:jH}(Z:ZA z TI TO i1 i2 l1 l2)(m:J9 P w i1 l1 S1 H1)(n:J9 P w i2 l2 S2 H2)(hz:IsZip s.heap z TI TO .none)(e:IsPair s.heap TI (.ref i1) (.ref i2))(f:IsPair s.heap TO a b)(h:S1 k s.heap)(t:S2 k s.heap)(i:H1 s.heap L)(u:H2 s.heap ys)(l:L[k]?=_s x)(F:ys[k]?=_s y)(hQ:∀g j h' tk,Cb x g->Cb y j->IsZip h' z TI TO (rawInt s.8)->IsPair h' TO g j->S1 (k+1) h'->S2 (k+1) h'->IsPair h' s.heap.objs.size g j -> (∀c o,c≠z->c≠TO->c≠i1->c≠i2->s.heap.get? c=_s o->h'.get? c=_s o)->Q (.ref s.8) {s with heap:=h',toks:=tk }) :
  _w (_m P w) A (Builtin.«zip.__next__» ([.ref z],[])) (λd p=>∃v,d=.done (.ret v)/\Q v p) E s:=by
 show _w _ _ (field (.ref z) 2 >>= _) _ _ _;erw[_b (_d hz S (x:=.bool _x) S ?_)];show _w _ _ (field (.ref z) 3 >>= _) _ _ _;erw[_b (_d hz S (x:=.ref TI) S (_b (wpAny_seqItems e S ?_)))];show _w _ _ (Builtin.SmallTypes.ownedTupleIsFree (.ref z) >>= _) _ _ _;erw[_b ?_];unfold Builtin.SmallTypes.ownedTupleIsFree;erw[_b (_d hz S (x:=.none) S (_p ?_))];simp only[if_true];erw[_b (wpAny_rule (_b (_d hz S (x:=.ref TO) S (_b (wpAny_setField_rec hz (by simp) λd H r=>?_)))))];replace H:IsZip d z TI TO .ellipsis:=H;erw[_b ?_];simp only[List.zipIdx_cons,List.zipIdx_nil,List.forIn_cons,List.forIn_nil];erw[_b (_b (wpAny_onRaise ?_))];show _w _ _ (Builtin.SmallTypes.nextOf (.ref i1) >>= _) _ _ _;erw[_b (m.item _ k _ L x _ _ (m.keep _ _ _ h λo e=>r.extBut _ _ Z.a3 e) (m.src _ _ _ i λo e=>r.extBut _ _ Z.b1 e) l λg h d M G B=>_p ?_)];let d:IsPair h TO a b:=B.extBut _ _ Z.a8 (r.extBut _ _ Z.a2 f);erw[_b (wpAny_seqItems d S (_b (wpAny_updateSeq_pair d λf d C=>?_)))];replace d:IsPair f TO g b:=d;erw[_b (wpAny_letGo (_p (_b (_b (wpAny_onRaise ?_)))))];show _w _ _ (Builtin.SmallTypes.nextOf (.ref i2) >>= _) _ _ _;let i:∀c o,c≠z->c≠TO->c≠i1->s.heap.get? c=_s o->f.get? c=_s o:=λc o h l p e=>C.extBut _ _ l (B.extBut _ _ p (r.extBut _ _ h e));erw[_b (n.item _ k _ ys y _ _ (n.keep _ _ _ t λo e=>i _ _ Z.a4 Z.a9.symm Z.a10.symm e) (n.src _ _ _ u λo e=>i _ _ Z.b5 Z.b6 Z.b7 e) F λj u f N I t=>_p ?_)];let f:IsPair u TO g b:=t.extBut _ _ Z.a9 d;erw[_b (wpAny_seqItems f S (_b (wpAny_updateSeq_pair f λd F u=>?_)))];replace F:IsPair d TO g j:=F;erw[_b (wpAny_letGo (_p (_p (_b (wpAny_seqItems F S (_b (wpAny_newTuple ?_)))))))];let f:d.7=s.8:=by rw[u.1,t.1,C.1,B.1,r.1]
 let K:IsZip d z TI TO .ellipsis:=u.extBut _ _ Z.a2.symm (t.extBut _ _ Z.a4.symm (C.extBut _ _ Z.a2.symm (B.extBut _ _ Z.a3.symm H)));let J:∀c o,c≠z->c≠TO->c≠i1->c≠i2->s.heap.get? c=_s o->d.get? c=_s o:=λc o h l p B e=>u.extBut _ _ l (t.extBut _ _ B (i c o h l p e));let H:S1 (k+1) d:=m.keep _ _ _ G λo e=>u.extBut _ _ Z.a8.symm (t.extBut _ _ Z.a10 (C.extBut _ _ Z.a8.symm e));let C:S2 (k+1) d:=n.keep _ _ _ I λo e=>u.extBut _ _ Z.a9.symm e;let r:z<d.7:=xP K;show _w _ _ (Builtin.SmallTypes.ownedTupleHandOut (.ref z) (.ref d.7) >>= _) _ _ _;erw[_b ?_];unfold Builtin.SmallTypes.ownedTupleHandOut;let i:IsZip (d.push {cls:=.type "tuple", data:=.seq #[g,j] }) z TI TO .ellipsis:=xB _ K;erw[_b (wpAny_setField_rec i (by simp) λt i G=>?_)];replace i:IsZip t z TI TO (rawInt d.7):=i;erw[wpAny_setField_rec i (by simp) λt u I=>?_];replace u:IsZip t z TI TO (rawInt d.7):=u;let i:∀c o,c≠z->d.get? c=_s o->t.get? c=_s o:=λc o h e=>I.extBut _ _ h (G.extBut _ _ h (xB _ e));let K:IsPair t d.objs.size g j:=I.extBut _ _ (Nat.ne_of_gt r) (G.extBut _ _ (Nat.ne_of_gt r) (xI _ S));rw[f] at u K;erw[_p (_,S,?_)];show Q (.ref d.7) _;rw[f];rwa[hQ g j t _ M N u (i _ _ Z.a2 F) (m.keep _ _ _ H λo e=>i _ _ Z.a3 e) (n.keep _ _ _ C λo e=>i _ _ Z.a4 e) K λc o h l p B e=>i c o h (J c o h l p B e)]
def Sv{Q:PySem.Fin->jN->Prop}(K:A.handled=_n)(Z:ZA z TI TO i1 i2 l1 l2)(r:J9 P w i1 l1 S1 H1)(u:J9 P w i2 l2 S2 H2)(hz:IsZip s.heap z TI TO .none)(d:IsPair s.heap TI (.ref i1) (.ref i2))(C:IsPair s.heap TO a b)(f:S1 k s.heap)(I:S2 k s.heap)(h:H1 s.heap L)(M:H2 s.heap ys)(p:L[k]?=_n\/ys[k]?=_n)(J:∀h' e tk,(∀c o,c≠z->c≠TO->c≠i1->c≠i2->s.heap.get? c=_s o->h'.get? c=_s o)->(∃o,h'.get? e=_s o/\o.cls=.type "StopIteration")->E (.ref e) {s with heap:=h',toks:=tk }) :
  _w (_m P w) A (Builtin.«zip.__next__» ([.ref z],[])) Q E s:=by
 show _w _ _ (field (.ref z) 2 >>= _) _ _ _;erw[_b (_d hz S (x:=.bool _x) S ?_)];show _w _ _ (field (.ref z) 3 >>= _) _ _ _;erw[_b (_d hz S (x:=.ref TI) S (_b (wpAny_seqItems d S ?_)))];show _w _ _ (Builtin.SmallTypes.ownedTupleIsFree (.ref z) >>= _) _ _ _;erw[_b ?_];unfold Builtin.SmallTypes.ownedTupleIsFree;erw[_b (_d hz S (x:=.none) S (_p ?_))];simp only[if_true];erw[_b (wpAny_rule (_b (_d hz S (x:=.ref TO) S (_b (wpAny_setField_rec hz (by simp) λd t l=>?_)))))];replace t:IsZip d z TI TO .ellipsis:=t;erw[_b ?_];simp only[List.zipIdx_cons,List.zipIdx_nil,List.forIn_cons,List.forIn_nil];erw[_b (_b (wpAny_onRaise ?_))];show _w _ _ (Builtin.SmallTypes.nextOf (.ref i1) >>= _) _ _ _;let g:=r.keep _ _ _ f λo e=>l.extBut _ _ Z.a3 e;let n:=r.src _ _ _ h λo e=>l.extBut _ _ Z.b1 e;cases F:L[k]? with
 | none =>
  erw[_b (r.done _ k _ L _ _ K g n F λv e i ⟨H,d,f⟩=>?_)];let h:IsZip v z TI TO .ellipsis:=i _ _ Z.a3.symm t;let G:e≠z:=λq=>by subst q;rw[h] at d;ext d;simp at f
  rwa[wpAny_setField_rec h (by simp) λB _ m=>J B e s.toks (λc o h _ j _ q=>m.extBut _ _ h (i _ _ j (l.extBut _ _ h q))) (H,m.extBut _ _ G d,f)]
 | some x =>
  let N:ys[k]?=none:=p.elim (λq=>by rw[F] at q;ext q) id;erw[_b (r.item _ k _ L x _ _ g n F λr v n p g i=>_p ?_)];let g:IsPair v TO a b:=i.extBut _ _ Z.a8 (l.extBut _ _ Z.a2 C);erw[_b (wpAny_seqItems g S (_b (wpAny_updateSeq_pair g λB g m=>?_)))];erw[_b (wpAny_letGo (_p (_b (_b (wpAny_onRaise ?_)))))];show _w _ _ (Builtin.SmallTypes.nextOf (.ref i2) >>= _) _ _ _;let g:∀c o,c≠z->c≠TO->c≠i1->s.heap.get? c=_s o->B.get? c=_s o:=λc o h n j e=>m.extBut _ _ n (i.extBut _ _ j (l.extBut _ _ h e));erw[_b (u.done _ k _ ys _ _ K (u.keep _ _ _ I λo e=>g _ _ Z.a4 Z.a9.symm Z.a10.symm e) (u.src _ _ _ M λo e=>g _ _ Z.b5 Z.b6 Z.b7 e) N λr e l ⟨H,d,f⟩=>?_)];let p:IsZip r z TI TO .ellipsis:=l _ _ Z.a4.symm (m.extBut _ _ Z.a2.symm (i.extBut _ _ Z.a3.symm t));let G:e≠z:=λq=>by subst q;rw[p] at d;ext d;simp at f
  rwa[wpAny_setField_rec p (by simp) λm _ i=>J m e _ (λc o h n j m q=>i.extBut _ _ h (l _ _ m (g c o h n j q))) (H,i.extBut _ _ G d,f)]
end
structure DI (sq:uFg->Hp->jP->List V->Prop) (Hs:jP->Heap->List jO->Prop):Prop where
 get:∀{X:Cx}{B:List (jP×Obj)}{Y:St}{H:Hp}{s:jN}{l:jP}{L:aG},ZE X B Y H s->sq X.K H l L->∃its,ZJ L its/\Hs l s.heap its
 inj:∀{X:Cx}{B:List (jP×Obj)}{Y:St}{H:Hp}{s:jN}{l:jP}{L ys:aG},ZE X B Y H s->sq X.K H l L->sq X.K H l ys->L=ys
theorem Xz:DI ZG (λl h a=>h.IsList l a.4):=(λI h=>let ⟨a,r,p,_⟩:=I.list h;(a,r,p.isList),λI h a=>I.oq h a)
theorem R0:DI ZR (λl h a=>h.IsTuple l a.4):=(λI h=>let ⟨a,r,p,_⟩:=I.tuple h;(a,r,p),λI h a=>I.oZ h a)
def Cs(d:uFg->Hp->jP->List V->Prop)(K:uFg)(e f:jP):It :=
 (λi H=>∃L c,d K H e L/\d K H f c/\i<L.9/\i<c.9,λi H v J=>∃p a b,v=.ref p/\H p=_n/\J=upd H p (.tup [a,b])/\∀L c,d K H e L->d K H f c->L[i]?=_s a/\c[i]?=_s b,
  λi H=>∃L c,d K H e L/\d K H f c/\(L.9<=i\/c.9<=i))
def ZE.zipG{X:Cx}{B:List (jP×Obj)}{Y:St}{H:Hp}{s:jN}{z TI TO d g:jP}{h':Heap}{tk:Tok}(I:ZE X B Y H s)(j:∀b ∈ [z,TI,TO,d,g],Vt X B H b)(kp:∀c o,c≠z->c≠TO->c≠d->c≠g->s.heap.get? c=_s o->h'.get? c=_s o):ZE X B Y H {s with heap:=h',toks:=tk }:=by
 let h:∀c,c ∈ [z,TO,d,g]->c ∈ [z,TI,TO,d,g]:=λc a=>by grind
 let f:∀c o,c ∉ [z,TO,d,g]->s.heap.get? c=_s o->h'.get? c=_s o:=λc o a=>by grind
 let i:∀c u,H c=_s u->c ∉ [z,TO,d,g]:=λc u e a=>by rw[(j c (h c a)).1] at e;ext e
 refine I.step (g':=s.gens) (d':=s.drawn) (t':=tk) (ch:=[z,TO,d,g]) (λc a=>?_) (λc o _ _ a e _=>f c o a e) (λc o _ _ a e _=>(o.slots,f c o a e)) (λc o a e n=>n)
  (λc o a e=>(o,f c o a e)) (λc n e=>e) (λc o u e=>e) (λc d e=>(#[],by rw[e];simp)) (λm d=>d.at λo e=>f _ o (λa=>(j _ (h _ a)).2.1 S) e) (λc u e=>?_) I.bare
 .let(m,d,p,g,k,l):=j c (h c a);rwa[g,d,k,l]
 .rwa[(I.og c u e).oR (λd v a q=>f d v (a.elim (λz=>z▸i _ u e) (i _ _)) q) (λd q=>q) λd n q=>q]
def XR{P:jQ}{w:jR}{K:uFg}{c:List Expr}{m:Nat}{d:Pos}{l:uFg->Hp->jP->List V->Prop}{g:jP->Heap->List jO->Prop}{z TI TO r t e f:jP}{j k:Nat->Heap->Prop}(C:DI l g)(Z:ZA z TI TO r t e f)(x:J9 P w r e j (g e))(A:J9 P w t f k (g f)) :
  VJ P w K (.Tuple c m d) (Cs l K e f) [z,TI,TO,r,t] z (λi h=>IsZip h z TI TO .none/\IsPair h TI (.ref r) (.ref t)/\(∃a b,IsPair h TO a b)/\j i h/\k i h) where
 mem:=by simp
 obj:=λi h st b e=>by
  let(l,d,(a,c,f),n,p):=st;simp only[xD,xW,or_false] at e;rcases e with rfl | rfl | rfl | rfl | rfl
  .rwa[_,l,λv q=>by ext q]
  .rwa[_,d,λv q=>by ext q]
  .rwa[_,f,λv q=>by ext q]
  .rwa[x.obj _ _ n]
  .rwa[A.obj _ _ p]
 keep:=λi h G st k=>by
  let(l,d,(a,c,f),n,p):=st;rwa[k z (by simp) _ l,k TI (by simp) _ d,(a,c,k TO (by simp) _ f),x.keep _ _ _ n λo e=>k r (by simp) o e,A.keep _ _ _ p λo e=>k t (by simp) o e]
 item:=by
  intro X W hw U g i B s Y H E I hf st hg;subst W hw U;let(l,d,(a,b,f),n,p):=st;let(L,v,O,Q,j,u):=hg;let(k,r1,w1):=C.get I O;let(m,r2,w2):=C.get I Q;let gx:L[i]?=_s L[i]:=xC j;let gy:v[i]?=_s v[i]:=xC u;let(u,j,a2):=r1.get gx;let(y,u,a3):=r2.get gy;let J:s.TypeIs (.ref z) "zip" := (_,l,S);unfold pyNext;erw[_b (wpAny_attempt (wpAny_callSpecial?_slot (name:=Str.ofString "__next__") J F.slot_zip_next (wpAny_call_entry F.slot_zip_next J F.entry_zip_next (Sn Z x A l d f n p w1 w2 j u λy N G M a0 a1 z1 t1 n1 n2 p1 kp=>_p ?_) (F.args_zip_next_1 _))))];erw[_,S,?_];let hp:H s.8=none:=I.og.fresh (xE _);let j:∀c o,s.heap.get? c=_s o->c≠s.8:=λc o e=>yG (xP e);let nw:∀c ∈ [z,TI,TO,r,t],c≠s.8:=λc g=>by
   simp only[xD,xW,or_false] at g;rcases g with rfl | rfl | rfl | rfl | rfl
   .rwa[j _ _ l]
   .rwa[j _ _ d]
   .rwa[j _ _ f]
   .let(o,e,_):=x.obj _ _ n;rwa[j _ _ e]
   .let(o,e,_):=A.obj _ _ p;rwa[j _ _ e]
  let j:∀c ∈ [z,TI,TO,r,t],Vt X B (upd H s.heap.objs.size (.tup [L[i],v[i]])) c:=λc g=>by
   let(t,R):=hf c g;rwa[by rw[Zd (nw c g)];rwa[t],R]
  let r:ZE X B Y (upd H s.heap.objs.size (.tup [L[i],v[i]])) {s with heap:=s.heap.push {cls:=.type "tuple", data:=.seq #[y,N] } }:=I.laid (t':=s.toks) (λb u e=>xB _ e) (xE _) (aB S,[y,N],.cons (a0.rel a2) (.cons (a1.rel a3) .nil),(_,xI _ S,S,_,S));let u:=r.zipG (h':=G) (tk:=M) j λc o r N c3 c4 e=>by
   by_cases y:c=s.8
   .subst y;rw[xI _ S] at e;ext e;rwa[p1]
   .rwa[kp c o r N c3 c4 (by (rw[Heap.get?_push_ne _ _ _ y] at e;assumption))]
  erw[wpAny_letOwnedTupleGo_zip (s:={s with heap:=G,toks:=M }) z1 λy z2 r=>?_];let(t,R,y,N,f4,f5):=j z (by simp);let y:=u.turned (s:={s with heap:=G,toks:=M }) (it:=z) (t':=M) (λc o g e=>(r.2 c g).trans e) t R N f4 f5;erw[.ref s.8,_,y,S,(s.8,L[i],v[i],S,hp,S,λy N t u=>?_),(z2,(r.2 _ Z.a1).trans (kp TI _ Z.a1 Z.a5 Z.a6 Z.a7 d),(_,_,(r.2 _ Z.a2).trans t1),x.keep _ _ _ n1 λo e=>(r.2 _ Z.a3).trans e,A.keep _ _ _ n2 λo e=>(r.2 _ Z.a4).trans e),λc g=>(j c g).1];rw[C.inj I t O,C.inj I u Q];rwa[gx,gy]
 done:=by
  intro X W hw U g i B s Y H E I hf st hg;subst W hw U;let(l,d,(a,b,f),n,p):=st;let(L,v,O,Q,j):=hg;let(k,r1,w1):=C.get I O;let(m,r2,w2):=C.get I Q;let J:s.TypeIs (.ref z) "zip" := (_,l,S);let c:k[i]?=_n\/m[i]?=none:=by
   let k:=r1.9;let r:=r2.9;rcases j with q | q
   .grind
   .grind
  unfold pyNext;erw[_b (wpAny_attempt (wpAny_callSpecial?_slot (name:=Str.ofString "__next__") J F.slot_zip_next (wpAny_call_entry F.slot_zip_next J F.entry_zip_next (Sv (I.ok.hd g) Z x A l d f n p w1 w2 c λG e M kp ⟨o,d,c⟩=>?_) (F.args_zip_next_1 _))))];erw[_b (wpAny_isInstance (T:="StopIteration") (b:=_t) (o,d,c) isSubtype_stop (_p (S,I.zipG hf kp)))]
 self:=λA i s Q E st h=>wpAny_pyIter_zip st.1 h
abbrev tzA(h:Heap)(t1:jP):Heap:=h.push {cls:=.type "tuple_iterator", data:=.fields #[.ref t1,.int 0 0] }
abbrev tzB(h:Heap)(t1 t2:jP):Heap:=(tzA h t1).push {cls:=.type "tuple_iterator", data:=.fields #[.ref t2,.int 0 0] }
abbrev tzC(h:Heap)(t1 t2:jP):Heap:=(tzB h t1 t2).push {cls:=.type "tuple", data:=.seq #[.ref h.7,.ref (tzA h t1).7] }
abbrev tzD(h:Heap)(t1 t2:jP):Heap:=(tzC h t1 t2).push {cls:=.type "tuple", data:=.seq #[.none,.none] }
abbrev tzE(h:Heap)(t1 t2:jP):Heap:=(tzD h t1 t2).push {cls:=.type "zip", data:=.fields #[.none,.bool _x,.bool _x,.ref (tzB h t1 t2).7,.ref (tzC h t1 t2).7] }
theorem Oh(a b:jP)(L ys:Array jO):Meets (Builtin.«zip.__new__» ([.type "zip", .ref a,.ref b],[])) (λ_ R s=>s.heap.IsTuple a L/\s.heap.IsTuple b ys/\R (.ok (.ret (.ref (tzD s.heap a b).7))) {s with heap:=tzE s.heap a b }) :=
 .of_wp λc w A R s h=>by
  let(j,g,d,k,os):=s;let(e,i,h):=h;let c:=sub_zip;let c:Heap.IsTuple (Shared.heap (j,g,d,k,os)) a L:=e;let f:Heap.IsTuple (Shared.heap (tzA j a,g,d,k,os)) b ys:=let ⟨o,e,r⟩:=i;(o,xB _ e,r)
  wp_walk using wpAny_pyIter_tuple c,wpAny_pyIter_tuple f
  rwa[_,S,h]
section
variable{P:jQ}{w:jR}{A:jS}{E:jH}{s:jN}
def Xb{a b:jP}{L ys:Array jO}{Q:jH}(d:s.heap.IsTuple a L)(e:s.heap.IsTuple b ys)(h:∀h',IsZip h' (s.8+4) (s.8+2) (s.8+3) .none->IsPair h' (s.8+2) (.ref s.8) (.ref (s.8+1))-> IsPair h' (s.8+3) .none .none->h'.IsTupleIter s.heap.objs.size a 0->h'.IsTupleIter (s.8+1) b 0 -> (∀c o,s.heap.get? c=_s o->h'.get? c=_s o)->Q (.ref (s.8+4)) {s with heap:=h' }):_w (_m P w) A (call (.type "zip") [.ref a,.ref b]) Q E s:=by
 erw[callType_new F.called_zip aA (F.typeCall_zip_2 _ _) (F.newCall_zip_2 _ _) (λf=>F.args_object_init_3 f _ _) F.entry_zip_new (Oh a b L ys) (d,e,?_)];let d:(tzA s.heap a).7=s.8+1:=yY ..;let e:(tzB s.heap a b).7=s.8+2:=by rw[yY,d]
 let f:(tzC s.heap a b).7=s.8+3:=by rw[yY,e]
 let i:(tzD s.heap a b).7=s.8+4:=by rw[yY,f]
 let g:(tzE s.heap a b).get? (tzD s.heap a b).7=_s _:=xI _ S;let l:(tzE s.heap a b).get? (tzC s.heap a b).7=_s _:=xB _ (xI _ S);let k:(tzE s.heap a b).get? (tzB s.heap a b).7=_s _:=xB _ (xB _ (xI _ S));let j:(tzE s.heap a b).get? (tzA s.heap a).7=_s _:=xB _ (xB _ (xB _ (xI _ S)));let m:(tzE s.heap a b).get? s.8=_s _:=xB _ (xB _ (xB _ (xB _ (xI _ S))));show _/\_;rw[e,f,i] at g;rw[d,e] at k;rw[f] at l;rw[d] at j;rw[i];rwa[(_,g,S),h _ g k l (_,m,S,S) (_,j,S,S) λc o x=>xB _ (xB _ (xB _ (xB _ (xB _ x))))]
end
def Os(a:l1<n)(b:l2<n):ZA (n+4) (n+2) (n+3) n (n+1) l1 l2:=by
 let a : @LT.lt Nat _ l1 n:=a;let b : @LT.lt Nat _ l2 n:=b;let c:∀(a b:Nat),(a<b\/b<a)->¬(@Eq Nat a b):=λa b h q=>by lia
 exact(c _ _ (),c _ _ (),c _ _ (),c _ _ (),c _ _ (),c _ _ (),c _ _ (),c _ _ (),c _ _ (),c _ _ (),
  c _ _ (),c _ _ (),c _ _ (),c _ _ (),c _ _ (),c _ _ (),c _ _ (),c _ _ ())
inductive Cu(K:uFg)(R:It->Hp->Prop)(vs:aG)(a:Hp):Prop
 |mk(l1 l2)(_:vs=[.ref l1,.ref l2])(_:((∃L b,ZG K a l1 L/\ZG K a l2 b/\R (Cs ZG K l1 l2) a)\/(∃L b,ZR K a l1 L/\ZR K a l2 b/\R (Cs ZR K l1 l2) a)))
def bI(K:uFg)(a:TA):TI:=λY H R=>a Y H λb a=>Cu K R b a
theorem QD{X:Cx}{a b:Expr}{f:TA}{p pos:Pos}{g:List Expr}{m:Nat}{i:Pos}(j:X.mg "zip"=_n)(d:QA X [a,b] f)(e:autoParam (nB X "zip" .globalImplicit) y2z)(hs:autoParam (_e [a,b] X.env=[(Prod.mk (_x) (eval a X.env)),(Prod.mk (_x) (eval b X.env))]) y1z)(c:autoParam (_e [b] X.env=[(Prod.mk (_x) (eval b X.env))]) y1z) :
  QI X (.Tuple g m i) (.Call (.Name "zip" p) [a,b] [] pos) (bI X.K f):=⟨by
 have e:=(od e).1;have d:=d.h;intro B s Y H R I h;refine Call_ (Uo I e j boot_zip (callWith_type1 (thn (d pos B s Y H _ I h) λe d ⟨f,z,j,A,v⟩=>?_) (by rw[hs,c]) (by rw[c];rfl)));obtain⟨k,l,e,v⟩:=v;subst e;obtain⟨h,n,rfl,c,f⟩:=DA A;cases c;cases f;have s:∀{y:uFg->Hp->jP->List V->Prop}{n:jP->Heap->List jO->Prop}{t u:Nat->Heap->Prop}{f:Heap},DI y n->k<d.8->l<d.8->J9 X.prog X.w d.heap.objs.size k t (n k)->J9 X.prog X.w (d.8+1) l u (n l)->
   IsZip f (d.8+4) (d.8+2) (d.8+3) .none->IsPair f (d.8+2) (.ref d.8) (.ref (d.8+1))->IsPair f (d.8+3) .none .none->t 0 f->u 0 f->(∀c o,d.heap.get? c=_s o->f.get? c=_s o)->R (Cs y X.K k l) z ->
   _w (_m X.prog X.w) X.A (pyIter (.ref (d.8+4))) (Dp X B Y (.Tuple g m i) R) X.xe {d with heap:=f }:=by
  intro y n t u f E m r B C i x w g h kp q;refine wpAny_pyIter_zip i ?_;refine⟨d.8+4,_,_,_,z,rfl,j.kept (h':=f) (t':=d.toks) kp,XR E (Os m r) B C,⟨i,x,⟨_,_,w⟩,g,h⟩,λc t=>?_,q⟩;have n:d.8<=c:=by
   simp only[xD,xW,or_false] at t;have:(d.8:Nat)<=(c:Nat):=by rcases t with rfl | rfl | rfl | rfl | rfl<;>lia
   exact this
  exact j.iw n (j.og.fresh n)
 rcases v with⟨L,t,y,z,q⟩ | ⟨L,t,y,z,q⟩
 .obtain⟨c,A,u,_⟩:=j.list y;obtain⟨t,B,v,_⟩:=j.list z;have m:k<d.8:=by obtain⟨o,n,e,_⟩:=u;exact xP e
  have r:l<d.8:=by obtain⟨o,n,e,_⟩:=v;exact xP e
  exact call_zip_2 u.isList v.isList λf i x w g h _ kp=>s Xz m r (IF _ _) (IF _ _) i x w g h kp q
 .obtain⟨c,A,u,_⟩:=j.tuple y;obtain⟨t,B,v,_⟩:=j.tuple z;have m:k<d.8:=by obtain⟨o,e,_⟩:=u;exact xP e
  have r:l<d.8:=by obtain⟨o,e,_⟩:=v;exact xP e
  exact Xb u v λf i x w g h kp=>s R0 m r (Km _ _) (Km _ _) i x w g h kp q⟩
def M5{a:uFg->Hp->jP->List V->Prop}{K:uFg}{c d:jP}{g:TG}{e:TS}{D:YF}{Y:St}{H:Hp}(L ys:aG)(h:L.9=ys.9)(Pv:Nat->St->Hp->Prop)(h:Pv 0 Y H)(k:∀i Y H,i<=L.9->Pv i Y H->a K H c L/\a K H d ys)(hs:∀i x y p Y H,L[i]?=_s x->ys[i]?=_s y->Pv i Y H->H p=_n->g (.ref p) Y (upd H p (.tup [x,y])) λb f=>e {D with nx:=Pv (i+1),ct:=Pv (i+1),bk:=D.nx } b f)(j:∀ Y H,Pv L.length Y H->D.nx Y H):Bv (Cs a K c d) g e D Y H:=by
 erw[λi m Y H=>m=L.9 - i/\i<=L.9/\Pv i Y H,(L.9,by simp,yJ _,h),?_];rintro i m Y H ⟨rfl,a,p⟩;let(c,d):=k i Y H a p
 by_cases a:i<L.9
 .erw[.inr ((L,ys,c,d,a,()),Pv (i+1),λe J b=>(L.9 - (i+1),(),S,a,b),λv J y=>?_)];let(l,a,b,S,h,S,k):=y;let(e,f):=k L ys c d;rwa[hs i a b l Y H e f p h]
 .let e:i=L.9:=by lia
  subst e;rwa[.inl ((L,ys,c,d,.inl (xE _)),j Y H p)]
inductive D where
 | non | bl (b:Bool) | int (i:Int) | str (x:Str) | tup (L:List D) | lst (L:List D)
mutual
def YA(H:Hp):D->V->Prop
 | .non,v=>v=.non
 | .bl b,v=>v=.bl b
 | .int i,v=>v=.int i
 | .str x,v=>v=.str x
 | .tup F,v=>∃a b,v=.ref a/\H a=_s (.tup b)/\ZI H F b
 | .lst F,v=>∃a b,v=.ref a/\H a=_s (.lst b)/\ZI H F b
def ZI(H:Hp):List D->List V->Prop
 | [],a=>a=[]
 | d::F,a=>∃v r,a=v::r/\YA H d v/\ZI H F r
end
mutual
theorem YA.mono(k:ZC H J):∀d v,YA H d v->YA J d v
 | .non,v,h=>h
 | .bl b,v,h=>h
 | .int i,v,h=>h
 | .str x,v,h=>h
 | .tup F,v,h=>by
  let(a,b,e,c,f):=h;rwa[a,b,e,k _ _ c,ZI.mono k F b f]
 | .lst F,v,h=>by
  let(a,b,e,c,f):=h;rwa[a,b,e,k _ _ c,ZI.mono k F b f]
theorem ZI.mono(k:ZC H J):∀F vs,ZI H F vs->ZI J F vs
 | [],vs,h=>h
 | d::F,vs,h=>by
  let(v,r,e,a,b):=h;rwa[v,r,e,YA.mono k d v a,ZI.mono k F r b]
end
theorem ZI.length:∀{F:List D}{vs:aG},ZI H F vs->vs.9=F.9
 | [],vs,h=>by ext h;rfl
 | d::F,vs,h=>by
  let(v,r,S,b,a):=h;rw[yH,yH,ZI.length a]
theorem ZI.get:∀{F:List D}{vs:aG}{i:Nat}{v:V},ZI H F vs->vs[i]?=_s v->∃d,F[i]?=_s d/\YA H d v
 | [],vs,i,v,h,e=>by ext h;simp at e
 | d::F,vs,i,v,h,e=>by
  let(w,r,S,a,b):=h;cases i with
  | zero=>simp at e;subst e;rwa[d,S,a]
  | succ i=>simp at e;rwa[ZI.get (i:=i) b e]
theorem ZI.snoc(a:YA H d v):∀{F:List D}{vs:aG},ZI H F vs->ZI H (F ++ [d]) (vs ++ [v])
 | [],vs,h=>by ext h;rwa[v,[],S,a,rfl]
 | e::F,vs,h=>by
  let(w,r,S,b,c):=h;rwa[w,r ++ [v],S,b,ZI.snoc a c]
mutual
def AJ:D->D->Bool
 | .non,.non=>_t
 | .bl a,.bl b=>a==b
 | .int a,.int b=>a==b
 | .str a,.str b=>a==b
 | .tup a,.tup b=>C9 a b
 | .lst a,.lst b=>C9 a b
 | _,_=>_x
def C9:List D->List D->Bool
 | [],[]=>_t
 | a::r,b::s=>AJ a b&&C9 r s
 | _,_=>_x
end
mutual
theorem RN:∀d:D,AJ d d=_t
 | .non=>rfl
 | .bl _=>by simp[AJ]
 | .int _=>by simp[AJ]
 | .str _=>by simp[AJ]
 | .tup F=>by rw[AJ];rwa[FF F]
 | .lst F=>by rw[AJ];rwa[FF F]
theorem FF:∀F:List D,C9 F F=_t
 | []=>rfl
 | d::F=>by rw[C9,RN d,FF F];rfl
end
mutual
def D.deep:D->Nat
 | .tup F=>Jm F+1
 | .lst F=>Jm F+1
 | _=>0
def Jm:List D->Nat
 | []=>0
 | d::F=>max d.deep (Jm F)
end
theorem Gj:∀{F:List D}{i:Nat}{d:D},F[i]?=_s d->d.deep<=Jm F
 | [],i,d,h=>by simp at h
 | e::F,0,d,h=>by simp at h;subst h;rw[Jm];lia
 | e::F,i+1,d,h=>by
  simp at h;have:=Gj h;rw[Jm];lia
def isI:D->String->Bool
 | .non,_=>_x
 | .bl _,c=>c=="bool" || c=="int"
 | .int _,c=>c=="int"
 | .str _,c=>c=="str"
 | .tup _,c=>c=="tuple"
 | .lst _,c=>c=="list"
def Hu:List String:=["bool","int","str","list","tuple"]
def isi{K:uFg}{H:Hp}{d:D}{v:V}(r:YA H d v)(c:String)(e:c∈Hu):∃t,WE K H v t/\kitOne K t (.type c)=_s (isI d c):=by
 unfold Hu at e;simp only[xD,xW,or_false] at e;cases d with
 | non=>ext r;erw[_,.non,?_];rcases e with rfl | rfl | rfl | rfl | rfl<;>rfl
 | bl b=>ext r;erw[_,.bl b,?_];rcases e with rfl | rfl | rfl | rfl | rfl<;>rfl
 | int i=>ext r;erw[_,.int i,?_];rcases e with rfl | rfl | rfl | rfl | rfl<;>rfl
 | str x=>ext r;erw[_,.str x,?_];rcases e with rfl | rfl | rfl | rfl | rfl<;>rfl
 | tup F=>let(a,g,S,b,f):=r;erw[_,.tup b,?_];rcases e with rfl | rfl | rfl | rfl | rfl<;>rfl
 | lst F=>let(a,g,S,b,f):=r;erw[_,.lst b,?_];rcases e with rfl | rfl | rfl | rfl | rfl<;>rfl
def YA.oE(r:YA H d v):decide (v=.non)=(match d with | .non=>_t | _=>_x):=by
 cases d with
 | non=>ext r;rfl
 | bl b=>ext r;rfl
 | int i=>ext r;rfl
 | str x=>ext r;rfl
 | tup F=>let(a,e,S,b,c):=r;rfl
 | lst F=>let(a,e,S,b,c):=r;rfl
theorem YA.oA(h:YA H d v)(k:ZC H J):YA J d v:=YA.mono k d v h
theorem ZI.oA(h:ZI H F vs)(k:ZC H J):ZI J F vs:=ZI.mono k F vs h
def BY(lo:Int)(n:Nat):It:=(λi _=>i<n,λi H x J=>J=H/\x=.int (lo - i),λi _=>n<=i)
def GV{P:jQ}{w:jR}{K:uFg}{a:Expr}(it:jP)(lo:Int)(n:Nat):VJ P w K a (BY lo n) [it] it (λi h=>IsRangeIter h it (lo+(i:Nat) * (-1)) ((n:Int) - (i:Nat)) (-1)) where
 mem:=by simp
 obj:=λi h st b a=>by grind
 keep:=λi h d st k=>k it (by simp) _ st
 item:=by
  intro X r y p u i B s Y H E I f st x;subst r y p;let(g,j,A,k,l,m):=f it (by simp);let W:=Walks.range (prog:=X.prog) (w:=X.w) (I.ok.hd u) it lo (-1) n;erw[W.item i s _ _ x st λv d z e c C=>?_];let(t,S):=e;let v:ZE X B Y H {s with heap:=d,toks:=z }:=I.turned (λb o a e=>C b o (by simpa using a) e) g j k l m;erw[_,S,B1 (s:={s with heap:=d,toks:=z }) (n:="range_iterator") c S S aA (.int (lo - i),H,v,(t,?_),(S,S),c,λb a=>(f b a).1)];let e:lo+(i:Int) * (-1)=lo - i:=by lia
  rw[e]
 done:=by
  intro X r y p u i B s Y H E I f st x;subst r y p;let(g,j,A,k,l,m):=f it (by simp);rwa[wpAny_pyNext_range_end (I.ok.hd u) st (by have:n<=i:=x;lia) λd c=>(S,I.turned (t':=s.toks) (λb o a e=>c b o a e) g j k l m)]
 self:=λ_ _ _ _ _ st h=>wpAny_pyIter_rangeiter st h
section
variable{X:Cx}{tg:Expr}
def PZ{B:List (jP×Obj)}{Y:St}{H:Hp}{s:jN}{R:It->Hp->Prop}{E:jH}{lo a:Int}{t u v:Tok}{tk:Nat}(I:ZE X B Y H s)(b : -(2^62)<=lo)(c:lo<2^62)(d : -(2^62)<=a)(e:a<2^62)(q:R (BY lo (lo - a).toNat) H):_w (_m X.prog X.w) X.A (pyIter (.ref s.8)) (Dp X B Y tg R) E {s with heap:=s.heap.push {cls:=.type "range", data:=.fields #[.int lo t,.int a u,.int (-1) v] },toks:=tk }:=by
 erw[wpAny_pyIter_range (IsRange.new ..) (PySem.W.small_down b c d e) ?_];let c:ZE X B Y H {s with heap:=s.heap.push {cls:=.type "range", data:=.fields #[.int lo t,.int a u,.int (-1) v] },toks:=tk }:=I.kept λb o e=>xB _ e;erw[(s.heap.push {cls:=.type "range", data:=.fields #[.int lo t,.int a u,.int (-1) v] }).7,[(s.heap.push {cls:=.type "range", data:=.fields #[.int lo t,.int a u,.int (-1) v] }).7],_,_,H,S, c.kept (t':=tk) λb o e=>xB _ e,GV _ lo (lo - a).toNat,?_,λb g=>?_,q]
 .let d:lo+((0:Nat):Int) * (-1)=lo:=by simp
  let f:(((lo - a).toNat:Nat):Int) - ((0:Nat):Int)=Builtin.Range.rangeSize lo a (-1):=by rw[PySem.W.rangeSize_downNat];lia
  show IsRangeIter _ _ (lo+((0:Nat):Int) * (-1)) ((((lo - a).toNat:Nat):Int) - ((0:Nat):Int)) (-1);rw[d,f];rwa[xI _ S]
 .let e:b=(s.heap.push {cls:=.type "range", data:=.fields #[.int lo t,.int a u,.int (-1) v] }).7:=by simpa using g
  subst e;rwa[c.iw (xE _) (c.og.fresh (xE _))]
inductive Bk(R:It->Hp->Prop)(vs:aG)(a:Hp):Prop
 |mk(i j)(_:vs=[.int i,.int j,.int (-1)])(_:(-(2^62)<=i/\i<2^62 /\ -(2^62)<=j/\j<2^62))(_:R (BY i (i - j).toNat) a)
def bV(a:TA):TI:=λY H R=>a Y H λb a=>Bk R b a
theorem fL{a b c:Expr}{g:TA}{p pos:Pos}(i:X.mg "range"=_n)(d:QA X [a,b,c] g)(e:autoParam (nB X "range" .globalImplicit) y2z)(hs:autoParam (_e [a,b,c] X.env=(_x,eval a X.env)::_e [b,c] X.env) y1z)(f:autoParam ((backTo pos (_e [b,c] X.env)).any (·.1)=false) y1z) :
  QI X tg (.Call (.Name "range" p) [a,b,c] [] pos) (bV g):=⟨by
 let e:=(od e).1;let d:=d.h;intro B s Y H R I h;erw[Call_ (Uo I e i boot_range (callWith_type1 (thn (d pos B s Y H _ I h) λj i ⟨k,e,h,d,g⟩=>?_) hs f))];let(i,j,e,(g,f,k,l),q):=g;subst e;cases d with
 | cons r d =>
  cases d with
  | cons i d =>
   cases d with
   | cons e d =>
    ext d;let(t,rfl):=r;let(d,rfl):=i;let(d,rfl):=e
    rwa[call_range_3 aA (PZ h g f k l q) (.inl (PyProof.noPylong_small aA))]⟩
end
section
variable{g:TG}{tb:TS}{D:YF}{Y:St}{H:Hp}
def Kt{lo:Int}{n:Nat}(m:Nat)(e:n=m)(Pv:Nat->St->Hp->Prop)(c:Pv 0 Y H)(hs:∀i Y H,i<m->Pv i Y H->g (.int (lo - i)) Y H λa b=>tb {D with nx:=Pv (i+1),ct:=Pv (i+1),bk:=D.nx } a b)(d:∀ Y H,Pv m Y H->D.nx Y H):Bv (BY lo n) g tb D Y H:=by
 subst e;erw[λi k Y H=>k=n - i/\i<=n/\Pv i Y H,(n,S,yJ _,c),?_];rintro i k Y H ⟨rfl,a,p⟩
 by_cases e:i<n
 .erw[.inr (e,Pv (i+1),λb J a=>(n - (i+1),(),S,(),a),?_)];rintro x J ⟨rfl,rfl⟩;rwa[hs i Y J e p]
 .have:i=n:=by lia
  subst this;rwa[.inl (xE _,d Y H p)]
end
section
variable{o:Expr}
inductive Tj(y x:V)(H:Hp)(Q:VK):Prop
 |mk(a o)(_:x=.ref a)(_:YD H a y o)(_:Q (.bl (!o.isSome)) H)
inductive CT(y x:V)(H:Hp)(Q:VK):Prop
 |mk(a o)(_:x=.ref a)(_:YD H a y o)(_:Q (.bl o.isSome) H)
def OM(c:X.A.units+1<cLine):As X (_c .NotIn) Tj:=by
 intro B s Y H y x h u Q I f e (a,d,b,g,q);subst b;obtain rfl:u=Value.ref a:=e;rwa[Qt c I g f λb a=>(.bl (!d.isSome),H,a,S,q)]
def OB(c:X.A.units+1<cLine):As X (_c .In) CT:=by
 intro B s Y H y x h u Q I f e (a,d,b,g,q);subst b;obtain rfl:u=Value.ref a:=e;rwa[cB c I g f λb a=>(.bl d.isSome,H,a,S,q)]
theorem Kv(a:ZO k X.A):WC X (_c .NotIn) Tj:=⟨OM (by have:=a.units;lia)⟩
theorem Cn(a:ZO k X.A):WC X (_c .In) CT:=⟨OB (by have:=a.units;lia)⟩
theorem Fs:QE X (.Dict [] [] pos) fN:=⟨λB s Y H Q I h => wpAny_Dict_empty (.ref s.8,_,I.laid (a:=s.8) (o:=.dT []) (t':=s.toks) (λ_ _ q=>xB _ q) (xE _) (Xh s.heap I.big),rfl,h _ (I.og.fresh (xE _)))⟩
theorem Jf(c:ZO k X.A)(b:QE X o td)(a:QE X i ty)(d:QE X value tv)(hs:autoParam (swapsWith value (_s (.Subscript o i pos')) pos.line X.env=pure false) y1z) :
  QS X (.Assign [.Subscript o i pos'] value pos) (Nk td ty tv):=⟨Qv (by have:=c.units;lia) b.h a.h d.h hs⟩
end
inductive E3(x y:V)(H:Hp)(Q:VK):Prop
 |mk(b:jP) (c:List ZN)(_:y=.ref b)(_:H b=_s (.tup (c.map kV)))(_:((x=.non/\Q (.bl _x) H)\/∃(a:jP)(b:List ZN),x=.ref a/\H a=_s (.tup (b.map kV))/\Q (.bl (decide (b=c))) H))
theorem Kd(b:ZO k X.A):WC X (_c .Eq) E3:=⟨by
 let f:=b.units0;intro B s Y H x y v u Q I g e (b,i,c,d,h);subst c;obtain rfl:u=Value.ref b:=e;let e:=JY I.og d;rcases h with⟨rfl,q⟩ | ⟨a,k1,rfl,ha,q⟩
 .ext g;let(c,i,p,h):=I.tuple (ZR.of d);rwa[SeqAt.RcAt.none_tuple (show s.heap.IsTuple b c.4 from p) f X.prog X.w _ _ (.bl _x,H,I,rfl,q)]
 .obtain rfl:v=Value.ref a:=g;let b:=JY I.og ha;exact wpAny_richCompare_same_room (op:=.Eq) b.typeIs e.typeIs F.slot_tuple_eq
   (wpAny_call_entry F.slot_tuple_eq b.typeIs F.entry_tuple_eq (tuple_eq_tree b e (_,rfl,(λe=>nomatch e),(.bl _,H,I,rfl,q))) (F.args_tuple_eq_2 _ _)) f⟩
def BS(H:Hp)(c:Int)(n:Str):jO->Bool
 | .ref a=>match H a with
  | some (.tup [.int a,.str b])=>decide ((Prod.mk (a) (b))=(Prod.mk (c) (n)))
  | _=>_x
 | _=>_x
def Pa{B:List (jP×Obj)}{Y:St}{H:Hp}{s:jN}{A:jS}{a b:jP}{c d:Int}{n g:Str}(I:ZE X B Y H s)(p:A.units<cLine)(j:H a=_s (.tup [.int c,.str n]))(f:H b=_s (.tup [.int d,.str g])) :
  SeqAt.EqAt A s (.ref a) (.ref b) (decide ((Prod.mk (c) (n))=(Prod.mk (d) (g)))):=by
 by_cases e:a=b
 .subst e;rw[j] at f;injection f with f
  injection f with f
  injection f with i f
  injection f with k _
  injection i with i
  injection k with k
  rw[i,k,yE S];rwa[SeqAt.EqAt.same _]
 .let(L,h,r,_):=I.tuple (ZR.of j);let(l,j,t,_):=I.tuple (ZR.of f);cases h with
  | cons l h=>cases h with
   | cons m h =>
    ext h;cases j with
    | cons h j=>cases j with
     | cons u j =>
      ext j;let(f,S):=l;let(l,S):=m;let(m,S):=h;let(o,S):=u
      let h:=SeqAt.RcAt.tuples (A:=A) (e:=λj=>if j=0 then c==d else n==g) (show s.heap.IsTuple a _ from r) (show s.heap.IsTuple b _ from t) p (λj i k=>by
       let k:j<2:=by simpa using i
       match j,k with
       | 0,_=>rwa[SeqAt.EqAt.int_int _ _ _ _]
       | 1,_=>rwa[SeqAt.EqAt.str_str _ _ _ _])
      let i:((List.range (min ([Value.int c f,Value.str n l]:jK).toArray.size ([Value.int d m,Value.str g o]:jK).toArray.5)).all (λj=>if j=0 then c==d else n==g)&&([Value.int c f,Value.str n l]:jK).toArray.5==([Value.int d m,Value.str g o]:jK).toArray.5)=decide ((Prod.mk (c) (n))=(Prod.mk (d) (g))):=by
       show ((List.range 2).all (λj=>if j=0 then c==d else n==g)&&_t)=_;rw[Bool.and_true];show ((c==d)&&((n==g)&&_t))=_;rw[Bool.and_true,zF,yR,wN,Prod.mk.injEq,beq_iff_eq,beq_iff_eq]
      rw[i] at h;rwa[SeqAt.EqAt.of_refs e h]
section
variable{prog:jQ}{w:jR}{K:Type} [DecidableEq K] {knd:HeapKind prog w K}{A:jS}{E:jH}{s:jN}
def So{d a:jP}{L:List (K×jP×jO)}{k:K}{v:jO}{Q:jH}(c:knd.room A)(b:knd.is s.heap k a)(e:s.heap.DictOfH knd d L)(n:∀p,atKey L k=_s p->Q p.2 {s with toks:=s.toks+knd.draws k })(r:atKey L k=_n->∀h',h'.DictOfH knd d (storedH L k a v)->Heap.SameBut d s.heap h'->Q v {s with heap:=h',toks:=s.toks+knd.draws k })(hsz:L.9<=_z):_w (_m prog w) A (dictSetDefault d (.ref a) v) Q E s:=by
 let(o,j,f,h,t,g,l,i,m):=e;unfold dictSetDefault
 try with_reducible erw[wpAny_holding ?_]
 erw[_b (knd.pyHash c b ?_)];erw[_b (wpAny_dictFind_heap (s:={s with toks:=s.toks+knd.draws k }) c b h g l i m ?_ ?_)]
 .intro c;let j:k∉L.map (·.1):=not_mem_keys_of_get c
  refine _b (wpAny_rule (_b (wpAny_updateDictKeys (hz:=by let e:=size_of_entries l;lia) (s:={s with toks:=s.toks+knd.draws k }) h g (_p (r (atKey_none_of_get c) _ (_,_,f+1,wA _ h (Obj.isFreed_of_dict (Obj.data_mapDictKeys g _)),
   t.mapDictKeys _,Obj.data_mapDictKeys g _,?_,?_,?_) (mG ..))))))
  .rw[storedH_new (atKey_none_of_get c)];simp[l,entryOfKey]
  .rw[storedH_new (atKey_none_of_get c)];intro x f;rcases xK.mp f with f | f
   .rwa[knd.keeps (i x f) h g (mG ..)]
   .simp only[xV] at f;subst f;rwa[knd.keeps b h g (mG ..)]
  .rw[storedH_new (atKey_none_of_get c)];rw[xL,List.nodup_append];erw[m,by simp,?_];intro x f y b;simp only[yD,wR,xV] at b;subst b;rwa[λe=>j (e▸f)]
 .intro j p b;erw[_b (wpAny_dictEntries (s:={s with toks:=s.toks+knd.draws k }) h g ?_)];rw[entry_at l j,b];rwa[_b (wpAny_rule (_p (n _ (atKey_of_get m b))))]
theorem eI(knd:HeapKind prog w K)(d a:jP)(g:(d==sysModules)=_x)(dflt:jO) :
  MeetsIn prog w (Builtin.«dict.setdefault» ([.ref d,.ref a,dflt],[])) (λA R s=>knd.room A.in1/\∃k L,knd.is s.heap k a/\s.heap.DictOfH knd d L/\L.9<=_z /\ (∀p,atKey L k=_s p->R (.ok (.ret p.2)) {s with toks:=s.toks+knd.draws k })/\ (atKey L k=_n->∀h',h'.DictOfH knd d (storedH L k a dflt)->Heap.SameBut d s.heap h'->R (.ok (.ret dflt)) {s with heap:=h',toks:=s.toks+knd.draws k })) :=
 .of_wp λA R s ⟨h,k,L,b,c,i,e,f⟩=>by
  unfold Builtin.«dict.setdefault»;erw[_b ?_];unfold Builtin.Dict.keyAndDefault;erw[_b (wpAny_notOrdered_dict c.typeIs ?_)];show _w _ _ (pure (Prod.mk (d) (Prod.mk (Value.ref a) (_s dflt)))) _ _ s;erw[_p ?_];show _w _ _ (if (d==sysModules)=_t then _ else (dictSetDefault d (.ref a) dflt >>= _)) _ _ s;rw[_i (by rw[g];rwa[xJ])];rwa[_b (So h b c (λp b=>_p (p.2,S,e p b)) (λe h' b c=>_p (dflt,S,f e h' b c)) i)]
end
section
variable{X:Cx}{B:List (jP×Obj)}{Y:St}{H:Hp}{s:jN}{a b:jP}{z:V}{r:jO}{U:List (List ZN×V)}{k:List ZN}{A:jS}{E:jH}
def NT{Q:jH}(f:A.units+1<cLine)(I:ZE X B Y H s)(e:H a=_s (.dT U))(h:H b=_s (.tup (k.map kV)))(g:U.9<_z)(w:ZH z r)(j:∀v,Zx U k=_s v->∀d c,ZE X B Y H c->ZH v d->Q d c)(l:Zx U k=_n->∀c,ZE X B Y (upd H a (.dT (Z4 U k z))) c->Q r c):_w (_m X.prog X.w) A (call (.builtin "dict.setdefault") [.ref a,.ref b,r]) Q E s:=by
 let(g,i,L,c,d):=Kj I.og e;let m:L.9<=sizeLine:=by rw[<- m9 c];rwa[g]
 let g:(Z4 U k z).9<=sizeLine:=by have:=Vv U k z;lia
 erw[call_meetsIn PySem.F.slot_dict_setdefault d.typeIs PySem.F.entry_dict_setdefault (PySem.F.args_dict_setdefault_3 _ _ _) (eI (tupleKind (We X.prog X.w)) a b i r) (tupleKind_room_in1 f,k,L,JY I.og h,d,m,λp d=>?_,λm n f u=>?_)]
 .let q:=c.val k;rw[d,wM] at q;cases d:Zx U k with
  | none=>rw[d] at q;ext q
  | some v=>rw[d] at q;rwa[j v d _ _ (I.tok _) q]
 .let q:=c.val k;rw[m,Option.map_none] at q;let d:Zx U k=none:=by
   cases d:Zx U k with
   | none=>rfl
   | some v=>rw[d] at q;rwa[(show False from q).elim]
  erw[l d _ ?_];let(q,t,p,j,l,m,n,_,o):=f;erw[DY I (by rw[e];rwa[True.intro]) u (q,j) (g,i,_,(c.put k h w).keeps λc f d=>?_,q,t,p,j,l,m,n,o)];rw[Zd (IB d e (λz=>nomatch z))];rwa[d]
end
inductive Jj(d c:TE)(Y:St)(Q:VK)(x:V)(b:Hp):Prop
 |mk(a)(_:x=.ref a)(_:FG b a)(_:d Y b λy b=>c Y b λz c=>∃U k b,c a=_s (.dT U)/\y=.ref b/\c b=_s (.tup (k.map kV))/\U.9<_z/\(∀v,Zx U k=_s v->Q v c)/\(Zx U k=_n->Q z (upd c a (.dT (Z4 U k z)))))
def MR(a c b:TE):TE:=λY H Q=>a Y H λx a=>Jj c b Y Q x a
section
variable{n:Nat}
def Pg(M:X.A.units+1<cLine)(L:PE X o td)(F:PE X e ty)(G:PE X f tx)(m:M2 X o "setdefault" apos e f cpos):PE X (.Call (.Attribute o "setdefault" apos) [e,f] [] cpos) (MR td ty tx):=by
 intro B s Y H Q I h;erw[wpAny_Call_method m.base m.few m.line plainAttrs_dict PySem.F.slot_dict_setdefault PySem.F.type_dict_setdefault (thn (L B s Y H _ I h) λu s1 ⟨x,l,i,Z,a,C,d,P⟩=>?_)];subst C;obtain rfl:u=Value.ref a:=Z;let(t1,t2,_):=Mn i d;erw[t1,t2,?_];rw[m.trees];erw[mn S (mr (mv (thn (F B s1 Y l _ i P) λO s2 ⟨y,p,r,ry,R⟩=> mv (thn (G B s2 Y p _ r R) λfv s3 ⟨z,H3,t,j,U,k,b,w,E,A,J,T,W⟩=>mw ?_))))];subst E;obtain rfl:O=Value.ref b:=ry;rwa[NT M t w A J j (λv N w' s4 c g=>(_,_,c,g,T v N)) λK s4 c=>(_,_,c,j,W K)]
theorem Qq(d:ZO n X.A)(c:QE X o td)(a:QE X e ty)(b:QE X f tx)(m:M2 X o "setdefault" apos e f cpos:=by rwa[rfl,S,S,rfl]):QE X (.Call (.Attribute o "setdefault" apos) [e,f] [] cpos) (MR td ty tx):=⟨Pg (by have:=d.units;lia) c.h a.h b.h m⟩
theorem E1(d:ZO n X.A)(c:QE X o td)(a:QE X e ty)(b:QE X f tx)(m:autoParam (M2 X o "get" apos e f cpos) Qq._auto_1):QE X (.Call (.Attribute o "get" apos) [e,f] [] cpos) (Hj td ty tx):=⟨Qr (by have:=d.units;lia) c.h a.h b.h m⟩
end
def DM(K:uFg)(l:jP):It :=
 (λi H=>∃L,ZG K H l L/\i<L.9,λi H v J=>∃p a,v=.ref p/\H p=_n/\J=upd H p (.tup [.int i,a])/\∀L,ZG K H l L->L[i]?=_s a,
  λi H=>∃L,ZG K H l L/\L.9<=i)
def Qz{P:jQ}{w:jR}{K:uFg}{C:List Expr}{ek:Nat}{F:Pos}{e it l:jP}(R:e≠it)(a6:l≠e)(a7:l≠it) :
  VJ P w K (.Tuple C ek F) (DM K l) [e,it] e (λi h=>(∃f,IsEnum h e it i f)/\h.IsListIter it l i) where
 mem:=by simp
 obj:=λi h st b hb=>by
  let((f,j),(o,Z,a,hd)):=st;simp only[xD,xW,or_false] at hb;rcases hb with rfl | rfl
  .rwa[_,j,λv q=>by ext q]
  .grind
 keep:=λi h y st k=>by
  let((f,j),g):=st;rwa[(f,k e (by simp) _ j),g.at λo x=>k it (by simp) o x]
 item:=by
  intro X hP hw hK a i B s Y H E I r st hg;subst hP hw hK;let((f,j),g):=st;let(L,q1,hx):=hg;let(a1,r1,w1,_):=I.list q1;let gx:L[i]?=_s L[i]:=xC hx;let(u1,a0,a3):=r1.get gx;erw[wpAny_pyNext_enum_item j g w1.isList (by simpa using a0) R λy Z T hT a8 kp=>?_];erw[_,S,?_];let z:H s.8=none:=I.og.fresh (xE _);let t:∀c o,s.heap.get? c=_s o->c≠s.8:=λc o e=>yG (xP e);let p:∀c o,c ∉ [e,it]->s.heap.get? c=_s o->y.get? c=_s o:=λc o a e=>kp c o (λq=>a (by simp[q])) (λq=>a (by simp[q])) e;let U:∀c u,H c=_s u->c ∉ [e,it]:=λc u e a=>by
   have:=(r c a).1;rw[this] at e;ext e
  let I1:ZE X B Y (upd H s.heap.objs.size (.tup [.int i,L[i]])) {s with heap:=y,toks:=s.toks+1 }:=by
   refine I.step (g':=s.gens) (d':=s.drawn) (t':=s.toks+1) (ch:=[e,it]) (λc a=>?_) (λc o _ _ a e _=>p c o a e) (λc o _ _ a e _=>(o.slots,p c o a e)) (λc o a e n=>by rw[Zd (t c o e)];rwa[n])
    (λc o a e=>(o,p c o a e)) (λc us e=>by rw[Zd (Zj e z)];rwa[e]) (λc o u e=>by rw[Zd (Zj e z)];rwa[e]) (λc ps e=>(#[],by rw[Zd (Zj e z),e];simp)) (λm hm=>?_) ?_ I.bare
   .let(W,G,f2,J,M,N):=r c a;rwa[J,G,M,N]
   .erw[hm.at λo e=>p _ o (λa=>?_) e];rwa[(r _ a).2.1 S]
   .intro c u e
    by_cases O:c=s.8
    .subst O;rw[Zi] at e;ext e;rwa[aB S,[.int i s.toks,u1],.cons (s.toks,S) (.cons a3 .nil),(_,hT,S,_,S)]
    .rw[Zd O] at e;refine(I.og c u e).oR (λd v hd q=>p d v ?_ q) (λd q=>by rw[Zd (Zj q z)];rwa[q]) λd us q=>by rw[Zd (Zj q z)];rwa[q]
     rcases hd with rfl | hd
     .rwa[U _ u e]
     .rwa[U _ _ hd]
  erw[wpAny_letOwnedTupleGo_enum (s:={s with heap:=y,toks:=s.toks+1 }) Z λh2 z2 e2=>?_];let(W,G,f2,J,M,N):=r e (by simp);let nz:e≠s.8:=t e _ j;let I2:ZE X B Y (upd H s.heap.objs.size (.tup [.int i,L[i]])) {s with heap:=h2,toks:=s.toks+1 }:=I1.turned (s:={s with heap:=y,toks:=s.toks+1 }) (it:=e) (t':=s.toks+1) (λc o a e=>(e2.2 c a).trans e) (by rw[Zd nz];rwa[W]) G J M N;let a4:IsEnum h2 e it ((i+1:Nat):Int) u1:=by grind
  erw[.ref s.8,_,I2,S,(s.8,L[i],S,z,S,λa9 a2=>?_),((_,a4),T.at λo x=>(e2.2 it R.6).trans x),λc a=>?_]
  .rw[I.oq a2 q1];rwa[gx]
  .obtain⟨o,Z⟩:∃o,s.heap.get? c=_s o:=by
    simp only[xD,xW,or_false] at a;rcases a with rfl | rfl
    .rwa[_,j]
    .let(o,x,_):=g;rwa[o,x]
   rw[Zd (t c o Z)];rwa[(r c a).1]
 done:=by
  intro X hP hw hK a i B s Y H E I r st hg;subst hP hw hK;let((f,j),g):=st;let(L,q1,a5):=hg;let(a1,r1,w1,_):=I.list q1;erw[wpAny_pyNext_enum_end (I.ok.hd a) j g w1.isList (by let e1:=r1.9;simp;lia) λy kp=>(S,?_)];let(W,G,f2,J,M,N):=r it (by simp);rwa[I.turned (it:=it) (t':=s.toks) (λc o a e=>kp c o a e) W G J M N]
 self:=λA i s Q E st h=>by
  let((f,j),_):=st;rwa[wpAny_pyIter_enum j h]
inductive Bg(K:uFg)(R:It->Hp->Prop)(vs:aG)(a:Hp):Prop
 |mk(l L)(_:vs=[.ref l])(_:ZG K a l L)(_:R (DM K l) a)
def XJ(K:uFg)(a:TA):TI:=λY H R=>a Y H λb a=>Bg K R b a
theorem Ra:_o "enumerate"=_s (.type "enumerate"):=aA
theorem K3{X:Cx}{a:Expr}{f:TA}{p pos:Pos}{b:List Expr}{g:Nat}{c:Pos}(i:X.mg "enumerate"=_n)(d:QA X [a] f)(e:autoParam (nB X "enumerate" .globalImplicit) y2z)(hs:autoParam (_e [a] X.env=[(Prod.mk (_x) (eval a X.env))]) y1z) :
  QI X (.Tuple b g c) (.Call (.Name "enumerate" p) [a] [] pos) (XJ X.K f):=⟨by
 have e:=(od e).1;have d:=d.h;intro B s Y H R I h;refine Call_ (Uo I e i Ra (callWith_type1 (thn (d pos B s Y H _ I h) λe d ⟨g,i,f,c,b⟩=>?_) hs rfl));obtain⟨l,L,e,g,q⟩:=b;subst e;obtain⟨j,rfl,b⟩:=Up c;cases b;obtain⟨j,c,b,_⟩:=f.list g;have c:l<d.8:=by obtain⟨o,n,e,_⟩:=b;exact xP e
 refine call_enumerate_list b.isList λj g e _ kp=>?_;refine wpAny_pyIter_enum g ?_;have b : @LT.lt Nat _ l d.8:=c;have c:∀(a b:Nat),(a<b\/b<a)->¬(@Eq Nat a b):=λa b h q=>by lia
 refine⟨d.8+1,_,_,_,i,rfl,f.kept (h':=j) (t':=d.toks) kp,Qz (it:=d.8) (l:=l) (c _ _ ()) (c _ _ ()) (c _ _ ()),⟨⟨_,g⟩,e⟩,λc b=>?_,q⟩;have b:d.8<=c:=by grind
 exact f.iw b (f.og.fresh b)⟩
def Ro{K:uFg}{l:jP}{g:TG}{b:TS}{D:YF}{Y:St}{H:Hp}(L:aG)(Pv:Nat->St->Hp->Prop)(d:Pv 0 Y H)(e:∀i Y H,i<=L.9->Pv i Y H->ZG K H l L)(hs:∀i x p Y H,L[i]?=_s x->Pv i Y H->H p=_n->g (.ref p) Y (upd H p (.tup [.int i,x])) λa c=>b {D with nx:=Pv (i+1),ct:=Pv (i+1),bk:=D.nx } a c)(f:∀ Y H,Pv L.length Y H->D.nx Y H):Bv (DM K l) g b D Y H:=by
 erw[λi m Y H=>m=L.9 - i/\i<=L.9/\Pv i Y H,(L.9,by simp,yJ _,d),?_];rintro i m Y H ⟨rfl,a,p⟩;let b:=e i Y H a p
 by_cases a:i<L.9
 .erw[.inr ((L,b,a),Pv (i+1),λd J c=>(L.9 - (i+1),(),S,a,c),λv J y=>?_)];let(e,a,S,c,S,d):=y;rwa[hs i a e Y H (d L b) p c]
 .let e:i=L.9:=by lia
  subst e;rwa[.inl ((L,b,xE _),f Y H p)]
structure ZU (K:uFg) (C:jP) (m qual:Str) (st:Stmt):Prop where
 ex:∃(f:jP)(fd:FuncData),Th K m qual st f fd/\Tv K C m f
structure Mt (P:jQ) (w:jR) (K:uFg) (mg:jI) (base:Heap) (C:jP) (m:Str) (ps:jJ) (k:Nat) (sp:Sp):Prop where
 ex:∃(f:jP)(fd:FuncData),Tv K C m f/\YG P w K mg base VG k f fd ps sp/\YR K fd ps []
section
variable{P:jQ}{w:jR}{K:uFg}{mg:jI}{Z:Heap}{C:jP}{m qual:Str}{st:Stmt}{N ps:jJ}{k:Nat}{sp:Sp}
def ZU.mtQ(h:ZU K C m qual st)(S:ZP N ps (Zm st))(d:∀ (kV doc pm:jO) (an:Option jP) (cdv ct:jO) (us:jK),us.9=ps.9->bindArgs (fnOf m qual (Vc st) (Yw st) (Zm st) .none kV doc pm an cdv ct) (us,[])=pure (ps.zip us))(b:∀vs H Q E,sp vs H Q E->vs.9=ps.9)(a:∀ (f:jP) (cdv:jO) (A:jS) (outer:List Env) (s:jN) (H:Hp) (vs:aG) (Q:VK) (E:XK),ZO k (A.deeper (envOfC qual (Zm st) s.heap.objs.size f cdv))->sp vs H Q E -> ∃t,WZ (Y9 VG P w K mg Z N qual (Zm st) f cdv A outer s H E).oG (Yw st) t/\t {nx:=λ_ J=>Q .non J,rt:=Q } (start N vs) H):Mt P w K mg Z C m ps (k+1) sp:=by
 let(f,c,F,M):=h.ex;rwa[f,c,M,F.okQ S b (a f),F.binds d]
theorem ZU.mq(h:ZU K C m qual st)(N:jJ)(a:∀{f:jP}{cdv:jO}{A:jS}{outer:List Env}{s:jN}(H:Hp) (vs:aG) (Q:VK) (E:XK),ZO k (A.deeper (envOfC qual (Zm st) s.heap.objs.size f cdv))->sp vs H Q E->vs.9=ps.9/\∃t,WZ (Y9 VG P w K mg Z N qual (Zm st) f cdv A outer s H E).oG (Yw st) t/\t {nx:=λ_ J=>Q .non J,rt:=Q } (start N vs) H)(S:autoParam (ZP N ps (Zm st)) YC.fq._auto_1)(c:autoParam (k<=60) y3z)(b:autoParam (∀ (kV doc pm:jO) (an:Option jP) (cdv ct:jO) (us:jK),us.9=ps.9->bindArgs (fnOf m qual (Vc st) (Yw st) (Zm st) .none kV doc pm an cdv ct) (us,[])=pure (ps.zip us)) YC.fq._auto_2):Mt P w K mg Z C m ps (k+1) sp :=
 h.mtQ S b (λvs H Q E h=>(a (f:=0) (cdv:=.none) (A:={}) (outer:=[]) (s:={}) H vs Q E (Dv c) h).1) λ_ _ _ _ _ H vs Q E b q=>(a H vs Q E b q).2
theorem Pn{f:jP}{oc:jO}{od an:Option jP}{osl:Array (Option jO)}{kV doc pm cdv ct:jO}(a:PySem.W.findIn K (.ref C) m=_s (_s (.ref f)))(i:isFn K (.ref f)=_t)(l:K.lookup f=_s (oc,od,.func (fnOf m qual (Vc st) (Yw st) (Zm st) .none kV doc pm an cdv ct),osl))(c:codeIn K cdv qual=_t)(kp:keepIn K (.ref f)=_t):ZU K C m qual st:=(f,_,FM l c kp,(a,i,kp))
theorem hMQ(C:jP)(m qual:Str)(st:Stmt)(f c:jP)(pm:jO)(e:autoParam (PySem.W.findIn K (.ref C) m=_s (_s (.ref f))/\isFn K (.ref f)=_t/\K.lookup f=_s (.type "function", _n,.func (fnOf m qual (Vc st) (Yw st) (Zm st) .none .none .none pm _n (.ref c) .none),#[])/\codeIn K (.ref c) qual=_t/\keepIn K (.ref f)=true) hQ._auto_1):ZU K C m qual st:=Pn e.1 e.2.1 e.2.2.1 e.2.2.2.1 e.2.2.2.2
structure DZ (P:jQ) (w:jR) (K:uFg) (mg:jI) (base:Heap) (C:jP) (x:Str) (k:Nat) (sp:Sp):Prop where
 ex:∃(f:jP)(fd:FuncData),Mk K C f/\YG P w K mg base VG k f fd ["self"] sp/\YR K fd ["self"] []/\mg x=_s (.ref C)
def Mt.mks(h:Mt P w K mg Z C "__init__" ["self"] k sp)(mk:makesIn K C=_t)(b:keepIn K (.ref C)=_t)(g:mg x=_s (.ref C)):DZ P w K mg Z C x k sp:=by
 let(f,a,M,F,B):=h.ex;rwa[f,a,(mk,M.at_,M.fn,b),F,B,g]
end
section
variable{X:Cx}{C:jP}{m x f:Str}{ps:jJ}{k:Nat}{sp:Sp}{o e i:Expr}{es:List Expr}{ta:TE}{t:TA}{apos pos p:Pos}
def Ve{pl:Sem Bool}(h:QE X o ta)(c:UM X.K C)(M:Mt X.prog X.w X.K X.mg X.base C m ps k sp)(g:QA X (e::es) t)(j:autoParam (ZO k X.A) Zk._auto_1)(b:autoParam (sEq X e es) y1z)(a:autoParam (sFq X pos es) y1z)(l:autoParam (eval (.Call (.Attribute o m apos) (e::es) [] pos) X.env=(do
   let d <- eval o X.env
   standAt apos.atName
   let (f,first) <- holding [d] (getMethod d m pl)
   callWith pos f first (backTo pos (_e (e::es) X.env)) (backToKw pos (keywordEach [] X.env)))) y1z) :
  QE X (.Call (.Attribute o m apos) (e::es) [] pos) (Ew C m sp [] E0 ta t):=by
 let(f,d,M,F,B):=M.ex;rwa[⟨dQ h.h c M F j B .nil Ed g.h b a l⟩]
def dH{pl:Sem Bool}(b:QE X o ta)(c:UM X.K C)(M:Mt X.prog X.w X.K X.mg X.base C m ps k sp)(d:autoParam (ZO k X.A) Zk._auto_1)(g:autoParam (eval (.Call (.Attribute o m apos) [] [] pos) X.env=(do
   let a <- eval o X.env
   standAt apos.atName
   let (f,first) <- holding [a] (getMethod a m pl)
   callWith pos f first (backTo pos (_e [] X.env)) (backToKw pos (keywordEach [] X.env)))) y1z) :
  QE X (.Call (.Attribute o m apos) [] [] pos) (Ew C m sp [] E0 ta Vu):=by
 let(f,a,M,F,B):=M.ex;rwa[⟨Xg b.h c M F d B .nil Ed g⟩]
def Ky(M:DZ X.prog X.w X.K X.mg X.base C x k sp)(a:autoParam (ZO (k+1) X.A) Zk._auto_1)(n:autoParam (nB X x .globalImplicit) y2z):QE X (.Call (.Name x p) [] [] pos) (Mb C sp [] E0 Vu):=by
 let(f,b,M,F,B,g):=M.ex;rwa[⟨gI M F a (od n).1 g B .nil Ed (od n).2.1⟩]
theorem Z3(b:QE X e ta)(a:autoParam (attributeBase e f X.env (eval e X.env)=eval e X.env) y1z):QE X (.Attribute e f pos) (FK X.K ta f):=⟨IJ b.h a⟩
theorem V1(a:QE X o ta)(b:QE X value tv)(hs:autoParam (swapsWith value (_s (.Attribute o f pos')) pos.line X.env=pure false) y1z):QS X (.Assign [.Attribute o f pos'] value pos) (dZ X.K ta tv f):=⟨by
 let a:=a.h;let b:=b.h;intro B s Y H D I h;erw[plainObj_wpAny_Assign_Attribute (thn (b B s Y H _ I h) λu d ⟨y,b,c,s,q⟩=>thn (a B d Y b _ c q) λh y ⟨x,u,b,r,a,C,v,w,g,d,c,n,l,j⟩=>?_) hs];subst g;obtain rfl:h=Value.ref a:=r
 rwa[hG b d c n l s λb a=>(Y,_,a,j)]⟩
theorem BL:QE X (.Dict [] [] pos) SU:=⟨λB s Y H Q I h => wpAny_Dict_empty (.ref s.8,_,I.laid (a:=s.8) (o:=.dK []) (t':=s.toks) (λ_ _ q=>xB _ q) (xE _) (LQ s.heap I.big),rfl,h _ (I.og.fresh (xE _)))⟩
theorem BB(c:ZO k X.A)(b:QE X o td)(a:QE X i ty)(hs:Gk i):QE X (.Subscript o i pos) (L9 td ty):=⟨OG (by have:=c.units;lia) b.h a.h hs⟩
theorem Xs(a:QE X ek tk)(b:QE X ev tw):QE X (.Dict [_s ek] [ev] pos) (HP [(tk,tw)]):=⟨Py (Xo a.h b.h dS) rfl rfl (by simp) (by show 1<=15;decide)⟩
inductive BW(L:aG)(H:Hp)(Q:VK):Prop
 |mk(a U)(_:L=[V.ref a])(_:H a=_s (.dK U))(_:Q (.int U.9) H)
theorem Qw:QC X (.builtin "len") BW:=.imp ⟨gH⟩ λ_ _ _ ⟨p,y,a,b,k⟩=>(p,y,a,b,k)
end
theorem Hk(b:QE (ccx X scope cl C N' s0 H0 ex pn) e ta)(a:autoParam (attributeBase e f (ccx X scope cl C N' s0 H0 ex pn).env (eval e (ccx X scope cl C N' s0 H0 ex pn).env)=eval e (ccx X scope cl C N' s0 H0 ex pn).env) y1z):QE (ccx X scope cl C N' s0 H0 ex pn) (.Attribute e f pos) (FK X.K ta f):=⟨IJ (X:=ccx X scope cl C N' s0 H0 ex pn) b.h a⟩
def stS(r:jJ)(x:Str):List Str:=if r.any (· == x) then r else r ++ [x]
def fmS(val:Nat->Str):Nat->List Str
 | 0=>[]
 | i+1=>stS (fmS val i) (val i)
theorem EW(val:Nat->Str):∀i,(fmS val i).9<=i
 | 0=>xE _
 | i+1=>by
  let a:=EW val i;unfold fmS stS;split
  .lia
  .grind
def Xu(r:jJ)(v k:Str):(stS r v).any (· == k)=(r.any (· == k) || decide (k=v)):=by
 unfold stS
 by_cases h:r.any (· == v)=_t
 .grind
 .grind
def ND(r:jJ)(v:Str):(stS r v).9=if r.any (· == v) then r.9 else r.9+1:=by
 unfold stS;split<;>simp
section
variable{prog:jQ}{w:jR}{A:jS}{R:Result->jN->Prop}{I:jP}{fp wr:jM}{G:Array GenState->Array GenState->Prop}{n:Nat}{P:Nat->jO->Prop}{St:Nat->jN->Prop}
def Rp(W:WalksS prog w A.in1 I fp wr G n P St)(S:jP)(j:S∉fp)(val:Nat->Str)(u:∀i v,P i v->∃t,v=.str (val i) t)(g:n+1<scanBound) :
  ∀(k i:Nat)(s:jN),n - i=k->i<=n->St i s->s.heap.SetOf (strKind prog w) S (λe=>(fmS val i).any (· == e)) (fmS val i).9 ->
   (∀a,Moved (S::wr) G s a->a.heap.SetOf (strKind prog w) S (λe=>(fmS val n).any (· == e)) (fmS val n).9->R (.ok (.ret .none)) a)->
   codeAny (_m prog w) A (.builtin "set.update.loop" ([.ref S,.ref I],[])) R s:=by
 let l:S∉wr:=λh=>j (W.sub _ h);let d:∀b∈wr,b∈S::wr:=λb g=>xM _ g;intro k
 induction k with
 | zero =>
  intro i s r m f B z;let c:i=n:=by lia
  subst c;erw[codeAny_builtin F.entry_set_update_loop ?_];rw[mH mI _];show _w _ A.in1 (pyNext (.ref I) >>= _) _ _ s;erw[_b (W.done s _ _ f λa p=>?_)];show _w _ A.in1 (ret Value.none) _ _ a
  exact _p (z a (p.mono d) (by
   let(o,y,x,t,C,c):=B
   rwa[o,y,x,t,p.heap S _ l C,c]))
 | succ k E =>
  intro i s r m f B z;let m:i<n:=by lia
  erw[codeAny_builtin F.entry_set_update_loop ?_];rw[mH mI _];show _w _ A.in1 (pyNext (.ref I) >>= _) _ _ s;erw[_b (W.item i s _ _ m f λv a f r p=>?_)];let(t,rfl):=u i v f;let f:a.heap.SetOf (strKind prog w) S (λe=>(fmS val i).any (· == e)) (fmS val i).9:=by
   let(o,y,x,u,C,c):=B;rwa[o,y,x,u,p.heap S _ l C,c]
  show _w _ A.in1 (holding [Value.str (val i) t] (setAdd S (.str (val i) t)) >>= _) _ _ a;erw[_b (wpAny_holding ?_)];unfold setAdd;erw[wpAny_holding ?_];erw[_b ((strKind prog w).pyHash (k:=val i) (strKind_is _ _ _ _) ?_)];let c:(fmS val i).9+1<scanBound:=by have:=EW val i;lia
  erw[wpAny_setAddHashed_of (knd:=strKind prog w) (s:={a with toks:=a.toks+1 }) (strKind_is _ _ _ _) rfl f c λt f c=>?_];let l:t.SetOf (strKind prog w) S (λe=>(fmS val (i+1)).any (· == e)) (fmS val (i+1)).9:=SetOf_congr c (λe=>(Xu _ _ _).6) (ND _ _).6;erw[_p (plainId_quiet mI _,E (i+1) _ () m (W.frame _ a _ _ r (zV _) λb g o e=>?_) l λl c a=>?_)]
  .rw[f.2 b (λh:b=S=>j (by rw[<- h];rwa[g]))];rwa[e]
  .erw[z l (Moved.trans W.gtrans ((p.mono d).then_heap (zV _) λb o g e=>?_) c) a];rw[f.2 b (λh:b=S=>g (by rw[h];rwa[xZ]))];rwa[e]
end
section
variable{prog:jQ}{w:jR}{A:jS}{E:jH}{s:jN}
def cT{l:jP}{items:Array jO}{val:Nat->Str}{Q:jH}(B:A.handled=_n)(u:s.heap.IsList l items)(m:∀ (i:Nat) (v:jO),items[i]?=_s v->∃t,v=.str (val i) t)(p:items.5+1<scanBound)(h:∀ (h':Heap) (tk:Nat),h'.SetOf (strKind prog w) s.heap.objs.size (λf=>(fmS val items.5).any (· == f)) (fmS val items.5).9 -> (∀b o,b<s.8->s.heap.get? b=_s o->h'.get? b=_s o)->Q (.ref s.8) {s with heap:=h',toks:=tk }) :
  _w (_m prog w) A (call (.type "set") [.ref l]) Q E s:=by
 let(c,d,a):=F.called_set.mro;let a:=F.called_set.made;let a:=F.called_set.sub;erw[wpAny_call (codeAny_of_tree ?_)];show _w _ _ (callAny (.type "set") _) _ _ _;erw[_p (Code.quiet_builtin _ aA,codeAny_builtin F.entry_type_call ?_)];rw[Around.under_plain (weight_type_call_type "set" [.ref l] []) S];let a:=F.called_set.notType;let a:=F.called_set.canCreate;let a:=F.typeCall_set_1 (.ref l)
 repeat (any_goals (first | assumption | wp_step))
 erw[codeAny_mono (code_set_new_1 (.ref l) (E:=E) (Q₁:=λd c=>∃a:Bool,d=.ref s.8/\c={s with heap:=s.heap.push {cls:=.type "set", dict:=_n,data:=.set #[] 0 (.fresh 0 0 a) } }) λa=>(a,S,S)) λr c t=>?_];cases r with
 | error e=>rwa[t]
 | ok c =>
  cases c with
  | ret d =>
   let(a,S,S):=t;let x:(s.heap.push {cls:=.type "set", dict:=_n,data:=.set #[] 0 (.fresh 0 0 a) }).get? s.8=_s {cls:=.type "set", dict:=_n,data:=.set #[] 0 (.fresh 0 0 a) }:=xI _ S;let c:Shared.TypeIs {s with heap:=s.heap.push {cls:=.type "set", dict:=_n,data:=.set #[] 0 (.fresh 0 0 a) } } (.ref s.8) "set" := (_,x,S);let d:=F.called_set.init.lookup;let d:=F.called_set.init.bind (.ref s.8)
   repeat (any_goals (first | assumption | wp_step))
   erw[codeAny_mono (codeAny_call_builtin (R:=wants (λr d=>r=.none/\∃h' tk,d={s with heap:=h',toks:=tk }/\h'.SetOf (strKind prog w) s.heap.objs.size (λf=>(fmS val items.5).any (· == f)) (fmS val items.5).9 /\ (∀b o,b<s.8->s.heap.get? b=_s o->h'.get? b=_s o)) E) F.called_set.init.plain F.entry_set_init (check_set_init_1 c ?_)) λn d c=>?_]
   .let(C,k,g,y,j):=u;let(z,f,u,d):=C;simp only at g j;subst g;subst j;let g:(s.heap.push {cls:=.type "set", dict:=_n,data:=.set #[] 0 (.fresh 0 0 a) }).get? l=_s {cls:=.type "list", dict:=f,data:=.seq items y,slots:=d }:=xB _ k;let d:=F.sub_list_set;let d:=F.sub_list_frozenset;let d:(Value.type "list"==Value.type "dict")=false:=by decide
    let d:(s.heap.push {cls:=.type "set", dict:=_n,data:=.set #[] 0 (.fresh 0 0 a) }).IsList l items:=(_,g,S,y,S);unfold Builtin.«set.__init__» noKeywords Builtin.Frozenset.updateFrom;generalize f:pyIter=PI
    wp_walk
    subst f;erw[wpAny_pyIter_list d ?_];erw[_b (wpAny_runValue ?_)];let f:l<s.8:=xP k;let k:A.in1.in1.in1.handled=none:=by simp[B]
    let g:l≠(s.heap.push {cls:=.type "set", dict:=_n,data:=.set #[] 0 (.fresh 0 0 a) }).7:=by
     rw[yY];rwa[yG (mF f)]
    let j:s.8 ∉ [(s.heap.push {cls:=.type "set", dict:=_n,data:=.set #[] 0 (.fresh 0 0 a) }).7,l]:=by
     rw[yY];simp only[xD,xV,xW,or_false,not_or];rwa[yG (mh _),Nat.ne_of_gt f]
    erw[Rp ((Walks.list k _ l g items).toS) s.heap.objs.size j val m p (items.5 - 0) 0 _ () (yJ _) ((_,xI _ S,S,S),(d.push _)) ?hS0 ?hR]
    case hS0 =>
     let d:((s.heap.push {cls:=.type "set", dict:=_n,data:=.set #[] 0 (.fresh 0 0 a) }).push {cls:=.type "list_iterator", data:=.fields #[.ref l,.int 0 0] }).get? s.8
       = _s {cls:=.type "set", dict:=_n,data:=.set #[] 0 (.fresh 0 0 a) }:=xB _ x
     rwa[SetOf_congr ((setObjOf_fresh (knd:=strKind prog w) a).setOf d (by unfold scanBound;lia)) (λ_=>rfl) S]
    case hR =>
     intro u f d;let(h',m,k,j,g):=u;let u:m=s.gens:=f.gens;let m:k=s.drawn:=f.drawn;let k:g=s.os:=f.os;subst u;subst m;subst k;show _w _ _ _ _ _ _;erw[_p ?_];show _w _ _ (ret Value.none) _ _ _;erw[_p (S,h',j,S,d,λb o p e=>?_)];let g:b≠s.8:=yG p;let j:b≠(s.heap.push {cls:=.type "set", dict:=_n,data:=.set #[] 0 (.fresh 0 0 a) }).7:=by
      rw[yY];rwa[yG (mF p)]
     rwa[f.heap b o (by simp only[xD,xV,xW,or_false,not_or];rwa[g,j]) (xB _ (xB _ e))]
   .cases n with
    | error e=>rwa[c]
    | ok a =>
     cases a with
     | ret r =>
      let(S,h',tk,S,d,a):=c
      repeat (any_goals (first | assumption | wp_step))
      rwa[h _ _ d a]
     | _=>rwa[c.elim]
  | _=>rwa[t.elim]
end
def FA(L:jJ):Nat:=(L.foldl stS []).9
theorem Lr(L:jJ):∀n,n<=L.9->fmS (λi=>L.getD i "") n=(L.take n).foldl stS []
 | 0,_=>rfl
 | n+1,h=>by
  show stS (fmS _ n) _=_;rw[Lr L n (),List.take_succ_eq_append_getElem (),zQ];show stS _ (L.getD n "")=stS _ (L[n]);rw[xT,xC ()];rfl
inductive Jd(K:uFg)(Q:VK)(vs:aG)(a:Hp):Prop
 |mk(l) (L)(_:vs=[.ref l])(_:ZG K a l (L.map V.str))(_:L.9<=1000)(_:Q (.int (FA L)) a)
def Ry(K:uFg)(a:TA):TE:=λY H Q=>a Y H λb a=>Jd K Q b a
theorem NL{a:Expr}{h:TA}{p q pos e:Pos}(w:X.calm=_t)(g:X.mg "len"=_n)(i:X.mg "set"=_n)(f:QA X [a] h)(b:autoParam (nB X "len" .globalImplicit) y2z)(c:autoParam (nB X "set" .globalImplicit) y2z)(hs:autoParam (_e [a] X.env=[(Prod.mk (_x) (eval a X.env))]) y1z)(d:autoParam (_e [.Call (.Name "set" p) [a] [] pos] X.env=[(Prod.mk (_x) (eval (.Call (.Name "set" p) [a] [] pos) X.env))]) y1z) :
  QE X (.Call (.Name "len" q) [.Call (.Name "set" p) [a] [] pos] [] e) (Ry X.K h):=⟨by
 have b:=(od b);have c:=(od c);have f:=f.h;intro B s Y H Q I h;refine wpAny_Call_Name_kw (Uo I b.1 g (show _o "len"=_s (.builtin "len") by decide +kernel) ?_ b.2.2.2 b.2.1);refine callWith_builtin1 ?_ d rfl;rw[d];refine mv ?_;refine wpAny_Call_Name_kw (Uo I c.1 i (show _o "set"=_s (.type "set") by decide +kernel) (callWith_type1 (thn (f pos B s Y H _ I h) λi k ⟨j,h,g,b,l,L,e,d,f,y⟩=>?_) hs rfl) c.2.2.2 c.2.1);subst e;cases b with
 | cons r b =>
  cases b;obtain rfl:=r;obtain⟨b,r,f,c⟩:=g.list d;have c:b.9=L.9:=by rw[<- r.9,xA]
  obtain⟨o,n,l,m,d,s⟩:=f;have f:∀(i:Nat)(v:jO),b.toArray[i]?=_s v->∃t,v=.str (L.getD i "") t:=λi v d=>by
   rw[<- wT] at d;have j:i<b.9:=by have:=(xH.mp d).1;simpa using this
   obtain⟨u,j,t,z⟩:=r.get (i:=i) (x:=.str (L.getD i "")) (by rw[xF,xC (),xT,xC ()];rfl);have d:b[i]?=_s v:=d;rw[d] at j;cases j;exact⟨t,z⟩
  have d:b.toArray.5=L.9:=by rw[xU,c]
  refine cT (items:=b.4) (val:=λi=>L.getD i "") (g.ok.hd w) ⟨o,l,m,n,s⟩ f (by unfold scanBound;lia) λj l c f=>?_;rw[d] at c;have m:ZE X B Y h {k with heap:=j,toks:=l }:=g.kept λb u e=>f b u (xP e) e;refine mw ?_;obtain⟨b,o,d⟩:=c.objOf;obtain⟨c,b,r,t,g,_,_,f,n⟩:=d;have d:=EW (λi=>L.getD i "") L.9;have d:(b.5:Int)<2^63:=Int.lt_of_le_of_lt (show (b.5:Int)<=1000 by lia) aA;refine call_len_set (s:={k with heap:=j,toks:=l }) o c g n d ?_;refine⟨.int b.5,h,m.tok _,⟨_,rfl⟩,?_⟩;have e:b.5=FA L:=by
   rw[f,Lr L L.length (xE _),xR];rfl
  rw[e]
  exact y⟩
def GU(d:Heap)(H:Hp)(h:Heap)(a:jP)(vs:Array jO):Prop:=∃T b c e,vs[1]?=_s (.ref T)/\T≠a/\h.get? T=_s b/\b.data=.fields c/\c[3]?=_s e/\H T=_n/\d.get? T=_n
def KL{M:Model}{A:jS}{E:jH}{s:jN}{Z:Heap}{env:Env}{outer:List Env}{L e:jP}{f:Obj}{vs:Array jO}{d c:jO}{m:Bool}{Q:Unit->jN->Prop}(fr:A.frames=_s (env::outer))(i:s.heap.FunFrames Z (env::outer))(l:env.frame=_s L)(j:s.heap.get? e=_s f)(p:Z.StaysIn s.heap)(w:Z.get? e=_n)(de:f.data=.fields vs)(v:1<vs.5)(n:vs[0]?=_s c)(k:∀h',Heap.NotedW Z (env::outer) e f.cls c (rawInt L) s.heap h'->(∃g,h'.get? e=_s g/\g.dict=f.dict)->Q _u {s with heap:=h' }) :
  _w M A (do let a <- frameOf env;let pl <- entryPlaceOf L m;let b <- EntryCells.newEntry d a .none (rawInt L) .none pl;setField (.ref e) 1 b) Q E s:=by
 let m:e∉(env::outer).filterMap (·.frame):=λz=>by let(_,o,g,n):=i.mem z;rw[j] at g;ext g;rwa[n vs de]
 erw[_b (wpAny_frameOf_fun fr i l λc g=>_b (wpAny_entryPlaceOf λpl pk=>?_))];unfold EntryCells.newEntry newFields;erw[_b (wpAny_newObj_type ?_ (pk.sizeOk5 _ _ _ _ _))];let l:c.get? e=_s f:=(g.2.1 e m).trans j;let t:Z.StaysIn c:=λb o z=>(g.2.1 b λy=>by rw[(i.mem y).1] at z;ext z).trans (p b o z);generalize m:({cls:=.type "traceback", dict:=_n,data:=.fields ([d,.ref L,.none,rawInt L,.none]++(if pl.isEmpty then List.replicate 6 Value.none else pl)).4 }:Obj)=d;let u:c.7≠e:=Nat.ne_of_gt (xP l);let p:=xB (h:=c) d l;let l:=mJ de (·.setIfInBounds 1 (Value.ref c.7));let r:=wA (Obj.mapFields (·.setIfInBounds 1 (Value.ref c.7))) p (Obj.isFreed_of_fields l);let x:((c.push d).update e (Obj.mapFields (·.setIfInBounds 1 (Value.ref c.7)))).get? c.7=_s d:=(zK _ _ (Ne.symm u)).trans (xI c (by rw[<- m];rfl));let f:∀b o,b≠e->c.get? b=_s o->((c.push d).update e (Obj.mapFields (·.setIfInBounds 1 (Value.ref c.7)))).get? b=_s o:=λb o n z=>(zK _ _ (Ne.symm n)).trans (xB _ z);let c:∀b o,s.heap.get? b=_s o->(∀vs,o.data ≠ .fields vs)->b≠e:=λb o z n q=>by rw[q,j] at z;ext z;rwa[n vs de]
 erw[wpAny_setField p de v (k _ (λb o z=>f b o (λq=>by rw[q,w] at z;ext z) (t b o z),i.of_keeps λb o z n=>?_,(_,_,_,_,_,r,(Obj.cls_mapFields _ _,?_),l,by simp[v],t.fresh,u,x,by rw[<- m],?_),λb o z n=>?_) (_,r,?_))]
 .let(d,y):=g.2.2 b o z;rwa[_,f b _ (c b o z n) y,rfl]
 .grind
 .first | (simp;done) | (rcases pk with rfl | ⟨_,_,_,_,_,_,_,rfl⟩<;>simp)
 .let(d,y):=g.2.2 b o z;rwa[d,f b _ (c b o z n) y]
 .unfold Obj.mapFields;split<;>rfl
def KM(a:Obj)(C:jP):Prop:=a.cls=.ref C/\a.dict=_n
def Tt(d:Heap)(H:Hp)(h:Heap)(a C:jP):Prop:=H a=_n/\d.get? a=_n/\∃c b e,h.get? a=_s c/\KM c C/\c.data=.fields b/\b[0]?=_s e/\(b[1]?=_s .none\/GU d H h a b)
def CH(d:Heap)(H:Hp)(h:Heap)(a C:jP):Prop:=H a=_n/\d.get? a=_n/\∃b c e,h.get? a=_s b/\KM b C/\b.data=.fields c/\c[0]?=_s e/\GU d H h a c
theorem CH.at_(x:CH h0 H h a C):Tt h0 H h a C:=let ⟨p,q,i,j,b,c,d,e,f,g⟩:=x;(p,q,i,j,b,c,d,e,f,.inr g)
def Tu(P:jQ)(w:jR):UO:=λb H s E e c=>∃a C J,e=.ref a/\c.os=s.os/\AllBare c.gens/\Un (frs b) [] H J s.heap c.heap/\YW P w J c.heap/\Tt s.heap J c.heap a C/\E (.ref C) _n J
structure Xp (X:Cx) (E:St->XK):Prop where
 h:∀B Y H s a C,ZE X B Y H s->Tt X.s₀.heap H s.heap a C->E Y (.ref C) _n H->X.xe (.ref a) s
def ZM.ex(x:ZM P w H h a o):∃u,h.get? a=_s u:=by
 cases o with
 | lst L=>let(_,_,_,_,e):=x;rwa[_,e]
 | tup L=>let(_,_,_,_,e,_):=x;rwa[_,e]
 | dK U=>let(_,_,_,_,o,_,_,e,_):=x;rwa[_,e]
 | dT U=>let(_,_,_,_,o,_,_,e,_):=x;rwa[_,e]
 | set S n=>let(o,_,_,_,e,_):=x;rwa[_,e]
 | ins C c b=>let(_,_,_,e,_):=x;rwa[_,e]
 | own y=>rwa[x]
 | xd b=>let(_,(_,_,_,e,_),_):=x;rwa[_,e]
 | rng lo b=>let(_,_,_,e):=x;rwa[_,e]
 | frz b u=>let(e,_):=x;rwa[_,e]
 | tbl b=>let(_,_,_,e,_):=x;rwa[_,e]
 | met f y=>rwa[_,x]
 | ext b=>let(_,e,_):=x;rwa[e]
def ZE.stepN{g':Array GenState}{t':Nat}{d':Drawn}{ch:jM}(I:ZE X [] Y H s)(t:X.pn=[])(j:∀b∈ch,X.s₀.heap.get? b=_n/\b≠X.env.locals/\∀x c,X.env.cells.lookup x=_s c->c≠b)(keep:∀b o,b≠X.env.locals->b∉X.fs->b∉ch->s.heap.get? b=_s o->H b=_n->h'.get? b=_s o)(f:∀b o,b≠X.env.locals->b∈X.fs->b∉ch->s.heap.get? b=_s o->H b=_n->∃w,h'.get? b=_s {o with slots:=w })(h:∀b o,b∉ch->s.heap.get? b=_s o->∃u,h'.get? b=_s u)(ns:∀m,s.heap.Ns X.env.locals m->h'.Ns X.env.locals m)(r:YW X.prog X.w H h')(y:AllBare g') :
  ZE X [] Y H {s with heap:=h',gens:=g',drawn:=d',toks:=t' }:=by
 let l:∀b o,X.s₀.heap.get? b=_s o->b≠X.env.locals:=λb o e=>yG (yO (xP e) I.ok.above);let g:∀b o,X.s₀.heap.get? b=_s o->b∉ch:=λb o e i=>by grind
 let a:∀x c,X.env.cells.lookup x=_s c->∀v,s.heap.IsCell c v->h'.IsCell c v:=λx c e v ⟨o,p,n⟩=>by
  let d:c∉ch:=λz=>(j c z).2.2 x c e S
  by_cases j:c∈X.fs
  .let(w,q):=f c o (I.cne x c e) j d p (I.ix x c e);rwa[_,q,n]
  .rwa[o,keep c o (I.cne x c e) j d p (I.ix x c e),n]
 erw[I.ok,I.os,y,(λb o e n i d=>?_,λb o e n i d=>?_,λb o e n d=>I.base.free b o e n d,λb o e d=>?_,I.base.j3,I.base.o6,I.base.oW),?_,λx c e=>?_,I.free,I.ix,λp y=>?_,r,I.len]
 .rwa[keep b o (l b o e) i (g b o e) (I.base.keep b o e n i d) (I.base.free b o e n d)]
 .let(w,j):=I.base.slot b o e n i d;let(r,p):=f b _ (l b o e) i (g b o e) j (I.base.free b o e n d);rwa[r,p]
 .let(u,j):=I.base.there b o e d;rwa[h b u (g b o e) j]
 .let(m,d,f):=I.loc;erw[m,ns m d,λi x v j p d=>?_];let(u,r,l):=f i x v j p d;erw[u,r,?_];rcases l with l | ⟨k,c,e,z⟩
  .rwa[.inl l]
  .rwa[.inr (k,c,e,a x c e _ z)]
 .let(v,z):=I.cell x c e;rwa[v,a x c e v z]
 .rw[t] at y;ext y
def ZE.oF(I:ZE X [] Y H s)(a:X.pn=[])(k:∀b∈hs,X.s₀.heap.get? b=_n/\H b=_n/\∃o vs,s.heap.get? b=_s o/\o.data=.fields vs)(st:(hideAll s.heap (hs++frs X.stack)).StaysIn h')(n:∀b o,s.heap.get? b=_s o->(∀vs,o.data ≠ .fields vs)->∃l,h'.get? b=_s {o with slots:=l }):ZE X [] Y H {s with heap:=h' }:=by
 let(m,(g,d,c,f,e,h),_):=id I.loc;let kp:∀b o,b∉hs->b∉frs X.stack->s.heap.get? b=_s o->h'.get? b=_s o:=λb o c d e=>st b o (hideAll_get _ e λi=>(xK.mp i).elim c d);let c:∀b,b∈frs X.stack->∃o,s.heap.get? b=_s o/\∀vs,o.data ≠ .fields vs:=λb c=>(I.stack.mem c).2;erw[I.stepN (g':=s.gens) (d':=s.drawn) (t':=s.toks) (ch:=hs) a (λb c=>?_) (λb o d h a e _=>kp b o a (λz=>(xD.mp (I.oV b z)).elim d h) e) (λb o d h _ e _=>?_) (λb o a e=>?_) (λd i=>?_) (λb u e=>?_) I.bare]
 .let(f,g,o,vs,e,d):=k b c;erw[f,λz=>?_,λx c f z=>?_]
  .grind
  .let(v,m,g,j):=I.cell x c f;rw[z,e] at g;ext g;rw[d] at j;ext j
 .let(m,j,d):=(I.o7.mem (show b∈X.outer.filterMap (·.frame) from h)).2;rw[e] at j;ext j;rwa[n b o e d]
 .grind
 .let(o,j,h,g,d,r):=i;let(l,q):=n _ o g λvs z=>by rw[d] at z;ext z
  rwa[_,j,h,q,d,r]
 .let d:∀c v,H c=_s v->c∉hs/\c∉frs X.stack:=λc v f=>((λz=>by rw[(k c z).2.1] at f;ext f),(λz=>by rw[I.oU c z] at f;ext f));erw[(I.og b u e).oR (λc v a q=>?_) (λ_ q=>q) λ_ _ q=>q];rcases a with rfl | a
  .rwa[kp c v (d c _ e).1 (d c _ e).2 q]
  .rwa[kp c v (d c _ a).1 (d c _ a).2 q]
section
variable{X:Cx}{Y:List (Option V)}{H:Hp}{s:jN}{a C:jP}{M:Model}{E:jH}{Q:Unit->jN->Prop}
def GO(I:ZE X [] Y H s)(d:X.pn=[])(U:X.ex=[])(c:X.stack=X.env::X.outer)(F:X.env.frame=_s X.env.locals)(x:Tt X.s₀.heap H s.heap a C)(k:∀h',ZE X [] Y H {s with heap:=h' }->CH X.s₀.heap H h' a C->(∀b o,s.heap.get? b=_s o->(∀vs,o.data ≠ .fields vs)->∃e,h'.get? b=_s {o with slots:=e })->Q _u {s with heap:=h' }) :
  _w M X.A (noteFrame (.ref a) X.env) Q E s:=by
 let(A,h,K,vs,L,l,B,n,W,tr):=x;let t:∀(g:jM),a∈g->(∀b∈g,X.s₀.heap.get? b=_n/\H b=_n/\∃o vs,s.heap.get? b=_s o/\o.data=.fields vs)->
   ∀i,Heap.NotedW (hideAll s.heap (g++frs X.stack)) (X.env::X.outer) a (.ref C) L (rawInt X.env.locals) s.heap i->(∃G,i.get? a=_s G/\G.dict=K.dict)->Q _u {s with heap:=i }:=by
  intro g e p i N (f,g2,r);erw[k i (I.oF d p N.1 N.2.2.2) ?_ N.2.2.2];let(e,a1,T,J,y,u,(P,a0),R,O,d,j,m,f,v):=N.2.2.1;let no:∀o,s.heap.get? T=_s o->T∉g->T∉frs X.stack->False:=λo e z n2=>by
   have:=hideAll_get (g++frs X.stack) e λw=>(xK.mp w).elim z n2;rw[this] at d;ext d
  let w:T∉frs X.stack:=λz=>by
   rw[c] at z;let(_,o,e,d):=N.2.1.mem (show T∈(X.env::X.outer).filterMap (·.frame) from z);rw[m] at e;ext e;rwa[d y f]
  rw[u] at g2;ext g2;erw[A,h,_,a1,L,u,(P,r.trans B.2),R,a0,T,J,y,_,O,j,m,f,v,?_,?_]
  .cases q:H T with
   | none=>rfl
   | some u =>
    let(o,e):=(I.og T u q).ex;rwa[(no o e (λz=>by rw[(p T z).2.1] at q;ext q) w).elim]
  .cases q:X.s₀.heap.get? T with
   | none=>rfl
   | some o =>
    let(G,e):=I.base.there T o q (by rw[U];simp);rwa[(no G e (λz=>by rw[(p T z).1] at q;ext q) w).elim]
 let u:X.A.frames=_s (X.env::X.outer):=by rw[<- c];rwa[I.ok.frames]
 let z:∀g:List jP,s.heap.FunFrames (hideAll s.heap (g++frs X.stack)) (X.env::X.outer):=λg=>by
  rw[<- c];rwa[PySem.W.funFrames_hide I.stack λenv l b c=>xO _ (yV.mpr (env,l,c))]
 let w:∀g:List jP,(hideAll s.heap (g++frs X.stack)).StaysIn s.heap:=λg b o q=>of_hideAll _ q;rcases tr with g | ⟨T,J,y,v3,g,j,m,f,v,hHT,h0T⟩
 .let p:∀b ∈ [a],X.s₀.heap.get? b=_n/\H b=_n/\∃o vs,s.heap.get? b=_s o/\o.data=.fields vs:=λb c=>by
   rw[xV] at c;subst c;rwa[h,A,K,vs,l,n]
  unfold noteFrame;simp only[F];erw[_b (_d l n g ?_)];rw[_i aA];erw[KL (Z:=hideAll s.heap ([a]++frs X.stack)) u (z _) F l (w _) (hideAll_none _ (by simp)) n (wC.mp g).1 W λi N r=>?_];rw[B.1] at N;rwa[t [a] (by simp) p i N r]
 .let p:∀b ∈ [a,T],X.s₀.heap.get? b=_n/\H b=_n/\∃o vs,s.heap.get? b=_s o/\o.data=.fields vs:=λb c=>by
   rcases xD.mp c with rfl | c
   .rwa[h,A,K,vs,l,n]
   .rw[xV] at c;subst c;rwa[h0T,hHT,J,y,m,f]
  unfold noteFrame;simp only[F];erw[_b (_d l n g ?_)];rw[_j (show (Value.ref T != Value.none)=_t from by simp)];erw[_b (_d m f v ?_)]
  by_cases d:(v3==rawInt X.env.locals)=_t
  .rw[_j d];rwa[_p (k s.heap I (A,h,K,vs,L,l,B,n,W,T,J,y,v3,g,j,m,f,v,hHT,h0T) λb o e _=>(o.slots,e))]
  .rw[_i d];erw[_b (wpAny_setField m f (wC.mp v).1 ?_)];let d:∀b,b≠T->(s.heap.update T (Obj.mapFields (·.setIfInBounds 3 Value.none))).get? b=s.heap.get? b:=λb c=>zK _ _ (Ne.symm c);let m:∀b o,s.heap.get? b=_s o->(∀vs,o.data ≠ .fields vs)->b≠T:=λb o c f q=>by grind
   let h:(hideAll s.heap ([a,T]++frs X.stack)).get? T=none:=hideAll_none _ (by simp);refine KL (Z:=hideAll s.heap ([a,T]++frs X.stack)) u ((z _).of_keeps λb o c f=>(o,(d b (m b o c f)).trans c,S)) F ((d a (Ne.symm j)).trans l)
    (λb o e=>(d b λq=>by rw[q,h] at e;ext e).trans (w _ b o e)) (hideAll_none _ (by simp)) n (wC.mp g).1 W
    λi ⟨g,h,e,j⟩ r=>?_
   rw[B.1] at e;rwa[t [a,T] (by simp) p i (g,h,e,λb o c f=>j b o ((d b (m b o c f)).trans c) f) r]
def Gy(I:ZE X [] Y H s)(n:X.pn=[])(x:CH X.s₀.heap H s.heap a C)(k:∀h',ZE X [] Y H {s with heap:=h' }->CH X.s₀.heap H h' a C->Q _u {s with heap:=h' }):_w M A (setFlight (.ref a) fr) Q E s:=by
 let(w,m,z,F,v,r,y,p,B,T,o,t,d,u,i,l,c,b,h,g):=x;let j:=(wC.mp b).1;unfold setFlight;erw[_b (_d r p u ?_)];rw[_j (show (Value.ref T != Value.none)=_t from by simp)];erw[wpAny_setField l c j ?_];let e:∀b,b≠T->(s.heap.update T (Obj.mapFields (·.setIfInBounds 3 (fr.elim Value.none λf=>rawInt f)))).get? b=s.heap.get? b:=λb d=>zK _ _ (Ne.symm d);refine k _ (I.oF (hs:=[T]) n (λb d=>by rw[xV] at d;subst d;rwa[g,h,o,t,l,c]) (λb o q=>?_) λb o d n=>(o.slots,(e b λq=>by rw[q,l] at d;ext d;rwa[n t c]).trans d))
  (w,m,z,F,v,(e a (Ne.symm i)).trans r,y,p,B,T,_,_,(fr.elim Value.none λf=>rawInt f),u,i,wA _ l (Obj.isFreed_of_fields (mJ c _)),mJ c _,by simp[j],h,g)
 erw[(e b λz=>?_).trans (of_hideAll _ q)];rw[z,hideAll_none _ (by simp)] at q;ext q
theorem MG(I:ZE X [] Y H s)(b:X.pn=[])(d:X.ex=[])(e:X.stack=X.env::X.outer)(f:X.env.frame=_s X.env.locals)(x:Tt X.s₀.heap H s.heap a C)(k:∀h',ZE X [] Y H {s with heap:=h' }->Tt X.s₀.heap H h' a C->Q _u {s with heap:=h' }) :
  _w M X.A (noteFrame (.ref a) X.env) (λ_ c=>_w M X.A (setFlight (.ref a) _n) Q E c) E s :=
 GO I b d e f x λd c e _=>Gy (s:={s with heap:=d }) c b e λc b d=>k c b d.at_
end
def Tt.mono(x:Tt h0 H h a C)(k:∀b,h0.get? b=_n->h1.get? b=_n):Tt h1 H h a C:=by
 let(e,c,j,n,d,i,f,g,m,l):=x;erw[e,k a c,j,n,d,i,f,g,m,?_];rcases l with c | ⟨T,oT,ts,v3,c,hTe,hT,hdT,h3,hHT,h0T⟩
 .rwa[.inl c]
 .rwa[.inr (T,oT,ts,v3,c,hTe,hT,hdT,h3,hHT,k T h0T)]
theorem Y2{P:jQ}{w:jR}{K:uFg}{mg:jI}{Z:Heap}{N:jJ}{qual:Str}{b:Scope}{f:jP}{c:jO}{A:jS}{outer:List Env}{s:jN}{H:Hp}{E:XK} :
  Xp (Y9 (Tu P w) P w K mg Z N qual b f c A outer s H E) λ_=>E:=⟨λB Y d e a C I x g=>by
 let e:=I.oM (pins':=[]) (λp h=>nomatch h);show _w _ _ (noteFrame _ _ >>= λ_=>setFlight _ _n) _ _ _;erw[_b (MG (X:=Y9 (Tu P w) P w K mg Z N qual b f c A outer s H E) e rfl rfl rfl rfl x λb J y=>?_)]
 rwa[a,C,d,rfl,J.os,J.bare,J.base,J.og,y,g]⟩
section
variable{X:Cx}{E:St->XK}
theorem ZE.newer{B:List (jP×Obj)}{Y:St}{H:Hp}{s:jN}(I:ZE X B Y H s)(a:X.ex=[]):∀b,s.heap.get? b=_n->X.s₀.heap.get? b=none:=λb e=>by
 cases q:X.s₀.heap.get? b with
 | none=>rfl
 | some o =>
  let(d,c):=I.base.there b o q (by rw[a];simp);rw[e] at c;ext c
structure Xq (X:Cx) (E:St->XK):Prop where
 h:(∀ Y c d H,¬E Y c d H)\/(X.ex=[]/\Xp X E)
theorem Xq.never:Xq X λ_ _ _ _=>False:=⟨.inl λ_ _ _ _ h=>h⟩
def Xq.pass{B:List (jP×Obj)}{Y:St}{H:Hp}{s j:jN}{e:jO}(i:Xq X E)(I:ZE X B Y H s)(h:Tu X.prog X.w X.stack H s (E Y) e j):X.xe e j:=by
 let(a,C,J,S,os,b,m,f,x,k):=h;rcases i.h with z | ⟨hex,i⟩
 .rwa[(z _ _ _ _ k).elim]
 let(l,g,d,t,c):=j;obtain rfl:c=s.os:=os;let c:=I.call (h':=l) (g':=g) (d':=d) (t':=t) (ch:=[]) m f b (λb z=>_a z (by simp));rwa[i.h B Y J _ a C c (x.mono (I.newer hex)) k]
theorem Z5{P:jQ}{w:jR}{K:uFg}{mg:jI}{Z:Heap}{N:jJ}{qual:Str}{a:Scope}{f:jP}{b:jO}{A:jS}{outer:List Env}{s:jN}{H:Hp}{E:XK} :
  Xq (Y9 (Tu P w) P w K mg Z N qual a f b A outer s H E) λ_=>E:=⟨.inr (rfl,Y2)⟩
end
structure De (P:jQ) (w:jR) (K:uFg) (mg:jI) (base:Heap) (k:Nat) (f:jP) (sp:Sp):Prop where
 run:∀(A:jS)(outer:List Env)(s:jN)(H:Hp)(us:jK)(vs:aG)(Q:VK)(E:XK),ZO k A->UE P w K mg base A outer s H->ZJ vs us->sp vs H Q E->codeAny (_m P w) A (.call (.ref f) (us,[])) (CR (Tu P w) outer P w H s Q E) s
theorem YG.runX{P:jQ}{w:jR}{K:uFg}{mg:jI}{Z:Heap}{k:Nat}{f:jP}{g:FuncData}{d:jJ}{sp:Sp}(F:YG P w K mg Z (Tu P w) k f g d sp)(j:YR K g d []):De P w K mg Z k f sp :=
 ⟨λA a s H c m Q E l e0 r h=>by
  let i:K.In s.heap:=e0.mod.kin.keeps λb o e=>(e0.bs b o e).1;let e:c.9=d.9:=by rw[<- r.9];rwa[F.len _ _ _ _ h]
  let b:BindsTo s g (c,[]) (d.zip c):=by
   have:=j s c i (by rw[yC];rwa[e]);rw[yC] at this;rwa[this]
  rwa[F.run A a s H (c,[]) c m Q E l e0 b r h]⟩
def WA(P:jQ)(w:jR)(K:uFg)(mg:jI)(Z:Heap)(x:Str)(k:Nat)(sp:Sp):Prop :=
 ∃f,mg x=_s (.ref f)/\keepIn K (.ref f)=_t/\De P w K mg Z k f sp
structure ZX (P:jQ) (w:jR) (K:uFg) (mg:jI) (base:Heap) (C:jP) (m:Str) (k:Nat) (sp:Sp):Prop where
 ex:∃(f:jP),Tv K C m f/\De P w K mg base k f sp
section
variable{P:jQ}{w:jR}{K:uFg}{mg:jI}{Z:Heap}{C:jP}{x:Str}{ps:jJ}{k k':Nat}{sp sp':Sp}
def Sp.or(a b:Sp):Sp:=λc H Q E=>a c H Q E\/b c H Q E
end
def RC(sp:Sp)(E:St->XK)(t:TA):TE:=λY H Q=>t Y H λb a=>sp b a Q (E Y)
inductive CL(C:jP)(m:Str)(sp:Sp)(E:St->XK)(t:TA)(Y:St)(Q:VK)(x:V)(b:Hp):Prop
 |mk(a dx fs)(_:x=.ref a)(_:b a=_s (.ins C dx fs))(_:fs.lookup m=_n)(_:t Y b λc b=>sp (x::c) b Q (E Y))
def MX(C:jP)(m:Str)(sp:Sp)(E:St->XK)(a:TE)(t:TA):TE:=λY H Q=>a Y H λx a=>CL C m sp E t Y Q x a
section
variable{X:Cx}{E:St->XK}{k:Nat}{f C:jP}{sp:Sp}{x m:Str}{p pos apos:Pos}{e o:Expr}{es:List Expr}{ta:TE}{t:TA}
def Fw{B:List (jP×Obj)}{Y:St}{H:Hp}{s:jN}{Q:VK}{us:jK}{vs:aG}(F:De X.prog X.w X.K X.mg X.base k f sp)(a:ZO k X.A)(b:Xq X E)(I:ZE X B Y H s)(r:ZJ vs us)(h:sp vs H Q (E Y)):_w (_m X.prog X.w) X.A (call (.ref f) us) (EP X B Y Q) X.xe s:=by
 erw[wpAny_call (codeAny_mono (F.run X.A X.stack s H us vs Q (E Y) a I.env0 r h) λr c a=>?_)];cases r with
 | error e=>rwa[b.pass I a]
 | ok b =>
  cases b with
  | ret u=>rwa[I.after a]
  | next=>rwa[False.elim a]
  | brk=>rwa[False.elim a]
  | cont=>rwa[False.elim a]
theorem Wm(j:Xq X E)(F:WA X.prog X.w X.K X.mg X.base x k sp)(b:QA X (e::es) t)(i:autoParam (ZO k X.A) Zk._auto_1)(n:autoParam (nB X x .globalImplicit) y2z)(c:autoParam (sEq X e es) y1z)(a:autoParam (sFq X pos es) y1z) :
  QE X (.Call (.Name x p) (e::es) [] pos) (RC sp E t):=⟨by
 let(f,g,d,G):=F;intro B s Y H Q I h;let n:=od n;erw[wpAny_Call_Name_kw (BM I n.1 g ?_ n.2.1)];erw[callWith_K (h₀:=X.base) I.ok.mod.kin d (thn (b.h pos B s Y H _ I h) λh g ⟨l,d,b,r,q⟩=>(b.oi,?_)) c a]
 rwa[Fw G i j b r q]⟩
theorem Yh{pl:Sem Bool}(y:Xq X E)(g:QE X o ta)(c:UM X.K C)(M:ZX X.prog X.w X.K X.mg X.base C m k sp)(r:QA X (e::es) t)(v:autoParam (ZO k X.A) Zk._auto_1)(d:autoParam (sEq X e es) y1z)(b:autoParam (sFq X pos es) y1z)(w:autoParam (eval (.Call (.Attribute o m apos) (e::es) [] pos) X.env=(do
   let a <- eval o X.env
   standAt apos.atName
   let (f,first) <- holding [a] (getMethod a m pl)
   callWith pos f first (backTo pos (_e (e::es) X.env)) (backToKw pos (keywordEach [] X.env)))) y1z) :
  QE X (.Call (.Attribute o m apos) (e::es) [] pos) (MX C m sp E ta t):=⟨by
 let(f,i,F):=M.ex;intro B s Y H Q I h;erw[methodCall_KW (pl:=pl) (thn (g.h B s Y H _ I h) λu z ⟨x,h,g,s,a,A,G,n,j,l,q⟩=>?_) w];subst n;obtain rfl:u=Value.ref a:=s;erw[Es g j c i l ?_];erw[callWith_K (first:=[.ref a]) (h₀:=X.base) I.ok.mod.kin i.kp (thn (r.h pos B z Y h _ g q) λi n ⟨j,l,g,r,h⟩=>(g.oi,?_)) d b]
 rwa[Fw (us:=.ref a::i) (vs:=.ref a::j) F v y g (.cons rfl r) h]⟩
theorem A2{pl:Sem Bool}(n:Xq X E)(b:QE X o ta)(c:UM X.K C)(M:ZX X.prog X.w X.K X.mg X.base C m k sp)(i:autoParam (ZO k X.A) Zk._auto_1)(j:autoParam (eval (.Call (.Attribute o m apos) [] [] pos) X.env=(do
   let a <- eval o X.env
   standAt apos.atName
   let (f,first) <- holding [a] (getMethod a m pl)
   callWith pos f first (backTo pos (_e [] X.env)) (backToKw pos (keywordEach [] X.env)))) y1z) :
  QE X (.Call (.Attribute o m apos) [] [] pos) (MX C m sp E ta Vu):=⟨by
 let(f,d,F):=M.ex;intro B s Y H Q I h;erw[methodCall_KW (pl:=pl) (thn (b.h B s Y H _ I h) λu y ⟨x,s,b,r,a,v,w,h,g,l,q⟩=>?_) j];subst h;obtain rfl:u=Value.ref a:=r;erw[Es b g c d l ?_]
 rwa[callWith_K0 (first:=[.ref a]) b.oi d.kp (Fw (us:=[.ref a]) (vs:=[.ref a]) F i n b (.cons rfl .nil) q)]⟩
end
section
variable{P:jQ}{w:jR}{K:uFg}{mg:jI}{Z:Heap}
def Th.okX{x qual:Str}{st:Stmt}{f:jP}{d:FuncData}{N b:jJ}{k:Nat}{sp:Sp}(F:Th K x qual st f d)(S:ZP N b (Zm st))(c:∀vs H Q E,sp vs H Q E->vs.9=b.9)(a:∀ (cdv:jO) (A:jS) (outer:List Env) (s:jN) (H:Hp) (vs:aG) (Q:VK) (E:XK),ZO k (A.deeper (envOfC qual (Zm st) s.heap.objs.size f cdv))->sp vs H Q E -> ∃t,WZ (Y9 (Tu P w) P w K mg Z N qual (Zm st) f cdv A outer s H E) (Yw st) t/\t {nx:=λ_ J=>Q .non J,rt:=Q } (start N vs) H):YG P w K mg Z (Tu P w) (k+1) f d b sp:=by
 let(j,od,kV,d,l,h,cdv,i,g,rfl,e,b):=F.ex;erw[Ko e b S c λA outer s H vs Q E c b=>?_];let(t,h,q):=a cdv A outer s H vs Q E c b;rwa[t,h.h,q]
def YC.fnX{x:Str}{st:Stmt}{N a:jJ}{k:Nat}{sp:Sp}(h:YC K mg x st)(S:ZP N a (Zm st))(c:∀ (kV doc pm:jO) (an:Option jP) (cdv ct:jO) (us:jK),us.9=a.9->bindArgs (fnOf x x (Vc st) (Yw st) (Zm st) .none kV doc pm an cdv ct) (us,[])=pure (a.zip us))(b:∀vs H Q E,sp vs H Q E->vs.9=a.9)(a:∀ (f:jP) (cdv:jO) (A:jS) (outer:List Env) (s:jN) (H:Hp) (vs:aG) (Q:VK) (E:XK),ZO k (A.deeper (envOfC x (Zm st) s.heap.objs.size f cdv))->sp vs H Q E -> ∃t,WZ (Y9 (Tu P w) P w K mg Z N x (Zm st) f cdv A outer s H E) (Yw st) t/\t {nx:=λ_ J=>Q .non J,rt:=Q } (start N vs) H):WA P w K mg Z x (k+1) sp:=by
 let(f,e,F,d):=h;rwa[f,d,F.kp,(F.okX S b (a f)).runX (F.binds c)]
theorem YC.fx{x:Str}{st:Stmt}{k:Nat}{sp:Sp}(h:YC K mg x st)(N b:jJ)(a:∀{f:jP}{cdv:jO}{A:jS}{outer:List Env}{s:jN}(H:Hp) (vs:aG) (Q:VK) (E:XK),ZO k (A.deeper (envOfC x (Zm st) s.heap.objs.size f cdv))->sp vs H Q E->vs.9=b.9/\∃t,WZ (Y9 (Tu P w) P w K mg Z N x (Zm st) f cdv A outer s H E) (Yw st) t/\t {nx:=λ_ J=>Q .non J,rt:=Q } (start N vs) H)(S:autoParam (ZP N b (Zm st)) YC.fq._auto_1)(d:autoParam (k<=60) y3z)(c:autoParam (∀ (kV doc pm:jO) (an:Option jP) (cdv ct:jO) (us:jK),us.9=b.9->bindArgs (fnOf x x (Vc st) (Yw st) (Zm st) .none kV doc pm an cdv ct) (us,[])=pure (b.zip us)) YC.fq._auto_2):WA P w K mg Z x (k+1) sp :=
 h.fnX S c (λvs H Q E h=>(a (f:=0) (cdv:=.none) (A:={}) (outer:=[]) (s:={}) H vs Q E (Dv d) h).1) λ_ _ _ _ _ H vs Q E b q=>(a H vs Q E b q).2
def ZU.mtX{C:jP}{m qual:Str}{st:Stmt}{N a:jJ}{k:Nat}{sp:Sp}(h:ZU K C m qual st)(S:ZP N a (Zm st))(c:∀ (kV doc pm:jO) (an:Option jP) (cdv ct:jO) (us:jK),us.9=a.9->bindArgs (fnOf m qual (Vc st) (Yw st) (Zm st) .none kV doc pm an cdv ct) (us,[])=pure (a.zip us))(b:∀vs H Q E,sp vs H Q E->vs.9=a.9)(a:∀ (f:jP) (cdv:jO) (A:jS) (outer:List Env) (s:jN) (H:Hp) (vs:aG) (Q:VK) (E:XK),ZO k (A.deeper (envOfC qual (Zm st) s.heap.objs.size f cdv))->sp vs H Q E -> ∃t,WZ (Y9 (Tu P w) P w K mg Z N qual (Zm st) f cdv A outer s H E) (Yw st) t/\t {nx:=λ_ J=>Q .non J,rt:=Q } (start N vs) H):ZX P w K mg Z C m (k+1) sp:=by
 let(f,d,F,M):=h.ex;rwa[f,M,(F.okX S b (a f)).runX (F.binds c)]
theorem ZU.mx{C:jP}{m qual:Str}{st:Stmt}{k:Nat}{sp:Sp}(h:ZU K C m qual st)(N b:jJ)(a:∀{f:jP}{cdv:jO}{A:jS}{outer:List Env}{s:jN}(H:Hp) (vs:aG) (Q:VK) (E:XK),ZO k (A.deeper (envOfC qual (Zm st) s.heap.objs.size f cdv))->sp vs H Q E->vs.9=b.9/\∃t,WZ (Y9 (Tu P w) P w K mg Z N qual (Zm st) f cdv A outer s H E) (Yw st) t/\t {nx:=λ_ J=>Q .non J,rt:=Q } (start N vs) H)(S:autoParam (ZP N b (Zm st)) YC.fq._auto_1)(d:autoParam (k<=60) y3z)(c:autoParam (∀kV doc pm an cdv ct us,us.9=b.9->bindArgs (fnOf m qual (Vc st) (Yw st) (Zm st) .none kV doc pm an cdv ct) (us,[])=pure (b.zip us)) YC.fq._auto_2):ZX P w K mg Z C m (k+1) sp :=
 h.mtX S c (λvs H Q E h=>(a (f:=0) (cdv:=.none) (A:={}) (outer:=[]) (s:={}) H vs Q E (Dv d) h).1) λ_ _ _ _ _ H vs Q E b q=>(a H vs Q E b q).2
end
def nsX(K:uFg)(N:jP):Bool:=match K.lookup N with
 | some ⟨_,_,.dict a _,_⟩=>(a.toList.all λe=>match e.key with | .str _ _=>_t | _=>_x)&&(nsFind a "__init__").isNone
 | _=>_x
def vE:List jO:=[.type "ValueError", .type "Exception", .type "BaseException", .type "object"]
def FC:List (Option jO)->Bool
 | [_,_,_,_,_s v,_]=>v==.builtin "ValueError.__new__"
 | _=>_x
def HV(K:uFg):List jO->Bool
 | .ref M::r=>r==vE&&(match K.lookup M with | some ⟨_,_,.cls a,_⟩=>nsX K a.ns | _=>_x)
 | _=>_x
def A1(K:uFg)(C:jP):Bool:=match K.lookup C with
 | some ⟨c,_,.cls a,b⟩=>(c==.type "type")&&(a.hasDel==_x)&&nsX K a.ns&&FC b.toList&&(match a.mro with | v::r=>(v==.ref C)&&HV K r | _=>_x)
 | _=>_x
def Lp{K:uFg}{h:Heap}{N:jP}(X:K.In h)(e:nsX K N=_t):∃mN,h.Ns N mN/\mN "__init__"=none:=by
 unfold nsX at e;split at e
 .rename_i c d a n b q;rw[yR] at e;erw[nsFind a,(_,a,n,X _ _ q,S,λb a=>?_,λ_=>rfl),Option.isNone_iff_eq_none.mp e.2];let z:=zU.mp e.1 b (Array.mem_toList_iff.mpr a);cases k:b.key with
  | str x t=>rwa[x,t,rfl]
  | _=>rw[k] at z;ext z
 .ext e
def iH:∀{l:List (Option jO)},FC l=_t->∃k0 k1 k2 k3 k5,l=[k0,k1,k2,k3,_s (.builtin "ValueError.__new__"),k5]:=by
 intro l e;unfold FC at e;split at e
 .rwa[_,_,_,_,_,by rw[beq_iff_eq.mp e]]
 .rwa[Bool.noConfusion e]
def IX{K:uFg}{h:Heap}{C:jP}(X:K.In h)(e:A1 K C=_t) :
  ∃nm q N bs bm hdct sn sub ab col dd k0 k1 k2 k3 k5 mN,h.get? C=_s (excClassObj nm q C N bs bm hdct sn sub ab col dd k0 k1 k2 k3 k5 "ValueError.__new__")/\h.Ns N mN/\mN "__init__"=_n/\OwnTail h vE bm:=by
 unfold A1 at e;split at e
 .rename_i c d p o q;simp only[yR] at e;let((((f,g),t),u),b):=e;let f:=beq_iff_eq.mp f;subst f;let(mN,A,z):=Lp X t;let(nm,bs,n,N,E,k,sn,sub,ab,col,m):=p;let g:m=false:=beq_iff_eq.mp g;subst g;cases n with
  | nil=>ext b
  | cons v r =>
   dsimp only at b;rw[yR] at b;let w:=beq_iff_eq.mp b.1;subst w;let a:=b.2;unfold HV at a;split at a
   .rename_i M r;rw[yR] at a;let x:=beq_iff_eq.mp a.1;subst x;let i:=a.2;split at i
    .rename_i G H s F B;let(I,y,j):=Lp X i;let⟨o⟩:=o;let(k0,k1,k2,k3,k5,S):=iH (l:=o) u
     .rwa[nm,E,N,bs,.ref M::vE,k,sn,sub,ab,col,d,k0,k1,k2,k3,k5,mN,X _ _ q,A,z,.own (X _ _ B) y j .base]
    .ext i
   .ext a
 .ext e
def Nq(E:St->XK)(C:jP)(a:TE):TS:=λ_ Y H=>a Y H λ_ a=>E Y (.ref C) _n a
theorem XE(hx:Xp X E)(P:X.calm=_t)(R:X.ex=[])(f:A1 X.K C=_t)(n:Nm X.env.scope x .globalImplicit)(hm:X.mg x=_s (.ref C))(he:QE X e te)(hs:autoParam (_e [e] X.env=[(Prod.mk (_x) (eval e X.env))]) y1z):QS X (.Raise (_s (.Call (.Name x np) [e] [] cpos)) _n pos) (Nq E C te):=⟨by
 intro B s Y H D I h;obtain⟨nm,q,N,bs,G,i,sn,sub,Z,p,dd,k0,k1,k2,k3,k5,mN,hC,hn,hi,T⟩:=IX I.oi f;refine wpAny_Raise_call_subU (C:=C) (N:=N) (nm:=nm) (q:=q) (bs:=bs) (bm:=G) (bmB:=vE) (hdct:=i) (sn:=sn) (sub:=sub) (ab:=Z) (col:=p) (dd:=dd) (k0:=k0) (k1:=k1) (k2:=k2) (k3:=k3) (k5:=k5) (mN:=mN)
  F.excBase_ValueError aA F.excBase_ValueError (T.hasType aA) (I.ok.hd P) (by rw[hs];rfl) hi (BM I n.1 hm ⟨rfl,?_⟩ n.2.1)
 rw[hs];refine mr (mv (thn (he.h B s Y H _ I h) λu m ⟨v,A,j,r1,q1⟩=>mw ?_));have K1:∀b o,X.base.get? b=_s o->m.heap.get? b=_s o:=j.bk;obtain⟨b3,q',N',a3,J,Q,b4,a1,a2,a0,a4,a7,a8,a9,b0,b1,b2,k,a6,a5,T'⟩:=IX j.oi f;have lk:∃o,X.K.lookup C=_s o:=by
  unfold A1 at f;split at f
  .rename_i z;exact⟨_,z⟩
  .cases f
 obtain⟨oC,l⟩:=lk;have z1:=(I.oi _ _ l).symm.trans hC;have z2:=(j.oi _ _ l).symm.trans k;have w:m.heap.get? C=_s (excClassObj nm q C N bs G i sn sub Z p dd k0 k1 k2 k3 k5 "ValueError.__new__"):=by rw[k,<- z2,z1]
 have zz:=w.symm.trans k;have K:N=N':=by grind
 have L:G=J:=by grind
 subst K L;refine⟨rfl,aB rfl,w,?_,T',λh' a g=>?_⟩
 .-- the namespace is the same object
  have W:∃o,X.K.lookup N=_s o:=by
   unfold A1 at f;rw[l] at f;obtain⟨c,d,dt,sl⟩:=oC;cases dt with
   | cls cd =>
    simp only[yR] at f;have r:=f.1.1.2;have K:cd.ns=N:=by grind
    rw[K] at r;unfold nsX at r;split at r
    .rename_i z;exact⟨_,z⟩
    .cases r
   | _=>cases f
  obtain⟨oN,y⟩:=W;obtain⟨o1,O,M,U,r1⟩:=hn;have:=(I.oi _ _ y).symm.trans U;cases this;exact⟨_,O,M,j.oi _ _ y,r1⟩
 .obtain⟨t,e1,e2,r⟩:=g.there;have I2:ZE X B Y A {m with heap:=h' }:=j.kept (t':=m.toks) g.keeps;have fr:∀b,m.heap.get? b=_n->A b=none:=λb z=>by
   cases q:A b with
   | none=>rfl
   | some u=>obtain⟨o,e⟩:=(j.og b u q).ex;rw[z] at e;cases e
  refine hx.h B Y A {m with heap:=h' } a C I2 ⟨fr a g.new,?_,_,_,_,e1,⟨rfl,rfl⟩,rfl,rfl,.inl rfl⟩ q1;cases q:X.s₀.heap.get? a with
  | none=>rfl
  | some o =>
   obtain⟨o',e'⟩:=j.base.there a o q (by rw[R];simp)
   rw[g.new] at e';cases e'⟩
abbrev TJ:=St->Hp->(Hp->Prop)->Prop
def PJ(X:Cx)(es:List Expr)(t:TJ):Prop:=∀(B:List (jP×Obj))(s:jN)(Y:St)(H:Hp)(Q:Hp->Prop)(a:Str),ZE X B Y H s->a.9+es.9 * 1000000<=_z->t Y H Q ->
 Joins (_m X.prog X.w) X.A X.xe (evalEach es X.env) a (λb a=>b.9<=_z/\∃J,ZE X B Y J a/\Q J) s
structure QJ (X:Cx) (es:List Expr) (t:TJ):Prop where
 h:PJ X es t
def fE(n:Nat)(t:TJ):TJ:=λY H Q=>n<=1000000/\t Y H Q
def gY(a:TE)(t:TJ):TJ:=λY H Q=>a Y H λv a=>((∃x,v=.str x/\x.9<=1000000)\/(∃i,v=.int i/\i.natAbs.log2<1920))/\t Y a Q
def Ss(a:TE)(t:TJ):TJ:=λY H Q=>a Y H λv a=>(∃x,v=.str x/\x.9<=10000/\∀c∈x.cps.toList,c<16^8)/\t Y a Q
def bM:TJ:=λ_ H Q=>Q H
def XA(t:TJ):TE:=λY H Q=>t Y H λa=>∀x:Str,Q (.str x) a
theorem Wf:QJ X [] bM:=⟨λB s Y H Q a I b h=>(by simpa using b,H,I,h)⟩
theorem Al(a b:Str):(a++b).9=a.9+b.9:=strLen_append a b
theorem Yt(h:QJ X es t)(c:autoParam (evalEach (.Constant (.str x) j pos::es) X.env=eval (.Constant (.str x) j pos) X.env::evalEach es X.env) y1z):QJ X (.Constant (.str x) j pos::es) (fE x.length t):=⟨by
 intro B s Y H Q a I d b;let(e,b):=b;rw[yH] at d;rw[c];erw[Calls.Constant_str (x,_,rfl,?_,h.h B _ Y H Q (a++x) (I.tok _) ?_ b)]
 .rw[Al];lia
 .rw[Al];lia⟩
theorem Y3(b:QE X e te)(h:QJ X es t)(c:autoParam (evalEach (.FormattedValue e (-1) _n pos::es) X.env=eval (.FormattedValue e (-1) _n pos) X.env::evalEach es X.env) y1z):QJ X (.FormattedValue e (-1) _n pos::es) (gY te t):=⟨by
 intro B s Y H Q a I d f;rw[yH] at d;rw[c];erw[wpAny_FormattedValue_plain (thn (b.h B s Y H _ I f) λu g ⟨v,b,c,d,f,q⟩=>?_)];rcases f with⟨x,rfl,f⟩ | ⟨i,rfl,hi⟩
 .let(g,rfl):=d;erw[formatField_str (λf j=>(x,f,rfl,?_,h.h B _ Y b Q (a++x) (c.tok _) ?_ q)) (by rw[sizeLine_eq];lia)]
  .rw[Al];lia
  .rw[Al];lia
 .let(g,rfl):=d;let a:(Str.ofString (toString i)).9<=1921:=by rw[PySem.ofString_length];rwa[int_text_length_le aA hi]
  erw[wpAny_formatField_int hi (_,_,rfl,?_,h.h B _ Y b Q _ (c.tok _) ?_ q)]
  .rw[Al];lia
  .rw[Al];lia⟩
theorem eW(b:QE X e te)(h:QJ X es t)(c:autoParam (evalEach (.FormattedValue e 114 _n pos::es) X.env=eval (.FormattedValue e 114 _n pos) X.env::evalEach es X.env) y1z):QJ X (.FormattedValue e 114 _n pos::es) (Ss te t):=⟨by
 intro B s Y H Q a I d f;rw[yH] at d;rw[c];erw[wpAny_FormattedValue_repr (thn (b.h B s Y H _ I f) λu a ⟨v,b,c,f,d,q⟩=>?_)];let(x,rfl,g,a):=d;let(d,rfl):=f;let f:=StrLaws.reprText_len x a;let a:(reprText x).9<=sizeLine:=by rw[sizeLine_eq];lia
 erw[wpAny_pyReprObj_gives (x:=reprText x) (typeIs_str _ _ _) F.slot_str_repr F.entry_str_repr (F.args_str_repr_1 _) (gives_str_repr x d) ?_ rfl a];erw[formatField_str (λd f=>(_,d,rfl,?_,h.h B _ Y b Q _ ((c.tok _).tok _) ?_ q)) a]
 .rw[Al];lia
 .rw[Al];lia⟩
theorem Mz(hQ:∀o s,Q o s->Q' o s):∀{l:List (Sem jO)}{a:Str}{s:jN},Joins M A E l a Q s->Joins M A E l a Q' s
 | [],_,_,h=>hQ _ _ h
 | _::_,_,_,h=>wpAny_mono h (λ_ _ ⟨y,t,a,b,c⟩=>(y,t,a,b,Mz hQ c)) λ_ _ z=>z
theorem Wg(h:QJ X (a::e2::es) t)(b:autoParam (es.9<=8) y3z):QE X (.JoinedStr (a::e2::es) pos) (XA t):=⟨by
 intro B s Y H Q I c;let d:(Str.empty).9+(a::e2::es).9 * 1000000<=sizeLine:=by
  have:Str.empty.length=0:=rfl;rw[this,yH,yH,sizeLine_eq];lia
 erw[wpAny_JoinedStr ?_];let b:=h.h B s Y H _ Str.empty I d c
 erw[Mz (λa f ⟨e,c,d,q⟩=>(e,.str a,c,d.tok _,(_,rfl),q a)) b]⟩
open PySem.W PySem.Calls PySem.Builtin PySem.Builtin.ObjectAttr PySem.Builtin.Getset_descriptor
def Fx(K:Frag)(C:jP):Bool:=(clsIn K C).isSome&&(findIn K (.ref C) "__getattribute__"==_s (_s (.builtin "BaseException.__getattribute__")))&&(findIn K (.ref C) "__getattr__"==_s _n)&&(findIn K (.ref C) "__class__"==_s (_s (.builtin "object.__class__"))) &&
 (mroIn K C (.type "object")== _s _t)&&(mroIn K C (.type "BaseException")== _s _t)
section
variable{prog:jQ}{w:jR}{A:jS}{E:jH}{h:Heap}{g:Array GenState}{d:Drawn}{t:Nat}{os:OsState}{a C:jP}{o:Obj}{K:Frag}
end
section
variable{K:Frag}{a C:jP}{o:Obj}
end
abbrev Cx.o9(X:Cx)(a:jP)(o:Obj):Cx:={X with A:=X.A.mark (_s (.ref a)),calm:=_x,pn:=[(a,o)],xe:=λ_ _=>False }
section
variable{X:Cx}{Y:St}{H:Hp}{s:jN}{a C:jP}{o:Obj}
def ZE.o9(I:ZE X [] Y H s)(f:s.heap.get? a=_s o)(g:H a=_n)(b:∃vs,o.data=.fields vs):ZE (X.o9 a o) [] Y H s:=by
 let(vs,b):=b;let(m,(i,d,c,h,e,j),_):=id I.loc;erw[(I.ok.mod,I.ok.kind,I.ok.glob,I.ok.blt,I.ok.above,I.ok.inj,I.ok.has,I.ok.ie,λz=>Bool.noConfusion z,I.ok.frames,I.ok.oS,I.ok.exf,I.ok.bs,I.ok.ib,I.ok.oB,I.ok.ir,I.ok.o7,I.ok.iz),I.os,I.bare,I.base,I.loc,I.cell,I.free,I.ix,λp c=>?_,I.og,I.len];let e:p=(a,o):=by simpa using c
 subst e;erw[f,g,λz=>?_,λz=>?_,λv z=>?_]
 .grind
 .let(_,e,c,d):=I.o7.mem (show a∈X.outer.filterMap (·.frame) from z);rw[f] at c;ext c;rwa[d vs b]
 .grind
theorem ZE.j4(I:ZE (X.o9 a o) [] Y H s)(c:X.Ok)(b:X.pn=[]):ZE X [] Y H s :=
 (c,I.os,I.bare,I.base,I.loc,I.cell,I.free,I.ix,(λp c=>by rw[b] at c;ext c),I.og,I.len)
def Xd{M:Model}{A:jS}{E:jH}{Q:Unit->jN->Prop}(I:ZE X [] Y H s)(c:X.pn=[])(b:X.ex=[])(b:X.stack=X.env::X.outer)(x:Tt X.s₀.heap H s.heap a C)(k:∀h',ZE X [] Y H {s with heap:=h' }->Tt X.s₀.heap H h' a C->Q _u {s with heap:=h' }):_w M A (setFlight (.ref a) _n) Q E s:=by
 let(h,b,j,n,g,f,i,e,l,d):=id x;rcases d with m | d
 .unfold setFlight;erw[_b (_d f e m ?_)];rw[_i aA];rwa[_p (k s.heap I x)]
 .rwa[Gy I c (h,b,j,n,g,f,i,e,l,d) λh' b c=>k h' b c.at_]
end
def JQ(K:uFg)(C D:jP):Option Bool:=if ((PySem.W.clsIn K D).isSome&&(typeIn K (.ref D)== _s (.type "type"))&&(subIn K (.ref D) (.type "BaseException")== _s _t))=_t then subIn K (.ref C) (.ref D) else _n
def Oi{M:Model}{A:jS}{E:jH}{s:jN}{K:uFg}{a C D:jP}{c:Obj}{b:Bool}{Q:Bool->jN->Prop}(X:K.In s.heap)(j:s.heap.get? a=_s c)(i:c.cls=.ref C)(e:JQ K C D=_s b)(q:Q b s):_w M A (excMatches (.ref a) (.ref D)) Q E s:=by
 unfold JQ at e;split at e
 .rename_i z;simp only[yR] at z;let((g,d),f):=z;let c:=PySem.W.looks_typeIn (M:=M) X (beq_iff_eq.mp d);let d:=looks_subIn (M:=M) X (beq_iff_eq.mp f);let f:=looks_subIn (M:=M) X e;let h:PySem.W.Looks M s.heap (isInstance (.ref D) (.type "tuple")) false:=c.andThen (PySem.W.Looks.of_pure tc_notTuple);let(cdD,c):=Option.isSome_iff_exists.mp g;let LT:PySem.W.Looks M s.heap (isType (.ref D)) true:=by
   unfold PySem.W.clsIn at c;split at c
   .rename_i m n g k l;intro g n m o k q;unfold isType loadHead;rwa[_b (wpAny_loadPart (k _ _ (X _ _ l)) (_p q))]
   .ext c
  let LE:PySem.W.Looks M s.heap (isExcClass (.ref D)) true:=LT.andThen d;let c:PySem.W.Looks M s.heap (typeOf (.ref a)) (.ref C):=i▸(PySem.W.Looks.ld j).andThen .now;let(i,g,d,t,os):=s;unfold excMatches;erw[_b (h.at ?_)];simp only[zB,if_false];erw[_b (_p ?_)];simp only[List.forIn_cons,List.forIn_nil];erw[_b (_b (_b (LE.at ?_)))];simp only[Bool.not_true,zB,if_false];erw[_p (_p ?_)];erw[_b (c.at (_b (_b (_b (f.at ?_)))))];cases b with
  | true=>simp only[if_true];rwa[_p (_p (_p q))]
  | false=>simp only[zB,if_false];rwa[_p (_p (_p q))]
 .ext e
def PH(X:Cx)(hs:List ExceptHandler)(t:jP->TS):Prop:=∀(a C:jP)(s:jN)(Y:St)(H:Hp)(D:YF),ZE X [] Y H s->Tt X.s₀.heap H s.heap a C->t C D Y H->_w (_m X.prog X.w) X.A (handleBy (.ref a) X.env hs) (SP X [] D) X.xe s
structure QH (X:Cx) (hs:List ExceptHandler) (t:jP->TS):Prop where
 h:PH X hs t
def iY:jP->TS:=λ_ _ _ _=>False
def NG(K:uFg)(a:jP)(d:TS)(c:jP->TS):jP->TS:=λC D Y H=>∃b,JQ K C a=_s b/\if b=_t then d D Y H else c C D Y H
structure Pl (X:Cx):Prop where
 pn:X.pn=[]
 ex:X.ex=[]
 oS:X.stack=X.env::X.outer
 fr:X.env.frame=_s X.env.locals
section
variable{X:Cx}{x n:Str}{np pos:Pos}{b₀:Stmt}{suite:List Stmt}{rest:List ExceptHandler}{Dc:jP}{tr:jP->TS}
theorem OX:QH X [] iY:=⟨λ_ _ _ _ _ _ _ _ h=>h.elim⟩
def gN{a:jP}{o:Obj}{D:YF}{f:Flow}{s:jN}(c:X.Ok)(b:X.pn=[])(h:SP (X.o9 a o) [] D f s):SP X [] D f s:=by
 cases f with
 | next=>let(Y,H,I,q):=h;rwa[Y,H,I.j4 c b,q]
 | brk=>let(Y,H,I,q):=h;rwa[Y,H,I.j4 c b,q]
 | cont=>let(Y,H,I,q):=h;rwa[Y,H,I.j4 c b,q]
 | ret u=>let(v,Y,H,I,r,q):=h;rwa[v,Y,H,I.j4 c b,r,q]
theorem Pu{b:TS}(p:Pl X)(l:X.mg x=_s (.ref Dc))(j:∀a o,WZ (X.o9 a o) (b₀::suite) b)(m:QH X rest tr)(nm:autoParam (nB X x .globalImplicit) y2z) :
  QH X (.ExceptHandler (_s (.Name x np)) _n (b₀::suite) pos::rest) (NG X.K Dc b tr):=⟨by
 let nm:=od nm;intro a C s Y H D I c h;let(b,e,h):=h;let(g,f,r,t,u,d,i,k,v,_):=id c;let J:=I.o9 d g (t,k);erw[wpAny_handleBy_cons (codeAny_handlers_test (BM (X:=X.o9 a r) J nm.1 l ?_ nm.2.1)) (by intro q;ext q)];erw[Oi J.oi d i.1 e ?_];cases b with
 | false=>rwa[m.h a C s Y H D I c h]
 | true =>
  erw[codeAny_handlers_suite (Xd I p.pn p.ex p.oS c λb i g=>?_)];let(b,_,e,f,_,d,_,c,_):=g
  erw[wpAny_mono ((j a e).h [] _ Y H D (i.o9 d b (f,c)) h) (λf b q=>gN I.ok p.pn q) λ_ _ z=>z.elim]⟩
end
def fS(X:Cx)(st:Stmt)(t:TS):Prop:=∀(s:jN)(Y:St)(H:Hp)(D:YF),ZE X [] Y H s->t D Y H->_w (_m X.prog X.w) X.A (exec st X.env) (SP X [] D) X.xe s
def Rm(X:Cx)(st:List Stmt)(t:TS):Prop:=∀(s:jN)(Y:St)(H:Hp)(D:YF),ZE X [] Y H s->t D Y H->_w (_m X.prog X.w) X.A (execs st X.env) (SP X [] D) X.xe s
structure ET (X:Cx) (st:Stmt) (t:TS):Prop where
 h:fS X st t
structure TX (X:Cx) (st:List Stmt) (t:TS):Prop where
 h:Rm X st t
def PM(a:(St->XK)->TS)(b:jP->TS):TS:=λD Y H=>a (λa c _ J=>∃C,c=.ref C/\b C D a J) D Y H
section
variable{X:Cx}{st:Stmt}{rest:List Stmt}{t u:TS}
theorem QS.q0(h:QS X st t):ET X st t:=⟨λs Y H D I q=>h.h [] s Y H D I q⟩
theorem WZ.q0(h:WZ X rest t):TX X rest t:=⟨λs Y H D I q=>h.h [] s Y H D I q⟩
theorem CF(a:ET X st t)(d:TX X rest u):TX X (st::rest) (Ug t u):=⟨by
 intro s Y H D I h;rw[execs];erw[_b (thn (a.h s Y H _ I h) λf e q=>?_)];cases f with
 | next =>
  let(a,b,c,q):=q;rwa[d.h e a b D c q]
 | brk=>rwa[_p q]
 | cont=>rwa[_p q]
 | ret u=>rwa[_p q]⟩
theorem NO(p:Pl X)(j:∀a b,Xq (X.ja a) b->WZ (X.ja a) body (tb b))(k:QH X (h₀::hs) th):ET X (.Try body (h₀::hs) [] [] pos) (PM tb th):=⟨by
 intro s Y H D I h;refine wpAny_Try_except ?_;have f:∀{a} {Y:St}{H:Hp}{s:jN},ZE X [] Y H s->ZE (X.ja a) [] Y H s:=λI=>⟨⟨I.ok.mod,I.ok.kind,I.ok.glob,I.ok.blt,I.ok.above,I.ok.inj,I.ok.has,I.ok.ie,I.ok.hd,I.ok.frames,I.ok.oS,I.ok.exf,I.ok.bs,I.ok.ib,I.ok.oB,I.ok.ir,I.ok.o7,I.ok.iz⟩,I.os,I.bare,I.base,I.loc,I.cell,I.free,I.ix,I.pin,I.og,I.len⟩;have b:∀{a} {Y:St}{H:Hp}{s:jN}{B:List (jP×Obj)},ZE (X.ja a) B Y H s->ZE X B Y H s:=λI=>⟨⟨I.ok.mod,I.ok.kind,I.ok.glob,I.ok.blt,I.ok.above,I.ok.inj,I.ok.has,I.ok.ie,I.ok.hd,I.ok.frames,I.ok.oS,I.ok.exf,I.ok.bs,I.ok.ib,I.ok.oB,I.ok.ir,I.ok.o7,I.ok.iz⟩,I.os,I.bare,I.base,I.loc,I.cell,I.free,I.ix,I.pin,I.og,I.len⟩;have l:Xq (X.ja λe a=>_w (_m X.prog X.w) X.A (noteFrame e X.env) (λ_ c=>_w (_m X.prog X.w) X.A (setFlight e _n) (λ_ d=>_w (_m X.prog X.w) X.A (handleBy e X.env (h₀::hs)) (SP X [] D) X.xe d) X.xe c) X.xe a)
   λa c _ J=>∃C,c=.ref C/\th C D a J:=⟨.inr ⟨p.ex,⟨λB d g e a C c x q=>by
  obtain⟨m,i,q⟩:=q;cases i;have i:=(b c).oM (pins':=[]) (λp c=>nomatch c)
  exact MG i p.pn p.ex p.oS p.fr x λi c y=>k.h a C _ d g D c y q⟩⟩⟩
 refine wpAny_mono ((j _ _ l).h [] s Y H D (f I) h) (λf e q=>?_) λ_ _ z=>z;have a:SP X [] D f e:=by
  cases f with
  | next=>obtain⟨Y,H,I,q⟩:=q;exact⟨Y,H,b I,q⟩
  | brk=>obtain⟨Y,H,I,q⟩:=q;exact⟨Y,H,b I,q⟩
  | cont=>obtain⟨Y,H,I,q⟩:=q;exact⟨Y,H,b I,q⟩
  | ret u=>obtain⟨v,Y,H,I,r,q⟩:=q;exact⟨v,Y,H,b I,r,q⟩
 cases f with
 | next=>exact _p a
 | brk=>exact a
 | cont=>exact a
 | ret u=>exact a⟩
end
section
variable{P:jQ}{w:jR}{K:uFg}{mg:jI}{Z:Heap}
def Th.ok0{x qual:Str}{st:Stmt}{f:jP}{c:FuncData}{N d:jJ}{k:Nat}{sp:Sp}(F:Th K x qual st f c)(S:ZP N d (Zm st))(b:∀vs H Q E,sp vs H Q E->vs.9=d.9)(a:∀ (cdv:jO) (A:jS) (outer:List Env) (s:jN) (H:Hp) (vs:aG) (Q:VK) (E:XK),ZO k (A.deeper (envOfC qual (Zm st) s.heap.objs.size f cdv))->sp vs H Q E -> ∃t,TX (Y9 VG P w K mg Z N qual (Zm st) f cdv A outer s H E).oG (Yw st) t/\t {nx:=λ_ J=>Q .non J,rt:=Q } (start N vs) H):YG P w K mg Z VG (k+1) f c d sp:=by
 let(j,od,kV,c,l,h,cdv,i,e,rfl,p,g):=F.ex;erw[b,λA outer s H e n vs Q E h e0 l r c=>?_];let m:=b _ _ _ _ c;let j:K.In s.heap:=e0.mod.kin.keeps λb o e=>(e0.bs b o e).1;let i:s.heap.NoLimit:=e0.mod.nolimit.keeps λb o e=>(e0.bs b o e).1;let b:∀y∈d.zip n,(Zm st).names.lookup y.1=_s .local\/((Zm st).names.lookup y.1=_s .cell/\((cellsFrom (s.8+1) (Zm st).names []).lookup y.1).isSome=_t):=λ⟨n,v⟩ d=>by
  rcases S.par n (zE d).1 with q | q
  .rwa[.inl q]
  .rwa[.inr (q,cellsFrom_some _ _ _ (.inl q))]
 erw[codeAny_call_function h.depth (j _ _ p) rfl S.co S.gen rfl (codeRec_of j g) (l _ _ _ _ ?_)];erw[wpAny_newFunctionEnv_cells S.kind b λd g b x=>?_];subst g;erw[i.keeps x.toInCall.keep,codeAny_func ?_];let(t,g,d):=a cdv A outer s H vs Q E (h.deeper _) c;let a:ZE (Y9 VG P w K mg Z N qual (Zm st) f cdv A outer s H E) [] (start N vs) H b:=HB S h.hd e0 m r x;let I:ZE (Y9 VG P w K mg Z N qual (Zm st) f cdv A outer s H E).oG [] (start N vs) H b:=((a.ok.mod,a.ok.kind,a.ok.glob,a.ok.blt,a.ok.above,a.ok.inj,a.ok.has,a.ok.ie,a.ok.hd,a.ok.frames,a.ok.oS,a.ok.exf,a.ok.bs,a.ok.ib,a.ok.oB,a.ok.ir,a.ok.o7,a.ok.iz),a.os,a.bare,a.base,a.loc,a.cell,a.free,a.ix,a.pin,a.og,a.len);erw[wpAny_mono (g.h b (start N vs) H _ I d) (λg a c=>?_) λe a c=>c.elim];let d:∀{b:St}{J:Hp}{v:V}{u:jO},ZE (Y9 VG P w K mg Z N qual (Zm st) f cdv A outer s H E).oG [] b J a->ZH v u->Q v J->CE outer P w H s Q u a :=
  λ{b J v u} a e q=>(v,J,a.os,a.bare,a.base,a.og,e,q)
 cases g with
 | ret u =>
  let(v,b,J,a,e,q):=c;rwa[d a e q]
 | next =>
  let(b,J,a,q):=c;rwa[d (v:=V.non) (u:=Value.none) a rfl q]
 | brk=>let(_,_,_,z):=c;rwa[z.elim]
 | cont=>let(_,_,_,z):=c;rwa[z.elim]
def YC.fn0{x:Str}{st:Stmt}{N b:jJ}{k:Nat}{sp:Sp}(h:YC K mg x st)(S:ZP N b (Zm st))(d:∀ (kV doc pm:jO) (an:Option jP) (cdv ct:jO) (us:jK),us.9=b.9->bindArgs (fnOf x x (Vc st) (Yw st) (Zm st) .none kV doc pm an cdv ct) (us,[])=pure (b.zip us))(c:∀vs H Q E,sp vs H Q E->vs.9=b.9)(a:∀ (f:jP) (cdv:jO) (A:jS) (outer:List Env) (s:jN) (H:Hp) (vs:aG) (Q:VK) (E:XK),ZO k (A.deeper (envOfC x (Zm st) s.heap.objs.size f cdv))->sp vs H Q E -> ∃t,TX (Y9 VG P w K mg Z N x (Zm st) f cdv A outer s H E).oG (Yw st) t/\t {nx:=λ_ J=>Q .non J,rt:=Q } (start N vs) H):Fn P w K mg Z x b (k+1) sp:=by
 let(f,b,F,e):=h;rwa[f,b,e,F.kp,F.binds d,F.ok0 S c (a f)]
end
theorem KI{CX:UO}{P:jQ}{w:jR}{K:uFg}{mg:jI}{Z:Heap}{N:jJ}{qual:Str}{a:Scope}{f:jP}{b:jO}{A:jS}{outer:List Env}{s:jN}{H:Hp}{E:XK} :
  Pl (Y9 CX P w K mg Z N qual a f b A outer s H E).oG:=(S,S,S,S)
structure Er (K:uFg) (mg:jI) (c:jL) (errs:jJ):Prop where
 g:∀x,x∈errs->mg x=_s (.ref (c x))
 x:∀x,x∈errs->A1 K (c x)=_t
 k:∀x,x∈errs->Fx K (c x)=_t
 m:mg "MootError"=_s (.ref (c "MootError"))
 e:∀x,x∈errs->JQ K (c x) (c "MootError")=_s _t
 s:∀x,x∈errs->∀y,y∈errs->JQ K (c x) (c y)=_s (decide (x=y))
 i:∀x,x∈errs->∀y,y∈errs->kitOne K (.ref (c x)) (.ref (c y))=_s (decide (x=y))
 v:∀x,x∈errs->kitOne K (.ref (c x)) (.type "ValueError")=_s _t
theorem Wc{X:Cx}{E:St->XK}{x:Str}{k a pos:Pos}{e:Expr}{h:TE}{c:jL}{es:jJ}(j:Xp X E)(f:Er X.K X.mg c es)(i:QE X e h)(g:autoParam (decide (x∈es)=true) y2z)(n:autoParam (nB X x .globalImplicit) y2z)(b:autoParam (X.calm=true) y1z)(d:autoParam (X.ex=[]) y1z)(hs:autoParam (_e [e] X.env=[(_x,eval e X.env)]) y1z):QS X (.Raise (_s (.Call (.Name x k) [e] [] a)) _n pos) (Nq E (c x) h):=XE j b d (f.x x (od g)) (od n) (f.g x (od g)) i hs
abbrev lxE(X:Cx)(E:St->XK):jO->jN->Prop:=λ(e:jO) (s':jN)=>∃ Y H a C,e=.ref a/\ZE X [] Y H s'/\Tt X.s₀.heap H s'.heap a C/\E Y (.ref C) _n H
abbrev Cx.lx(X:Cx)(E:St->XK):Cx:=X.ja (lxE X E)
theorem OI{X:Cx}{st:Stmt}{t:TS}{E:St->XK}(p:Pl X)(w:Xp X E)(h:Xq (X.lx E) E->Xp (X.lx E) E->PassesOwn (_m X.prog X.w) X.A X.env (lxE X E)->QS (X.lx E) st t):QS X st t:=⟨by
 intro B s Y H D I q;have j:∀{a} {Y:St}{H:Hp}{s:jN}{B:List (jP×Obj)},ZE X B Y H s->ZE (X.ja a) B Y H s:=λI=>⟨⟨I.ok.mod,I.ok.kind,I.ok.glob,I.ok.blt,I.ok.above,I.ok.inj,I.ok.has,I.ok.ie,I.ok.hd,I.ok.frames,I.ok.oS,I.ok.exf,I.ok.bs,I.ok.ib,I.ok.oB,I.ok.ir,I.ok.o7,I.ok.iz⟩,I.os,I.bare,I.base,I.loc,I.cell,I.free,I.ix,I.pin,I.og,I.len⟩;have b:∀{a} {Y:St}{H:Hp}{s:jN}{B:List (jP×Obj)},ZE (X.ja a) B Y H s->ZE X B Y H s:=λI=>⟨⟨I.ok.mod,I.ok.kind,I.ok.glob,I.ok.blt,I.ok.above,I.ok.inj,I.ok.has,I.ok.ie,I.ok.hd,I.ok.frames,I.ok.oS,I.ok.exf,I.ok.bs,I.ok.ib,I.ok.oB,I.ok.ir,I.ok.o7,I.ok.iz⟩,I.os,I.bare,I.base,I.loc,I.cell,I.free,I.ix,I.pin,I.og,I.len⟩;have l:PassesOwn (_m X.prog X.w) X.A X.env (lxE X E):=by
  rintro e u ⟨c,d,a,C,rfl,g,k,i⟩;refine GO g p.pn p.ex p.oS p.fr k λo m f _=>?_;obtain⟨y,n,F,M,x,t,z,r,K,T,A,J,L,v,G⟩:=id f;show _w _ _ (field (.ref a) 1 >>= _) _ _ _;refine _b (_d t r v ?_);rw[_i (show ¬((Value.ref T==Value.none)=_t) from by simp)];exact Gy (s:={u with heap:=o }) m p.pn f λn f m=>⟨c,d,a,C,rfl,f,m.at_,i⟩
 have f:Xp (X.lx E) E:=⟨λB c d m a C g k i=>by exact⟨c,d,a,C,rfl,(b g).oM (λp l=>nomatch l),k,i⟩⟩;refine wpAny_mono ((h ⟨.inr ⟨p.ex,f⟩⟩ f l).h B s Y H D (j I) q) (λf m q=>?_) λe m z=>?_
 .cases f with
  | next=>obtain⟨Y,H,I,q⟩:=q;exact⟨Y,H,b I,q⟩
  | brk=>obtain⟨Y,H,I,q⟩:=q;exact⟨Y,H,b I,q⟩
  | cont=>obtain⟨Y,H,I,q⟩:=q;exact⟨Y,H,b I,q⟩
  | ret u=>obtain⟨v,Y,H,I,r,q⟩:=q;exact⟨v,Y,H,b I,r,q⟩
 .obtain⟨c,d,a,C,rfl,g,k,i⟩:=z
  exact w.h [] c d m a C g k i⟩
theorem El{X:Cx}{c a:Expr}{b:List Stmt}{d:TI}{g:TG}{t:TS}{pos:Pos}{E:St->XK}(p:Pl X)(j:Xp X E)(f:X.calm=_t)(i:QI (X.lx E) c a d)(h:QG (X.lx E) c g)(e:Xq (X.lx E) E->Xp (X.lx E) E->WZ (X.lx E) b t)(hs:autoParam (∀x,foldedSetIterable a X.env x=pure x) y5z):QS X (.For c a b [] pos) (GT d g t):=OI p j λb a c=>Y5 (X:=X.lx E) c f i h (e b a) hs
section
variable{X:Cx}
end
section
variable{P:jQ}{w:jR}{A:jS}{E:jH}{s:jN}
end
section
variable{X:Cx}{B:List (jP×Obj)}{Y:St}{H:Hp}{s:jN}
def ZE.freeze{d:jP}{o:Obj}{U:List (ZN×V)}(I:ZE X B Y H s)(e:H d=_s (.dK U))(a:s.heap.get? d=_s o):ZE X B Y (upd H d (.frz o (.dK U))) s:=by
 let h:=I.write (h':=s.heap) (t':=s.toks) (x:=d) (e:=d) (o:=.frz o (.dK U)) (by rw[e];rwa[True.intro]) (.inl S) (λ_ _ _ q=>q) (o,a) (a,?_)
 .rwa[h]
 .let(z,y,a,r,q):=(show ZM X.prog X.w H s.heap d (.dK U) from I.og d _ e);rwa[z,y,a,r,q]
theorem ZE.nofrz{d:jP}{U:List (ZN×V)}(I:ZE X B Y H s)(e:H d=_s (.dK U)):∀o u,X.H₀ d≠_s (.frz o u):=λo u z=>by
 have:=I.base.o6 d o u z;rw[e] at this;ext this
def ZE.thaw{d:jP}{o:Obj}{U:List (ZN×V)}(I:ZE X B Y H s)(e:H d=_s (.frz o (.dK U)))(j:∀o u,X.H₀ d≠_s (.frz o u)):ZE X B Y (upd H d (.dK U)) s:=by
 let a:∀b u,H b=_s u->(∀x,u ≠ .frz o x)->b≠d:=λb u q n z=>by rw[z,e] at q;rwa[n _ (ma q).6]
 let f:∀b,H b=_n->b≠d:=λb q z=>by rw[z,e] at q;ext q
 erw[I.ok,I.os,I.bare,(I.base.keep,I.base.slot,λb g q n i=>?_,I.base.there,λb L q=>?_,λb g u q=>?_,λb k q=>?_),I.loc,I.cell,?_,λx c q=>?_,λp h=>?_,λb u q=>?_,I.len]
 .have:=I.base.free b g q n i;rw[Zd (f b this)];rwa[this]
 .have:=I.base.j3 b L q;rw[Zd (a b _ this λ_ z=>nomatch z)];rwa[this]
 .have:=I.base.o6 b g u q;rw[Zd (λz=>j g u (by rw[<- z];rwa[q]))];rwa[this]
 .let(m,g):=I.base.oW b k q;rwa[m,by rw[Zd (a b _ g λ_ z=>nomatch z)];rwa[g]]
 .rw[Zd (f _ I.free)];rwa[I.free]
 .rw[Zd (f _ (I.ix x c q))];rwa[I.ix x c q]
 .let(i,g,j,k,l):=I.pin p h;rwa[i,by rw[Zd (f _ g)];rwa[g],j,k,l]
 .by_cases f:b=d
  .subst f;rw[Zi] at q;ext q;let(_,z,y,g,r,c):=(show ZM X.prog X.w H s.heap b (.frz o (.dK U)) from I.og b _ e);rwa[z,y,g,r,c]
  .rw[Zd f] at q;erw[(I.og b u q).oR (λ_ _ _ z=>z) (λc z=>?_) λc L z=>?_]
   .rw[Zd (a c _ z λ_ y=>nomatch y)];rwa[z]
   .rw[Zd (a c _ z λ_ y=>nomatch y)];rwa[z]
end
section
variable{te:TE}
inductive CG(te:TE)(Y:St)(H:Hp)(Q:VK):Prop
 |mk(d U)(_:H d=_s (.dK U))(_:∀o,te Y (upd H d (.frz o (.dK U))) λv J=>J d=_s (.frz o (.dK U))/\Q v (upd J d (.dK U)))
theorem eO(h:QE X e te):QE X e (CG te):=⟨by
 intro B s Y H Q I q;let(d,U,a,q):=q;let(z,y,i,r,o,g,f,b,c):=(show ZM X.prog X.w H s.heap d (.dK U) from I.og d _ a);let c:=I.nofrz a
 rwa[thn (h.h B s Y _ _ (I.freeze a b) (q o)) λu i ⟨x,g,a,f,b,d⟩=>(x,_,a.thaw b c,f,d)]⟩
end
def Fq(d:jP)(o:Obj)(U:List (ZN×V)):It :=
 (λi H=>H d=_s (.frz o (.dK U))/\i<U.9,λi H v J=>J=H/\∃p,U[i]?=_s p/\v=kV p.1,λi H=>H d=_s (.frz o (.dK U))/\U.9<=i)
def OD(h:(We P w).is k v=_t):ZH (kV k) v:=by
 cases k with
 | inl i =>
  ext v<;>first
   | rwa[_a (show _x=_t from h) xJ]
   | skip
  rename_i j t;let e:j=i:=by
   let h:(j==i)=true:=h;rwa[eq_of_beq h]
  rwa[t,by rw[e]]
 | inr x =>
  ext v<;>first
   | rwa[_a (show _x=_t from h) xJ]
   | skip
  rename_i j t;let e:j=x:=by
   let h:(j==x)=true:=h;rwa[eq_of_beq h]
  rwa[t,by rw[e]]
def KV.get{κ:Type}:∀{U:List (κ×V)}{vs:List (κ×jO)}{i:Nat}{p:κ×V}{q:κ×jO},KV U vs->U[i]?=_s p->vs[i]?=_s q->p.1=q.1/\ZH p.2 q.2:=by
 intro U vs i p q r;unfold KV at r
 induction r generalizing i with
 | nil=>intro h;simp at h
 | cons h t c =>
  intro a b;cases i with
  | zero =>
   let a:_s _=_s p:=a;let b:_s _=_s q:=b;ext a;ext b;rwa[h]
  | succ i=>rwa[c (i:=i) a b]
def ON{P:jQ}{w:jR}{K:uFg}{a:Expr}(it d:jP)(o:Obj)(U:List (ZN×V))(vs:List (ZN×jO))(ep:Nat)(j:d≠it)(g:KV U vs)(R:∀h:Heap,h.get? d=_s o->h.DictAt (We P w) d vs ep) :
  VJ P w K a (Fq d o U) [it] it (λi h=>h.IsKeyIter it d i vs.length ep) where
 mem:=by simp
 obj:=λi h st b c=>by
  let e:b=it:=by simpa using c
  subst e;let(a,N,m,f):=st;rwa[a,N,λv q=>by rw[f] at q;ext q]
 keep:=λi h l st k=>st.at λa q=>k it (by simp) a q
 item:=by
  intro X L Q J m i B s Y H E I r st M;subst L Q J;let(y,z,f2,C,F,G):=r it (by simp);let(u,t):=M;let(f,_):=(show ZM X.prog X.w H s.heap d (.frz o (.dK U)) from I.og d _ u);let W:=Walks.dictKeys (prog:=X.prog) (w:=X.w) (A:=X.A) (knd:=We X.prog X.w) (I.ok.hd m) it d j vs ep;erw[W.item i s _ _ (by rw[<- g.9];rwa[t]) (st,R _ f) λv l Z p j O=>?_];let(k,x,hx,hk):=p;let I1:ZE X B Y H {s with heap:=l,toks:=Z }:=I.turned (λb a c e=>O b a (by simpa using c) e) y z C F G;let(a,N,v,x):=id j.1;obtain⟨p,T⟩:∃p,U[i]?=_s p:=(_,xC t);let O:p.1=k:=(KV.get g T hx).1;erw[_,S,B1 (s:={s with heap:=l,toks:=Z }) (n:="dict_keyiterator") N v x aA (kV p.1,H,I1,by rw[O];rwa[OD hk],(S,p,T,S),j.1,λb c=>(r b c).1)]
 done:=by
  intro X L Q J m i B s Y H E I r st M;subst L Q J;let(y,z,f2,C,F,G):=r it (by simp);let(u,t):=M;let(f,_):=(show ZM X.prog X.w H s.heap d (.frz o (.dK U)) from I.og d _ u);rwa[wpAny_pyNext_dict_end (I.ok.hd m) st (R _ f) (wU (by rw[<- g.9];rwa[t])) λl f=>(S,I.turned (t':=s.toks) (λb a c e=>f b a c e) y z C F G)]
 self:=λ_ _ _ _ _ st h=>wpAny_pyIter_keyiter st h
section
variable{te:TE}
inductive Bo(R:It->Hp->Prop)(x:V)(a:Hp):Prop
 |mk(d o U)(_:x=.ref d)(_:a d=_s (.frz o (.dK U)))(_:R (Fq d o U) a)
def bF(te:TE):TI:=λY H R=>te Y H λx a=>Bo R x a
theorem gQ(a:QE X l te):QI X tg l (bF te):=⟨by
 intro B s Y H R I h;refine thn (a.h B s Y H _ I h) λu f ⟨x,k,i,b,d,o,U,a,e,q⟩=>?_;subst a;obtain rfl:u=Value.ref d:=b;obtain⟨a,z,g,p,j,n,r,m,b,c⟩:=(show ZM X.prog X.w k f.heap d (.frz o (.dK U)) from i.og d _ e);rw[a] at b;cases b;have n:∀h:Heap,h.get? d=_s o->h.DictAt (We X.prog X.w) d p m:=λh e=>⟨o,r,e,c⟩;refine wpAny_pyIter_dict g (n _ a) ?_;have c:d<f.8:=xP a;refine⟨f.8,[f.8],_,_,k,rfl,i.kept (t':=f.toks) λb a e=>xB _ e,ON f.heap.objs.size d o U p m (yG c) j n,⟨_,xI _ rfl,rfl,rfl⟩,λb a=>?_,q⟩;have e:b=f.8:=by simpa using a
 subst e
 exact i.iw (xE _) (i.og.fresh (xE _))⟩
end
def OA(Pv:Nat->List V->Hp->Prop)(e:Pv 0 [] H)(h:U.9<=1000000)(c:∀i ys H,i<=U.9->Pv i ys H->H d=_s (.frz o (.dK U)))(b:∀i ys H,Pv i ys H->ys.9<=i)(step:∀i p ys H,U[i]?=_s p->Pv i ys H->Vd nl fv g tt te (kV p.1) H (λy J=>Pv (i+1) (ys ++ [y]) J) λJ=>Pv (i+1) ys J)(f:∀ys H,Pv U.length ys H->∀l,H l=_n->Q (.ref l) (upd H l (.lst ys))) :
  Vz (Fq d o U) nl fv g tt te Q H:=by
 let a:(U.map λp=>kV p.1).9=U.9:=xA ..;erw[CV (L:=U.map λp=>kV p.1) Pv e (by rw[a];rwa[h]) ?_ ?_ ?_ b ?_ ?_]
 .intro i H ys b p;rw[a] at b;rwa[c i ys H (yS b) p,b]
 .rintro i H x J ys b p ⟨rfl,q,e,rfl⟩;rwa[rfl,by rw[xF,e];rfl]
 .intro H ys p;rw[a] at p |-;rwa[c _ ys H (xE _) p,xE _]
 .grind
 .intro ys H p;rw[a] at p;rwa[f ys H p]
inductive CC(K:uFg)(L:aG)(H:Hp)(Q:VK):Prop
 |mk(a) (ns)(_:L=[.ref a])(_:ZG K H a (ns.map V.int))(_:ns ≠ [])(_:∀m,m∈ns->(∀x∈ns,x<=m)->Q (.int m) H)
def Ri:∀{us:jK},ZJ (ns.map V.int) us->∃L:List (Int×Tok),L.map (·.1)=ns/\us=L.map λp=>Value.int p.1 p.2:=by
 induction ns with
 | nil=>intro us r;ext r;rwa[[],S,rfl]
 | cons n ns c =>
  intro us r;cases r with
  | cons a d =>
   let(t,S):=a;let(L,a,b):=c d;rwa[(n,t)::L,by rw[yD,a],by rw[yD,b]]
theorem eZ(g:X.calm=_t):QC X (.builtin "max") (CC X.K):=⟨by
 intro B s Y H L a Q I r h;obtain⟨a,f,rfl,b,c,q⟩:=h;obtain⟨u,rfl,c⟩:=Up r;cases c;obtain⟨c,e,p,_⟩:=I.list b;obtain⟨b,c,d⟩:=Ri e;subst d;have d:s.heap.IsList a (intItems b.4):=by
  have:=p.isList;have e:intItems b.4=(b.map λp=>Value.int p.1 p.2).4:=by unfold intItems;simp
  rw[e];exact this
 have a:0<b.toArray.5:=by grind
 refine max_intList (I.ok.hd g) d a λv d e a k=>?_;obtain⟨e,d⟩:=argBest_gt (numAt b.4) (b.toArray.5 - 1);generalize argBest (λi j=>decide (numAt b.toArray i > numAt b.toArray j)) (b.toArray.5 - 1)=j at a e d;obtain⟨t,rfl⟩:=intItems_at a;have num:∀i:Nat,i<b.9->f[i]?=_s (numAt b.toArray i):=λi a=>by
  rw[<- c,xF];unfold numAt;rw[List.getElem?_toArray,xC a];rfl
 have e:b.toArray.5=b.9:=xU ..;have e:f.9=b.9:=by rw[<- c,xA]
 refine⟨.int (numAt b.toArray j),H,I.kept k,⟨t,rfl⟩,q _ (xN (num j ())) λx c=>?_⟩;obtain⟨i,a⟩:=wE c;have c:i<b.9:=by have:=(xH.mp a).1;lia
 rw[num i c] at a;cases a
 exact d i ()⟩
section
variable{o:Expr}{te:TE}
end
def NM(n:Nat)(f:Nat->Option (List V))(Pv:Nat->List V->Hp->Prop)(j:Pv 0 [] H)(a:n<=1000000)(c:∀i H ys,i<n->Pv i ys H->Jqz.go i H)(k:∀i H x J ys,i<n->Pv i ys H->Jqz.jb i H x J->∃p us,f i=_s us/\x=.ref p/\H p=_n/\J=upd H p (.tup us))(a:∀H ys,Pv n ys H->Jqz.stop n H)(a:∀i ys H,Pv i ys H->ys.9<=i)(step:∀i us p ys H,i<n->f i=_s us->Pv i ys H->H p=_n->Vd nl fv g tt te (.ref p) (upd H p (.tup us)) (λy J=>Pv (i+1) (ys ++ [y]) J) λJ=>Pv (i+1) ys J)(b:∀ys H,Pv n ys H->∀l,H l=_n->Q (.ref l) (upd H l (.lst ys))) :
  Vz Jqz nl fv g tt te Q H:=by
 let b:∀{x:V}{H:Hp}{Y e:V->Hp->Prop}{N d:Hp->Prop},Vd nl fv g tt te x H Y N->Y=e->N=d->Vd nl fv g tt te x H e d:=λh d e=>by subst d;subst e;rwa[h]
 erw[λi m ys H=>m=n - i/\i<=n/\Pv i ys H,(n,by simp,yJ _,j),?_];rintro i m ys H ⟨rfl,d,p⟩;let d:=a i ys H p;let a:(1000000:Nat)<sizeLine:=by decide
 by_cases a:i<n
 .erw[.inr (c i H ys a p,(),n - (i+1),(),λx J y=>?_)];let(q,us,c,S,d,S):=k i H x J ys a p y;erw[b (step i us q ys H a c p d) ?_ ?_]
  .grind
  .grind
 .grind
def iL{K:uFg}{l:jP}{d:Nat}{b:St}{g:TG}{f:Tw}{e:TE}{Q:VK}{H:Hp}(L:aG)(Pv:Nat->List V->Hp->Prop)(h:Pv 0 [] H)(k:L.9<=1000000)(c:∀i ys H,i<=L.9->Pv i ys H->ZG K H l L)(a:∀i ys H,Pv i ys H->ys.9<=i)(step:∀i x p ys H,L[i]?=_s x->Pv i ys H->H p=_n->Vd d b g f e (.ref p) (upd H p (.tup [.int i,x])) (λy J=>Pv (i+1) (ys ++ [y]) J) λJ=>Pv (i+1) ys J)(j:∀ys H,Pv L.length ys H->∀l,H l=_n->Q (.ref l) (upd H l (.lst ys))) :
  Vz (DM K l) d b g f e Q H:=by
 erw[NM L.length (λi=>(L[i]?).map λx=>[.int i,x]) Pv h k (λi H ys b p=>(L,c i ys H (yS b) p,b)) ?_ (λH ys p=>(L,c _ ys H (xE _) p,xE _)) a ?_ j]
 .rintro i H x J ys b p ⟨q,a,rfl,e,rfl,d⟩;rwa[q,_,by rw[d L (c i ys H (yS b) p)];rfl,S,e,rfl]
 .grind
def KF{K:uFg}{a:jP}{L:aG}{e:Nat}{d:St}{g:TG}{h:Tw}{f:TE}{Q:VK}{H:Hp}(Pv:Nat->List V->Hp->Prop)(j:Pv 0 [] H)(m:L.9<=1000000)(c:∀i ys H,i<=L.9->Pv i ys H->ZR K H a L)(b:∀i ys H,Pv i ys H->ys.9<=i)(step:∀i x ys H,L[i]?=_s x->Pv i ys H->Vd e d g h f x H (λy J=>Pv (i+1) (ys ++ [y]) J) λJ=>Pv (i+1) ys J)(k:∀ys H,Pv L.length ys H->∀l,H l=_n->Q (.ref l) (upd H l (.lst ys))) :
  Vz (GA K a) e d g h f Q H:=by
 erw[CV (L:=L) Pv j m ?_ ?_ ?_ b step k]
 .intro i H ys b p;rwa[L,L[i],c i ys H (yS b) p,by simp[b]]
 .rintro i H x J ys b p ⟨rfl,y⟩;rwa[rfl,y L (c i ys _ (yS b) p)]
 .intro H ys p;rwa[L,c _ ys H (xE _) p,xE _]
section
variable{X:Cx}
inductive Bt(K:uFg)(L:aG)(H:Hp)(Q:VK):Prop
 |mk(p ys)(_:L=[.ref p])(_:((ZG K H p ys/\∀l,H l=_n->Q (.ref l) (upd H l (.tup ys)))\/(ZR K H p ys/\Q (.ref p) H)))
theorem QK:QC X (.type "tuple") (Bt X.K):=.imp ⟨Qk⟩ λ_ _ _ ⟨p,y,a,b⟩=>(p,y,a,b)
end
section
variable{X:Cx}{tg iter e:Expr}{es ifs:List Expr}{scope:Scope}{pos cpos np:Pos}{locs:jJ}{fr:List (Str×Nat)}{g:TG}{tt:Tw}{t:TA}{x:Str}
end
theorem Dj{P:jQ}{w:jR}{K:uFg}{mg:jI}{Z:Heap}{N:jJ}{qual:Str}{a:Scope}{f:jP}{b:jO}{A:jS}{outer:List Env}{s:jN}{H:Hp}{E:XK} :
  Pl (Y9 (Tu P w) P w K mg Z N qual a f b A outer s H E):=(S,S,S,S)
inductive JR(K:uFg)(x y:V)(H:Hp)(Q:VK):Prop
 |mk(b p) (c) (n) (vs)(_:x=.ref b)(_:H b=_s (.tup [.int c,.str n]))(_:y=.ref p)(_:ZG K H p vs)(_:∀v∈vs,v=.non\/∃a d e,v=.ref a/\H a=_s (.tup [.int d,.str e]))(_:∀z:Bool,(z=_t↔∃a,V.ref a∈vs/\H a=_s (.tup [.int c,.str n]))->Q (.bl (!z)) H)
theorem Lv{B:List (jP×Obj)}{Y:St}{H:Hp}{s:jN}{A:jS}{b:jP}{c:Int}{n:Str}(I:ZE X B Y H s)(g:A.units<cLine)(j:H b=_s (.tup [.int c,.str n])) :
  ∀{vs:aG}{us:jK},(∀v∈vs,v=.non\/∃a f i,v=.ref a/\H a=_s (.tup [.int f,.str i]))->ZJ vs us->(∀u∈us,SeqAt.EqAt A s u (.ref b) (BS H c n u))/\(us.any (BS H c n)=_t↔∃a,V.ref a∈vs/\H a=_s (.tup [.int c,.str n]))
 | [],us,h,r=>by
  ext r;rwa[(λu g=>nomatch g),(by simp)]
 | v::vs,us,h,r=>by
  cases r with
  | cons l e =>
   rename_i o d;let(k,m):=Lv I g j (λx d=>h x (xM _ d)) e;rcases h v xZ with rfl | ⟨a,f,i,rfl,h1⟩
   .ext l;let(e,h,p,d):=I.tuple (ZR.of j);erw[λu d=>?_,?_]
    .rcases xD.mp d with rfl | d
     .rwa[SeqAt.EqAt.none_tuple (show s.heap.IsTuple b e.4 from p) g]
     .rwa[k u d]
    .rw[mi];show (_x || _)=_t↔_;rw[Bool.false_or,m];rwa[λ⟨a,m,e⟩=>(a,xM _ m,e),λ⟨a,m,e⟩=>(a,(xD.mp m).elim (λz=>nomatch z) id,e)]
   .obtain rfl:o=Value.ref a:=l;let e:BS H c n (.ref a)=decide ((Prod.mk (f) (i))=(Prod.mk (c) (n))):=by
     show (match H a with | some (.tup [.int f,.str i])=>decide ((Prod.mk (f) (i))=(Prod.mk (c) (n))) | _=>_x)=_;rw[h1]
    erw[λu d=>?_,?_]
    .rcases xD.mp d with rfl | d
     .rw[e];rwa[Pa I g h1 j]
     .rwa[k u d]
    .grind
theorem Iv(h:ZO k X.A):WC X (_c .NotIn) (JR X.K):=⟨by
 intro B s Y H x y v u Q I j l (b,p,c,n,i,a,e,d,g,f,q);let i:X.A.units+1<cLine:=by have:=h.units;lia
 subst a d;obtain rfl:v=Value.ref b:=j;obtain rfl:u=Value.ref p:=l;let(a,r,h,b):=I.list g;let(b,d):=Lv (A:=X.A.in1) I (by show X.A.units+1<cLine;rwa[i]) e f r;erw[SeqAt.notIn_listAt (BS H c n) h.isList (λw e=>b w (by simpa using e)) (.bl _,H,I,rfl,?_)];rw[show a.toArray.any (BS H c n)=a.any (BS H c n) by simp]
 rwa[q _ d]⟩
def JK(a:Nat->Nat->(Bool->jN->Prop)->jN->Prop)(r:Nat->Nat)(N:Nat)(s:jN):Prop:=∀i j C,i<N->j<N->C (decide (r i<r j)) s->a i j C s
def kp(r:Nat->Nat)(p:Array Nat)(i:Nat):Nat:=r (p.getD i 0)
def Pm(N:Nat)(p:Array Nat):Prop:=p.toList.Perm (List.range N)
def WB(r:Nat->Nat)(p:Array Nat)(m:Nat):Prop:=∀i,i+1<m->kp r p i<=kp r p (i+1)
def BU(r:Nat->Nat)(p:Array Nat)(m:Nat):Prop:=∀i,i+1<m->kp r p (i+1)<=kp r p i
section
variable{s:jN}{r:Nat->Nat}{N:Nat}{p:Array Nat}
def Pm.size(h:Pm N p):p.5=N:=by
 have:=h.length_eq;rw[wQ] at this;simpa using this
def Pm.lt(h:Pm N p)(a:i<N):p.getD i 0<N:=by
 let b:i<p.5:=by rw[h.5];rwa[a]
 let e:p.getD i 0=p[i]:=by simp[Array.getD,b]
 let m:p[i]∈p.toList:=by simp
 rw[e];rwa[zN.mp (h.mem_iff.mp m)]
theorem Pm.rev(h:Pm N p)(i j:Nat):Pm N (kas_rev p i j):=(Array.perm_iff_toList_perm.mp (mirror_perm p i j _)).trans h
theorem Pm.bub(h:Pm N p)(i d:Nat):Pm N (bubble p i d):=(Array.perm_iff_toList_perm.mp (bubble_perm p i d)).trans h
def BX(h:p[i]?=q[j]?):kp r p i=kp r q j:=by
 unfold kp;rw[zW,zW,h]
def Fc(h:Pm N p)(a:j<=N):kp r (kas_rev p i j) k=if i<=k/\k<j then kp r p (i+j - 1 - k) else kp r p k:=by
 let e:=getElem?_mirror_all (xs:=p) (i:=i) (j:=j) (by rw[h.5];rwa[a]) k
 by_cases c:i<=k/\k<j
 .rw[_j c] at e |-;rwa[BX e]
 .rw[_i c] at e |-;rwa[BX e]
def IC(h:Pm N p)(a:k<N)(b:l<=k):kp r (bubble p k (k - l)) i=if i=l then kp r p k else if l<i/\i<=k then kp r p (i - 1) else kp r p i:=by
 let e:=getElem?_bubble (xs:=p) (src:=k) (by rw[h.5];rwa[a]) (k - l) () i;let x:k - (k - l)=l:=by lia
 rw[x] at e
 by_cases c:i=l
 .rw[_j c] at e |-;rwa[BX e]
 .rw[_i c] at e |-
  by_cases d:l<i/\i<=k
  .rw[_j d] at e |-;rwa[BX e]
  .rw[_i d] at e |-;rwa[BX e]
theorem FE(b:JK cmp r N s)(a:Pm N p):∀f n,1<=n->n+f<=N->WB r p n->(∀m,n<=m->m<=n+f->WB r p m->(m<n+f->kp r p m<kp r p (m - 1))->Q m s)->(kas_asc p f n).kasWp cmp Q s
 | 0,n,c,d,g,k=>k n (xE _) (xE _) g (λz=>by lia)
 | f+1,n,c,d,g,k=>by
  erw[b _ _ _ (a.lt ()) (a.lt ()) ?_]
  by_cases c:r (p.getD n 0)<r (p.getD (n - 1) 0)
  .rw[yE c];rwa[k n (xE _) () g λ_=>c]
  .rw[yM c];erw[FE b a f (n+1) () () (λi a=>?_) λm a b u d=>k m () () u (λz=>d ())]
   by_cases e:i+1<n
   .rwa[g i e]
   .have:i=n - 1:=by lia
    subst this;rw[show n - 1+1=n by lia];unfold kp;lia
def FH(h:Pm N p)(b:n<=N)(c:∀i,a<=i->i<n->kp r p i=kp r p (n - 1)):kp r (kas_rev p a n) k=kp r p k:=by
 rw[Fc h b]
 by_cases c:a<=k/\k<n
 .grind
 .rw[_i c]
theorem DD(o:JK cmp r N s):∀f p n q,Pm N p->1<=n->n+f<=N->q+1<=n->BU r p n->(∀k,n - (q+1)<=k->k<n->kp r p k=kp r p (n - 1))->
  (∀j m l,Pm N j->n<=m->m<=n+f->l+1<=m->BU r j m->(∀k,m - (l+1)<=k->k<m->kp r j k=kp r j (m - 1))->Q (j,m,l) s)->(kas_desc f p n q).kasWp cmp Q s
 | 0,p,n,q,h,a,b,w,t,u,k=>k p n q h (xE _) (xE _) w t u
 | f+1,p,n,q,h,a,b,w,t,u,k=>by
  erw[o _ _ _ (h.lt ()) (h.lt ()) ?_]
  by_cases c:r (p.getD n 0)<r (p.getD (n - 1) 0)
  .rw[yE c];let step:BU r p (n+1):=λi v=>by
    by_cases e:i+1<n
    .rwa[t i e]
    .have:i=n - 1:=by lia
     subst this;rw[show n - 1+1=n by lia];unfold kp;lia
   show (if _t=_t then (if q > 0 then kas_desc f (kas_rev p (n - (q+1)) n) (n+1) 0 else kas_desc f p (n+1) 0) else _).kasWp cmp Q s;rw[_j S]
   by_cases z:q > 0
   .rw[_j z];let same:∀k,kp r (kas_rev p (n - (q+1)) n) k=kp r p k:=λk=>FH h () u;erw[DD o f _ (n+1) 0 (h.rev _ _) () () () (λi v=>?_) (λk a b=>?_) λj m l a b x d e g=>k j m l a () () d e g]
    .rw[same,same];rwa[step i v]
    .have:k=n+1 - 1:=by lia
     rw[this]
   .rw[_i z];erw[DD o f p (n+1) 0 h () () () step (λk a b=>?_) λj m l a b x d e g=>k j m l a () () d e g];have:k=n+1 - 1:=by lia
    rw[this]
  .rw[yM c];show (if _x=_t then _ else KasT.ask (p.getD (n - 1) 0) (p.getD n 0) λd=>if d=_t then .ret (p,n,q) else kas_desc f p (n+1) (q+1)).kasWp cmp Q s;rw[_i xJ];erw[o _ _ _ (h.lt ()) (h.lt ()) ?_]
   by_cases d:r (p.getD (n - 1) 0)<r (p.getD n 0)
   .rw[yE d];rwa[k p n q h (xE _) () w t u]
   .rw[yM d];let c:kp r p n=kp r p (n - 1):=by unfold kp;lia
    erw[DD o f p (n+1) (q+1) h () () () (λi v=>?_) (λk a b=>?_) λj m l a b x d e g=>k j m l a () () d e g]
    .by_cases e:i+1<n
     .rwa[t i e]
     .grind
    .grind
theorem BK(h:WB r p m):∀d i,i+d<m->kp r p i<=kp r p (i+d)
 | 0,i,_=>xE _
 | d+1,i,a=>xX (BK h d i ()) (h (i+d) ())
theorem Xe(h:Pm N p)(a:n<=N)(b:BU r p n):WB r (kas_rev p 0 n) n:=λi c=>by
 rw[Fc h a,Fc h a,_j (),_j ()];have:=b (0+n - 1 - (i+1)) ();rw[show 0+n - 1 - (i+1)+1=0+n - 1 - i by lia] at this;rwa[this]
def ES(r:Nat->Nat)(N:Nat)(Q:Nat×Array Nat->jN->Prop)(s:jN):Prop:=∀m p,1<=m->m<=N->Pm N p->WB r p m->Q (m,p) s
def HI(b:JK cmp r N s)(h:Pm N p)(k:ES r N Q s)(a:1<=n)(d:n<=N)(c:BU r p n):(kas_tail3 n N p).kasWp cmp Q s:=by
 unfold kas_tail3;rw[KasT.kasWp_bind];rwa[FE b (h.rev 0 n) (N - n) n a () (Xe h d c) λm a b u _=>k m _ () () (h.rev 0 n) u]
def KU(f:JK cmp r N s)(h:Pm N p)(k:ES r N Q s)(a:n+1<=N)(a:BU r p (n+1)):(kas_descPart n N p).kasWp cmp Q s:=by
 unfold kas_descPart;rw[KasT.kasWp_bind];erw[DD f (N - (n+1)) p (n+1) 0 h () () () a (λk a b=>by rw[show k=n+1 - 1 by lia]) λi m j a b c d e g=>?_];dsimp only
 by_cases z:j > 0
 .rw[_j z];let same:∀k,kp r (kas_rev i (m - (j+1)) m) k=kp r i k:=λk=>FH a () g;exact HI f (a.rev _ _) k () () λi b=>by rw[same,same];rwa[e i b]
 .rw[_i z];rwa[HI f a k () () e]
def SZ(f:JK cmp r N s)(h:Pm N p)(a:1<=N)(k:ES r N Q s):(kas_count N p).kasWp cmp Q s:=by
 unfold kas_count;rw[KasT.kasWp_bind];erw[FE f h (N - 1) 1 (xE _) () (λi g=>by lia) λm a b u d=>?_]
 by_cases z:m=N
 .rw[_j (by rw[z];rwa[beq_self_eq_true N])];rwa[k m p a () h u]
 .rw[_i (λe=>z (eq_of_beq e))];let b:=d ()
  by_cases y:m > 1
  .rw[_j y];erw[f _ _ _ (h.lt ()) (h.lt ()) ?_]
   by_cases c:r (p.getD 0 0)<r (p.getD (m - 1) 0)
   .rw[yE c];rwa[k m p a () h u]
   .rw[yM c];let a:∀i,0<=i->i<m->kp r p i=kp r p (m - 1):=λi _ g=>by
     let c:=BK u i 0 ();let d:=BK u (m - 1 - i) i ();rw[show 0+i=i by lia] at c;rw[show i+(m - 1 - i)=m - 1 by lia] at d;let c:kp r p (m - 1)<=kp r p 0:=by unfold kp;lia
     lia
    let same:∀k,kp r (kas_rev p 0 m) k=kp r p k:=λk=>FH h () a;erw[KU f (h.rev _ _) k () λi g=>?_];rw[same,same]
    by_cases e:i+1<m
    .grind
    .grind
  .rw[_i y];erw[KU f h k () λi g=>?_];rw[show i=m - 1 by lia,show m - 1+1=m by lia];rwa[yS b]
theorem ED(g:JK cmp r N s)(h:Pm N p)(j:k<N)(e:WB r p k)(q:∀l,l<=k->(∀i,i<l->kp r p i<=kp r p k)->(∀i,l<=i->i<k->kp r p k<=kp r p i)->Q l s) :
  ∀f l m,l<=m->m<=k->m - l<=f->(∀i,i<l->kp r p i<=kp r p k)->(∀i,m<=i->i<k->kp r p k<=kp r p i)->(kas_place p k f l m).kasWp cmp Q s
 | 0,l,m,a,b,c,lo,d=>q l () lo λi x y=>d i () y
 | f+1,l,m,a,b,c,lo,d=>by
  show (if l>=m then KasT.ret l else _).kasWp cmp Q s
  by_cases z:l>=m
  .rw[_j z];rwa[q l () lo λi x y=>d i () y]
  .rw[_i z];erw[g _ _ _ (h.lt j) (h.lt ()) ?_]
   by_cases y:r (p.getD k 0)<r (p.getD ((l+m) / 2) 0)
   .rw[yE y];erw[ED g h j e q f l ((l+m) / 2) () () () lo λi x w=>?_];have:=BK e (i - (l+m) / 2) ((l+m) / 2) ();rw[show (l+m) / 2+(i - (l+m) / 2)=i by lia] at this;rwa[xX (yS y) this]
   .rw[yM y];erw[ED g h j e q f ((l+m) / 2+1) m () b () (λi x=>?_) d];have:=BK e ((l+m) / 2 - i) i ();rw[show i+((l+m) / 2 - i)=(l+m) / 2 by lia] at this;rwa[xX this (Nat.le_of_not_lt y)]
theorem Nx(b:JK cmp r N s):∀f p k,Pm N p->k+f<=N->WB r p k->(∀c,Pm N c->WB r c (k+f)->Q c s)->(kas_bin f p k).kasWp cmp Q s
 | 0,p,k,h,a,g,q=>q p h g
 | f+1,p,k,h,a,g,q=>by
  show ((kas_place p k k 0 k).bind λl=>kas_bin f (bubble p k (k - l)) (k+1)).kasWp cmp Q s;rw[KasT.kasWp_bind];refine ED b h () g (λl a lo d=>?_) k 0 k () () () (λi x=>by lia) λi x y=>by lia
  erw[Nx b f _ (k+1) (h.bub _ _) () (λi x=>?_) λc a b=>q c a (by rw[show k+(f+1)=k+1+f by lia];rwa[b])];rw[IC h () a,IC h () a]
  by_cases c:i=l
  .grind
  .rw[_i c]
   by_cases d:i+1=l
   .grind
   .rw[_i d]
    by_cases e:l<i
    .rw[_j (),_j (),show i+1 - 1=i - 1+1 by lia];rwa[g (i - 1) ()]
    .rw[_i (),_i ()];rwa[g i ()]
def gU(d:JK cmp r N s)(a:1<=N)(q:∀p,Pm N p->WB r p N->Q p s):(kas_sort N).kasWp cmp Q s:=by
 unfold kas_sort;rw[KasT.kasWp_bind];erw[SZ d (by show (List.toArray (List.range N)).toList.Perm _;rwa[List.Perm.refl _]) a λm p a b e u=>?_]
 by_cases c:m<N
 .rw[_j c];erw[Nx d _ p _ e () (by rw[Nat.max_eq_left a];rwa[u]) λa x y=>q a x ?_];rw[show max m 1+(N - max m 1)=N by lia] at y;rwa[y]
 .rw[_i c];rwa[q p e (by rw[show N=m by lia];rwa[u])]
end
structure Ad (lt:Nat->Nat->Bool):Prop where
 irr:∀i,lt i i=_x
 tr:∀i j k,lt i j=_t->lt j k=_t->lt i k=_t
 neg:∀i j k,lt i j=_t->lt i k=_t\/lt k j=_t
def rk(lt:Nat->Nat->Bool)(N i:Nat):Nat:=(List.range N).countP λk=>lt k i
theorem Ly(h:∀k,p k=_t->q k=_t)(a:p i=_x)(b:q i=_t):∀l:List Nat,i∈l->l.countP p<l.countP q
 | [],m=>nomatch m
 | x::l,m=>by
  let c:=List.countP_mono_left (l:=l) (p:=p) (q:=q) λk _=>h k;rw[List.countP_cons,List.countP_cons];rcases xD.mp m with rfl | m
  .rw[a,b];simp;lia
  .have:=Ly h a b l m
   by_cases z:p x=_t
   .rw[z,h x z];simp;lia
   .grind
def Gh(W:Ad lt)(a:i<N):decide (rk lt N i<rk lt N j)=lt i j:=by
 unfold rk;cases e:lt i j with
 | true=>rwa[yE (Ly (λk h=>W.tr k i j h e) (W.irr i) e _ (zN.mpr a))]
 | false =>
  erw[yM (Nat.not_lt.mpr (List.countP_mono_left λk _ h=>?_))];rcases W.neg k j i h with z | z
  .rwa[z]
  .rw[e] at z;ext z
def Pm.out{a:Type}{vs:List a}{d:a}(h:Pm vs.length p):(p.toList.map λi=>vs.getD i d).Perm vs:=by
 let e:(List.range vs.9).map (λi=>vs.getD i d)=vs:=by
  apply List.ext_getElem
  .simp
  .intro i b a;simp[a]
 have:=h.map λi=>vs.getD i d;rw[e] at this;rwa[this]
def WB.pair(d:Pm N p)(u:WB r p N):p.toList.Pairwise λi j=>r i<=r j:=by
 rw[List.pairwise_iff_getElem];intro i j b c a;let a:=d.5;let a:i<p.5:=by simpa using b
 let b:j<p.5:=by simpa using c
 have:=BK u (j - i) i ();rw[show i+(j - i)=j by lia] at this;unfold kp at this;simpa [Array.getD,a,b] using this
def Me{c:Type}{vs:List c}{d:c}{lt:c->c->Bool}(c:Pm vs.length p)(W:Ad λi j=>lt (vs.getD i d) (vs.getD j d))(u:WB (rk (λi j=>lt (vs.getD i d) (vs.getD j d)) vs.9) p vs.9) :
  (p.toList.map λi=>vs.getD i d).Perm vs/\(p.toList.map λi=>vs.getD i d).Pairwise λa b=>lt b a=false:=by
 erw[c.out,?_];rw[List.pairwise_map];let f:=u.pair c;let g:∀i∈p.toList,i<vs.9:=λi e=>zN.mp (c.mem_iff.mp e);erw[List.Pairwise.imp_of_mem ?_ f];intro i j e c h;have:=Gh W (i:=j) (j:=i) (g j c);rw[yM (Nat.not_lt.mpr h)] at this;rwa[this.6]
def ltK:List ZN->List ZN->Bool
 | .inl x::r,.inl y::t=>if x=y then ltK r t else decide (x<y)
 | .inr x::r,.inr y::t=>if x=y then ltK r t else decide (x.cps.toList<y.cps.toList)
 | _,_=>_x
def shp(k:List ZN):List Bool:=k.map Sum.isLeft
def Dg{x y:Str}(h:x≠y)(a:¬x.cps.toList<y.cps.toList):y.cps.toList<x.cps.toList:=by
 by_cases c:y.cps.toList<x.cps.toList
 .rwa[c]
 .exfalso;apply h;let e:x.cps.toList=y.cps.toList:=List.le_antisymm (List.not_lt.mp c) (List.not_lt.mp a);ext x;ext y;simp only[Str.mk.injEq];rwa[Array.toList_inj.mp e]
theorem jF{x y:Str}(h:x.cps.toList<y.cps.toList):x≠y:=λe=>by subst e;rwa[List.lt_irrefl _ h]
theorem Ck:∀a:List ZN,ltK a a=_x
 | []=>rfl
 | .inl x::r=>by rw[ltK,_j S];rwa[Ck r]
 | .inr x::r=>by rw[ltK,_j S];rwa[Ck r]
theorem DR:∀a b c:List ZN,ltK a b=_t->ltK b c=_t->ltK a c=_t
 | .inl x::r,.inl y::t,.inl z::u,d,h2=>by
  rw[ltK] at d h2 |-
  by_cases e:x=y
  .rw[_j e] at d;subst e
   by_cases f:x=z
   .rw[_j f] at h2 |-;rwa[DR r t u d h2]
   .rw[_i f] at h2 |-;rwa[h2]
  .grind
 | .inr x::r,.inr y::t,.inr z::u,d,h2=>by
  rw[ltK] at d h2 |-
  by_cases e:x=y
  .rw[_j e] at d;subst e
   by_cases f:x=z
   .rw[_j f] at h2 |-;rwa[DR r t u d h2]
   .rw[_i f] at h2 |-;rwa[h2]
  .grind
 | [],_,_,d,_=>by ext d
 | .inl _::_,[],_,d,_=>by ext d
 | .inr _::_,[],_,d,_=>by ext d
 | .inl _::_,.inr _::_,_,d,_=>by ext d
 | .inr _::_,.inl _::_,_,d,_=>by ext d
 | .inl _::_,.inl _::_,[],_,h2=>by ext h2
 | .inr _::_,.inr _::_,[],_,h2=>by ext h2
 | .inl _::_,.inl _::_,.inr _::_,_,h2=>by ext h2
 | .inr _::_,.inr _::_,.inl _::_,_,h2=>by ext h2
theorem Gx:∀a b c:List ZN,shp a=shp c->ltK a b=_t->ltK a c=_t\/ltK c b=_t
 | .inl x::r,.inl y::t,.inl z::u,hs,h=>by
  let d:shp r=shp u:=by unfold shp at hs |-;simpa using hs
  rw[ltK] at h;rw[ltK,ltK]
  by_cases f:x=z
  .subst f;rw[_j S]
   by_cases e:x=y
   .rw[_j e] at h |-;rwa[Gx r t u d h]
   .rw[_i e] at h |-;rwa[.inr h]
  .grind
 | .inr x::r,.inr y::t,.inr z::u,hs,h=>by
  let d:shp r=shp u:=by unfold shp at hs |-;simpa using hs
  rw[ltK] at h;rw[ltK,ltK]
  by_cases f:x=z
  .subst f;rw[_j S]
   by_cases e:x=y
   .rw[_j e] at h |-;rwa[Gx r t u d h]
   .rw[_i e] at h |-;rwa[.inr h]
  .rw[_i f]
   by_cases l:x.cps.toList<z.cps.toList
   .rwa[.inl (yE l)]
   .let d:=Dg f l
    by_cases e:x=y
    .grind
    .grind
 | [],_,_,_,d=>by ext d
 | .inl _::_,[],_,_,d=>by ext d
 | .inr _::_,[],_,_,d=>by ext d
 | .inl _::_,.inr _::_,_,_,d=>by ext d
 | .inr _::_,.inl _::_,_,_,d=>by ext d
 | .inl _::_,.inl _::_,[],hs,_=>by simp[shp] at hs
 | .inr _::_,.inr _::_,[],hs,_=>by simp[shp] at hs
 | .inl _::_,.inl _::_,.inr _::_,hs,_=>by simp[shp] at hs
 | .inr _::_,.inr _::_,.inl _::_,hs,_=>by simp[shp] at hs
theorem EO:∀a b:List ZN,shp a=shp b->ltK a b=_x->ltK b a=_x->a=b
 | [],[],_,_,_=>rfl
 | .inl x::r,.inl y::t,hs,h1,h2=>by
  let c:shp r=shp t:=by unfold shp at hs |-;simpa using hs
  rw[ltK] at h1 h2
  by_cases e:x=y
  .subst e;rw[_j S] at h1 h2;rw[EO r t c h1 h2]
  .grind
 | .inr x::r,.inr y::t,hs,h1,h2=>by
  let c:shp r=shp t:=by unfold shp at hs |-;simpa using hs
  rw[ltK] at h1 h2
  by_cases e:x=y
  .subst e;rw[_j S] at h1 h2;rw[EO r t c h1 h2]
  .rw[_i e] at h1;rw[_i (λq=>e q.6)] at h2;rwa[_a (Dg e (of_decide_eq_false h1)) (of_decide_eq_false h2)]
 | [],_::_,hs,_,_=>by simp[shp] at hs
 | .inl _::_,[],hs,_,_=>by simp[shp] at hs
 | .inr _::_,[],hs,_,_=>by simp[shp] at hs
 | .inl _::_,.inr _::_,hs,_,_=>by simp[shp] at hs
 | .inr _::_,.inl _::_,hs,_,_=>by simp[shp] at hs
section
variable{prog:jQ}{w:jR}{A:jS}{s:jN}
def XX(h:Q (decide (x<y)) s):_w (_m prog w) A (oneLt' (_t&&i==0) (.int x t) (.int y u)) Q E s:=by
 rw[Bool.true_and];cases i==0 with
 | true=>rwa[oneLt_int h]
 | false=>rwa[kat_one _ _ (lt_int (show PySem.W.BoolBack Q (.bool (decide (x<y))) s from h))]
def Nj(h:Q (decide (x.cps.toList<y.cps.toList)) s):_w (_m prog w) A (oneLt' (_t&&i==0) (.str x t) (.str y u)) Q E s:=by
 rw[Bool.true_and];cases i==0 with
 | true=>rwa[oneLt_str h]
 | false=>rwa[kat_one _ _ (lt_str (show PySem.W.BoolBack Q (.bool (decide (x.cps.toList<y.cps.toList))) s from h))]
theorem Gc:∀k1 k2 us vs i,shp k1=shp k2->ZJ (k1.map kV) us->ZJ (k2.map kV) vs->Q (ltK k1 k2) s->KatLex prog w A _t _x Q (us.zip vs) i s
 | [],[],_,_,i,_,.nil,.nil,h=>kat_nil h
 | .inl x::r,.inl y::t,_,_,i,hs,.cons r1 rr,.cons q1 qq,h=>by
  let(b,S):=r1;let(c,S):=q1;let a:shp r=shp t:=by unfold shp at hs |-;simpa using hs
  rw[ltK] at h;erw[kat_cons (wpAny_eqBool_int ?_)]
  by_cases e:x=y
  .rw[_j e] at h;rw[beq_iff_eq.mpr e];rwa[kat_yes (Gc r t _ _ (i+1) a rr qq h)]
  .rw[_i e] at h;rw[beq_eq_false_iff_ne.mpr e];rwa[kat_no (XX h)]
 | .inr x::r,.inr y::t,_,_,i,hs,.cons r1 rr,.cons q1 qq,h=>by
  let(b,S):=r1;let(c,S):=q1;let a:shp r=shp t:=by unfold shp at hs |-;simpa using hs
  rw[ltK] at h;erw[kat_cons (wpAny_eqBool_str ?_)]
  by_cases e:x=y
  .rw[_j e] at h;rw[yE e];rwa[kat_yes (Gc r t _ _ (i+1) a rr qq h)]
  .rw[_i e] at h;rw[yM e];rwa[kat_no (Nj h)]
 | .inl _::_,.inr _::_,_,_,_,hs,_,_,_=>by simp[shp] at hs
 | .inr _::_,.inl _::_,_,_,_,hs,_,_,_=>by simp[shp] at hs
 | [],_::_,_,_,_,hs,_,_,_=>by simp[shp] at hs
 | _::_,[],_,_,_,hs,_,_,_=>by simp[shp] at hs
def Mc(prog:jQ)(w:jR)(A:jS)(s:jN)(a:jP)(vs:jK)(r:Nat->Nat):Prop:=2<=vs.9->∀c:Heap,(∀b o,b≠a->s.heap.get? b=_s o->c.get? b=_s o)->
 ∀Q:SortKind->jN->Prop,(∀ b,JK (kas_ask prog w A b vs) r vs.length {s with heap:=c }->Q b {s with heap:=c })->_w (_m prog w) A (keyKind' vs.4) Q (λ_ _=>False) {s with heap:=c }
def iJ(c:s.heap.get? a=_s (seqObj "list" vs.toArray n))(h:vs.9<64)(l:Mc prog w A s a vs r)(q:∀p:Array Nat,Pm vs.length p->WB r p vs.9->P (.done (.ret .none)) {s with heap:=sortedHeap s.heap a vs (List.toArray (p.toList.map λi=>vs.getD i Value.none)) }):_w (_m prog w) A (Builtin.«list.sort» ([.ref a],[])) P E s:=by
 let b:a<s.8:=xP c;obtain⟨d,g⟩:∃d,(s.heap.update a (Obj.mapSeq λ_=>(#[]:Array jO))).get? a=_s (seqObj "list" #[] d):=(_,get?_update_seq c λ_=>#[]);let j:∀b o,b≠a->s.heap.get? b=_s o->(((s.heap.update a (Obj.mapSeq λ_=>(#[]:Array jO))).push (seqObj "tuple" vs.toArray 0)).push (seqObj "list" #[] 0)).get? b=_s o:=λb o f e =>
  xB _ (xB _ (by rw[Heap.get?_update_ne _ _ _ _ f];rwa[e]))
 let f:(((s.heap.update a (Obj.mapSeq λ_=>(#[]:Array jO))).push (seqObj "tuple" vs.toArray 0)).push (seqObj "list" #[] 0)).get? a=_s (seqObj "list" #[] d):=xB _ (xB _ g);rw[list_sort_plain];erw[_b (listItems_at c S (_b (listUpdate_at c S (_b (seqEpoch_at g S (_b (wpAny_newTuple (_b (wpAny_newList (wpAny_holding ?_))))))))))]<;>try (rw[sizeLine_eq];simp;lia)
 show _w (_m prog w) A _ P E {s with heap:=((s.heap.update a (Obj.mapSeq λ_=>(#[]:Array jO))).push (seqObj "tuple" vs.toArray 0)).push (seqObj "list" #[] 0) };dsimp only
 by_cases c:vs.toArray.5<2
 .let g:vs.9<2:=by simpa using c
  rw[_j c,_j c];erw[_b (_p ?_)];rw[StateT.run_pure];erw[_b (_p ?_)];dsimp only;let d:(Array.map (λx=>x.2) (arrOf (SortSt.mk' general' (vs.toArray.zip vs.4) #[] 7 _n)))=List.toArray ((List.toArray (List.range vs.9)).toList.map λi=>vs.getD i Value.none):=by
   show Array.map (λx=>x.2) (vs.toArray.zip vs.4)=_
   match vs,g with
   | [],_=>simp
   | [v],_=>simp[List.range_succ]
  rw[d];let d:Pm vs.length (List.toArray (List.range vs.9)):=List.Perm.refl _;let k:(List.toArray ((List.toArray (List.range vs.9)).toList.map λi=>vs.getD i Value.none)).5<=_z+1:=by rw[sizeLine_eq];simp;lia
  erw[_b (seqEpoch_at f S (_b (listUpdate_at f S ?_ (yJ _) k)))];simp only[bne_self_eq_false,zB,if_false];rwa[_p (q _ d λi d=>by lia)]
 .let g:2<=vs.9:=by simp at c;lia
  rw[_i c,_i c];erw[_b (wpAny_mono (l g _ j (λc d=>d={s with heap:=((s.heap.update a (Obj.mapSeq λ_=>(#[]:Array jO))).push (seqObj "tuple" vs.toArray 0)).push (seqObj "list" #[] 0) }/\JK (kas_ask prog w A c vs) r vs.length d) λc j=>(S,j)) (λc m l=>?_) λ_ _ x=>x.elim)];let(S,j):=l;erw[_b (wpAny_mono (kat_run (ks:=vs) (vs:=vs) (κ:=c) (G:=λp d=>d={s with heap:=((s.heap.update a (Obj.mapSeq λ_=>(#[]:Array jO))).push (seqObj "tuple" vs.toArray 0)).push (seqObj "list" #[] 0) }/\Pm vs.length p/\WB r p vs.9) (Q:=λc d=>d={s with heap:=((s.heap.update a (Obj.mapSeq λ_=>(#[]:Array jO))).push (seqObj "tuple" vs.toArray 0)).push (seqObj "list" #[] 0) }/\∃p:Array Nat,(arrOf c).map (·.2)=List.toArray (p.toList.map λi=>vs.getD i Value.none)/\failedOf c=_n/\Pm vs.length p/\WB r p vs.9) S g h (λp c d m h l g=>(g.1,p,kat_snds S h,l,g.2.1,g.2.2)) (gU j () λp a b=>(S,a,b))) ?_ λ_ _ e=>e)];rintro⟨⟨⟩,c⟩ d ⟨rfl,p,b,g,e,h⟩;dsimp only;rw[b];let k:(List.toArray (p.toList.map λi=>vs.getD i Value.none)).5<=_z+1:=by rw[sizeLine_eq];simp[e.5];lia
  erw[_b (seqEpoch_at f S (_b (listUpdate_at f S ?_ (yJ _) k)))];rw[g];simp only[bne_self_eq_false,zB,if_false];rwa[_p (q p e h)]
def LK(d:s.heap.IsList l vs.4)(a:vs.9<64)(g:∀c:Heap,(∀b o,s.heap.get? b=_s o->c.get? b=_s o)->Mc prog w A.in1.in1 {s with heap:=c } (s.8+1) vs r)(q:∀p:Array Nat,Pm vs.length p->WB r p vs.9->Q (.ref (s.8+1)) {s with heap:=sortedAll s.heap vs (List.toArray (p.toList.map λi=>vs.getD i Value.none)) }):_w (_m prog w) A (call (.builtin "sorted") [.ref l]) Q E s:=by
 erw[Calls.call_function_entry kind_sorted plain_sorted entry_sorted (args_sorted1 _) ?_];let c:vs.9<=sizeLine:=by rw[sizeLine_eq];lia
 unfold Builtin.«sorted»;erw[_b (m:=checkCount "sorted" 1 1 _) (_p (_b (collect_list d (_b (wpAny_newList ?_ c)) c)))];let f:((s.heap.push (seqObj "list" #[] 0)).update s.heap.objs.size (Obj.mapSeq (· ++ vs.4))).7=s.8+1:=by rw[Heap.size_update];rwa[size_push' _ _]
 let d:(((s.heap.push (seqObj "list" #[] 0)).update s.heap.objs.size (Obj.mapSeq (· ++ vs.4))).push (seqObj "list" vs.toArray 0)).get? (s.8+1)=_s (seqObj "list" vs.toArray 0):=by have:=xI ((s.heap.push (seqObj "list" #[] 0)).update s.heap.objs.size (Obj.mapSeq (· ++ vs.4))) (o:=seqObj "list" vs.toArray 0) S;rw[f] at this;rwa[this]
 let c:∀b o,s.heap.get? b=_s o->(((s.heap.push (seqObj "list" #[] 0)).update s.heap.objs.size (Obj.mapSeq (· ++ vs.4))).push (seqObj "list" vs.toArray 0)).get? b=_s o:=λb o e =>
  xB _ (by rw[Heap.get?_update_ne _ _ _ _ (yG (xP e))];rwa[xB _ e])
 show _w _ _ _ _ _ {s with heap:=((s.heap.push (seqObj "list" #[] 0)).update s.heap.objs.size (Obj.mapSeq (· ++ vs.4))).push (seqObj "list" vs.toArray 0) };rw[f];rwa[_b (wpAny_holding (wpAny_call_entry slot_list_sort (_,d,S) entry_list_sort (iJ d a (g _ c) λp a c=>(_,S,_p (_,S,q p a c))) (args_list_sort _)))]
end
def WI(H:Hp)(p:jP×List ZN):Prop:=H p.1=_s (.tup (p.2.map kV))
inductive Ju(K:uFg)(L:aG)(H:Hp)(Q:VK):Prop
 |mk(a:jP) (b:List (jP×List ZN)) (c:List Bool)(_:L=[.ref a])(_:ZG K H a (b.map λp=>V.ref p.1))(_:b.9<64)(_:(∀p∈b,WI H p/\shp p.2=c))(_:c ≠ [])(_:∀(l:jP)(a:List (jP×List ZN)),H l=_n->a.Perm b->a.Pairwise (λp q=>ltK q.2 p.2=_x)->Q (.ref l) (upd H l (.lst (a.map λp=>V.ref p.1))))
theorem Mr:∀{b:List (jP×List ZN)}{a:jK},ZJ (b.map λp=>V.ref p.1) a->a=b.map λp=>Value.ref p.1
 | [],_,.nil=>rfl
 | p::b,_,.cons r rr=>by ext r;rw[yD,Mr rr]
theorem IP:∀a:List (jP×List ZN),ZJ (a.map λp=>V.ref p.1) (a.map λp=>Value.ref p.1)
 | []=>.nil
 | p::a=>.cons S (IP a)
theorem LY{B:List (jP×Obj)}{Y:St}{H:Hp}{s:jN}(I:ZE X B Y H s){b:List Bool}(c:b ≠ []){h':Heap}(e:∀p o,WI H p->s.heap.get? p.1=_s o->h'.get? p.1=_s o):∀a:List (jP×List ZN),(∀p∈a,WI H p/\shp p.2=b)->
  ∃d,KatTups h' (a.map λp=>Value.ref p.1) d/\d.9=a.9/\∀v∈d,Looks (_m X.prog X.w) h' (typeOf v) (.type (if b.head c then "int" else "str"))
 | [],_=>([],.nil,S,λv b=>by simp at b)
 | p::a,h=>by
  let(d,m,u,w):=LY I c e a λq a=>h q (xM _ a);let(g,f):=h p xZ;let(a,r):=p;let(k,y,(o,i,j,n,l),_):=I.tuple (ZR.of g);cases r with
  | nil=>rwa[_a f.symm c]
  | cons k r =>
   cases k with
   | inl x =>
    subst f;cases y with
    | cons c k =>
     let(t,S):=c;erw[.int x t::d,KatTups.cons (e (a,.inl x::r) o g i) j l (by simp) m,by rw[yH,yH,u],λv b=>?_];rcases xD.mp b with rfl | b
     .rwa[Looks.of_pure S]
     .rwa[w v b]
   | inr x =>
    subst f;cases y with
    | cons c k =>
     let(t,S):=c;erw[.str x t::d,KatTups.cons (e (a,.inr x::r) o g i) j l (by simp) m,by rw[yH,yH,u],λv b=>?_];rcases xD.mp b with rfl | b
     .rwa[Looks.of_pure S]
     .rwa[w v b]
def cR{a:List (jP×List ZN)}{d:List Bool}{H:Hp}(c:∀p∈a,WI H p/\shp p.2=d):∃b,∀i,shp (a.getD i (a.headD (0,[]))).2=b:=by
 cases a with
 | nil=>rwa[[],λi=>by simp[shp]]
 | cons p a =>
  erw[d,λi=>?_];rw[xT];cases e:(p::a)[i]? with
  | none=>rwa[(c p xZ).2]
  | some x=>rwa[(c x (xN e)).2]
theorem Og:QC X (.builtin "sorted") (Ju X.K):=⟨by
 intro B s Y H L a Q I r h;obtain⟨a,c,m,rfl,d,A,t,b,q⟩:=h;obtain⟨u,rfl,e⟩:=Up r;cases e;obtain⟨f,w,p,_⟩:=I.list d;have d:=Mr w;subst d;obtain⟨d,g⟩:=cR t;have W:Ad λi j=>ltK (c.getD i (c.headD (Prod.mk (0) ([])))).2 (c.getD j (c.headD (Prod.mk (0) ([])))).2:=⟨λi=>Ck _,λi j k=>DR _ _ _,λi j k=>Gx _ _ _ ((g i).trans (g k).6)⟩;have d:(c.map λp=>Value.ref p.1).9=c.9:=xA ..;refine LK (r:=rk (λi j=>ltK (c.getD i (c.headD (Prod.mk (0) ([])))).2 (c.getD j (c.headD (Prod.mk (0) ([])))).2) c.9) p.isList (by rw[d];exact A) (λk h o l n e hQ=>?_) λu v B=>?_
 .have k:∀(p:jP×List ZN)(o:Obj),WI H p->s.heap.get? p.1=_s o->l.get? p.1=_s o:=λp o _ e=>n _ _ (yG (mF (xP e))) (h _ _ e);obtain⟨x,h,r,n⟩:=LY (h':=l) I b k c t;have x:(Value.type (if m.head b then "int" else "str") != Value.type "tuple")=true:=by cases m.head b<;>rfl
  have r:(Value.type (if m.head b then "int" else "str")== Value.type (if m.head b then "int" else "str"))=true:=by cases m.head b<;>rfl
  refine kat_kind (s:={s with heap:=l }) h () n r (hQ _ λi j C h z r=>?_);rw[x];rw[d] at h z;have b:∀{i},i<c.9->∃p f o n,c.getD i (c.headD (Prod.mk (0) ([])))=p/\(c.map λp=>Value.ref p.1).getD i Value.none=.ref p.1/\ZJ (p.2.map kV) f/\l.get? p.1=_s o/\o.data=.seq f.toArray n:=λ{i} h=>by
   have e:c[i]?=_s c[i]:=xC h;have m:=zH h;obtain⟨f,w,⟨o,x,E,n,y⟩,_⟩:=I.tuple (ZR.of (t _ m).1);exact⟨c[i],f,o,n,by rw[xT,e];rfl,by rw[xT,xF,e];rfl,w,k _ o (t _ m).1 x,y⟩
  obtain⟨x,L,k,f,F,H,m,K,w⟩:=b h;obtain⟨y,t,k,f,G,J,n,M,E⟩:=b z;rw[Gh W h] at r;have f:=g i;have k:=g j;rw[F] at r f;rw[G] at r k;show _w (_m X.prog X.w) X.A.in1.in1 (keyLt' (tuples' _t) _ _) C (λ_ _=>False) {s with heap:=l };rw[H,J];have l:L.9=t.9:=by
   have g:=m.9;have j:=n.9
   have b:(shp x.2).9=(shp y.2).9:=by rw[f,k]
   unfold shp at b;rw[xA] at g j b;rw[xA] at b;lia
  refine kat_lt K w M E ?_;rw[yM (by simp[l])];exact Gc x.2 y.2 L t 0 (f.trans k.6) m n r
 .rw[d] at v B;obtain⟨d,g⟩:=Me (lt:=λa b:jP×List ZN=>ltK a.2 b.2) v W B;obtain⟨e,f⟩:=sortedAll_at s.heap (c.map λp=>Value.ref p.1) (List.toArray (u.toList.map λi=>(c.map λp=>Value.ref p.1).getD i Value.none));have a:(u.toList.map λi=>(c.map λp=>Value.ref p.1).getD i Value.none)=(u.toList.map λi=>c.getD i (c.headD (Prod.mk (0) ([])))).map λp=>Value.ref p.1:=by
   rw[mL];refine List.map_congr_left λi h=>?_;have j:i<c.9:=zN.mp (v.mem_iff.mp h);show _=Value.ref (c.getD i (c.headD (Prod.mk (0) ([])))).1;rw[xT,xT,xF,xC j];rfl
  rw[a] at f |-;generalize (u.toList.map λi=>c.getD i (c.headD (Prod.mk (0) ([]))))=a at d g f |-;have h:a.9=c.9:=d.length_eq;refine⟨.ref (s.8+1),_,I.laid (t':=s.toks) (o:=.lst (a.map λp=>V.ref p.1)) (λb o=>sortedAll_old) (zV _) ?_,rfl,q _ a (I.og.fresh (zV _)) d g⟩
  exact⟨by rw[xA,h];exact xX (yS A) aA,a.map λp=>Value.ref p.1,e,IP a,by simpa using f⟩⟩
def Ts(h:Heap)(d:jP)(es:Array DictEntry)(ep:Nat):Prop:=∃o,h.get? d=_s o/\(o.ExactDict/\o.data=.dict es ep)
theorem Ts.ty{s:jN}{d:jP}{es:Array DictEntry}{ep:Nat}(h:Ts s.heap d es ep):s.TypeIs (.ref d) "dict" := let ⟨o,e,c,_⟩:=h;(o,e,c.1)
theorem RP(d:jP)(lo:(d==sysModules)=_x):MeetsIn prog w (Builtin.«dict.items» ([.ref d],[])) (λ_ R s=>s.TypeIs (.ref d) "dict" /\ R (.ok (.ret (.ref s.8))) {s with heap:=s.heap.push {cls:=.type "dict_items", data:=.fields #[.ref d] } }) :=
 .of_wp λA R s ⟨a,q⟩=>by
  unfold Builtin.«dict.items» Builtin.Dict.noArgs;erw[_b (_b (wpAny_notOrdered_dict a ?_))];show _w _ _ (pure d) _ _ s;erw[_p ?_];show _w _ _ (Builtin.Dict.showsAll d >>= _) _ _ s;unfold Builtin.Dict.showsAll;rw[_i (by rw[lo];simp)];rwa[_b (_p (_b (wpAny_newObj_type (_p (_,S,q)))))]
def bA(a:s.heap.IsItemsView v d)(h:Ts s.heap d es ep)(q:Q (.ref s.8) {s with heap:=s.heap.push {cls:=.type "dict_itemiterator", data:=.fields #[.none,.bool _x,.ref d,.int 0 0,.int es.size 0,.int ep 0,.none,.none] } }):_w (_m prog w) A (pyIter (.ref v)) Q E s:=by
 let c:=a.typeIs;let(b,e,g,f):=a;let(o,a,g,b):=h;erw[wpAny_pyIter_slot c PySem.F.slot_dict_items_iter (wpAny_call_entry PySem.F.slot_dict_items_iter c PySem.F.entry_dict_items_iter ?_ (PySem.F.args_dict_items_iter_1 _))];unfold Builtin.«dict_items.__iter__»;erw[_b (_p (_b ?_))];unfold Builtin.Dict_items.dictOf;erw[_b (_d e f (x:=.ref d) S (_p (_b ?_)))];unfold Builtin.Dict_items.newIterator;erw[_b (wpAny_dictEntries a b (_b (wpAny_dictEpoch a b ?_)))];simp only[show Builtin.Dict_items.ownsTuple "dict_itemiterator"=_t by decide,if_true];erw[wpAny_newObj_type (_p (_,S, "dict_itemiterator", _,(_,xI _ S,S),slot_dict_itemiterator_next.lookup,?_)) (by simp only[sizeOk,Builtin.Dict_items.ownedTupleFields,xU,xG,yH,List.length_nil,sizeLine_eq];lia)];simpa [rawInt,Builtin.Dict_items.ownedTupleFields] using q
def eE(f:IsItemIter s.heap it d i es.size ep ok ov)(h:Ts s.heap d es ep)(m:i<es.5)(q:∀h',IsItemIterOut h' it d (i+1) es.size ep es[i].key es[i].val s.8->h'.get? s.8=_s {cls:=.type "tuple", data:=.seq #[es[i].key,es[i].val] }->h'.7=s.8+1->(∀b o,b≠it->s.heap.get? b=_s o->h'.get? b=_s o)->Q (_s (.ref s.8)) {s with heap:=h' }) :
  _w (_m prog w) A (pyNext (.ref it)) Q E s:=by
 let(a,g,k,l,os):=s;let(od,e,c,j):=h;let c:Shared.TypeIs (a,g,k,l,os) (.ref it) "dict_itemiterator" := (_,f,S);unfold pyNext;erw[_b (wpAny_attempt (wpAny_callSpecial?_slot (name:=Str.ofString "__next__") c slot_dict_itemiterator_next (wpAny_call_entry slot_dict_itemiterator_next c PySem.F.entry_dict_itemiterator_next ?_ (PySem.F.args_dict_itemiterator_next_1 _))))];erw[_b (_p (_b (_b ?_)))]
 first | erw[_b (wpAny_typeNameOfWhole_itemiter c (_p (_b (wpAny_fieldsOf f S ?_))))]| erw[_b (wpAny_typeNameOf_itemiter c (_p (_b (wpAny_fieldsOf f S ?_))))]
 simp only[show Builtin.Dict_items.ownsTuple "dict_itemiterator"=_t by decide,if_true];show _w _ _ (if (Value.ref d==Value.none)=_t then _ else _) _ _ _;rw[_i (show ¬((Value.ref d==Value.none)=_t) from xJ)];erw[_b (_p (_b (wpAny_dictEntries e j ?_)))];rw[_i (by simp)];erw[_b (_p (_b (wpAny_dictEpoch e j ?_)))];rw[_i (by simp)];erw[_p ?_];simp only[show ¬((i:Int)<0) from by lia,if_false,yI,wG m];erw[_b ?_]
 first | erw[_b (wpAny_typeNameOfWhole_itemiter c (_p (_b (wpAny_isOneOf_itemiter c ?_))))]| erw[_b (wpAny_typeNameOf_itemiter c (_p (_b (wpAny_isOneOf_itemiter c ?_))))]
 show _w _ _ (setField (.ref it) 3 (rawInt ((i:Int)+1)) >>= _) _ _ (a,g,k,l,os);erw[_b (wpAny_setField_rec f (by simp) λc m n=>?_)];let n:Heap.SameBut it a c:=n;let m:IsItemIter c it d (i+1) es.size ep ok ov:=by
  let e:((i+1:Nat):Int)=(i:Int)+1:=by lia
  unfold IsItemIter;rw[e];simpa [rawInt] using m
 let j:Shared.TypeIs (c,g,k,l,os) (.ref it) "dict_itemiterator" := (_,m,S);erw[_b (wpAny_holding (_b (wpAny_isOneOf_itemiter j (_b (wpAny_isOneOf_itemiter j ?_)))))];show _w _ _ (Builtin.Dict_items.pairFromOwner (.ref it) 6 es[i].key es[i].val) _ _ (c,g,k,l,os);unfold Builtin.Dict_items.pairFromOwner;erw[_b (wpAny_newTuple ?_)];let j:IsItemIter (c.push {cls:=.type "tuple", data:=.seq #[es[i].key,es[i].val] }) it d (i+1) es.size ep ok ov:=xB _ m;let m:c.7=a.7:=n.1;let r:it<a.7:=xP f;let u:(c.push {cls:=.type "tuple", data:=.seq #[es[i].key,es[i].val] }).get? a.7=_s {cls:=.type "tuple", data:=.seq #[es[i].key,es[i].val] }:=by rw[<- m];rwa[xI _ S]
 let v:(c.push {cls:=.type "tuple", data:=.seq #[es[i].key,es[i].val] }).7=a.7+1:=by rw[yY,m]
 let t:∀b o,b≠it->a.get? b=_s o->(c.push {cls:=.type "tuple", data:=.seq #[es[i].key,es[i].val] }).get? b=_s o:=λb o f e=>xB _ (n.extBut b o f e);generalize c.push {cls:=.type "tuple", data:=.seq #[es[i].key,es[i].val] }=n at j u v t;show _w _ _ (Builtin.Dict_items.ownedTupleIsFree (.ref it) >>= _) _ _ (n,g,k,l,os);rw[m];erw[_b ?_];unfold Builtin.Dict_items.ownedTupleIsFree;erw[_b (_d j S (x:=.none) S (_p ?_))];simp only[if_true];erw[_b (_d j S (x:=ok) S (_b (_d j S (x:=ov) S (_b (wpAny_setField_rec j (by simp) λk c g=>?_)))))];let g:Heap.SameBut it n k:=g;let c:IsItemIter k it d (i+1) es.size ep es[i].key ov:=c;erw[_b (wpAny_setField_rec c (by simp) λl c j=>?_)];let j:Heap.SameBut it k l:=j;let c:IsItemIter l it d (i+1) es.size ep es[i].key es[i].val:=c;erw[_b (wpAny_setField_rec c (by simp) λp c k=>?_)];let k:Heap.SameBut it l p:=k;let c:IsItemIterOut p it d (i+1) es.size ep es[i].key es[i].val a.7:=c;erw[_b (wpAny_setField_rec c (by simp) λc m l=>?_)];let l:Heap.SameBut it p c:=l;let m:IsItemIterOut c it d (i+1) es.size ep es[i].key es[i].val a.7:=m;let p:∀b o,b≠it->n.get? b=_s o->c.get? b=_s o:=λb o f e=>l.extBut b o f (k.extBut b o f (j.extBut b o f (g.extBut b o f e)));rwa[_b (wpAny_letGo (_p (_p (_,S,_p (q c m (p _ _ (Nat.ne_of_gt r) u) (by show c.7=a.7+1;rw[l.1,k.1,j.1,g.1,v]) λb o f e=>p b o f (t b o f e))))))]
def Xj(j:A.handled=_n)(e:IsItemIter s.heap it d i es.size ep ok ov)(h:Ts s.heap d es ep)(k:es.5<=i)(q:∀h',Heap.ExtBut it s.heap h'->Q _n {s with heap:=h' }):_w (_m prog w) A (pyNext (.ref it)) Q E s:=by
 let(od,f,c,g):=h;let c:s.TypeIs (.ref it) "dict_itemiterator" := (_,e,S);unfold pyNext;erw[_b (wpAny_attempt (wpAny_callSpecial?_slot (name:=Str.ofString "__next__") c slot_dict_itemiterator_next (wpAny_call_entry slot_dict_itemiterator_next c PySem.F.entry_dict_itemiterator_next ?_ (PySem.F.args_dict_itemiterator_next_1 _))))];erw[_b (_p (_b (_b ?_)))]
 first | erw[_b (wpAny_typeNameOfWhole_itemiter c (_p (_b (wpAny_fieldsOf e S ?_))))]| erw[_b (wpAny_typeNameOf_itemiter c (_p (_b (wpAny_fieldsOf e S ?_))))]
 simp only[show Builtin.Dict_items.ownsTuple "dict_itemiterator"=_t by decide,if_true];show _w _ _ (if (Value.ref d==Value.none)=_t then _ else _) _ _ s;rw[_i (show ¬((Value.ref d==Value.none)=_t) from xJ)];erw[_b (_p (_b (wpAny_dictEntries f g ?_)))];rw[_i (by simp)];erw[_b (_p (_b (wpAny_dictEpoch f g ?_)))];rw[_i (by simp)];erw[_p ?_];simp only[show ¬((i:Int)<0) from by lia,if_false,yI,Array.getElem?_eq_none k];erw[_b ?_]
 first | erw[_b (wpAny_typeNameOfWhole_itemiter c (_p ?_))]| erw[_b (wpAny_typeNameOf_itemiter c (_p ?_))]
 show _w _ _ (setField (.ref it) 2 .none >>= _) _ _ s;erw[_b (wpAny_setField e S (by simp) ?_)];show _w _ _ (newExc (.type "StopIteration") [] >>= _) _ _ _;erw[_b ?_];simp only[newExc,newTuple];erw[_b (wpAny_newObj_type ?_ (by size_fits))];erw[_b (m:=firstArgMember _ _) (wpAny_of_eq (a:=Value.none) (by first | rfl | (simp only[firstArgMember];rfl)) ?_)];erw[wpAny_newObj_type ?_ (by size_fits)];simp only[raiseNew];erw[_b (wpAny_handled ?_)];rw[show A.in1.handled=_n from j];erw[_b (_p (wpAny_throw ?_))];rwa[_b (wpAny_isInstance (T:="StopIteration") (b:=_t) (_,xI _ S,S) isSubtype_stop (_p (q _ (((mG ..).extBut.push _).push _))))]
section
variable{X:Cx}{B:List (jP×Obj)}{Y:St}{H:Hp}{s:jN}
def ZE.iy{d:jP}{o:Obj}{U:List (List ZN×V)}(I:ZE X B Y H s)(e:H d=_s (.dT U))(a:s.heap.get? d=_s o):ZE X B Y (upd H d (.frz o (.dT U))) s:=by
 let f:∀b u,H b=_s u->(∀c,u ≠ .dT c)->b≠d:=λb u q n z=>by rw[z,e] at q;rwa[n _ (ma q).6]
 exact I.write (h':=s.heap) (t':=s.toks) (x:=d) (e:=d) (o:=.frz o (.dT U)) (by rw[e];rwa[True.intro]) (.inl S) (λ_ _ _ q=>q) (o,a)
  (a,(show ZM X.prog X.w H s.heap d (.dT U) from I.og d _ e).oR (λ_ _ _ z=>z) (λc z=>by rw[Zd (f c _ z λ_ y=>nomatch y)];rwa[z]) λc L z=>by rw[Zd (f c _ z λ_ y=>nomatch y)];rwa[z])
theorem ZE.nofrzT{d:jP}{U:List (List ZN×V)}(I:ZE X B Y H s)(e:H d=_s (.dT U)):∀o u,X.H₀ d≠_s (.frz o u):=λo u z=>by
 have:=I.base.o6 d o u z;rw[e] at this;ext this
def ZE.thawT{d:jP}{o:Obj}{U:List (List ZN×V)}(I:ZE X B Y H s)(e:H d=_s (.frz o (.dT U)))(j:∀o u,X.H₀ d≠_s (.frz o u)):ZE X B Y (upd H d (.dT U)) s:=by
 let a:∀b u,H b=_s u->(∀x,u ≠ .frz o x)->b≠d:=λb u q n z=>by rw[z,e] at q;rwa[n _ (ma q).6]
 let f:∀b,H b=_n->b≠d:=λb q z=>by rw[z,e] at q;ext q
 erw[I.ok,I.os,I.bare,(I.base.keep,I.base.slot,λb g q n i=>?_,I.base.there,λb L q=>?_,λb g u q=>?_,λb k q=>?_),I.loc,I.cell,?_,λx c q=>?_,λp h=>?_,λb u q=>?_,I.len]
 .have:=I.base.free b g q n i;rw[Zd (f b this)];rwa[this]
 .have:=I.base.j3 b L q;rw[Zd (a b _ this λ_ z=>nomatch z)];rwa[this]
 .have:=I.base.o6 b g u q;rw[Zd (λz=>j g u (by rw[<- z];rwa[q]))];rwa[this]
 .let(m,g):=I.base.oW b k q;rwa[m,by rw[Zd (a b _ g λ_ z=>nomatch z)];rwa[g]]
 .rw[Zd (f _ I.free)];rwa[I.free]
 .rw[Zd (f _ (I.ix x c q))];rwa[I.ix x c q]
 .let(i,g,j,k,l):=I.pin p h;rwa[i,by rw[Zd (f _ g)];rwa[g],j,k,l]
 .let st:∀{u:HO},ZM X.prog X.w H s.heap b u->ZM X.prog X.w (upd H d (.dT U)) s.heap b u:=λk=>k.oR (λ_ _ _ z=>z) (λc z=>by rw[Zd (a c _ z λ_ y=>nomatch y)];rwa[z]) λc L z=>by rw[Zd (a c _ z λ_ y=>nomatch y)];rwa[z]
  by_cases a:b=d
  .subst a;rw[Zi] at q;ext q;rwa[st (show ZM X.prog X.w H s.heap b (.frz o (.dT U)) from I.og b _ e).2]
  .rw[Zd a] at q;rwa[st (I.og b u q)]
end
section
variable{te:TE}
inductive AR(te:TE)(Y:St)(H:Hp)(Q:VK):Prop
 |mk(d U)(_:H d=_s (.dT U))(_:∀o,te Y (upd H d (.frz o (.dT U))) λv J=>J d=_s (.frz o (.dT U))/\Q v (upd J d (.dT U)))
theorem NU(h:QE X e te):QE X e (AR te):=⟨by
 intro B s Y H Q I q;let(d,U,a,q):=q;let(z,y,i,r,o,g,f,b,c):=(show ZM X.prog X.w H s.heap d (.dT U) from I.og d _ a);let c:=I.nofrzT a
 rwa[thn (h.h B s Y _ _ (I.iy a b) (q o)) λu i ⟨x,g,a,f,b,d⟩=>(x,_,a.thawT b c,f,d)]⟩
end
def Ft(d:jP)(o:Obj)(U:List (List ZN×V)):It :=
 (λi H=>H d=_s (.frz o (.dT U))/\i<U.9,λi H v J=>∃p a x,U[i]?=_s x/\H a=_s (.tup (x.1.map kV))/\v=.ref p/\H p=_n/\J=upd H p (.tup [.ref a,x.2]),λi H=>H d=_s (.frz o (.dT U))/\U.9<=i)
def KT.at{H:Hp}:∀{U:List (List ZN×V)}{L:List (List ZN×jP×jO)},Paired (λ(p:List ZN×V) (q:List ZN×jP×jO)=>p.1=q.1/\H q.2.1=_s (.tup (p.1.map kV))/\ZH p.2 q.2.2) U L->∀{i:Nat}{x:List ZN×V}{y:List ZN×jP×jO},U[i]?=_s x->L[i]?=_s y->H y.2.1=_s (.tup (x.1.map kV))/\ZH x.2 y.2.2:=by
 intro U L h
 induction h with
 | nil=>intro i x y c;simp at c
 | @cons a b e f r t d =>
  intro i x y c a;cases i with
  | zero=>ext c;ext a;rwa[r.2]
  | succ i=>rwa[d c a]
def Rz{P:jQ}{w:jR}{K:uFg}{A:List Expr}{ek:Nat}{C:Pos}(it d:jP)(o:Obj)(U:List (List ZN×V))(es:Array DictEntry)(ep:Nat)(a3:d≠it)(hsz:es.5=U.9)(hD:o.ExactDict/\o.data=.dict es ep) :
  VJ P w K (.Tuple A ek C) (Ft d o U) [it] it (λi h=>∃l p,IsItemIter h it d i es.size ep l p) where
 mem:=by simp
 obj:=λi h st b hb=>by
  let e:b=it:=by simpa using hb
  subst e;let(l,p,st):=st;rwa[_,st,λv q=>by ext q]
 keep:=λi h r st k=>by
  let(l,p,st):=st;rwa[l,p,k it (by simp) _ st]
 item:=by
  intro X hP hw hK a i B s Y H E I G st hg;subst hP hw hK;let(l,p,st):=st;let(Q,T,f2,W,Z,f5):=G it (by simp);let(R,hi):=hg;let(g,z,lo,L,O,o',a2,a1,J,c1,c2,c3,c4):=(show ZM X.prog X.w H s.heap d (.frz o (.dT U)) from I.og d _ R);rw[g] at J;ext J;rw[hD.2] at c2;ext c2;let j:i<es.5:=by lia
  obtain⟨x,hx⟩:∃x,U[i]?=_s x:=(_,xC hi);obtain⟨y,hy⟩:∃y,L[i]?=_s y:=(_,xC (by rw[<- O.9];rwa[hi]));let ee:es[i]'j=entryOfKey (tupleKind (We X.prog X.w)) y:=by
   have:es.toList[i]?=_s (entryOfKey (tupleKind (We X.prog X.w)) y):=by rw[c3,xF,hy];rfl
   rw[wT,wG j] at this;rwa[ma this]
  let(ha,rv):=KT.at O hx hy;erw[eE st (o,g,hD) j λr ho hT a0 kp=>?_];rw[ee] at ho hT;erw[_,S,?_];let t:H s.8=none:=I.og.fresh (xE _);let M:∀c o,s.heap.get? c=_s o->c≠s.8:=λc o e=>yG (xP e);let f:∀c o,c ∉ [it]->s.heap.get? c=_s o->r.get? c=_s o:=λc o a e=>kp c o (λq=>a (by simp[q])) e;let N:∀c u,H c=_s u->c ∉ [it]:=λc u e a=>by
   have:=(G c a).1;rw[this] at e;ext e
  let I1:ZE X B Y (upd H s.heap.objs.size (.tup [.ref y.2.1,x.2])) {s with heap:=r }:=by
   refine I.step (g':=s.gens) (d':=s.drawn) (t':=s.toks) (ch:=[it]) (λc a=>?_) (λc o _ _ a e _=>f c o a e) (λc o _ _ a e _=>(o.slots,f c o a e)) (λc o a e n=>by rw[Zd (M c o e)];rwa[n])
    (λc o a e=>(o,f c o a e)) (λc us e=>by rw[Zd (Zj e t)];rwa[e]) (λc o u e=>by rw[Zd (Zj e t)];rwa[e]) (λc ps e=>(#[],by rw[Zd (Zj e t),e];simp)) (λm hm=>?_) ?_ I.bare
   .grind
   .erw[hm.at λo e=>f _ o (λa=>?_) e];rwa[(G _ a).2.1 S]
   .intro c u e
    by_cases F:c=s.8
    .subst F;rw[Zi] at e;ext e;rwa[aB S,[.ref y.2.1,y.2.2],.cons S (.cons rv .nil),(_,hT,S,_,S)]
    .rw[Zd F] at e;refine(I.og c u e).oR (λd v hd q=>f d v ?_ q) (λd q=>by rw[Zd (Zj q t)];rwa[q]) λd us q=>by rw[Zd (Zj q t)];rwa[q]
     rcases hd with rfl | hd
     .rwa[N _ u e]
     .rwa[N _ _ hd]
  erw[wpAny_letOwnedTupleGo_items (s:={s with heap:=r }) ho λh2 z2 e2=>?_];let nz:it≠s.8:=M it _ st;let I2:ZE X B Y (upd H s.heap.objs.size (.tup [.ref y.2.1,x.2])) {s with heap:=h2 }:=I1.turned (s:={s with heap:=r }) (it:=it) (t':=s.toks) (λc o a e=>(e2.2 c a).trans e) (by rw[Zd nz];rwa[Q]) T W Z f5;erw[.ref s.8,_,I2,S,(s.8,y.2.1,x,hx,ha,S,t,S),(_,_,z2),λc a=>?_];obtain rfl:c=it:=by simpa using a
  rw[Zd nz];rwa[Q]
 done:=by
  intro X hP hw hK a i B s Y H E I G st hg;subst hP hw hK;let(l,p,st):=st;let(Q,T,f2,W,Z,f5):=G it (by simp);let(R,hi):=hg;let(g,_):=(show ZM X.prog X.w H s.heap d (.frz o (.dT U)) from I.og d _ R);rwa[Xj (I.ok.hd a) st (o,g,hD) () λr eb=>(S,I.turned (t':=s.toks) (λb ob hb e=>eb b ob hb e) Q T W Z f5)]
 self:=λ_ _ _ _ _ st h=>by
  let(l,p,st):=st;rwa[PySem.W.kcp_self st h]
section
variable{te:TE}
inductive TQ(R:It->Hp->Prop)(x:V)(a:Hp):Prop
 |mk(d ob U)(_:x=.ref d)(_:a d=_s (.frz ob (.dT U)))(_:R (Ft d ob U) a)
def Qg(te:TE):TI:=λY H R=>te Y H λx a=>TQ R x a
theorem XQ{e:List Expr}{g:Nat}{f a b:Pos}(i:QE X o te)(c:autoParam (attributeBase o "items" X.env (eval o X.env)=eval o X.env) y1z)(d:autoParam ((a.endLine==b.line)=true) y1z) :
  QI X (.Tuple e g f) (.Call (.Attribute o "items" a) [] [] b) (Qg te):=⟨by
 intro B s Y H R I h;erw[wpAny_Call_method0_late c d (thn (i.h B s Y H _ I h) λu c ⟨x,i,p,b,d,f,U,a,e,q⟩=>?_)];subst a;obtain rfl:u=Value.ref d:=b;let(a,z,lo,L,j,r,h,l,b,g,k,m,n):=(show ZM X.prog X.w i c.heap d (.frz f (.dT U)) from p.og d _ e);rw[a] at b;ext b;let e:Ts c.heap d h l:=(f,a,g,k);let n:h.5=U.9:=by rw[<- Array.length_toList,m,xA,j.9]
 erw["dict","dict.items", plainAttrs_dict,PySem.F.slot_dict_items,PySem.F.type_dict_items,e.ty,λb m=>?_,mn rfl (PySem.evalArgs_none ?_)]
 .ext m;rwa[f,a,g.2.1]
 erw[call_meetsIn PySem.F.slot_dict_items e.ty PySem.F.entry_dict_items (PySem.F.args_dict_items_1 _) (RP d lo) (e.ty,?_)];let j:ZE X B Y i {c with heap:=c.heap.push {cls:=.type "dict_items", data:=.fields #[.ref d] } }:=p.kept (t':=c.toks) λb f e=>xB _ e;let p:d<(c.heap.push {cls:=.type "dict_items", data:=.fields #[.ref d] }).7:=xP (xB _ a);erw[bA (es:=h) (ep:=l) (v:=c.8) (_,xI _ rfl,rfl,rfl) (f,xB _ a,g,k) ?_];erw[_,[_],_,_,i,rfl,j.kept (t':=c.toks) λb f e=>xB _ e,Rz _ d f U h l (yG p) n (g,k),(.none,.none,xI _ rfl),λb m=>?_,q];obtain rfl:=xV.mp m
 rwa[j.iw (xE _) (j.og.fresh (xE _))]⟩
end
def Of(Pv:Nat->List V->Hp->Prop)(k:Pv 0 [] H)(b:U.9<=1000000)(j:∀i ys H,i<=U.9->Pv i ys H->H d=_s (.frz o (.dT U)))(b:∀i ys H,Pv i ys H->ys.9<=i)(step:∀i x a p ys H,U[i]?=_s x->H a=_s (.tup (x.1.map kV))->Pv i ys H->H p=_n->Vd nl fv g tt te (.ref p) (upd H p (.tup [.ref a,x.2])) (λy J=>Pv (i+1) (ys ++ [y]) J) λJ=>Pv (i+1) ys J)(n:∀ys H,Pv U.length ys H->∀l,H l=_n->Q (.ref l) (upd H l (.lst ys))) :
  Vz (Ft d o U) nl fv g tt te Q H:=by
 let c:∀{x:V}{H:Hp}{Y f:V->Hp->Prop}{N e:Hp->Prop},Vd nl fv g tt te x H Y N->Y=f->N=e->Vd nl fv g tt te x H f e:=λh e f=>by subst e;subst f;rwa[h]
 erw[λi m ys H=>m=U.9 - i/\i<=U.9/\Pv i ys H,(U.9,by simp,yJ _,k),?_];rintro i m ys H ⟨rfl,e,p⟩;let f:=b i ys H p;let b:(1000000:Nat)<sizeLine:=by decide
 by_cases b:i<U.9
 .erw[.inr ((j i ys H e p,b),(),U.9 - (i+1),(),λx J y=>?_)];let(q,a,h,f,b,S,e,S):=y;erw[c (step i h a q ys H f b p e) ?_ ?_]
  .grind
  .grind
 .let e:i=U.9:=by lia
  subst e;rwa[.inl ((j _ ys H (xE _) p,xE _),(),n ys H p)]
end L2
namespace PySem.F
def sub_rgi_reversed:isSubtype (.type "range_iterator") (.type "reversed")=pure false:=by rw[isSubtype_type];kernel_rfl
end PySem.F
namespace L2
open PySem PySem.Spec PyProof.Rows PySem.W
theorem bC:_o "reversed"=_s (.type "reversed"):=aA
def rgi(a n c:Int):Obj:={cls:=.type "range_iterator", data:=.fields #[rawInt a,rawInt n,rawInt c] }
def Ot(c:IsRange s.heap r a b 1 t u v)(d : -(2^62)<=a)(d:a<2^62)(d : -(2^62)<=b)(d:b<2^62)(h:Q (.ref s.8) {s with heap:=s.heap.push (rgi (a+(Builtin.Range.rangeSize a b 1 - 1) * 1) (Builtin.Range.rangeSize a b 1) (-1)) }):_w (_m prog w) A (call (.builtin "range.__reversed__") [.ref r]) Q E s:=by
 let d:s.TypeIs (.ref r) "range" := (_,c,S);erw[wpAny_call_entry slot_range_reversed d PySem.F.entry_range_reversed ?_ (PySem.F.args_range_reversed_1 _)];unfold Builtin.«range.__reversed__»;erw[_b (wpAny_of_eq (a:=Value.ref r) S ?_)];unfold Builtin.Range.rangeFields;erw[_b (_b (_d c S (x:=.int a t) S (_b (wpAny_of_eq (a:=_s a) S (_b (_d c S (x:=.int b u) S (_b (wpAny_of_eq (a:=_s b) S (_b (_d c S (x:=.int 1 v) S (_b (wpAny_of_eq (a:=_s 1) S (_p ?_)))))))))))))];dsimp only;let e:(Builtin.Range.rangeFitsLong a&&Builtin.Range.rangeFitsLong b&&Builtin.Range.rangeFitsLong 1&&Builtin.Range.rangeFitsLong (-1)&&Builtin.Range.rangeFitsLong (a - 1)&&Builtin.Range.rangeFitsLong (Builtin.Range.rangeSize a b 1))=true:=by
  rw[rangeSize_one];simp only[Builtin.Range.rangeFitsLong,yR,decide_eq_true_eq];split<;>lia
 rw[e];simp only[Bool.not_true,zB,if_false,if_true];rwa[_b (wpAny_newObj_type (_p (_,S,h)))]
def Sw(d:IsRange s.heap r a b 1 t u v)(e : -(2^62)<=a)(f:a<2^62)(g : -(2^62)<=b)(i:b<2^62)(h:Q₁ (.ref s.8) {s with heap:=s.heap.push (rgi (a+(Builtin.Range.rangeSize a b 1 - 1) * 1) (Builtin.Range.rangeSize a b 1) (-1)) }) :
  codeAny (_m prog w) A (.call (.builtin "reversed.__new__") ([.type "reversed", .ref r],[])) (wants Q₁ E) s:=by
 let c:s.TypeIs (.ref r) "range" := (_,d,S);erw[codeAny_of_tree ?_];show _w _ A.in1 (do checkBuiltinCall "reversed.__new__" ([.type "reversed", .ref r],[]);again (.builtin "reversed.__new__" ([.type "reversed", .ref r],[]))) _ _ s;erw[_b (wpAny_of_eq (PySem.F.newCall_reversed_1 _) (_p (plainId_quiet PySem.F.plain_reversed_new _,codeAny_builtin PySem.F.entry_reversed_new ?_)))];rw[mH PySem.F.plain_reversed_new _];unfold Builtin.«reversed.__new__»;erw[_b (wpAny_of_eq (newClass_reversed _) ?_)]
 try dsimp only
 erw[_b (wpAny_of_eq (a:=_u) (by first | rfl | kernel_rfl) ?_)];erw[_b (wpAny_of_eq (a:=_u) (by first | rfl | kernel_rfl) ?_)]
 try dsimp only
 erw[_b (wpAny_specialOf c slot_range_reversed.lookup ?_)]
 try dsimp only
 erw[_b (wpAny_of_eq (slot_range_reversed.bind _) ?_)]
 try dsimp only
 let c:¬((Value.builtin "range.__reversed__"==Value.none)=_t):=xJ
 first
 | rw[_i c]
 | (show _w _ _ (if (Value.builtin "range.__reversed__"==Value.none)=_t then _ else _) _ _ _;rw[_i c])
 erw[_b (wpAny_rule ?_)];erw[_b (m:=runValue (.call (.builtin "range.__reversed__") ([.ref r],[]))) (show _w _ _ (call (.builtin "range.__reversed__") [.ref r]) _ _ _ from Ot d e f g i ?_)]
 first
 | rwa[_p h]
 | rwa[_b (_p (_p h))]
def iP(j:IsRange s.heap r a b 1 t u v)(e : -(2^62)<=a)(f:a<2^62)(g : -(2^62)<=b)(i:b<2^62)(h:Q (.ref s.8) {s with heap:=s.heap.push (rgi (a+(Builtin.Range.rangeSize a b 1 - 1) * 1) (Builtin.Range.rangeSize a b 1) (-1)) }):_w (_m prog w) A (call (.type "reversed") [.ref r]) Q E s:=by
 erw[callType_other (U:="range_iterator") (Q₁:=λd c=>d=.ref s.8/\c={s with heap:=s.heap.push (rgi (a+(Builtin.Range.rangeSize a b 1 - 1) * 1) (Builtin.Range.rangeSize a b 1) (-1)) }) aA PySem.F.create_reversed (_,_,PySem.F.mro_reversed) PySem.F.made_reversed PySem.F.sub_rgi_reversed (PySem.F.typeCall_reversed_1 _) (Sw j e f g i (S,S)) ?_];rintro d c ⟨rfl,rfl⟩;rwa[(_,xI _ S,S),h]
section
variable{X:Cx}{tg:Expr}
end
section
variable{X:Cx}{tg:Expr}
inductive Ai(R:It->Hp->Prop)(vs:aG)(a:Hp):Prop
 |mk(n:Nat)(_:vs=[.int n])(_:n<1000000)(_:R (BY ((n:Int) - 1) n) a)
def X9(a:TA):TI:=λY H R=>a Y H λb a=>Ai R b a
theorem fV{a:Expr}{g:TA}{p q pos c:Pos}(e:Gl X "reversed")(f:X.mg "reversed"=_n)(i:Gl X "range")(j:X.mg "range"=_n)(d:QA X [a] g)(hs:autoParam (_e [a] X.env=[(_x,eval a X.env)]) y1z)(b:autoParam (_e [.Call (.Name "range" p) [a] [] pos] X.env=[(_x,eval (.Call (.Name "range" p) [a] [] pos) X.env)]) y1z) :
  QI X tg (.Call (.Name "reversed" q) [.Call (.Name "range" p) [a] [] pos] [] c) (X9 g):=⟨by
 let d:=d.h;intro B s Y H R I h;erw[Call_ (Uo I e f bC (callWith_type1 ?_ b rfl))];rw[b];erw[mv ?_];erw[Call_ (Uo I i j boot_range (callWith_type1 (thn (d pos B s Y H _ I h) λe c ⟨h,d,f,g,b⟩=>?_) hs rfl))];let(n,e,b,q):=b;subst e;cases g with
 | cons r b =>
  ext b;let(t,rfl):=r;erw[call_range_1 (mw ?_)];let b:(n:Int)<1000000:=by lia
  erw[iP (IsRange.new ..) () () () () ?_];erw[wpAny_pyIter_rangeiter (xI _ rfl) ?_];let g:Builtin.Range.rangeSize 0 (n:Int) 1=(n:Int):=by rw[rangeSize_one];split<;>lia
  erw[_,[_],_,_,d,rfl,?_,GV _ ((n:Int) - 1) n,?_,λb j=>?_,q]
  .rwa[(f.kept λb o e=>xB _ e).kept λb o e=>xB _ e]
  .show IsRangeIter _ _ ((n:Int) - 1+((0:Nat):Int) * (-1)) ((n:Int) - ((0:Nat):Int)) (-1);let h:(n:Int) - 1+((0:Nat):Int) * (-1)=0+(Builtin.Range.rangeSize 0 (n:Int) 1 - 1) * 1:=by rw[g];lia
   let i:(n:Int) - ((0:Nat):Int)=Builtin.Range.rangeSize 0 (n:Int) 1:=by rw[g];simp
   rw[h,i];rwa[xI _ rfl]
  .let e:=xV.mp j;subst e;let g:ZE X B Y d {c with heap:=c.heap.push {cls:=.type "range", data:=.fields #[.int 0 c.toks,.int n t,.int 1 (c.toks+1)] },toks:=c.toks+1+1 }:=f.kept λb o e=>xB _ e
   rwa[g.iw (xE _) (g.og.fresh (xE _))]⟩
end
section
variable{s:jN}{r:Nat->Nat}{N:Nat}{p:Array Nat}
end
section
variable{P:jQ}{w:jR}{K:Frag}{mg:jI}{Z:Heap}
end
section
variable{X:Cx}{B:List (jP×Obj)}{Y:St}{H:Hp}{s:jN}{c P:jP}{nm:Str}{params:Arguments}{body:Expr}{scope:Scope}{lpos:Pos}
end
section
variable{X:Cx}{B:List (jP×Obj)}{Y:St}{H:Hp}{s:jN}
variable{a kS:jP}{keys:Array jO}{b:Bool}{e e1:Nat}{Pf:PySem.Fin->jN->Prop}{E:jH}
end
section
variable{X:Cx}{c P:jP}{nm x:Str}{params:Arguments}{body:Expr}{scope:Scope}{lpos p kp kp2 pos:Pos}{e:Expr}{te:TE}{k:Nat}
end
section
variable{P:jQ}{w:jR}{K:uFg}{mg:jI}{Z:Heap}
end
section
variable{P:jQ}{w:jR}{K:uFg}{mg:jI}{Z:Heap}{x nm:Str}{scope:Scope}{f:jP}{cv:jO}{A:jS}{outer:List Env}{s:jN}{H:Hp}{E:XK}{pos:Pos}
end
section
variable{ta:TE}
def XD(K:Frag)(ta:TE):TT:=λY H Q=>ta Y H λx J=>∃k,IW K x J k/\Q k J
theorem cN(c:QE X a ta)(d:∀b,isTrue a X.env b=(do let v <- b;standAt a.pos;holding [v] (truthy v))):QT X a (XD X.K ta):=⟨by
 let c:=c.h;intro B s Y H Q I h
 rwa[isTrue_plain (thn (c B s Y H _ I h) λv g ⟨x,b,c,f,e⟩=>O8 B g Y b x v Q c f e) (d _)]⟩
end
section
variable{X:Cx}{o:Expr}{to:TE}{name:Str}{apos cpos:Pos}{T id:String}{r:V->List V->Hp->VK->Prop}
theorem iN:QM X "list.clear" AL:=⟨by
 intro B s Y H x d v b Q I a c h;let(l,L,rfl,rfl,b,q):=h;ext a;let a:=c.zero;subst a;let(z,a,n,r,c,e):=I.ou b;erw[call_meets F.slot_list_clear (_,e,rfl) F.entry_list_clear (F.args_list_clear_1 _) (AutoSeq1.list_clear_list_0 l a.toArray n (by rw[xU];lia)) (e,?_)]
 rwa[.non,_,I.lset (its':=[]) (ys:=[]) b e rfl .nil (yJ _),rfl,q]⟩
theorem Oz(i:PlainAttrs T)(c:Slot T name id)(f:typeOf (.builtin id)=pure (.type "method_descriptor"))(d:QM X id r)(e:QE X o to)(a:autoParam (attributeBase o name X.env (eval o X.env)=eval o X.env) y1z)(b:autoParam ((apos.endLine==cpos.line)=true) y1z):QE X (.Call (.Attribute o name apos) [] [] cpos) (OZ X.K T r to):=⟨by
 let d:=d.h;let e:=e.h;intro B s Y H Q I h;erw[wpAny_Call_method0_late a b (thn (e B s Y H _ I h) λv k ⟨x,e,a,b,l,j⟩=>?_)];let(g,h):=IL a b l
 rwa[T,id,i,c,f,g,h,mn rfl (PySem.evalArgs_none (d B k Y e x [] v [] Q a b .nil j))]⟩
end
theorem Lw(c:l≠it):∀n i s Q,s.heap.IsListIter it l i->s.heap.IsList l items->i+n<=items.5 ->
  (∀h',h'.IsListIter it l (i+n)->Heap.SameBut it s.heap h'->Q ((items.toList.drop i).take n) {s with heap:=h' })->_w (_m prog w) A (draw (.ref it) n) Q E s
 | 0,i,s,Q,a,_,_,hQ=>by
  show _w _ _ (pure []) Q E s;rwa[_p (by simpa using hQ s.heap a (Heap.SameBut.refl ..))]
 | n+1,i,s,Q,a,e,b,hQ=>by
  let d:i<items.5:=by lia
  show _w _ _ (pyNext (.ref it) >>= _) Q E s;erw[_b (wpAny_pyNext_list_item a e (x:=items[i]) (by simp[d]) λf b a=>?_)];erw[_b (wpAny_holding (Lw c n (i+1) _ _ b (e.extBut a.extBut c) () λe b c=>_p ?_))];let f:items.toList.drop i=items[i]::items.toList.drop (i+1):=by simp[zO,d]
  have:=hQ e (by rw[show i+(n+1)=i+1+n by lia];rwa[b]) (a.trans c);rw[f,List.take_succ_cons] at this;rwa[this]
def cC {x1} (g:A.handled=_n) (e:s.heap.IsList l items) (b:(assignEach elts env).9=items.5) (a:(assignEach elts env).findIdx? (·.1)=_n) (h:∀h',Heap.ExtBut s.heap.objs.size s.heap h'->_w (_m prog w) A (assignInOrder ((assignEach elts env).map (·.2)) items.toList) Q E {s with heap:=h' }) :
  _w (_m prog w) A (assign (.Tuple elts x1 pos) env (.ref l)) Q E s:=by
 let d:l≠s.8:=by let(o,c,_):=e;rwa[yG (xP c)]
 rw[assign_Tuple];erw[_b (wpAny_standAt ?_)];unfold unpack;rw[b,a];erw[_b (wpAny_holding ?_)];unfold unpackItems;erw[_b ?_]
 .unfold notIterableAtAll;erw[_b (wpAny_specialOf e.typeIs slot_list_iter.lookup ?_)];erw[_p ?_];simp only[zB,if_false];erw[_b (wpAny_holding (wpAny_pyIter_list e ?_))];erw[_b (wpAny_holding (Lw d items.size 0 _ _ (_,xI _ S,S,S) (e.push _) () λf b a=>?_))];let c:List.take items.size (List.drop 0 items.toList)=items.toList:=by
   rw[mD];rwa[zL (by simp)]
  rw[c];rw[_i (by simp)];let c:f.IsList l items:=(e.push _).extBut a.extBut d;erw[_b (wpAny_holding (wpAny_pyNext_list_end g b c (by simp) λb c=>?_))];simp only[Option.isSome_none,zB,if_false];erw[_p (h b λb o d e=>c b o d (a.extBut b o d (xB _ e)))]
section
variable{X:Cx}{pos:Pos}
inductive EC(K:uFg)(n:Nat)(t:TV)(v:V)(Y:St)(H:Hp)(Q:St->Hp->Prop):Prop
 |mk(a L)(_:v=.ref a)(_:ZG K H a L)(_:L.9=n)(_:t L Y H Q)
theorem cU{es:List Expr}{k:Nat}{t:TV}{n:Nat}(e:X.calm=_t)(h:BF X es t)(i:autoParam ((assignEach es X.env).9=n) y1z)(b:autoParam ((assignEach es X.env).findIdx? (·.1)=none) y1z):QG X (.Tuple es k pos) (EC X.K n t):=⟨by
 intro B s Y H v u Q I r c;let(a,L,d,l,g,c):=c;subst d;ext r;let(p,d,(o,m,j,a,_,f),r):=I.list l;erw[cC (I.ok.hd e) (o,j,a,m,f) (by simp[i,<- g,d.9]) b λb f=>?_];let a:ZE X B Y H {s with heap:=b }:=I.kept (t':=s.toks) λb o e=>f b o (yG (xP e)) e
 rwa[h.h B _ Y H L _ Q a (by simpa using d) c]⟩
end
inductive CB(L:aG)(H:Hp)(Q:VK):Prop
 |mk(i j l)(_:L=[.int i,.int j,.int l])(_:∀m,(m=i\/m=j\/m=l)->m<=i->m<=j->m<=l->Q (.int m) H)
theorem RQ(b:X.calm=_t):QC X (.builtin "min") CB:=⟨by
 intro B s Y H L a Q I r h;let(i,j,l,rfl,q):=h;cases r with
 | cons c a=>cases a with
  | cons d a=>cases a with
   | cons e a =>
    ext a;let(a,rfl):=c;let(a,rfl):=d;let(a,rfl):=e;erw[min_three_ints (I.ok.hd b) λa b k=>?_]
    by_cases b:j<i
    .rw[_j b]
     by_cases a:l<j
     .rw[_j a];rwa[.int l,H,I.kept k,(_,rfl),q l (.inr (.inr rfl)) () () ()]
     .rw[_i a];rwa[.int j,H,I.kept k,(_,rfl),q j (.inr (.inl rfl)) () () ()]
    .rw[_i b]
     by_cases a:l<i
     .rw[_j a];rwa[.int l,H,I.kept k,(_,rfl),q l (.inr (.inr rfl)) () () ()]
     .rw[_i a];rwa[.int i,H,I.kept k,(_,rfl),q i (.inl rfl) () () ()]⟩
def e0:Str:=⟨#[]⟩
def ltS(x y:Str):Bool:=decide (x.cps.toList<y.cps.toList)
theorem Gm(x:Str):ltS x x=false:=yM (List.lt_irrefl _)
theorem GZ(a:ltS x y=_t)(b:ltS y z=_t):ltS x z=true:=yE (List.lt_trans (zR a) (zR b))
def XY(z:Str)(a:ltS x y=_t):ltS x z=_t\/ltS z y=true:=by
 by_cases e:x=z
 .subst e;rwa[.inr a]
 .by_cases h:x.cps.toList<z.cps.toList
  .rwa[.inl (yE h)]
  .rwa[.inr (yE (List.lt_trans (Dg e h) (zR a)))]
def DJ(a:ltS x y=_x)(b:ltS y x=_x):x=y:=by
 by_cases e:x=y
 .rwa[e]
 .rwa[_a (Dg e (of_decide_eq_false a)) (of_decide_eq_false b)]
theorem Cq:∀{a:jJ}{us:jK},ZJ (a.map V.str) us->StrsAre us a
 | [],_,.nil=>.nil
 | s::a,_,.cons r rr=>by let(t,S):=r;rwa[.cons s t (Cq rr)]
theorem Eh:∀{a:jJ}{us:jK}{i:Nat}{d:Str},ZJ (a.map V.str) us->i<a.9->∃t,us.getD i Value.none=.str (a.getD i d) t
 | s::a,_::us,0,d,.cons r rr,_=>by let(t,S):=r;rwa[t,rfl]
 | s::a,_::us,i+1,d,.cons r rr,h=>by
  have:=Eh (i:=i) (d:=d) rr (by simpa using h);simpa using this
theorem K7{b:jJ}{us:jK}{d:Str}(c:ZJ (b.map V.str) us):∀a:List Nat,(∀i∈a,i<b.9)->ZJ ((a.map λi=>b.getD i d).map V.str) (a.map λi=>us.getD i Value.none)
 | [],_=>.nil
 | i::a,h=>by
  let(t,e):=Eh (d:=d) c (h i xZ);rw[yD,yD,yD];rwa[.cons (t,e) (K7 c a λj a=>h j (xM _ a))]
theorem Xc{c:Type}:∀{l:List c},2<=l.9->∃a b r,l=a::b::r
 | [],h=>_a h (by simp)
 | [a],h=>_a h (by simp)
 | a::b::r,_=>(a,b,r,S)
inductive TM(K:uFg)(L:aG)(H:Hp)(Q:VK):Prop
 |mk(a:jP) (b:jJ)(_:L=[.ref a])(_:ZG K H a (b.map V.str))(_:b.9<64)(_:∀(l:jP)(a:jJ),H l=_n->a.Perm b->a.Pairwise (λx y=>ltS y x=_x)->Q (.ref l) (upd H l (.lst (a.map V.str))))
theorem IH:QC X (.builtin "sorted") (TM X.K):=⟨by
 intro B s Y H L us Q I r h;let(a,g,rfl,R,J,q):=h;let(u,rfl,ru):=Up r;ext ru;let(f,m,p,_):=I.list R;let c:f.9=g.9:=by have:=m.9;rw[xA] at this;rwa[this.6]
 let W:Ad λi j=>ltS (g.getD i e0) (g.getD j e0):=(λi=>Gm _,λi j k a b=>GZ a b,λi j k a=>XY _ a);erw[LK (r:=rk (λi j=>ltS (g.getD i e0) (g.getD j e0)) g.9) p.isList (by rw[c];rwa[J]) (λh0 T Z P hk Q' hQ=>?_) λn w K=>?_]
 .let(v1,v2,M,rfl):=Xc Z;rw[keyKind_strs (Cq m)];erw[_p (hQ _ λi j C l G E=>?_)];rw[c] at l G;rw[Gh W l] at E;let(t,N):=Eh (d:=e0) m l;let(t',O):=Eh (d:=e0) m G;show _w (_m X.prog X.w) X.A.in1.in1 (keyLt' oneType' _ _) C (λ_ _=>False) {s with heap:=P };rw[N,O];rwa[Nj (i:=0) E]
 .rw[c] at w K;let(v,A):=Me (d:=e0) (lt:=ltS) w W K;let(e,F):=sortedAll_at s.heap f (List.toArray (n.toList.map λi=>f.getD i Value.none));let x:=K7 (d:=e0) m n.toList λi l=>zN.mp (w.mem_iff.mp l);generalize (n.toList.map λi=>f.getD i Value.none)=z at F x |-;generalize (n.toList.map λi=>g.getD i e0)=y at v A x |-;let U:y.9=g.9:=v.length_eq;erw[.ref (s.8+1),_,I.laid (t':=s.toks) (o:=.lst (y.map V.str)) (λb o=>sortedAll_old) (zV _) ?_,rfl,q _ y (I.og.fresh (zV _)) v A]
  rwa[by rw[xA,U];rwa[xX (yS J) aA],z,e,x,by simpa using F]⟩
def erB(K:uFg)(c:jL)(errs:jJ):Bool :=
 decide (nsIn K _g "MootError"=_s (_s (.ref (c "MootError"))))&&errs.all λx=>decide (nsIn K _g x=_s (_s (.ref (c x))))&&A1 K (c x)&&Fx K (c x)&&decide (JQ K (c x) (c "MootError")=_s _t)&&decide (kitOne K (.ref (c x)) (.type "ValueError")=_s _t) &&
  errs.all λy=>decide (JQ K (c x) (c y)=_s (decide (x=y)))&&decide (kitOne K (.ref (c x)) (.ref (c y))=_s (decide (x=y)))
def SJ{K:uFg}{h:Heap}{mg:jI}{c:jL}{errs:jJ}(X:K.In h)(G:h.Ns _g mg)(e:erB K c errs=_t):Er K mg c errs:=by
 unfold erB at e;rw[yR,zU] at e;let(e0,e):=e;let b:∀x,x∈errs->(((((nsIn K _g x=_s (_s (.ref (c x)))/\A1 K (c x)=_t)/\Fx K (c x)=_t)/\JQ K (c x) (c "MootError")=_s _t)/\kitOne K (.ref (c x)) (.type "ValueError")=_s _t)/\∀y,y∈errs->JQ K (c x) (c y)=_s (decide (x=y))/\kitOne K (.ref (c x)) (.ref (c y))=_s (decide (x=y))):=λx a=>by grind
 rwa[λx a=>mg_of X G (b x a).1.1.1.1.1,λx a=>(b x a).1.1.1.1.2,λx a=>(b x a).1.1.1.2,mg_of X G (zR e0),λx a=>(b x a).1.1.2,λx a y d=>((b x a).2 y d).1,λx a y d=>((b x a).2 y d).2,λx a=>(b x a).1.2]
end L2
namespace Law
open PySem L2
abbrev lg:List Str:=["self","name","day","weight"]
abbrev lj:List Str:=["self","name","day"]
abbrev lp:List Str:=["_law_src_here","_law_base"]
abbrev lu:List Str:=["_law_src_here","_law_moot","_law_world","_law_names_here"]
abbrev lz:List Str:=["_law_src_here","_law_moot","_law_world","_law_names_here","_law_entries","_law_day","_law_due","_law_found","_law_together","_law_name","_law_many"]
abbrev lA:List Str:=["_law_suits","_law_told","_law_case","_law_ones","_law_others","_law_need","_law_named","_law_lost","_law_found","_law_name","_law_weight"]
abbrev lB:List Str:=["_law_deeds","_law_name","_law_day"]
abbrev lC:List Str:=["_law_src_here","_law_world","_law_names_here","_law_day"]
abbrev lD:List Str:=["self","day","need","ones","others","oath"]
abbrev lE:List Str:=["_law_world","_law_deed_here","_law_deeds","_law_suits","_law_trials","_law_ones","_law_others","_law_named"]
abbrev lF:List Str:=["_law_deed_here"]
abbrev lG:List Str:=["self","name","day","heir"]
abbrev lH:List Str:=["_law_found","_law_due"]
abbrev lI:List Str:=["_law_src_here","_law_many"]
abbrev lJ:List Str:=["_law_src_here","_law_moot","_law_world","_law_names_here","_law_many"]
abbrev lK:List Str:=["_law_src_here","_law_world","_law_suits","_law_case","_law_swearers"]
abbrev lL:List Str:=["_law_src_here","_law_names_here"]
abbrev lM:List Str:=["_law_deeds","_law_entries","_law_day","_law_one_here","_law_other"]
abbrev lN:List Str:=["_law_world","_law_deed_here"]
abbrev lO:List Str:=["_law_moot","_law_deed_here"]
abbrev lP:List Str:=["_law_deeds","_law_entries","_law_names_here","_law_day"]
abbrev lQ:List Str:=["suits","case","name"]
abbrev lR:List Str:=["sums","debtor","creditor","many"]
abbrev lS:List Str:=["_law_name"]
abbrev lT:List Str:=["self","case","name","day","need","ones","others"]
abbrev lU:List Str:=["_law_src_here","_law_world","_law_names_here"]
abbrev lV:List Str:=["self","name"]
abbrev lW:List Str:=["_law_src_here","_law_world"]
abbrev lX:List Str:=["self"]
abbrev lY:List Str:=["_law_src_here","_law_many","_law_letters"]
abbrev lZ:List Str:=["self","names","day"]
abbrev i0:List Str:=["_law_src_here","_law_things","_law_many"]
abbrev i3:List Str:=["_law_deeds","_law_name"]
abbrev i4:List Str:=["pair","many"]
abbrev i5:List Str:=["entries","folk","day"]
abbrev i6:List Str:=["name","weight"]
abbrev i7:List Str:=["case","side","gone"]
abbrev i8:List Str:=["suits"]
abbrev i9:List Str:=["self","rows"]
local macro_rules | `(tactic| walk_at "hp")=>`(tactic| first | exact Zi | assumption | (rw[Zd (by first | assumption | (apply Ne.symm;assumption))];walk_at "hp"))
local macro_rules | `(tactic| walk_at "sq")=>`(tactic| first | assumption | exact ZG.of (by walk_at "hp"))
local macro_rules | `(tactic| walk_at "dc")=>`(tactic| first | decide | assumption | lia)
local macro_rules | `(tactic| walk_at "rd1")=>`(tactic| first | refine Z6 ?_ | refine Zz ?_ | refine Zy (fun _=>?_) (fun _=>?_) | refine Vi (fun _=>?_) (fun _=>?_) | refine iteB (fun _=>?_) (fun _=>?_) | refine⟨_,rfl,?_⟩ | refine⟨_,_,rfl,rfl,?_⟩ | refine⟨_,_,rfl,rfl,(.inr ⟨by decide,by decide⟩:Ae _ _),?_⟩ | refine⟨_,_,rfl,rfl,(⟨by walk_at "dc", by walk_at "dc"⟩:Kr _ _),?_⟩ | refine⟨_,_,rfl,rfl,(⟨by decide,by decide,by decide⟩:Mi _ _),?_⟩ | refine⟨_,_,rfl,rfl,(show (0:Int)<_ by walk_at "dc"),?_⟩ | refine⟨_,_,_,_,rfl,rfl,(by walk_at "sq"),(by rfl),?_⟩ | refine⟨_,_,_,_,rfl,rfl,(by walk_at "sq"),Oy (by lia) (by lia),?_⟩ | refine⟨_,_,_,_,rfl,rfl,(by walk_at "hp"),(by rfl),?_⟩ | refine⟨_,_,rfl,.inl (by walk_at "sq"),?_⟩ | fail "rd")
local macro_rules | `(tactic| walk_at "rd")=>`(tactic| repeat' walk_at "rd1")
def top(i:Nat):Stmt:=PySem.Challenge.pw_forsworn_k37_dues_of_a_moot.main.body.getD i (.Pass (0,0,0,0))
structure Txt (mg:jI):Prop where
 len:mg "len"=_n
 list:mg "list"=_n
 range:mg "range"=_n
 isinstance:mg "isinstance"=_n
 bool:mg "bool"=_n
 int:mg "int"=_n
 str:mg "str"=_n
 tuple:mg "tuple"=_n
 zip:mg "zip"=_n
 all:mg "all"=_n
 max:mg "max"=_n
 enumerate:mg "enumerate"=_n
 sum:mg "sum"=_n
 set:mg "set"=_n
 min:mg "min"=_n
 reversed:mg "reversed"=_n
 ValueError:mg "ValueError"=_n
 sorted:mg "sorted"=_n
inductive VZ(vs:aG)(H:Hp)(Q:VK)(a:XK):Prop
 |mk(i)(_:vs=[.int i])(_:Q (.bl _t) H)
abbrev MB:Stmt:=top 68
def cV(a:YC K mg "_law_whole" MB)(T:Txt mg):Fn P w K mg Z "_law_whole" ["_law_found"] 1 VZ:=by
 erw[a.fq ["_law_found"] λH b Q E a h=>?_];let(i,S,k):=h;erw[rfl,_,(Zf (Zv (AK (Z1 Jr T.isinstance Uj (Za Q0 (Za (Uk (v:=.ty "int") T.int MU S) Zb))) (Bu (RY (Z1 Jr T.isinstance Uj (Za Q0 (Za (Uk (v:=.ty "bool") T.bool Ge S) Zb)))))))),?_];let(f,a,c):=isi (K:=K) (H:=H) (d:=.int i) S "int" aA;let(g,b,e):=isi (K:=K) (H:=H) (d:=.int i) S "bool" aA;rwa[_,S,_, "int", f,_,S,a,c,_,S,Z6 (_,S,_, "bool", g,_,S,b,e,_,S,k)]
inductive UB(n:Nat)(vs:aG)(H:Hp)(Q:VK)(a:XK):Prop
 |mk(v1 v2) (d)(_:vs=[v1,v2])(_:YA H d v1)(_:YA H d v2)(_:d.deep<=n)(_:∀J,ZC H J->Q (.bl _t) J)
abbrev CI:Stmt:=top 69
theorem Sr:ZP ["_law_found","_law_due","_law_one_here","_law_other"] lH (Zm CI):=fsc
def Ho(b1:YC K mg "_law_same" CI)(T:Txt mg)(b2:Fn P w K mg Z "_law_whole" ["_law_found"] 1 VZ)(b3:Fn P w K mg Z "_law_same" lH (k+1) (λvs H Q E=>0<n/\UB (n - 1) vs H Q E)):Fn P w K mg Z "_law_same" lH (k+2) (UB n):=by
 erw[b1.fnQ Sr (λ_ _ _ _ _ _=>al2 λ_ _=>rfl) (λvs H Q E h=>?_) (λf c2 A b7 s H vs Q E hr h=>?_)]
 .let(v1,v2,d,S,_):=h;rfl
 .let(v1,v2,d,S,t,l,hf,q):=h;let hk:1<=k+1:=Nat.le_add_left _ _
  refine(_,(Zc (Zs (Zn E2 Q1 Wa (Zo _)) (Zf (Zv (Jq E2 Q0 Wa (Zo _)))) Zr) (Zc (Zs (Wq (Z1 Jr T.isinstance Uj (Za Q1 (Za (Uk (v:=.ty "bool") T.bool Ge S) Zb)))) (Zf (Zv (AK (Z1 Jr T.isinstance Uj (Za Q0 (Za (Uk (v:=.ty "bool") T.bool Ge S) Zb))) (Bu (Jq Yp Q0 Q1 (Zo _)))))) Zr) (Zc (Zs (Wq (Z1 Jr T.isinstance Uj (Za Q1 (Za (Uk (v:=.ty "int") T.int MU S) Zb)))) (Zf (Zv (AK (Zk b2 (Za Q0 Zb)) (Bu (Jq Yp Q0 Q1 (Zo _)))))) Zr) (Zc (Zs (Wq (Z1 Jr T.isinstance Uj (Za Q1 (Za (Uk (v:=.ty "str") T.str KN S) Zb)))) (Zf (Zv (AK (Z1 Jr T.isinstance Uj (Za Q0 (Za (Uk (v:=.ty "str") T.str KN S) Zb))) (Bu (Jq Yp Q0 Q1 (Zo _)))))) Zr) (Zc (Zs (QW.pt (Gq (Zn BA (Z1 Jr T.isinstance Uj (Za Q1 (Za (Uk (v:=.ty "list") T.list V8 S) Zb))) (Z1 Jr T.isinstance Uj (Za Q0 (Za (Uk (v:=.ty "list") T.list V8 S) Zb))) (Zo _)) (Ff (Zn BA (Z1 Jr T.isinstance Uj (Za Q1 (Za (Uk (v:=.ty "tuple") T.tuple Gz S) Zb))) (Z1 Jr T.isinstance Uj (Za Q0 (Za (Uk (v:=.ty "tuple") T.tuple Gz S) Zb))) (Zo _))))) (Zf (Zv V0)) Zr) (Zc (Zs (Zn BA (Z1 Yu T.len Ym (Za Q0 Zb)) (Z1 Yu T.len Ym (Za Q1 Zb)) (Zo _)) (Zf (Zv V0)) Zr) (Zc (Y5 mO S (QD T.zip (Za Q0 (Za Q1 Zb))) (JA (by rfl) (Ye (Z8 2) (Ye (Z8 3) Vf)))
 (Zf (Zs (Ur (Wq (Zk b3 (Za Q2 (Za Q3 Zb))))) (Zf (Zv V0)) Zr)))
 (Zf (Zv V0))))))))),?_)
  let q0:=q H (ZC.refl _);let ne:∀{b:Bool}{A B:Prop},B->if (!decide (V.bl b=V.bl b))=_t then A else B:=λh=>Vi (λz=>_a S z) λ_=>h
  let dt:∀v:V,decide (v=v)=true:=λv=>yE S;let(m,r,j):=isi (K:=K) l "bool" aA;let(C,G,u):=isi (K:=K) l "int" aA;let(U,W,M):=isi (K:=K) l "str" aA;let(a4,a8,a0):=isi (K:=K) l "list" aA;let(a6,b0,a2):=isi (K:=K) l "tuple" aA;let(b8,c0,b4):=isi (K:=K) t "bool" aA;let(b9,c1,b5):=isi (K:=K) t "str" aA;let(a3,a7,X):=isi (K:=K) t "list" aA;let(a5,a9,a1):=isi (K:=K) t "tuple" aA;erw[_,S,S,_,S,?_];rw[l.oE];cases d with
  | non =>
   ext t;rwa[Z6 (_,S,S,q0)]
  | bl b =>
   ext t;ext l;erw[Zz (_,S,_, "bool", m,_,S,r,j,_,S,Z6 (_,S,_, "bool", b8,_,S,c0,b4,_,S,Z6 (_,S,_,S,S,?_)))];rw[dt];rwa[q0]
  | int i =>
   ext t;ext l;erw[Zz (_,S,_, "bool", m,_,S,r,j,_,S,Zz (_,S,_, "int", C,_,S,G,u,_,S,Z6 (_,S,i,S,_,S,Z6 (_,S,_,S,S,?_))))];rw[dt];rwa[q0]
  | str x =>
   ext t;ext l;erw[Zz (_,S,_, "bool", m,_,S,r,j,_,S,Zz (_,S,_, "int", C,_,S,G,u,_,S,Zz (_,S,_, "str", U,_,S,W,M,_,S,Z6 (_,S,_, "str", b9,_,S,c1,b5,_,S,Z6 (_,S,_,S,S,?_)))))];rw[dt];rwa[q0]
  | lst F =>
   erw[Zz (_,S,_, "bool", m,_,S,r,j,_,S,Zz (_,S,_, "int", C,_,S,G,u,_,S,Zz (_,S,_, "str", U,_,S,W,M,_,S,Zz (_,S,_, "list", a4,_,S,a8,a0,_,S,_, "list", a3,_,S,a7,X,S,_,S,ne (_,S,_, "tuple", a6,_,S,b0,a2,_,S,_, "tuple", a5,_,S,a9,a1,S,_,S,ne ?_)))))];let(I,a,S,N,p1):=t;let(L,c,S,O,p2):=l;let hl:a.9=c.9:=p1.length.trans p2.length.6;erw[_,S,I,a,S,.inl (ZG.of N),_,S,L,c,S,.inl (ZG.of O),S,_,S,Vi (λz=>_a (by rw[hl]) z) (λ_=>(_,S,_,S,I,L,S,.inl (a,c,ZG.of N,ZG.of O,?_)))];erw[M5 a c hl (λi Y J=>ZC H J/\∃w3 w4,Y=[_s (.ref I),_s (.ref L),w3,w4]) (ZC.refl _,_n,_n,S) (λi Y J _ ⟨g,_⟩=>(ZG.of (g _ _ N),ZG.of (g _ _ O))) ?_ λY J ⟨g,_⟩=>q J g];rintro i x y p Y J hx hy ⟨g,w3,w4,rfl⟩ hp;let(dx,ex,rx):=p1.get hx;let(dy,ey,ry):=p2.get hy;rw[ex] at ey;ext ey;let e:=g.trans (ZC.new (o:=.tup [x,y]) hp);let dd:=Gj ex;let b6:Jm F+1<=n:=hf;rwa[p,_,S,ZR.of Zi,S,x,[y],S,y,[],S,S,_,S,_,S,(),x,y,dx,S,rx.oA e,ry.oA e,(),λH2 R=>(_,S,Zz (e.trans R,_,_,S))]
  | tup F =>
   erw[Zz (_,S,_, "bool", m,_,S,r,j,_,S,Zz (_,S,_, "int", C,_,S,G,u,_,S,Zz (_,S,_, "str", U,_,S,W,M,_,S,Zz (_,S,_, "list", a4,_,S,a8,a0,_,S,_, "list", a3,_,S,a7,X,S,_,S,ne (_,S,_, "tuple", a6,_,S,b0,a2,_,S,_, "tuple", a5,_,S,a9,a1,S,_,S,ne ?_)))))];let(I,a,S,N,p1):=t;let(L,c,S,O,p2):=l;let hl:a.9=c.9:=p1.length.trans p2.length.6;erw[_,S,I,a,S,.inr (ZR.of N),_,S,L,c,S,.inr (ZR.of O),S,_,S,Vi (λz=>_a (by rw[hl]) z) (λ_=>(_,S,_,S,I,L,S,.inr (a,c,ZR.of N,ZR.of O,?_)))];erw[M5 a c hl (λi Y J=>ZC H J/\∃w3 w4,Y=[_s (.ref I),_s (.ref L),w3,w4]) (ZC.refl _,_n,_n,S) (λi Y J _ ⟨g,_⟩=>(ZR.of (g _ _ N),ZR.of (g _ _ O))) ?_ λY J ⟨g,_⟩=>q J g];rintro i x y p Y J hx hy ⟨g,w3,w4,rfl⟩ hp;let(dx,ex,rx):=p1.get hx;let(dy,ey,ry):=p2.get hy;rw[ex] at ey;ext ey;let e:=g.trans (ZC.new (o:=.tup [x,y]) hp);let dd:=Gj ex;let b6:Jm F+1<=n:=hf;rwa[p,_,S,ZR.of Zi,S,x,[y],S,y,[],S,S,_,S,_,S,(),x,y,dx,S,rx.oA e,ry.oA e,(),λH2 R=>(_,S,Zz (e.trans R,_,_,S))]
def PN(a:YC K mg "_law_same" CI):Fn P w K mg Z "_law_same" lH k (λ_ _ _ _=>False):=by
 let(f,b,F,c):=a;rwa[f,b,c,F.kp,F.binds λ_ _ _ _ _ _ b a=>match b,a with | [_,_],_=>rfl,(λ_ _ _ _ h=>h.elim,λ_ _ _ _ _ _ _ _ _ _ _ _ _ h=>h.elim)]
theorem KJ(a:YC K mg "_law_same" CI)(T:Txt mg)(b:Fn P w K mg Z "_law_whole" ["_law_found"] 1 VZ):∀n:Nat,Fn P w K mg Z "_law_same" lH (n+2) (UB n)
 | 0=>Ho (k:=0) a T b ((PN a).imp λ_ _ _ _ h=>_a h.1 (zS _))
 | n+1=>Ho (k:=n+1) a T b ((KJ a T b n).imp λ_ _ _ _ h=>h.2)
@[elab_as_elim] theorem nw {a:jP}{o:HO}{H:Hp}{b:Hp->Prop}(c:H a=_n) (h:∀J,ZC H J->J a=_s o->b J):b (upd H a o):=h _ (ZC.new c) Zi
section
variable{K:uFg}
inductive AA(K:uFg)(vs:aG)(H:Hp)(Q:VK)(a:XK):Prop
 |mk(a:jP) (b:List Int)(_:vs=[.ref a])(_:ZG K H a (b.map V.int))(_:∀(s a:jP)(J:Hp),H s=_n->H a=_n->ZL J s a->ZC H J->Q (.ref s) J)
abbrev Ij:Stmt:=top 66
def NI(a:YC K mg "_law_src" Ij)(T:Txt mg):Fn P w K mg Z "_law_src" ["_law_script"] 1 (AA K):=by
 erw[a.fq ["_law_script"] λH b Q E a h=>?_];let(a,e,S,b,k):=h;erw[rfl,_,(Zf (Zv (Yn (Za (J4 A0 T.list V8 (Za (JZ Ce Q0 JT (JV Ze)) Zb)) (Za Ze (Za Ze (Za Ze (Za Ze Zb)))))))),?_];erw[_,S,_,S,a,_,S,b,λl g=>?_];let a:∃d:List Int,Uw (e.map V.int) _n (_s 63)=d.map V.int:=by
  unfold Uw;rw[<- List.map_drop,<- List.map_take];rwa[_,rfl]
 let(d,h):=a;erw[l,_,S,.inl (ZG.of Zi),λc a=>(aB S,λs b=>?_)];let f:c≠l:=λz=>by rw[z,Zi] at a;ext a
 let f:ZC H (upd H l (.lst (Uw (e.map V.int) _n (_s 63)))):=ZC.new g;let g:=f.trans (ZC.new (o:=.lst (Uw (e.map V.int) _n (_s 63))) a);let e:c≠s:=λz=>by rw[<- z,Zi] at b;ext b
 erw[k s c _ (g.free b) (f.free a) (d,0,0,1,0,Zi,by rw[Zd e,Zi,h],aA,e) (g.trans (ZC.new b))]
inductive YI(vs:aG)(H:Hp)(Q:VK)(a:XK):Prop
 |mk(s la) (b)(_:vs=[.ref s,.int b])(_:ZL H s la)(_:0<b)(_:b<1073741824)(_:∀d J,0<=d->d<b->ZL J s la->ZF s H J->Q (.int d) J)
abbrev Hw:Stmt:=top 67
def iV(a:YC K mg "_law_next" Hw)(T:Txt mg):Fn P w K mg Z "_law_next" lp 1 YI:=by
 erw[a.fq ["_law_src_here","_law_base","_law_cell","_law_digit"] λH b Q E a h=>?_];let(s,m,b,S,(o,i,a,st,cnt,f,l,d,e),j,c,k):=h;erw[rfl,_,(Zc (Jl (Z0 Y7 (Zh Yg Q0 Ze) Ze) (Bh Q0 Ze Bs)) (Zc (Zs (Zn Wr (Zh Yg Q0 Ze) Ze (Zo _)) (Zc (Zw 2 Ze) (Zc (Zs (Zn J5 (Zh Yg Q0 Ze) (Z1 Yu T.len Ym (Za (Zh Yg Q0 Ze) Zb)) (Zo _)) (Zc (Zw 2 (Zh Yg (Zh Yg Q0 Ze) (Zh Yg Q0 Ze))) (Zf (Jl (Z0 Y7 (Zh Yg Q0 Ze) Ze) (Bh Q0 Ze Bs)))) Zr) (Zc (Jl (Z0 BE (Z0 Y7 (Z0 Y7 (Z0 LL (Zh Yg Q0 Ze) Ze) (Z0 BE Q2 Ze)) (Zh Yg Q0 Ze)) Ze) (Bh Q0 Ze Bs)) (Zf (Zs (Zn AE Q2 (Z0 dW Ze Ze) (Zo _)) (Zf (Jl Q2 (Bh Q0 Ze Bs))) Zr))))) Zr) (Zc (Zs (Zn J8 (Zh Yg Q0 Ze) Ze (Zo _)) (Zc (Zw 3 (Z0 BE (Zh Yg Q0 Ze) Q1)) (Zc (Jl (Z0 Dt (Zh Yg Q0 Ze) Q1) (Bh Q0 Ze Bs)) (Zf (Zv Q3)))) Zr) (Zf (Zv (Z0 BE (Z0 Dt (Z0 BE (Z0 LL (Zh Yg Q0 Ze) Ze) Ze) Ze) Q1)))))),?_];let g:∀(c:Hp)(f a st cnt d:Int),0<=d->d<b->ZF s H c->c s=_s (.lst [.ref m,.int f,.int a,.int st,.int cnt])->0<=f->Q (.int d) c:=λc f a st cnt d m n i h b =>
  k d c m n (o,f,a,st,cnt,h,i _ _ e l,b,e) i
 walk_at "rd"
 all_goals erw[g _ _ _ _ _ _ (Int.emod_nonneg _ ()) (Int.emod_lt_of_pos _ j) ?_ Zi ()]
 all_goals repeat (first | rwa[ZF.refl]| erw[ZF.trans ?_ ZF.upd])
end
inductive UQ(vs:aG)(H:Hp)(Q:VK)(a:XK):Prop
 |mk(s la) (n)(_:vs=[.ref s,.int n])(_:ZL H s la)(_:0<=n)(_:n<=100)(_:∀x J,(x.9:Int)=n->BD x->ZL J s la->ZF s H J->Q (.str x) J)
def Rv(a:List Nat):(List.map cs (a.map λc=>(⟨#[c]⟩:Str))).flatten=a:=by
 induction a with
 | nil=>rfl
 | cons c r a=>rw[yD,yD,wP,a];rfl
abbrev CA:Stmt:=top 71
theorem dN:ZP lY lI (Zm CA):=fsc
theorem Kc:Nm (Zm CA) "_law_letters" .cell:=aA
theorem O0:Nm (Zm CA) "_law_src_here" .cell:=aA
def bR(a:YC K mg "_law_word" CA)(T:Txt mg)(c:Fn P w K mg Z "_law_next" lp 1 YI):Fn P w K mg Z "_law_word" lI 2 UQ:=by
 erw[a.fq lY λH b Q E a h=>?_];let(s,l,n,S,a,b,d,k):=h
 refine(S,_,(Zc (MH (i:=2) dN.nd Kc Z9) (Zf (Zv (Yz F.plainAttrs_str F.slot_str_join F.type_str_join Re Z9 (Za (Vg (locs:=["_law_k"]) (fr:=[("_law_src_here", 0),("_law_letters", 2)]) (S,aA,aA,aA,aA,aA) (.ij O0 (.ij Kc .nil)) S (Au T.range (Za Q1 Zb)) ⟨λ_ _ _ _ _ _=>by
  let b:(inN ["_law_k"] [("_law_src_here", 0),("_law_letters", 2)]).Nodup:=aA
  rwa[(Y6 0 b),Jz,(Zh Fg (Wx 2) (Zk c (Za (Wx 1) (Za Ze Zb)) (n:=nmC)))]⟩) Zb))))),?_)
 erw[rfl,_,S,n,S,(),(),?_];erw[KR (n:=n.toNat) (λi j e=>ZL e s l/\ZF s H e/\∃b:List Nat,b.9=i/\j=b.map (λc=>V.str ⟨#[c]⟩)/\∀c∈b,97<=c/\c<=122) (a,ZF.refl,[],S,S,(λ_ z=>nomatch z)) () ?_ ?_ ?_]
 .rintro i j e ⟨_,_,b,h,rfl,_⟩;rw[xA];lia
 .rintro i j e a ⟨f,g,b,h,rfl,m⟩ n d;let(a,S):=Uz d;erw[([_],S,S),?_];walk_at "rd";erw[s,l,26,S,f,aA,aA,λd o l n a i=>?_];erw[letters,d,_,S,S,aA,EN l n,a,g.trans i,b ++ [97+d.toNat],by rw[xG,h];rfl,by rw[xL];rfl,λc a=>?_];rcases xK.mp a with z | z
  .rwa[m c z]
  .grind
 .rintro j e ⟨f,g,b,h,rfl,m⟩ l i;let e:(b.map λc=>V.str ⟨#[c]⟩)=(b.map λc=>(⟨#[c]⟩:Str)).map V.str:=by rw[mL];rfl
  let d:∀l:List Nat,((l.map λc=>(⟨#[c]⟩:Str)).map (·.length)).sum=l.9:=by
   intro l
   induction l with
   | nil=>rfl
   | cons c r j=>rw[yD,yD,wL,j,yH];show 1+r.9=_;lia
  erw[_,l,b.map λc=>(⟨#[c]⟩:Str),S,S,ZG.of (by rw[Zi,e]),?_,?_]
  .rw[d,xA];show b.9+b.9 * 0<=16777216;lia
  .let d:cs (Txt.join "" (b.map λc=>(⟨#[c]⟩:Str)))=b:=by rw[cQ,Rv]
   erw[k _ _ ?_ (λc a=>m c (by rw[d] at a;rwa[a])) (f.keep (ZC.new i)) (g.trans (ZF.new i))];rw[<- Vl,d,h];lia
theorem ph{b:Type} [DecidableEq b]:∀(L M:List b),L.Nodup->(∀a∈L,a∈M)->L.9<=M.9
 | [],_,_,_=>yJ _
 | a::L,M,nd,h=>by
  let(f,b):=yK.mp nd;let c:=h a xZ;have:=ph L (M.erase a) b λb d=>(List.mem_erase_of_ne (λ(e:b=a)=>f (by rw[<- e];rwa[d]))).mpr (h b (xM _ d));rw[List.length_erase_of_mem c] at this;let b:0<M.9:=List.length_pos_of_mem c;rw[yH];lia
def Vw(a:Str)(j:Nat):Str:=a++⟨#[97+j % 26]⟩++⟨#[97+j / 26]⟩
def DC(a:Str)(j:Nat):cs (Vw a j)=cs a ++ [97+j % 26,97+j / 26]:=by
 unfold Vw;rw[DX,DX];simp[cs]
def Pw(h:Vw stem i=Vw stem j):i=j:=by
 let e:cs (Vw stem i)=cs (Vw stem j):=by rw[h]
 rw[DC,DC] at e;let a:=List.append_cancel_left e;injection a with b a
 injection a with a _
 lia
def Kq(a:Str)(j:Nat):(Vw a j).9=a.9+2:=by
 rw[<- Vl,DC,xG,Vl];rfl
def fO(h:BD stem)(a:j<676):BD (Vw stem j):=by
 intro c a;rw[DC] at a;rcases xK.mp a with z | z
 .rwa[h c z]
 .simp at z;lia
def OV{a:jJ}{b:Str}(h:∀j,j<a.9->Vw b j∈a):Vw b a.9∉a:=by
 intro c;let c:((List.range (a.9+1)).map (Vw b)).Nodup:=by
  rw[List.nodup_iff_pairwise_ne,List.pairwise_map];rwa[List.Pairwise.imp (λh e=>h (Pw e)) (List.nodup_iff_pairwise_ne.mp List.nodup_range)]
 have:=ph _ a c λa b=>by grind
 rw[xA,wQ] at this;lia
def Ku(x:Str)(a:jJ):inV (.str x) (a.map V.str)=decide (x∈a):=by
 unfold inV;rw[List.any_map,zF,List.any_eq_true,wN];constructor
 .rintro⟨y,a,e⟩;have:y=x:=by simpa [eqV] using e
  rw[<- this];rwa[a]
 .intro h;rwa[x,h,by simp[eqV]]
def Lh(a:jJ):(a.map V.str).all JM=true:=by
 rw[List.all_map,zU];intro x _;rfl
def Vm(x:Str):Prop:=BD x/\1<=x.9/\x.9<=12
section
variable{K:uFg}
inductive WJ(K:uFg)(vs:aG)(H:Hp)(Q:VK)(a:XK):Prop
 |mk(a:jP) (b:jJ) (x:Str)(_:vs=[.ref a,.str x])(_:ZG K H a (b.map V.str))(_:b.9<=600)(_:Vm x)(_:∀y:Str,Vm y->y∉b->Q (.str y) H)
abbrev Mg:Stmt:=top 70
def XF(a:YC K mg "_law_unlike" Mg)(T:Txt mg):Fn P w K mg Z "_law_unlike" ["_law_names_here","_law_name"] 1 (WJ K):=by
 erw[a.fq ["_law_names_here","_law_name","_law_letters","_law_stem","_law_tries"] λH b Q E a h=>?_];let(a,d,x,S,o,b,(l,m,n),k):=h;erw[rfl,_,(Zc (Zw 2 Z9) (Zc (Zw 3 (JZ Ej Q1 JT (JV Ze))) (Zc (Y5 mO S (Au T.range (Za (Z0 Y7 (Z1 Yu T.len Ym (Za Q0 Zb)) Ze) Zb)) (Z8 4) (Zc (Zs (Zn HA Q1 Q0 S) (Zf (Zv Q1)) Zr) (Zf (Zw 1 (Z0 DN (Z0 DN Q3 (Zh Fg Q2 (Z0 BE Q4 Ze))) (Zh Fg Q2 (Z0 Dt Q4 Ze))))))) (Zf (Zv Q1))))),?_];let b:(13:Nat)<=sizeLine:=by decide
 erw[_,S,10,S,x,S,(),?_];let b:cs (Txt.slice x _n (_s 10))=(cs x).take 10:=FT x aA;let g:(Txt.slice x _n (_s 10)).9<=10:=by rw[<- Vl,b,xY];lia
 let e:BD (Txt.slice x _n (_s 10)):=λc f=>l c (by rw[b] at f;rwa[List.mem_of_mem_take f]);show Ug _ _ _ [_s (.ref a),_s (.str x),_s (.str letters),_s (.str (Txt.slice x _n (_s 10))),_n] H;generalize Txt.slice x _n (_s 10)=b at g e;erw[_,S,a,_,S,.inl o,_,_,S,S,_,S,(),by rw[xA];lia,?_];refine Bl (d.9+1) (by rw[xA];lia) (λi Y J=>J=H/\∃(c:Str)(v:Option V),Y=[_s (.ref a),_s (.str c),_s (.str letters),_s (.str b),v]/\Vm c/\(i=0\/c=Vw b (i - 1))/\∀j,j+1<i->Vw b j∈d)
  (S,x,_n,S,(l,m,n),.inl S,λj l=>by lia) ?_ ?_
 .rintro i Y J m ⟨rfl,c,v,rfl,f,h,g⟩;erw[_,S,_,S,a,_,S,.inl o,S,Lh d,_,S,?_];rw[Ku];erw[Vi (λd=>?_) (λm=>?_)]
  .rwa[_,S,k c f d]
  .let d:i<=600:=by lia
   erw[_,S,_,S,_,S,_,_,S,S,by show (0:Int)<26;decide,letters,_,_,S,S,aA,EN (Int.emod_nonneg _ aA) (Int.emod_lt_of_pos _ aA),b,_,S,S,?_,?_]
   .show b.9+1<=_z;lia
   erw[_,S,_,S,_,_,S,S,(aA,aA),letters,_,_,S,S,aA,EN (Int.ediv_nonneg () aA) (),_,_,S,S,?_,?_]
   .show (b++_).9+1<=_z;rw[mP];show b.9+1+1<=_z;lia
   let d:((0:Int)+(i:Nat)) % 26=((i % 26:Nat):Int):=by lia
   let m:((0:Int)+(i:Nat)) / 26=((i / 26:Nat):Int):=by lia
   erw[rfl,Vw b i,_s (.int (0+(i:Nat))),?_,(fO e (),by rw[Kq];lia,by rw[Kq];lia),.inr S,λj l=>?_]
   .show [_s (V.ref a),_s (V.str _),_s (V.str letters),_s (V.str b),_s (V.int _)]=_;unfold Vw;rw[d,m];rfl
   .grind
 .rintro Y J ⟨rfl,c,v,rfl,f,h,g⟩;erw[_,S,k c f ?_];rcases h with z | z
  .lia
  .rw[z];rwa[OV λj l=>g j ()]
inductive Tg(vs:aG)(H:Hp)(Q:VK)(a:XK):Prop
 |mk(s b:jP) (n:Int)(_:vs=[.ref s,.int n])(_:ZL H s b)(_:0<=n)(_:n<=100)(_:∀(l:jP)(a:jJ)(J:Hp),(a.9:Int)=n->a.Nodup->(∀x∈a,Vm x)->H l=_n->J l=_s (.lst (a.map V.str))->ZL J s b->ZF s H J->Q (.ref l) J)
abbrev HG:Stmt:=top 72
def cJ(c:YC K mg "_law_names" HG)(T:Txt mg)(b:Fn P w K mg Z "_law_next" lp 1 YI)(a:Fn P w K mg Z "_law_word" lI 2 UQ)(d:Fn P w K mg Z "_law_unlike" ["_law_names_here","_law_name"] 1 (WJ K)):Fn P w K mg Z "_law_names" lI 3 Tg:=by
 erw[c.fq ["_law_src_here","_law_many","_law_style","_law_stem","_law_at","_law_names_here","_law_k","_law_name"] λH e Q E c h=>?_];let(s,A,n,S,c,e,f,k):=h;erw[rfl,_,(Zc (Zw 2 (Zk b (Za Q0 (Za Ze Zb)))) (Zc (Zw 3 (Zk a (Za Q0 (Za (Z0 Y7 Ze (Zk b (Za Q0 (Za Ze Zb)))) Zb)))) (Zc (Zw 4 (Zk b (Za Q0 (Za (Z1 FU T.len Ym (Za Q3 Zb)) Zb)))) (Zc (Zw 5 (Yn Zb)) (Zc (Y5 mO S (Au T.range (Za Q1 Zb)) (Z8 6) (Zc (Zw 7 (Z0 DN (Z0 DN (JZ Ej Q3 JT (JV Q4)) (Zk a (Za Q0 (Za Ze Zb)))) (JZ Ej Q3 (JV (Z0 Y7 Q4 Ze)) JT))) (Zc (Zs (Zn Yp Q2 Ze (Zo _)) (Zf (Zw 7 (JZ Ej Q3 JT (JV (Z0 Y7 Ze (Zk b (Za Q0 (Za (Z1 FU T.len Ym (Za Q3 Zb)) Zb)))))))) Zr) (Zc (Zs (Zn Yp Q2 Ze (Zo _)) (Zf (Zw 7 (Zk a (Za Q0 (Za (Z0 Y7 Ze (Zk b (Za Q0 (Za Ze Zb)))) Zb))))) Zr) (Zf (Zl (Yz aD aE aF Y1 Q5 (Za (Zk d (Za Q5 (Za Q7 Zb))) Zb)))))))) (Zf (Zv Q5))))))),?_];let hz:(200:Nat)<=sizeLine:=by decide
 erw[_,S,s,A,3,S,c,aA,aA,λg e c d a b=>?_];erw[_,S,_,S,s,A,11,S,a,aA,aA,λd1 f d e a c=>?_];erw[_,_,S,S,s,A,_,S,a,(),(),λf i d t a e=>?_];erw[_,S,_,S,f,S,(),s,A,_,S,a,(),(),λd i p j m a=>?_];erw[aB S,λl j=>?_];let r:ZF s H i:=((b.trans c).trans e).trans a;let(B,U):=m.ne j;let R:H l=none:=by
  cases e:H l with
  | none=>rfl
  | some o=>rwa[_a (r l o B e) (by rw[j];simp)]
 erw[_,S,n,S,(),(),?_];show Bv _ _ _ _ [_s (.ref s),_s (.int n),_s (.int g),_s (.str f),_s (.int d),_s (.ref l),_n,_n] (upd i l (.lst []));let W:∀x:Str,BD x->1<=x.9->x.9<=12->Vm x:=λx a b c=>(a,b,c);refine Bl n.toNat S (λi Y J=>∃(a:jJ)(N O:Option V),Y=[_s (.ref s),_s (.int n),_s (.int g),_s (.str f),_s (.int d),_s (.ref l),N,O]/\a.9=i/\a.Nodup/\(∀x∈a,Vm x)/\J l=_s (.lst (a.map V.str))/\ZL J s A/\ZF s H J)
  ([],_n,_n,S,S,wS,(λ_ z=>nomatch z),Zi,m.keep (ZC.new j),r.trans (ZF.new j)) ?_ ?_
 .rintro i Y H5 j ⟨a,N,O,rfl,G,L,F,I,M,E⟩;let y:cs (Txt.slice f _n (_s d))=(cs f).take d.toNat:=FT f p;let e2:cs (Txt.slice f (_s (d+1)) _n)=(cs f).drop (d+1).toNat:=XI f ();let j:(Txt.slice f _n (_s d)).9<=11:=by rw[<- Vl,y,xY,Vl];lia
  let j:(Txt.slice f (_s (d+1)) _n).9+(d+1).toNat=f.9:=by rw[<- Vl,e2,wI,Vl];lia
  let v:(Txt.slice f _n (_s d)).9=d.toNat:=by rw[<- Vl,y,xY,Vl];lia
  erw[_,S,_,S,d,S,f,S,(),_,S,s,A,1,S,M,aA,aA,λX r m j u p=>?_];let m:r l=_s (.lst (a.map V.str)):=p l _ B I;erw[_,_,S,S,(),?_];erw[_,S,_,S,_,_,S,S,_,S,f,S,(),?_];let Q:(Txt.slice f _n (_s d)++X).9=d.toNat+1:=by rw[mP,v];lia
  erw[_,_,S,S,by rw[Q];lia,?_];let C:Vm (Txt.slice f _n (_s d)++X++Txt.slice f (_s (d+1)) _n):=by
   erw[W _ (λc v=>?_) ?_ ?_]
   .rw[DX,DX,y,e2] at v;rcases xK.mp v with v | v
    .rcases xK.mp v with v | v
     .rwa[t c (List.mem_of_mem_take v)]
     .rwa[j c v]
    .rwa[t c (List.mem_of_mem_drop v)]
   .rw[mP,Q];lia
   .rw[mP,Q];lia
  generalize Txt.slice f _n (_s d)++X++Txt.slice f (_s (d+1)) _n=W at C;show Ug _ _ _ [_s (.ref s),_s (.int n),_s (.int g),_s (.str f),_s (.int d),_s (.ref l),_s (.int (0+(i:Nat))),_s (.str W)] r;let Q:∀(D:YF),(∀ Y J,(∃(a:jJ)(N O:Option V),Y=[_s (.ref s),_s (.int n),_s (.int g),_s (.str f),_s (.int d),_s (.ref l),N,O]/\a.9=i+1/\a.Nodup/\(∀x∈a,Vm x)/\J l=_s (.lst (a.map V.str))/\ZL J s A/\ZF s H J)->D.nx Y J)->
    ∀(x:Str)(r:Hp),Vm x->r l=_s (.lst (a.map V.str))->ZL r s A->ZF s H r ->
    FJ (E8 K "list" VS (YL 5) (Uq (JO (WJ K) (Uq (YL 5) (Uq (YL 7) Vu))) Vu)) D
     [_s (.ref s),_s (.int n),_s (.int g),_s (.str f),_s (.int d),_s (.ref l),_s (.int (0+(i:Nat))),_s (.str x)] r:=by
   intro D X x r hx m u p;erw[_,S,.inl (S,_,ZG.of m),_,S,_,S,l,a,x,S,ZG.of m,(),hx,λy hy j=>?_];erw[l,_,_,S,S,m,by rw[xA];lia,X _ _ (a ++ [y],_,_,S,by rw[xG,G];rfl,EY L j,λz hz=>?_,?_,?_,?_)]
   .grind
   .rw[Zi,xL];rfl
   .rwa[u.oj ZF.upd B U]
   .intro b o j e;have:b≠l:=λz=>by rw[z,R] at e;ext e
    rw[Zd this];rwa[p b o j e]
  let b:∀(D:YF),(∀ Y J,(∃(a:jJ)(N O:Option V),Y=[_s (.ref s),_s (.int n),_s (.int g),_s (.str f),_s (.int d),_s (.ref l),N,O]/\a.9=i+1/\a.Nodup/\(∀x∈a,Vm x)/\J l=_s (.lst (a.map V.str))/\ZL J s A/\ZF s H J)->D.nx Y J)->
    ∀(x:Str)(r:Hp),Vm x->r l=_s (.lst (a.map V.str))->ZL r s A->ZF s H r ->
    Ug (DL (BH (T8 Ci (YL 2) (tC (.int 2)))) (J7 (JO UQ (Uq (YL 0) (Uq (T8 (Ah λi j=>.int (i+j)) (tC (.int 1)) (JO YI (Uq (YL 0) (Uq (tC (.int 12)) Vu)))) Vu))) (Wl 7)) Y0)
     (FJ (E8 K "list" VS (YL 5) (Uq (JO (WJ K) (Uq (YL 5) (Uq (YL 7) Vu))) Vu))) D
     [_s (.ref s),_s (.int n),_s (.int g),_s (.str f),_s (.int d),_s (.ref l),_s (.int (0+(i:Nat))),_s (.str x)] r:=by
   intro D X x r hx m u p;erw[_,S,S,_,S,Zy (λ_=>?_) (λ_=>?_)]
   .erw[_,S,_,S,s,A,12,S,u,aA,aA,λd o H d1 g e=>?_];erw[_,_,S,S,s,A,_,S,g,(),(),λy z U n j i=>?_];rwa[Q D X y z (n,(),()) (i l _ B (e l _ B m)) j ((p.trans e).trans i)]
   .rwa[Q D X x r hx m u p]
  erw[_,S,S,_,S,Zy (λ_=>?_) (λ_=>?_)]
  .erw[_,S,_,S,_,S,f,S,(),s,A,_,S,u,(),(),λd o H d1 g e=>?_];erw[_,_,S,S,_,S,f,S,(),?_];let i:cs (Txt.slice f _n (_s (1+d)))=(cs f).take (1+d).toNat:=FT f ();erw[b _ (λY J h=>h) _ o (λc v=>t c (by rw[i] at v;rwa[List.mem_of_mem_take v]),?_,?_) (e l _ B m) g ((E.trans p).trans e)]
   .rw[<- Vl,i,xY,Vl];lia
   .rw[<- Vl,i,xY,Vl];lia
  .rwa[b _ (λY J h=>h) W r C m u (E.trans p)]
 .rintro Y H5 ⟨a,N,O,rfl,G,L,F,I,M,E⟩;rwa[_,S,k l a H5 () L F R I M E]
end
def okc(c:Nat):Bool:=decide (97<=c)&&decide (c<=122)
def V4(x:Str):Bool:=(decide (1<=x.9)&&decide (x.9<=12))&&(cs x).all okc
def gZ(h:Vm x):V4 x=true:=by
 let(d,a,b):=h;unfold V4;rw[yE a,yE b,Bool.true_and,Bool.true_and,zU];intro c e;let(a,b):=d c e;unfold okc;rw[yE a,yE b];rfl
inductive UF(vs:aG)(H:Hp)(Q:VK)(a:XK):Prop
 |mk(x)(_:vs=[.str x])(_:x.9<=1000)(_:∀J,ZC H J->Q (.bl (V4 x)) J)
def II(a:i<x.9):(cs x)[i]?=_s (x.cps.getD i 0):=by
 unfold cs;have:i<x.cps.5:=a;rw[zW,wG this,wT,wG this];rfl
def leA(c:Nat):(!decide ((⟨#[c]⟩:Str).cps.toList<("a":Str).cps.toList))=decide (97<=c):=by
 let e:("a":Str).cps.toList=[97]:=aA
 rw[e];show (!decide (([c]:List Nat)<[97]))=_;rw[zF,Bool.not_eq_true',decide_eq_false_iff_not,wN,Nu];lia
def leZ(c:Nat):(!decide (("z":Str).cps.toList<(⟨#[c]⟩:Str).cps.toList))=decide (c<=122):=by
 let e:("z":Str).cps.toList=[122]:=aA
 rw[e];show (!decide (([122]:List Nat)<[c]))=_;rw[zF,Bool.not_eq_true',decide_eq_false_iff_not,wN,Nu];lia
def Kz{b c:Type}{l:List b}{i:Nat}{a:b}(f:b->c)(h:l[i]?=_s a):(l.take (i+1)).map f=(l.take i).map f ++ [f a]:=by
 rw[xQ,h,xL];rfl
abbrev Hg:Stmt:=top 39
def iW(c:YC K mg "is_name" Hg)(T:Txt mg)(b:∃t,mg "LONGEST_NAME"=_s (.int 12 t)):Fn P w K mg Z "is_name" ["text"] 1 UF:=by
 let(d,a):=b;let b:ZH (.int 12) (.int 12 d):=(d,S);erw[c.fq ["text"] λH d Q E c h=>?_];let(x,S,c,k):=h
 refine(S,_,(Zf (Zv (AK (M1 Wr Wr Ze (Z1 FU T.len Ym (Za Q0 Zb)) (Wh a b)) (Bu (Z1 (eY (by rfl)) T.all Rt (Za (Vg (locs:=["sign"]) (fr:=[]) (S,aA,aA,aA,aA,aA) .nil S (cF Q0) ⟨λ_ _ _ _ _ _=>by
  let a:(inN ["sign"] []).Nodup:=aA
  rwa[(Y6 0 a),Jz,(M1 Nw Nw Z9 (Yj 0) Z9)]⟩) Zb)))))),?_)
 let a:(1000:Nat)<=sizeLine:=by decide
 erw[_,S,x,S,(),_,_,S,S,_,S,Zy (λa=>?_) (λa=>?_)]
 .erw[_,_,S,S,_,S,Zy (λa=>?_) (λa=>?_)]
  .erw[_,S,x,S,?_];erw[OJ (λi d J=>J=H/\d=((cs x).take i).map λc=>V.bl (okc c)) (S,S) () ?_ ?_ ?_]
   .grind
   .rintro i d J c ⟨rfl,rfl⟩ a b;let(a,S):=Uz b;erw[([_],S,S),Z6 ?_];erw[_,S,_,_,S,S,_,S,?_];rw[leA];erw[Zy (λa=>?_) (λa=>?_)]
    .erw[_,_,S,S,S,?_];dsimp only;rw[leZ,Kz _ (II c)];unfold okc;rw[yE a,Bool.true_and]
    .erw[rfl,?_];rw[Kz _ (II c)];unfold okc;rw[yM a,wH]
   .rintro d J ⟨rfl,rfl⟩ l a;erw[l,(cs x).map okc,S,ZG.of (by rw[Zi,<- Vl,xR,mL];rfl),?_];let e:((cs x).map okc).all id=V4 x:=by
     unfold V4;rw[List.all_map,yE (show 1<=x.9 by lia),yE (show x.9<=12 by lia)];rfl
    rw[e];rwa[k _ (ZC.new a)]
  .erw[(?_:Q (.bl _x) H)];let e:V4 x=false:=by
    unfold V4;rw[yM (show ¬x.9<=12 by lia),Bool.and_false,wH]
   rw[<- e];rwa[k H (ZC.refl _)]
 .erw[_,S,Zz ?_];let e:V4 x=false:=by
   unfold V4;rw[yM (show ¬ 1<=x.9 by lia),wH,wH]
  rw[<- e];rwa[k H (ZC.refl _)]
section
variable{w:jR}{K:uFg}
inductive ZK where
 | come (n:Str) (d w:Int) | rise (n:Str) (d w:Int) | die (n:Str) (d:Int) (h:Str)
def Zp:List ZK->Str->Option Int
 | [],_=>_n
 | .come m d _::r,n=>if m=n then _s d else Zp r n
 | .rise _ _ _::r,n=>Zp r n
 | .die _ _ _::r,n=>Zp r n
def Z2:List ZK->Str->Option (Int×Str)
 | [],_=>_n
 | .die m d h::r,n=>if m=n then _s (d,h) else Z2 r n
 | .come _ _ _::r,n=>Z2 r n
 | .rise _ _ _::r,n=>Z2 r n
def Cw(a b:List ZK)(n:Str):Zp (a++b) n=(Zp a n).or (Zp b n):=by
 induction a with
 | nil=>rfl
 | cons x r c =>
  cases x with
  | come m d w =>
   rw[yN,Zp,Zp]
   by_cases e:m=n
   .rw[_j e,_j e];rfl
   .rw[_i e,_i e,c]
  | rise m d w=>rw[yN,Zp,Zp,c]
  | die m d h=>rw[yN,Zp,Zp,c]
def Cz(a b:List ZK)(n:Str):Z2 (a++b) n=(Z2 a n).or (Z2 b n):=by
 induction a with
 | nil=>rfl
 | cons x r c =>
  cases x with
  | come m d w=>rw[yN,Z2,Z2,c]
  | rise m d w=>rw[yN,Z2,Z2,c]
  | die m d h =>
   rw[yN,Z2,Z2]
   by_cases e:m=n
   .rw[_j e,_j e];rfl
   .rw[_i e,_i e,c]
def Dx{F:List ZK}{n:Str}{d w:Int}(h:Zp F n=_n)(x:Str):Zp (F ++ [.come n d w]) x=if x=n then _s d else Zp F x:=by
 rw[Cw,Zp,Zp]
 by_cases e:x=n
 .grind
 .grind
def EZ(x:Str):Zp (F ++ [.die n d h]) x=Zp F x:=by
 rw[Cw,Zp,Zp];cases Zp F x<;>rfl
def DF{F:List ZK}{n:Str}{d w:Int}(x:Str):Z2 (F ++ [.come n d w]) x=Z2 F x:=by
 rw[Cz,Z2,Z2];cases Z2 F x<;>rfl
def DV(a:Z2 F n=_n)(x:Str):Z2 (F ++ [.die n d h]) x=if x=n then _s (d,h) else Z2 F x:=by
 rw[Cz,Z2,Z2]
 by_cases e:x=n
 .grind
 .grind
def V2(F:List ZK)(n:Str)(day:Int):Bool:=match Z2 F n with
 | some x=>decide (x.1<=day)
 | none=>_x
def Us(a c dd b:jP):List (Str×V):=Zu "heirs" (.ref b) (Zu "deaths" (.ref dd) (Zu "weights" (.ref c) (Zu "comings" (.ref a) [])))
def Ca(a c dd b:jP):(Us a c dd b).lookup ("comings":Str)=_s (.ref a):=by
 unfold Us;rw[Y8,_i aA,Y8,_i aA,Y8,_i aA,Y8,_j S]
def EB(b a dd c:jP):(Us b a dd c).lookup ("weights":Str)=_s (.ref a):=by
 unfold Us;rw[Y8,_i aA,Y8,_i aA,Y8,_j S]
def CU(a c dd b:jP):(Us a c dd b).lookup ("deaths":Str)=_s (.ref dd):=by
 unfold Us;rw[Y8,_i aA,Y8,_j S]
def GH(b c dd a:jP):(Us b c dd a).lookup ("heirs":Str)=_s (.ref a):=by
 unfold Us;rw[Y8,_j S]
def Gi(m:Str):Prop:=¬m="heirs" /\ ¬m="deaths" /\ ¬m="weights" /\ ¬m="comings"
instance (m:Str):Decidable (Gi m):=by unfold Gi;rwa[inferInstance]
def Y4(a c dd b:jP)(h:autoParam (Gi m) y4z):(Us a c dd b).lookup m=none:=by
 let(a,b,c,d):=h;unfold Us;rw[Y8,_i a,Y8,_i b,Y8,_i c,Y8,_i d];rfl
structure FL where
 p:jP
 dc:jP
 dw:jP
 dd:jP
 dh:jP
structure ZZ (C:jP) (H:Hp) (L:FL) (F:List ZK):Prop where
 ob:∃dx,H L.p=_s (.ins C dx (Us L.dc L.dw L.dd L.dh))
 c:∃U:List (ZN×V),H L.dc=_s (.dK U)/\U.9<=F.9/\∀n:Str,Zx U (.inr n)=(Zp F n).map V.int
 w:∃U:List (ZN×V),H L.dw=_s (.dK U)/\U.9<=F.9
 d:∃U:List (ZN×V),H L.dd=_s (.dK U)/\U.9<=F.9/\∀n:Str,Zx U (.inr n)=(Z2 F n).map λx=>V.int x.1
 h:∃U:List (ZN×V),H L.dh=_s (.dK U)/\U.9<=F.9/\∀n:Str,Zx U (.inr n)=(Z2 F n).map λx=>V.str x.2
 a1:L.dc≠L.dw
 a2:L.dc≠L.dd
 a3:L.dc≠L.dh
 a4:L.dw≠L.dd
 a5:L.dw≠L.dh
 a6:L.dd≠L.dh
def Fp(H J:Hp):Prop:=∀b o,(∀L,o ≠ .lst L)->H b=_s o->J b=_s o
theorem ZC.n(h:ZC H J):Fp H J:=λb o _ e=>h b o e
def ZZ.keep(h:ZZ C H L F)(k:Fp H J):ZZ C J L F:=by
 let((o,y),(t,g,i,j),(u,A,B),(v,l,m,n),(x,p,r,s),a,b,c,d,e,f):=h;rwa[(o,k _ _ (λ_ z=>nomatch z) y),(t,k _ _ (λ_ z=>nomatch z) g,i,j),(u,k _ _ (λ_ z=>nomatch z) A,B),(v,k _ _ (λ_ z=>nomatch z) l,m,n),(x,k _ _ (λ_ z=>nomatch z) p,r,s),a,b,c,d,e,f]
def YX(H J:Hp):Prop:=(∀b L,H b=_s (.lst L)->J b=_s (.lst L))/\∀b L,H b=_s (.tup L)->J b=_s (.tup L)
theorem YX.j8(h:H l=_s (.dK U)):YX H (upd H l (.dK kvs')) :=
 (λb L e=>by rw[Zd (λz=>by rw[z,h] at e;ext e)];rwa[e],λb L e=>by rw[Zd (λz=>by rw[z,h] at e;ext e)];rwa[e])
structure VI (K:uFg) (C:jP):Prop where
 cl:UM K C
 nc:ZW K C "comings"
 nw:ZW K C "weights"
 nd:ZW K C "deaths"
 nh:ZW K C "heirs"
variable{C:jP}
inductive VH(C:jP)(vs:aG)(H:Hp)(Q:VK)(a:XK):Prop
 |mk(L) (F) (n) (day)(_:vs=[.ref L.p,.str n,.int day])(_:ZZ C H L F)(_:Q (.bl (V2 F n day)) H)
abbrev HW:Stmt:=Yr (top 43) 11
def dJ(a:ZU K C "died_by" "Folk.died_by" HW)(b:VI K C):Mt P w K mg Z C "died_by" lj 1 (VH C):=by
 erw[a.mq lj λH a Q E c h=>?_];let(L,F,n,d,S,a,k):=h;erw[rfl,_,(Zf (Zv (AK (Jq (Cn c) Q1 (Z3 Q0) S) (Bu (Jq Wr (BB c (Z3 Q0) Q1 (λ_ _=>rfl)) Q2 (Zo _)))))),?_];let(c,d):=a.ob;let(U,e,g,f):=a.d;let g:=YD.k (k:=Sum.inr n) e;rw[f] at g;unfold V2 at k;erw[_,S,_,S,L.p,C,c,_,_,S,d,b.cl,b.nd,CU _ _ _ _,L.dd,_,S,g,_,S,?_];cases e:Z2 F n with
 | none =>
  rw[e] at k;rwa[Zz k]
 | some x =>
  rw[e] at k g;erw[Z6 ?_];rwa[_,S,L.p,C,c,_,_,S,d,b.cl,b.nd,CU _ _ _ _,_,S,L.dd,.int x.1,S,g,_,S,_,_,S,S,k]
end
section
variable{C:jP}
inductive Js(C:jP)(vs:aG)(H:Hp)(Q:VK)(a:XK):Prop
 |mk(p dx)(_:vs=[.ref p])(_:H p=_s (.ins C dx []))(_:∀L J,L.p=p->ZZ C J L []->(∀b o,H b=_s o->b≠p->J b=_s o)->(∀b,b=L.dc\/b=L.dw\/b=L.dd\/b=L.dh->H b=_n)->Q .non J)
abbrev GF:Stmt:=Yr (top 43) 0
def Rq(a:ZU K C "__init__" "Folk.__init__" GF)(i:VI K C):Mt P w K mg Z C "__init__" lX 1 (Js C):=by
 erw[a.mq lX λH b Q E a h=>?_];let(p,d,S,b,k):=h;erw[rfl,_,(Zc (V1 Q0 BL) (Zc (V1 Q0 BL) (Zc (V1 Q0 BL) (Zf (V1 Q0 BL))))),?_];intro a j;let l:p≠a:=Zj b j;erw[_,S,p,C,d,[],S,(by rw[Zd l];rwa[b]),i.cl,i.nc,(by show 0<1000;decide),?_];let m:(upd (upd H a (.dK [])) p (.ins C d (Zu "comings" (.ref a) []))) p=_s (.ins C d (Zu "comings" (.ref a) [])):=Zi;let h:(upd (upd H a (.dK [])) p (.ins C d (Zu "comings" (.ref a) []))) a=_s (.dK []):=by rw[Zd l.6,Zi]
 let t:∀b o,H b=_s o->b≠p->(upd (upd H a (.dK [])) p (.ins C d (Zu "comings" (.ref a) []))) b=_s o:=λb o e n=>by rw[Zd n,Zd (Zj e j)];rwa[e]
 generalize (upd (upd H a (.dK [])) p (.ins C d (Zu "comings" (.ref a) [])))=g at m h t |-;intro c f;let r:p≠c:=Zj m f;let A:a≠c:=Zj h f;erw[_,S,p,C,d,_,S,(by rw[Zd r];rwa[m]),i.cl,i.nw,(by show 1<1000;decide),?_];let s:(upd (upd g c (.dK [])) p (.ins C d (Zu "weights" (.ref c) (Zu "comings" (.ref a) [])))) p=_s (.ins C d (Zu "weights" (.ref c) (Zu "comings" (.ref a) []))):=Zi;let m:(upd (upd g c (.dK [])) p (.ins C d (Zu "weights" (.ref c) (Zu "comings" (.ref a) [])))) a=_s (.dK []):=by rw[Zd l.6,Zd A];rwa[h]
 let y:(upd (upd g c (.dK [])) p (.ins C d (Zu "weights" (.ref c) (Zu "comings" (.ref a) [])))) c=_s (.dK []):=by rw[Zd r.6,Zi]
 let x:∀b o,H b=_s o->b≠p->(upd (upd g c (.dK [])) p (.ins C d (Zu "weights" (.ref c) (Zu "comings" (.ref a) [])))) b=_s o:=λb o e n=>by rw[Zd n,Zd (Zj (t b o e n) f)];rwa[t b o e n]
 generalize (upd (upd g c (.dK [])) p (.ins C d (Zu "weights" (.ref c) (Zu "comings" (.ref a) []))))=h at s m y x |-;intro f g;let v:p≠f:=Zj s g;let B:a≠f:=Zj m g;let E:c≠f:=Zj y g;let t:(Zu "comings" (V.ref a) []).9<=0+1:=AY "comings" (V.ref a) [];let t:=AY "weights" (V.ref c) (Zu "comings" (V.ref a) []);let t:=AY "deaths" (V.ref f) (Zu "weights" (V.ref c) (Zu "comings" (V.ref a) []));erw[_,S,p,C,d,_,S,(by rw[Zd v];rwa[s]),i.cl,i.nd,(),?_];let u:(upd (upd h f (.dK [])) p (.ins C d (Zu "deaths" (.ref f) (Zu "weights" (.ref c) (Zu "comings" (.ref a) []))))) p=_s (.ins C d (Zu "deaths" (.ref f) (Zu "weights" (.ref c) (Zu "comings" (.ref a) [])))):=Zi;let s:(upd (upd h f (.dK [])) p (.ins C d (Zu "deaths" (.ref f) (Zu "weights" (.ref c) (Zu "comings" (.ref a) []))))) a=_s (.dK []):=by rw[Zd l.6,Zd B];rwa[m]
 let z:(upd (upd h f (.dK [])) p (.ins C d (Zu "deaths" (.ref f) (Zu "weights" (.ref c) (Zu "comings" (.ref a) []))))) c=_s (.dK []):=by rw[Zd r.6,Zd E];rwa[y]
 let t:(upd (upd h f (.dK [])) p (.ins C d (Zu "deaths" (.ref f) (Zu "weights" (.ref c) (Zu "comings" (.ref a) []))))) f=_s (.dK []):=by rw[Zd v.6,Zi]
 let y:∀b o,H b=_s o->b≠p->(upd (upd h f (.dK [])) p (.ins C d (Zu "deaths" (.ref f) (Zu "weights" (.ref c) (Zu "comings" (.ref a) []))))) b=_s o:=λb o e n=>by rw[Zd n,Zd (Zj (x b o e n) g)];rwa[x b o e n]
 generalize (upd (upd h f (.dK [])) p (.ins C d (Zu "deaths" (.ref f) (Zu "weights" (.ref c) (Zu "comings" (.ref a) [])))))=m at u s z t y |-;intro h g;let x:p≠h:=Zj u g;let F:a≠h:=Zj s g;let G:c≠h:=Zj z g;let I:f≠h:=Zj t g;erw[_,S,p,C,d,_,S,(by rw[Zd x];rwa[u]),i.cl,i.nh,(),?_];erw[k (p,a,c,f,h) _ S ((d,Zi),([],?_,xE _,λn=>rfl),([],?_,xE _),([],?_,xE _,λn=>rfl),([],?_,xE _,λn=>rfl),A,B,F,E,G,I) (λb o e n=>?_) λb d=>?_]
 .show (upd (upd m h _) p _) a=_;rw[Zd l.6,Zd F];rwa[s]
 .show (upd (upd m h _) p _) c=_;rw[Zd r.6,Zd G];rwa[z]
 .show (upd (upd m h _) p _) f=_;rw[Zd v.6,Zd I];rwa[t]
 .show (upd (upd m h _) p _) h=_;rw[Zd x.6,Zi]
 .rw[Zd n,Zd (Zj (y b o e n) g)];rwa[y b o e n]
 .cases a:H b with
  | none=>rfl
  | some o =>
   rcases d with z | z | z | z<;>subst z
   .rw[j] at a;ext a
   .grind
   .grind
   .grind
end
section
variable{w:jR}{C:jP}
def Wb(f:Str->Option (List (ZN×V))):ZK->Str->Option (List (ZN×V))
 | .come n d w,m=>if m=n then _s [(.inl d,.int w)] else f m
 | .rise n d w,m=>if m=n then (f m).map λl=>Z4 l (.inl d) (.int w) else f m
 | .die _ _ _,m=>f m
def kw(F:List ZK):Str->Option (List (ZN×V)):=F.foldl Wb λ_=>_n
def Uc(F:List ZK)(x:ZK):kw (F ++ [x])=Wb (kw F) x:=by
 unfold kw;rw[zQ];rfl
def Vr:List ZK->List Str
 | []=>[]
 | .come n _ _::r=>n::Vr r
 | .rise _ _ _::r=>Vr r
 | .die _ _ _::r=>Vr r
def Dl(a b:List ZK):Vr (a++b)=Vr a++Vr b:=by
 induction a with
 | nil=>rfl
 | cons x r c=>ext x<;>simp[Vr,c]
def EU{F:List ZK}{n:Str}{d w:Int}(x:Str):Zp (F ++ [.rise n d w]) x=Zp F x:=by
 rw[Cw,Zp,Zp];cases Zp F x<;>rfl
def Dq{F:List ZK}{n:Str}{d w:Int}(x:Str):Z2 (F ++ [.rise n d w]) x=Z2 F x:=by
 rw[Cz,Z2,Z2];cases Z2 F x<;>rfl
def Nl{l:List (ZN×V)}{k:ZN}{v:V}{p:ZN×V}(h:p∈Z4 l k v):p=(k,v)\/p∈l:=by
 unfold Z4 at h;split at h
 .grind
 .grind
def G0(l:List (ZN×V)):Prop:=∀p∈l,∃d w,p=(.inl d,.int w)
theorem HZ:∀(F:List ZK)(f:Str->Option (List (ZN×V))),(∀n l,f n=_s l->G0 l)->∀n l,F.foldl Wb f n=_s l->G0 l
 | [],f,h,n,l,e=>h n l e
 | x::r,f,h,n,l,e=>by
  erw[HZ r (Wb f x) (λm g a=>?_) n l e];cases x with
  | come j d i =>
   rw[Wb] at a;split at a
   .ext a;intro p b;rwa[d,i,xV.mp b]
   .rwa[h m g a]
  | rise j d i =>
   rw[Wb] at a;split at a
   .cases c:f m with
    | none=>rw[c] at a;ext a
    | some k =>
     rw[c] at a;ext a;intro p b;rcases Nl b with rfl | b
     .rwa[d,i,rfl]
     .rwa[h m k c p b]
   .rwa[h m g a]
  | die j d o=>rwa[h m g a]
theorem Qo(h:kw F n=_s l):G0 l:=HZ F _ (λ_ _ z=>by ext z) n l h
def AN(a:Option (List (ZN×V)))(day wt:Int):Prop:=∃l m,a=_s l/\Zx l (.inl m)=_s (.int wt)/\m<=day/\∀d v,Zx l (.inl d)=_s v->d<=day->d<=m
def J6(c:Option (List (ZN×V)))(day a b:Int):Prop:=(c=_n/\a = -1/\b=0)\/∃l,c=_s l/\((a = -1/\b=0/\∀d v,Zx l (.inl d)=_s v->¬d<=day)\/
 (0<=a/\a<=day/\Zx l (.inl a)=_s (.int b)/\∀d v,Zx l (.inl d)=_s v->d<=day->d<=a))
def Dm:Zx [((.inl d:ZN),v)] (.inl j)=if j=d then _s v else none:=by
 by_cases e:j=d
 .subst e;rw[_j S];rwa[Uh S]
 .rw[_i e];simp[Zx,zY,Ne.symm e]
def AI{l:List (ZN×V)}{d j:Int}{v:V}:Zx (Z4 l (.inl d) v) (.inl j)=if j=d then _s v else Zx l (.inl j):=by
 rw[Ui]
 by_cases e:j=d
 .rw[_j e,_j (by rw[e])]
 .grind
def eF{f:Str->Option (List (ZN×V))}{n:Str}{d w day a b:Int}(h:J6 (f n) day a b)(j:f n=_n)(i:0<=d) :
  (a<=d->d<=day->J6 (Wb f (.come n d w) n) day d w)/\(¬(a<=d/\d<=day)->J6 (Wb f (.come n d w) n) day a b):=by
 rw[Wb,_j S];rcases h with⟨_,c,g⟩ | ⟨l,e,_⟩
 .erw[λ_ a=>.inr (_,S,.inr (i,a,by rw[Dm,_j S],λb v e _=>?_)),λa=>.inr (_,S,.inl (c,g,λb v e k=>?_))]
  .rw[Dm] at e
   by_cases z:b=d
   .lia
   .rw[_i z] at e;ext e
  .rw[Dm] at e
   by_cases z:b=d
   .rwa[a ((),())]
   .rw[_i z] at e;ext e
 .rw[j] at e;ext e
def Qj{f:Str->Option (List (ZN×V))}{n:Str}{e:List (ZN×V)}{d w day a b:Int}(h:J6 (f n) day a b)(c:f n=_s e)(g:0<=d) :
  (a<=d->d<=day->J6 (Wb f (.rise n d w) n) day d w)/\(¬(a<=d/\d<=day)->J6 (Wb f (.rise n d w) n) day a b):=by
 rw[Wb,_j S,c];rw[c] at h;rcases h with⟨e,_⟩ | ⟨l,e,h⟩
 .ext e
 ext e;erw[λa b=>.inr (_,S,.inr (g,b,by rw[AI,_j S],λb v e c=>?_)),λa=>.inr (_,S,?_)]
 .rw[AI] at e
  by_cases z:b=d
  .lia
  .grind
 .rcases h with⟨g,i,j⟩ | ⟨g,i,j,h4⟩
  .erw[.inl (g,i,λb v e c=>?_)];rw[AI] at e
   by_cases z:b=d
   .rwa[a ((),())]
   .rw[_i z] at e;rwa[j b v e c]
  .erw[.inr (g,i,?_,λb v e c=>?_)]
   .rw[AI,_i (λz=>a ((),()))];rwa[j]
   .rw[AI] at e
    by_cases z:b=d
    .grind
    .rw[_i z] at e;rwa[h4 b v e c]
def Sj(h:J6 kv day last found)(e:kv=_s l)(b:Zx l (.inl d0)=_s v)(a:d0<=day):AN kv day found:=by
 rcases h with⟨z,_⟩ | ⟨l',e',h⟩
 .rw[e] at z;ext z
 .rw[e] at e';ext e';rcases h with⟨_,_,h⟩ | ⟨_,h2,h3,h4⟩
  .rwa[_a a (h d0 v b)]
  .rwa[l,last,e,h3,h2,h4]
theorem KZ:∀(F:List ZK)(f:Str->Option (List (ZN×V)))(g:Str->Option Int),(∀m,(f m).isSome=(g m).isSome)->∀m,(F.foldl Wb f m).isSome=((g m).or (Zp F m)).isSome
 | [],f,g,h,m=>by rw[Zp];show (f m).isSome=_;rw[h m];cases g m<;>rfl
 | x::r,f,g,h,m=>by
  let e:Zp (x::r) m=(Zp [x] m).or (Zp r m):=Cw [x] r m;let a:=KZ r (Wb f x) (λm=>(g m).or (Zp [x] m)) (λm=>?_) m
  .rw[zX,a,e];cases g m<;>rfl
  .cases x with
   | come n d w =>
    rw[Wb,Zp,Zp]
    by_cases z:m=n
    .grind
    .grind
   | rise n d w =>
    rw[Wb,Zp,Zp];let a:=h m
    by_cases z:m=n
    .grind
    .grind
   | die n d w=>rw[Wb,Zp,Zp,h m];cases g m<;>rfl
def EJ(F:List ZK)(n:Str):(kw F n).isSome=(Zp F n).isSome:=by
 have:=KZ F (λ_=>_n) (λ_=>_n) (λ_=>rfl) n;rwa[this]
structure WX (H:Hp) (L:FL) (F:List ZK) (wa:jL):Prop where
 w:∃U:List (ZN×V),H L.dw=_s (.dK U)/\U.9<=F.9/\∀n l,kw F n=_s l->Zx U (.inr n)=_s (.ref (wa n))/\H (wa n)=_s (.dK l)/\l.9<=F.9
 ord:∃U:List (ZN×V),H L.dc=_s (.dK U)/\(U.map λp=>kV p.1)=(Vr F).map V.str
 ap:∀n l,kw F n=_s l->wa n≠L.dc/\wa n≠L.dw/\wa n≠L.dd/\wa n≠L.dh
 inj:∀n m l l',kw F n=_s l->kw F m=_s l'->wa n=wa m->n=m
def WX.keep(h:WX H L F wa)(k:Fp H J):WX J L F wa:=by
 let((a,b,c,m),(g,i,j),f,d):=h;rwa[(a,k _ _ (λ_ z=>nomatch z) b,c,λn l e=>let ⟨a,b,c⟩:=m n l e;(a,k _ _ (λ_ z=>nomatch z) b,c)),(g,k _ _ (λ_ z=>nomatch z) i,j),f,d]
def WX.start(h:ZZ C H L []):WX H L [] wa:=by
 let(k,d,e):=h.w;let(c,a,b,_):=h.c;rwa[(k,d,e,(λn l e=>by ext e)),(c,a,by rw[mK (Nat.le_zero.mp b)];rfl),(λn l e=>by ext e),(λn m l a e=>by ext e)]
def RI(H:Hp)(L:FL)(F:List ZK)(a:jL):Prop:=∃U:List (ZN×V),H L.dw=_s (.dK U)/\∀p∈U,∃n l,kw F n=_s l/\p=(Sum.inr n,V.ref (a n))
def own(L:FL)(F:List ZK)(a:jL)(b:jP):Prop:=b=L.p\/b=L.dc\/b=L.dw\/b=L.dd\/b=L.dh\/∃n l,kw F n=_s l/\b=a n
structure Fk (C:jP) (H:Hp) (L:FL) (F:List ZK) (wa:jL):Prop where
 f:ZZ C H L F
 w:WX H L F wa
 all:RI H L F wa
def WW(L:FL)(F:List ZK)(a:jL)(H J:Hp):Prop:=∀b o,H b=_s o->¬own L F a b->J b=_s o
def BO(L:FL)(F:List ZK)(d:jL)(a:List ZK)(c:jL)(H:Hp):Prop:=∀b,own L a c b->own L F d b\/H b=_n
def Fk.at(h:Fk C H L F wa)(k:∀b o,own L F wa b->H b=_s o->J b=_s o):Fk C J L F wa:=by
 let(((v,d),(A,n,p,r),(B,P,Q),(E,s,t,u),(G,x,y,z),a,c,e,i,j,l),((I,R,T,U),(K,N,O),m,f),(M,W,X)):=h;let kp:=k L.p _ (.inl S) d;let g:=λo=>k L.dc o (.inr (.inl S));let d:=λo=>k L.dw o (.inr (.inr (.inl S)));rwa[((v,kp),(A,g _ n,p,r),(B,d _ P,Q),(E,k L.dd _ (.inr (.inr (.inr (.inl S)))) s,t,u),(G,k L.dh _ (.inr (.inr (.inr (.inr (.inl S))))) x,y,z),a,c,e,i,j,l), ((I,d _ R,T,λn l e=>let ⟨a,b,c⟩:=U n l e;(a,k _ _ (.inr (.inr (.inr (.inr (.inr (n,l,e,S)))))) b,c)),(K,g _ N,O),m,f),(M,d _ W,X)]
def Fk.there(h:Fk C H Lqz F wa)(f:own Lqz F wa b):∃o,H b=_s o/\(∀L,o ≠ .lst L)/\∀L,o ≠ .tup L:=by
 let(((p,g),(s,a,k),(t,i,y),(u,c,m),(v,d,r),_),((x,z,A,j),_),_):=h;rcases f with rfl | rfl | rfl | rfl | rfl | ⟨n,l,e,rfl⟩
 .rwa[_,g,(λ_ z=>nomatch z),(λ_ z=>nomatch z)]
 .rwa[_,a,(λ_ z=>nomatch z),(λ_ z=>nomatch z)]
 .rwa[_,i,(λ_ z=>nomatch z),(λ_ z=>nomatch z)]
 .rwa[_,c,(λ_ z=>nomatch z),(λ_ z=>nomatch z)]
 .rwa[_,d,(λ_ z=>nomatch z),(λ_ z=>nomatch z)]
 .rwa[_,(j n l e).2.1,(λ_ z=>nomatch z),(λ_ z=>nomatch z)]
theorem WW.lt(h:Fk C H Lqz F wa)(k:WW Lqz F wa H J):YX H J :=
 (λb L e=>k b _ e λc=>by let(f,a,d,_):=h.there c;rw[e] at a;ext a;rwa[d L S],λb L e=>k b _ e λc=>by let(f,a,_,b):=h.there c;rw[e] at a;ext a;rwa[b L S])
def Fk.cnt(h:Fk C H L F wa):∃U,H L.dc=_s (.dK U)/\U.9=(Vr F).9:=by
 let(U,a,b):=h.w.ord;rwa[U,a,by have:=congrArg List.length b;(rw[xA,xA] at this;assumption)]
end
section
variable{C:jP}{c:jL}
abbrev errs:List Str:=["NoName","NoMeasure","Unknown","Taken","NoThing","NoCase","NoOath","NotYet","Dead","NoHeir","TooMany","SwornTwice","Forsworn","TooLight","Broken","NoDeed"]
def Wy{d:Int}(h:d.natAbs<=1000000000000000000):d.natAbs.log2<1920:=by
 by_cases z:d.natAbs=0
 .rw[z];decide +kernel
 .rw[Nat.log2_lt z];rwa[yU h aA]
def okI(d:Int):Prop:=d.natAbs<=1000000000000000000
def due(E:XK)(c:jL)(H:Hp)(k:Prop):Option Str->Prop
 | none=>k
 | some x=>E (.ref (c x)) _n H
def due.cut(k:due E c H Q (a.or b))(f:a=_n->due E c H Q b->R):due E c H R a:=by cases a with
 | none=>rwa[f S k]
 | some x=>rwa[k]
def due.of(h:a=_n)(k:Q):due E c H Q a:=by rw[h];rwa[k]
def eM(lo a d:Int):Option Str:=if lo<=d/\d<=a then _n else _s "NoMeasure"
inductive VC(lo a:Int)(c:jL)(vs:aG)(H:Hp)(Q:VK)(E:XK):Prop
 |mk(d)(_:vs=[.int d])(_:okI d)(_:due E c H (Q .non H) (eM lo a d))
abbrev GI:Stmt:=top 33
def On(d:YC K mg "check_day" GI)(b:∃t,mg "LAST_DAY"=_s (.int 9999 t))(f:Er K mg c errs):WA P w K mg Z "check_day" 1 (VC 0 9999 c):=by
 let(e,a):=b;let b:ZH (.int 9999) (.int 9999 e):=(e,S);erw[d.fx ["day"] ["day"] λH e Q E d h=>?_];let(d,S,e,k):=h;erw[rfl,_,(Zf (Zs (Ur (B0 Wr Wr Ze Q0 (Wh a b))) (Zf (Wc Y2 f (Wg (Y3 Q0 (Yt Wf))))) Zr)),?_];unfold eM at k;erw[_,S,_,_,S,S,_,S,Zy (λa=>?_) (λz=>?_)]
 .erw[_,_,S,S,_,S,Vi (λz=>?_) (λb=>?_)]
  .rw[_i (λy=>z y.2)] at k;rwa[_,S,.inr (d,S,Wy e),aA,λ_=>k]
  .rw[_j (a,b)] at k;rwa[k]
 .rw[_i (λy=>z y.1)] at k;rwa[_x,S,Z6 (_,S,.inr (d,S,Wy e),aA,λ_=>k)]
abbrev Nt:Stmt:=top 34
def Rg(d:YC K mg "check_weight" Nt)(b:∃t,mg "MOST_WEIGHT"=_s (.int 1000 t))(f:Er K mg c errs):WA P w K mg Z "check_weight" 1 (VC 1 1000 c):=by
 let(e,a):=b;let b:ZH (.int 1000) (.int 1000 e):=(e,S);erw[d.fx ["weight"] ["weight"] λH e Q E d h=>?_];let(d,S,e,k):=h;erw[rfl,_,(Zf (Zs (Ur (B0 Wr Wr Ze Q0 (Wh a b))) (Zf (Wc Y2 f (Wg (Y3 Q0 (Yt Wf))))) Zr)),?_];unfold eM at k;erw[_,S,_,_,S,S,_,S,Zy (λa=>?_) (λz=>?_)]
 .erw[_,_,S,S,_,S,Vi (λz=>?_) (λb=>?_)]
  .rw[_i (λy=>z y.2)] at k;rwa[_,S,.inr (d,S,Wy e),aA,λ_=>k]
  .rw[_j (a,b)] at k;rwa[k]
 .rw[_i (λy=>z y.1)] at k;rwa[_x,S,Z6 (_,S,.inr (d,S,Wy e),aA,λ_=>k)]
abbrev Ma:Stmt:=top 35
def Xm(d:YC K mg "check_need" Ma)(b:∃t,mg "MOST_NEED"=_s (.int 12000 t))(f:Er K mg c errs):WA P w K mg Z "check_need" 1 (VC 1 12000 c):=by
 let(e,a):=b;let b:ZH (.int 12000) (.int 12000 e):=(e,S);erw[d.fx ["need"] ["need"] λH e Q E d h=>?_];let(d,S,e,k):=h;erw[rfl,_,(Zf (Zs (Ur (B0 Wr Wr Ze Q0 (Wh a b))) (Zf (Wc Y2 f (Wg (Y3 Q0 (Yt Wf))))) Zr)),?_];unfold eM at k;erw[_,S,_,_,S,S,_,S,Zy (λa=>?_) (λz=>?_)]
 .erw[_,_,S,S,_,S,Vi (λz=>?_) (λb=>?_)]
  .rw[_i (λy=>z y.2)] at k;rwa[_,S,.inr (d,S,Wy e),aA,λ_=>k]
  .rw[_j (a,b)] at k;rwa[k]
 .rw[_i (λy=>z y.1)] at k;rwa[_x,S,Z6 (_,S,.inr (d,S,Wy e),aA,λ_=>k)]
abbrev Ia:Stmt:=top 36
def OC(d:YC K mg "check_money" Ia)(b:∃t,mg "MOST_MONEY"=_s (.int 1000000 t))(f:Er K mg c errs):WA P w K mg Z "check_money" 1 (VC 1 1000000 c):=by
 let(e,a):=b;let b:ZH (.int 1000000) (.int 1000000 e):=(e,S);erw[d.fx ["many"] ["many"] λH e Q E d h=>?_];let(d,S,e,k):=h;erw[rfl,_,(Zf (Zs (Ur (B0 Wr Wr Ze Q0 (Wh a b))) (Zf (Wc Y2 f (Wg (Y3 Q0 (Yt Wf))))) Zr)),?_];unfold eM at k;erw[_,S,_,_,S,S,_,S,Zy (λa=>?_) (λz=>?_)]
 .erw[_,_,S,S,_,S,Vi (λz=>?_) (λb=>?_)]
  .rw[_i (λy=>z y.2)] at k;rwa[_,S,.inr (d,S,Wy e),aA,λ_=>k]
  .rw[_j (a,b)] at k;rwa[k]
 .rw[_i (λy=>z y.1)] at k;rwa[_x,S,Z6 (_,S,.inr (d,S,Wy e),aA,λ_=>k)]
def Vp(F:List ZK)(n:Str):Option Str:=if Zp F n=_n then _s "Unknown" else _n
inductive YO(C:jP)(c:jL)(vs:aG)(H:Hp)(Q:VK)(E:XK):Prop
 |mk(L) (F) (n)(_:vs=[.ref L.p,.str n])(_:ZZ C H L F)(_:(Zp F n=_n->n.9<=100))(_:due E c H (Q .non H) (Vp F n))
abbrev Kk:Stmt:=Yr (top 43) 17
def dO(a:ZU K C "check_known" "Folk.check_known" Kk)(b:VI K C)(e:Er K mg c errs):ZX P w K mg Z C "check_known" 1 (YO C c):=by
 erw[a.mx lV lV λH a Q E f h=>?_];let(L,F,n,S,a,d,k):=h;erw[rfl,_,(Zf (Zs (Zn (Kv f) Q1 (Z3 Q0) S) (Zf (Wc Y2 e (Wg (Yt (Y3 Q1 Wf))))) Zr)),?_];let(g,h):=a.ob;let(U,e,i,f):=a.c;erw[_,S,_,S,L.p,C,g,_,_,S,h,b.cl,b.nc,Ca _ _ _ _,L.dc,_,S,YD.k (k:=Sum.inr n) e,_,S,?_];unfold Vp at k;rw[f];cases a:Zp F n with
 | none =>
  rw[_j a] at k;let d:=d a;rwa[Z6 (aA,_,S,.inl (n,S,()),λ_=>k)]
 | some d =>
  rw[_i (by rw[a];intro z;ext z)] at k;rwa[Zz k]
def Wz(d day:Int):Option Str:=if day<d then _s "NotYet" else _n
inductive YZ(C:jP)(c:jL)(vs:aG)(H:Hp)(Q:VK)(E:XK):Prop
 |mk(L) (F) (n) (d day)(_:vs=[.ref L.p,.str n,.int day])(_:ZZ C H L F)(_:Zp F n=_s d)(_:(day<d->n.9<=100/\okI day))(_:due E c H (Q .non H) (Wz d day))
abbrev HD:Stmt:=Yr (top 43) 18
def Qy(a:ZU K C "check_there" "Folk.check_there" HD)(e:VI K C)(g:Er K mg c errs):ZX P w K mg Z C "check_there" 1 (YZ C c):=by
 erw[a.mx lj lj λH a Q E i h=>?_];let(L,F,n,d,b,S,a,l,f,k):=h;erw[rfl,_,(Zf (Zs (Zn J5 Q2 (BB i (Z3 Q0) Q1 (λ_ _=>rfl)) (Zo _)) (Zf (Wc Y2 g (Wg (Y3 Q1 (Yt (Y3 Q2 Wf)))))) Zr)),?_];let(j,m):=a.ob;let(U,h,g,i):=a.c;let g:=YD.k (k:=Sum.inr n) h;rw[i,l] at g;erw[_,S,_,S,L.p,C,j,_,_,S,m,e.cl,e.nc,Ca _ _ _ _,_,S,L.dc,.int d,S,g,?_];unfold Wz at k;erw[_,_,S,S,_,S,Zy (λz=>?_) (λz=>?_)]
 .rw[_j z] at k;have ⟨f,a⟩:=f z;rwa[_,S,.inl (n,S,()),aA,_,S,.inr (b,S,Wy a),λ_=>k]
 .rw[_i z] at k;rwa[k]
def A9(F:List ZK)(n:Str)(day:Int):Option Str:=if V2 F n day=_t then _s "Dead" else _n
inductive WS(C:jP)(c:jL)(vs:aG)(H:Hp)(Q:VK)(E:XK):Prop
 |mk(L) (F) (n) (day)(_:vs=[.ref L.p,.str n,.int day])(_:ZZ C H L F)(_:n.9<=100)(_:okI day)(_:due E c H (Q .non H) (A9 F n day))
abbrev Ln:Stmt:=Yr (top 43) 19
def dB(b:ZU K C "check_living" "Folk.check_living" Ln)(e:VI K C)(f:Er K mg c errs)(a:Mt P w K mg Z C "died_by" lj 1 (VH C)):ZX P w K mg Z C "check_living" 2 (WS C c):=by
 erw[b.mx lj lj λH d Q E b h=>?_];let(L,F,n,b,S,d,i,g,k):=h;erw[rfl,_,(Zf (Zs (Wq (Ve Q0 e.cl a (Za Q1 (Za Q2 Zb)))) (Zf (Wc Y2 f (Wg (Y3 Q1 (Yt (Y3 Q2 Wf)))))) Zr)),?_];let(a,e):=d.ob;erw[_,S,L.p,a,_,S,e,Y4 _ _ _ _ aA,_,S,_,S,L,F,n,b,S,d,_,S,?_];unfold A9 at k;cases a:V2 F n b with
 | true =>
  rw[_j a] at k;rwa[Z6 (_,S,.inl (n,S,()),aA,_,S,.inr (b,S,Wy g),λ_=>k)]
 | false =>
  rw[_i (by rw[a];decide)] at k;rwa[Zz k]
def Ar(F:List ZK)(n:Str):Option Str:=if Z2 F n=_n then _n else _s "Dead"
inductive WN(C:jP)(c:jL)(vs:aG)(H:Hp)(Q:VK)(E:XK):Prop
 |mk(L) (F) (n)(_:vs=[.ref L.p,.str n])(_:ZZ C H L F)(_:n.9<=100)(_:due E c H (Q .non H) (Ar F n))
abbrev Ng:Stmt:=Yr (top 43) 20
def cG(a:ZU K C "check_untold" "Folk.check_untold" Ng)(b:VI K C)(d:Er K mg c errs):ZX P w K mg Z C "check_untold" 1 (WN C c):=by
 erw[a.mx lV lV λH a Q E e h=>?_];let(L,F,n,S,a,f,k):=h;erw[rfl,_,(Zf (Zs (Zn (Cn e) Q1 (Z3 Q0) S) (Zf (Wc Y2 d (Wg (Yt (Y3 Q1 (Yt Wf)))))) Zr)),?_];let(f,g):=a.ob;let(U,d,h,e):=a.d;erw[_,S,_,S,L.p,C,f,_,_,S,g,b.cl,b.nd,CU _ _ _ _,L.dd,_,S,YD.k (k:=Sum.inr n) d,_,S,?_];unfold Ar at k;rw[e];cases a:Z2 F n with
 | none =>
  rw[_j a] at k;rwa[Zz k]
 | some x =>
  rw[_i (by rw[a];intro z;ext z)] at k;rwa[Z6 (aA,_,S,.inl (n,S,()),aA,λ_=>k)]
def okN(n:Str):Prop:=n.9<=100/\∀x∈n.cps.toList,x<16^8
def Ut(F:List ZK)(n:Str)(day wt:Int):Option Str:=if V4 n=_x then _s "NoName" else (eM 0 9999 day).or ((eM 1 1000 wt).or ((if Zp F n=_n then _n else _s ("Taken":Str)).or (if (Vr F).9<40 then _n else _s ("TooMany":Str))))
inductive WQ(C:jP)(c:jL)(vs:aG)(H:Hp)(Q:VK)(E:XK):Prop
 |mk(L) (F) (wa) (n) (day wt)(_:vs=[.ref L.p,.str n,.int day,.int wt])(_:Fk C H L F wa)(_:F.9<=1000)(_:okN n)(_:okI day)(_:okI wt)(_:∀J,ZC H J->due E c J (Q .non J) (Ut F n day wt))
abbrev GE:Stmt:=Yr (top 43) 14
def PL(f:ZU K C "check_coming" "Folk.check_coming" GE)(T:Txt mg)(d:VI K C)(b:∃t,mg "MOST_FOLK"=_s (.int 40 t))(i:Er K mg c errs)(e:Fn P w K mg Z "is_name" ["text"] 1 UF)(m:WA P w K mg Z "check_day" 1 (VC 0 9999 c))(g:WA P w K mg Z "check_weight" 1 (VC 1 1000 c)):ZX P w K mg Z C "check_coming" 2 (WQ C c):=by
 let(h,a):=b;let b:ZH (.int 40) (.int 40 h):=(h,S);erw[f.mx lg lg λH f Q E p h=>?_];let(L,F,u,n,f,s,S,j,t,l,o,r,k):=h;let h:=j.f;erw[rfl,_,(Zc (Zs (Ur (Wq (Zk e (Za Q1 Zb)))) (Zf (Wc Y2 i (Wg (eW Q1 (Yt Wf))))) Zr) (Zc (Zl (Wm Z5 m (Za Q2 Zb))) (Zc (Zl (Wm Z5 g (Za Q3 Zb))) (Zc (Zs (Zn (Cn p) Q1 (Z3 Q0) S) (Zf (Wc Y2 i (Wg (Yt (Y3 Q1 (Yt Wf)))))) Zr) (Zf (Zs (Zn AE (Z1 Qw T.len Ym (Za (Z3 Q0) Zb)) (Wh a b) (Zo _)) (Zf (Wc Y2 i (Wg (Yt (Y3 (Wh a b) (Yt Wf)))))) Zr)))))),?_];let a:=l.1;erw[_,S,n,S,(),λa g=>(_,S,?_)];replace k:=k a g;unfold Ut at k;cases e:V4 n with
 | false =>
  rw[_j e] at k;rwa[Z6 (_,S,(n,S,(),l.2),aA,λ_=>k)]
 | true =>
  rw[_i (by rw[e];decide)] at k;erw[Zz ?_];let a:=h.keep (ZC.n g);let(e,h):=a.ob;let(U,b,l,i):=a.c;let(a,l,m):=j.cnt;obtain rfl:U=a:=by have:=g _ _ l;rw[b] at this;ext this;rfl
  let g:=YD.k (k:=Sum.inr n) b;rw[i] at g;erw[_,S,f,S,o,due.cut k λa k=>?_];erw[_,S,s,S,r,due.cut k λa k=>?_];erw[_,S,_,S,L.p,C,e,_,_,S,h,d.cl,d.nc,Ca _ _ _ _,L.dc,_,S,g,_,S,?_];cases a:Zp F n with
  | some f =>
   rw[_i (by rw[a];intro z;ext z)] at k;rwa[Z6 (aA,_,S,.inl (n,S,()),aA,λ_=>k)]
  | none =>
   rw[_j a,zI] at k;erw[Zz (_,S,L.p,C,e,_,_,S,h,d.cl,d.nc,Ca _ _ _ _,L.dc,U,S,b,_,_,S,S,_,S,Zy (λz=>?_) (λz=>?_))]
   .rw[_i ()] at k;rwa[aA,.inr (40,S,aA),aA,λ_=>k]
   .rw[_j ()] at k;rwa[k]
def A7(F:List ZK)(n:Str)(day wt:Int):Option Str:=(eM 0 9999 day).or ((eM 1 1000 wt).or ((Vp F n).or ((Wz ((Zp F n).getD 0) day).or (A9 F n day))))
inductive UP(C:jP)(c:jL)(vs:aG)(H:Hp)(Q:VK)(E:XK):Prop
 |mk(L) (F) (n) (day wt)(_:vs=[.ref L.p,.str n,.int day,.int wt])(_:ZZ C H L F)(_:n.9<=100)(_:okI day)(_:okI wt)(_:due E c H (Q .non H) (A7 F n day wt))
def B5(h:Vp F n=_n):∃d,Zp F n=_s d:=by
 unfold Vp at h;cases e:Zp F n with
 | none=>rw[_j e] at h;ext h
 | some d=>rwa[d,rfl]
abbrev LO:Stmt:=Yr (top 43) 15
def gP(e:ZU K C "check_rise" "Folk.check_rise" LO)(g:VI K C)(m:WA P w K mg Z "check_day" 1 (VC 0 9999 c))(i:WA P w K mg Z "check_weight" 1 (VC 1 1000 c))(b:ZX P w K mg Z C "check_known" 1 (YO C c))(d:ZX P w K mg Z C "check_there" 1 (YZ C c))(a:ZX P w K mg Z C "check_living" 2 (WS C c)):ZX P w K mg Z C "check_rise" 3 (UP C c):=by
 erw[e.mx lg lg λH f Q E e h=>?_];let(L,F,n,f,p,S,e,l,j,o,k):=h;erw[rfl,_,(Zc (Zl (Wm Z5 m (Za Q2 Zb))) (Zc (Zl (Wm Z5 i (Za Q3 Zb))) (Zc (Zl (Yh Z5 Q0 g.cl b (Za Q1 Zb))) (Zc (Zl (Yh Z5 Q0 g.cl d (Za Q1 (Za Q2 Zb)))) (Zf (Zl (Yh Z5 Q0 g.cl a (Za Q1 (Za Q2 Zb))))))))),?_];let(a,b):=e.ob;unfold A7 at k;erw[_,S,f,S,j,due.cut k λd k=>?_];erw[_,S,p,S,o,due.cut k λd k=>?_];erw[_,S,L.p,a,_,S,b,Y4 _ _ _ _ aA,_,S,L,F,n,S,e,λ_=>l,due.cut k λh k=>?_];let(d,g):=B5 h;rw[g,mQ] at k;erw[_,S,L.p,a,_,S,b,Y4 _ _ _ _ aA,_,S,_,S,L,F,n,d,f,S,e,g,λ_=>(l,j),due.cut k λd k=>?_];rwa[_,S,L.p,a,_,S,b,Y4 _ _ _ _ aA,_,S,_,S,L,F,n,f,S,e,l,j,k]
def Af(F:List ZK)(n a:Str)(day:Int):Option Str:=(eM 0 9999 day).or ((Vp F n).or ((Vp F a).or ((Wz ((Zp F n).getD 0) day).or ((Wz ((Zp F a).getD 0) day).or ((Ar F n).or (if a=n\/Z2 F a≠_n then _s ("NoHeir":Str) else _n))))))
inductive Jc(C:jP)(c:jL)(vs:aG)(H:Hp)(Q:VK)(E:XK):Prop
 |mk(L) (F) (n he) (day)(_:vs=[.ref L.p,.str n,.int day,.str he])(_:ZZ C H L F)(_:n.9<=100)(_:he.9<=100)(_:okI day)(_:due E c H (Q .non H) (Af F n he day))
abbrev KG:Stmt:=Yr (top 43) 16
def bE(e:ZU K C "check_death" "Folk.check_death" KG)(i:VI K C)(p:Er K mg c errs)(o:WA P w K mg Z "check_day" 1 (VC 0 9999 c))(a:ZX P w K mg Z C "check_known" 1 (YO C c))(b:ZX P w K mg Z C "check_there" 1 (YZ C c))(d:ZX P w K mg Z C "check_untold" 1 (WN C c)):ZX P w K mg Z C "check_death" 2 (Jc C c):=by
 erw[e.mx lG lG λH e Q E r h=>?_];let(L,F,n,f,g,S,e,m,j,l,k):=h;erw[rfl,_,(Zc (Zl (Wm Z5 o (Za Q2 Zb))) (Zc (Zl (Yh Z5 Q0 i.cl a (Za Q1 Zb))) (Zc (Zl (Yh Z5 Q0 i.cl a (Za Q3 Zb))) (Zc (Zl (Yh Z5 Q0 i.cl b (Za Q1 (Za Q2 Zb)))) (Zc (Zl (Yh Z5 Q0 i.cl b (Za Q3 (Za Q2 Zb)))) (Zc (Zl (Yh Z5 Q0 i.cl d (Za Q1 Zb))) (Zf (Zs (QW.pt (Gq (Zn Yp Q3 Q1 (Zo _)) (Ff (Zn (Cn r) Q3 (Z3 Q0) S)))) (Zf (Wc Y2 p (Wg (Y3 Q3 (Yt (Y3 Q1 Wf)))))) Zr)))))))),?_];let(a,b):=e.ob;unfold Af at k;erw[_,S,g,S,l,due.cut k λd k=>?_];erw[_,S,L.p,a,_,S,b,Y4 _ _ _ _ aA,_,S,L,F,n,S,e,λ_=>m,due.cut k λh k=>?_];let(d,o):=B5 h;erw[_,S,L.p,a,_,S,b,Y4 _ _ _ _ aA,_,S,L,F,f,S,e,λ_=>j,due.cut k λr k=>?_];let(p,h):=B5 r;rw[o,h,mQ,mQ] at k;erw[_,S,L.p,a,_,S,b,Y4 _ _ _ _ aA,_,S,_,S,L,F,n,d,g,S,e,o,λ_=>(m,l),due.cut k λd k=>?_];erw[_,S,L.p,a,_,S,b,Y4 _ _ _ _ aA,_,S,_,S,L,F,f,p,g,S,e,h,λ_=>(j,l),due.cut k λd k=>?_];erw[_,S,L.p,a,_,S,b,Y4 _ _ _ _ aA,_,S,L,F,n,S,e,m,due.cut k λd k=>?_];let(U,d,g,h):=e.d;let g:=YD.k (k:=Sum.inr f) d;rw[h] at g;erw[_,S,_,S,S,_,S,Zy (λz=>?_) (λz=>?_)]
 .let d:f=n:=by injection z
  rw[_j (.inl d)] at k;rwa[Z6 (_,S,.inl (f,S,()),aA,_,S,.inl (n,S,()),λ_=>k)]
 .let d:f≠n:=λy=>z (by rw[y]);erw[_,S,_,S,L.p,C,a,_,_,S,b,i.cl,i.nd,CU _ _ _ _,L.dd,_,S,g,_,S,?_];cases a:Z2 F f with
  | none =>
   rw[_i (by rw[a];rwa[λy=>y.elim d λw=>w S])] at k;rwa[Zz k]
  | some x =>
   rw[_j (.inr (by rw[a];intro w;ext w))] at k;rwa[Z6 (_,S,.inl (f,S,()),aA,_,S,.inl (n,S,()),λ_=>k)]
def Vj(h:eM lo hi d=_n):lo<=d/\d<=hi:=by
 unfold eM at h
 by_cases z:lo<=d/\d<=hi
 .rwa[z]
 .rw[_i z] at h;ext h
def N4(h:V4 x=_t):Vm x:=by
 unfold V4 at h;simp only[yR,decide_eq_true_eq,zU] at h;rwa[λc a=>by have:=h.2 c a;unfold okc at this;simpa using this,h.1.1,h.1.2]
def Gw(h:Ut F n day wt=_n):Vm n/\(0<=day/\day<=9999)/\(1<=wt/\wt<=1000)/\Zp F n=_n/\(Vr F).9<40:=by
 unfold Ut at h
 by_cases z:V4 n=_x
 .rw[_j z] at h;ext h
 .rw[_i z] at h;simp only[yF] at h;erw[N4 (by simpa using z),Vj h.1,Vj h.2.1,?_];let(a,b):=h.2.2;erw[Classical.byContradiction λy=>?_,Classical.byContradiction λy=>?_]
  .rw[_i y] at a;ext a
  .rw[_i y] at b;ext b
def Fi(h:Wz d day=_n):d<=day:=by
 unfold Wz at h
 by_cases z:day<d
 .rw[_j z] at h;ext h
 .lia
def Hn(h:A7 F n day wt=_n):(0<=day/\day<=9999)/\(1<=wt/\wt<=1000)/\(∃d,Zp F n=_s d/\d<=day)/\V2 F n day=false:=by
 unfold A7 at h;simp only[yF] at h;let(f,g,i,b,a):=h;let(d,e):=B5 i;rw[e] at b;erw[Vj f,Vj g,(d,e,Fi b),?_];unfold A9 at a;cases z:V2 F n day with
 | false=>rfl
 | true=>rw[_j z] at a;ext a
def gW(h:Af F n he day=_n):(0<=day/\day<=9999)/\(∃d,Zp F n=_s d/\d<=day)/\(∃d,Zp F he=_s d/\d<=day)/\Z2 F n=_n/\Z2 F he=_n/\he≠n:=by
 unfold Af at h;simp only[yF] at h;let(l,a,f,g,i,b,j):=h;let(d,k):=B5 a;let(e,a):=B5 f;rw[k] at g;rw[a] at i;let f:Z2 F n=none:=by
  unfold Ar at b
  by_cases z:Z2 F n=_n
  .rwa[z]
  .rw[_i z] at b;ext b
 by_cases z:he=n\/Z2 F he≠_n
 .rw[_j z] at j;ext j
 .erw[Vj l,(d,k,Fi g),(e,a,Fi i),f,?_,λy=>z (.inl y)]
  by_cases y:Z2 F he=_n
  .rwa[y]
  .rwa[_a (.inr y) z]
end
section
variable{C:jP}
def Ul(l:List (ZN×V))(day:Int):List Int:=l.filterMap λp=>match p.1 with
 | .inl d=>if d<=day then _s d else _n
 | .inr _=>_n
def Qc{l:List (ZN×V)}{i:Nat}{d wt day:Int}(h:l[i]?=_s (.inl d,.int wt)):Ul (l.take (i+1)) day=Ul (l.take i) day++(if d<=day then [d] else []):=by
 unfold Ul;rw[xQ,h,yT];congr 1
 by_cases e:d<=day
 .simp[e]
 .simp[e]
def upTo_mem:x∈Ul l day↔(∃v,(.inl x,v)∈l)/\x<=day:=by
 unfold Ul;rw[yV];constructor
 .grind
 .grind
def bB{l:List (ZN×V)}{k:ZN}{v:V}(h:Zx l k=_s v):(k,v)∈l:=by
 unfold Zx at h;cases e:l.find? λa=>decide (a.1=k) with
 | none=>rw[e] at h;ext h
 | some p =>
  rw[e] at h;ext h;let b:=List.mem_of_find?_eq_some e;let a:=List.find?_some e;let a:p.1=k:=by simpa using a
  rw[<- a];rwa[b]
def NJ{l:List (ZN×V)}{k:ZN}{v:V}(h:(k,v)∈l):∃u,Zx l k=_s u:=by
 unfold Zx;cases e:l.find? λa=>decide (a.1=k) with
 | none =>
  have:=List.find?_eq_none.mp e (k,v) h;rwa[_a (yE S) this]
 | some p=>rwa[p.2,rfl]
inductive UX(C:jP)(vs:aG)(H:Hp)(Q:VK)(a:XK):Prop
 |mk(L) (F) (wa) (n) (day d0 wt)(_:vs=[.ref L.p,.str n,.int day])(_:ZZ C H L F)(_:WX H L F wa)(_:F.9<=1000)(_:0<=day)(_:day<=9999)(_:Zp F n=_s d0)(_:d0<=day)(_:AN (kw F n) day wt)(_:∀J,ZC H J->Q (.int wt) J)
abbrev EV:Stmt:=Yr (top 43) 6
theorem FN:Nm (Zm EV) "day" .cell:=aA
def Qn(d:ZU K C "weight" "Folk.weight" EV)(T:Txt mg)(e:VI K C)(l:WA P w K mg Z "check_day" 1 (VC 0 9999 c))(a:ZX P w K mg Z C "check_known" 1 (YO C c))(b:ZX P w K mg Z C "check_there" 1 (YZ C c)) :
  Mt P w K mg Z C "weight" lj 2 (UX C):=by
 erw[d.mq ["self","name","day","told"] λH d Q E i h=>?_];let(L,F,j,n,f,e0,y,rfl,d,W,r,o,p,g,m,u,k):=h
 refine(rfl,_,(Zc (Zl (Wm Xq.never l (Za (qvC 2 FN) Zb))) (Zc (Zl (Yh Xq.never Q0 e.cl a (Za Q1 Zb))) (Zc (Zl (Yh Xq.never Q0 e.cl b (Za Q1 (Za (qvC 2 FN) Zb)))) (Zc (Zw 3 (BB i (Z3 Q0) Q1 (λ_ _=>rfl))) (Zf (Zv (BB i Q3 (Z1 (eZ (by rfl)) T.max Dr (Za (eO (Vg (locs:=["since"]) (fr:=[("day", 2)]) (rfl,aA,aA,aA,aA,aA) (.ij FN .nil) rfl (gQ Q3) ⟨λ_ _ _ _ _ _=>by
  let a:(inN ["since"] [("day", 2)]).Nodup:=aA
  rwa[(Y6 0 a),(Jb (Zn Wr (Yj 0) (Wx 1) (Zo _))),(Yj 0)]⟩)) Zb)) (λ_ _=>rfl)))))))),?_)
 let a:=aC
 let(b,m):=d.ob;erw[_,rfl,f,rfl,(by unfold okI;lia),due.of (_j (o,p)) ?_];erw[_,rfl,L.p,b,_,rfl,m,Y4 _ _ _ _ aA,_,rfl,L,F,n,rfl,d,λz=>(by rw[g] at z;ext z),due.of (_i (by rw[g];intro z;ext z)) ?_];erw[_,rfl,L.p,b,_,rfl,m,Y4 _ _ _ _ aA,_,rfl,_,rfl,L,F,n,e0,f,rfl,d,g,λz=>_a z (),due.of (_i ()) ?_];let(l,t,a,h,r,s):=u;let(i,d,o,g):=W.w;let(i,x,o):=g n l a;let hint:=Qo a;let g:=YD.k (k:=Sum.inr n) d;rw[i] at g;erw[_,rfl,L.p,C,b,_,_,rfl,m,e.cl,e.nw,EB _ _ _ _,_,rfl,L.dw,.ref (j n),rfl,g,?_];erw[_,rfl,j n,l,x,λo=>?_];erw[_,rfl,j n,o,l,rfl,Zi,?_];erw[OA (λi a J=>J=upd H (j n) (.frz o (.dK l))/\a=(Ul (l.take i) f).map V.int) (rfl,rfl) () (λi a J _ ⟨e,_⟩=>by rw[e];rwa[Zi]) ?_ ?_ ?_]
 .rintro i a J ⟨_,rfl⟩;rw[xA];unfold Ul;erw[xX (zA _ _) ?_];rw[xY];lia
 .rintro i p a J g ⟨rfl,rfl⟩ d b;let(d,rfl):=Uz b;let(d,b,rfl):=hint p (xN g);erw[([_],rfl,rfl),?_];erw[_,rfl,_,rfl,d,f,rfl,rfl,_,rfl,?_];rw[Qc g];erw[Zy (λe=>?_) (λe=>?_)]
  .erw[_,rfl,rfl,?_];rw[_j e,xL];rfl
  .grind
 .rintro a J ⟨rfl,rfl⟩ q b;rw[xR];let d:q≠j n:=λz=>by rw[z,Zi] at b;ext b
  erw[by rw[Zd d.6];rwa[Zi],?_];let a:H q=none:=by rw[Zd d] at b;rwa[b]
  let S:ZC H (upd (upd (upd H (j n) (.frz o (.dK l))) q (.lst ((Ul l f).map V.int))) (j n) (.dK l)):=λb m e=>by
   by_cases z:b=j n
   .rw[z,Zi];rw[z,x] at e;rwa[e]
   .rw[Zd z,Zd (Zj e a),Zd z];rwa[e]
  let b:(upd (upd (upd H (j n) (.frz o (.dK l))) q (.lst ((Ul l f).map V.int))) (j n) (.dK l)) q=_s (.lst ((Ul l f).map V.int)):=by rw[Zd d,Zi]
  generalize (upd (upd (upd H (j n) (.frz o (.dK l))) q (.lst ((Ul l f).map V.int))) (j n) (.dK l))=e at S b |-;let a:t∈Ul l f:=upTo_mem.mpr ((_,bB h),r);erw[q,Ul l f,rfl,ZG.of b,(λz=>by rw[z] at a;ext a),λm f d=>?_];let((v,g),b):=upTo_mem.mp f;let(u,f):=NJ g;let g:=s m u f b;let b:=d t a;let a:m=t:=by lia
  subst a;let a:=YD.k (k:=Sum.inl m) (S _ _ x);rw[h] at a;rwa[j n,.int y,rfl,a,k e S]
inductive Ta(C:jP)(vs:aG)(H:Hp)(Q:VK)(a:XK):Prop
 |mk(L) (F) (wa) (n) (day wt)(_:vs=[.ref L.p,.str n,.int day,.int wt])(_:Fk C H L F wa)(_:F.9<=1000)(_:okN n)(_:okI day)(_:okI wt)(_:Ut F n day wt=_n)(_:∀a J,Fk C J L (F ++ [.come n day wt]) a->WW L F wa H J->BO L F wa (F ++ [.come n day wt]) a H->Q .non J)
abbrev IR:Stmt:=Yr (top 43) 1
def OK(Ziq:ZU K C "come" "Folk.come" IR)(Tc:VI K C)(M_check_coming:ZX P w K mg Z C "check_coming" 2 (WQ C c)) :
  Mt P w K mg Z C "come" lg 3 (Ta C):=by
 erw[Ziq.mq lg λH vs Q E hr h=>?_];let(L,F,wa,n,day,wt,S,K0,hl,ho,hi,hw,ec,k):=h;let(hnm,(d0,d1),(w0,w1),hc,hcm):=Gw ec;erw[rfl,_,(Zc (Zl (Yh Xq.never Q0 Tc.cl M_check_coming (Za Q1 (Za Q2 (Za Q3 Zb))))) (Zc (Jf hr (Z3 Q0) Q1 Q2) (Zf (Jf hr (Z3 Q0) Q1 (Xs Q2 Q3))))),?_];let F0:=K0.f;let W0:=K0.w;let hz:=aC
 let(dx0,ob0):=F0.ob;erw[_,S,L.p,dx0,_,S,ob0,Y4 _ _ _ _ aA,_,S,_,S,_,S,L,F,wa,n,day,wt,S,K0,hl,ho,hi,hw,λH1 s1=>due.of ec ?_];let Fqz:=F0.keep (ZC.n s1);let W:=W0.keep (ZC.n s1);let(k9,y8,y9):=K0.all;let y7:=s1 _ _ y8;let hkn:kw F n=none:=by
  have:=EJ F n;rw[hc] at this;cases e:kw F n with
  | none=>rfl
  | some l=>rw[e] at this;ext this
 let((dx,ob),(k1,c1,c2,c3),_,(k3,e1,e2,e3),(k4,h1,h2,h3),a1,a2,a3,a4,a5,a6):=Fqz;let((k2,w2,w3,w4),(k1',o1,o2),wap,winj):=W;rw[c1] at o1;ext o1;let np:L.p≠L.dc:=λz=>by rw[z,c1] at ob;ext ob
 let np2:L.p≠L.dw:=λz=>by rw[z,w2] at ob;ext ob
 erw[_,S,_,S,L.p,C,dx,_,_,S,ob,Tc.cl,Tc.nc,Ca _ _ _ _,_,S,L.dc,_,S,YU.k (k:=Sum.inr n) c1 (),?_];let T1:=YX.j8 (kvs':=Z4 k1 (Sum.inr n) (.int day)) c1;let g0:∀b o,b≠L.dc->H1 b=_s o->(upd H1 L.dc (.dK (Z4 k1 (Sum.inr n) (.int day)))) b=_s o:=λb o nb e=>by rw[Zd nb];rwa[e]
 let g2:(upd H1 L.dc (.dK (Z4 k1 (Sum.inr n) (.int day)))) L.dc=_s (.dK (Z4 k1 (Sum.inr n) (.int day))):=Zi;generalize (upd H1 L.dc (.dK (Z4 k1 (Sum.inr n) (.int day))))=H2 at T1 g0 g2 |-;let g1:=g0 _ _ np ob;let g3:=g0 _ _ a1.symm w2;let g4:=g0 _ _ a2.symm e1;let g5:=g0 _ _ a3.symm h1;intro q hq;erw[_,S,_,S,Zi,[(Sum.inl day,.int wt)],S,by show 1<=15;decide,?_];let S3:ZC H2 (upd (upd H2 q (.dK [])) q (.dK (A8 [] [(Sum.inl day,.int wt)]))):=λb o e=>by rw[Zd (Zj e hq),Zd (Zj e hq)];rwa[e]
 let kq:(upd (upd H2 q (.dK [])) q (.dK (A8 [] [(Sum.inl day,.int wt)]))) q=_s (.dK [(Sum.inl day,.int wt)]):=Zi;generalize (upd (upd H2 q (.dK [])) q (.dK (A8 [] [(Sum.inl day,.int wt)])))=H3 at S3 kq |-;erw[_,S,L.p,C,dx,_,_,S,S3 _ _ g1,Tc.cl,Tc.nw,EB _ _ _ _,_,S,L.dw,_,S,YU.k (k:=Sum.inr n) (S3 _ _ g3) (),?_];let T4:=YX.j8 (kvs':=Z4 k2 (Sum.inr n) (.ref q)) (S3 _ _ g3);let ll:=Vv k1 (Sum.inr n:ZN) (V.int day);let ll2:=Vv k2 (Sum.inr n:ZN) (V.ref q);let lapp:(F ++ [ZK.come n day wt]).9=F.9+1:=by rw[xG];rfl
 let q1:q≠L.dc:=λz=>by rw[z,g2] at hq;ext hq
 let q2:q≠L.dw:=λz=>by rw[z,g3] at hq;ext hq
 let q3:q≠L.dd:=λz=>by rw[z,g4] at hq;ext hq
 let q4:q≠L.dh:=λz=>by rw[z,g5] at hq;ext hq
 let old:∀m l,kw F m=_s l->H3 (wa m)=_s (.dK l)/\wa m≠q:=λm l e=>by
  let hh:=g0 _ _ (wap m l e).1 (w4 m l e).2.1;rwa[S3 _ _ hh,Zj hh hq]
 let hkw:∀m l,kw (F ++ [.come n day wt]) m=_s l->(m=n/\l=[(Sum.inl day,.int wt)])\/(m≠n/\kw F m=_s l):=λm l e=>by
  rw[Uc,Wb] at e;split at e
  .rename_i z;ext e;rwa[.inl (z,S)]
  .rename_i z;rwa[.inr (z,e)]
 refine k (λm=>if m=n then q else wa m) _ (((dx,by rw[Zd np2];rwa[S3 _ _ g1]),(_,by rw[Zd a1];rwa[S3 _ _ g2],(),λx=>?_),(_,Zi,()),(k3,by rw[Zd a4.6];rwa[S3 _ _ g4],(),λx=>?_),(k4,by rw[Zd a5.6];rwa[S3 _ _ g5],(),λx=>?_),a1,a2,a3,a4,a5,a6),
  ((_,Zi,(),λm l e=>?_),(_,by rw[Zd a1];rwa[S3 _ _ g2],?_),λm l e=>?_,λm m' l l' e e' z=>?_),(_,Zi,λp hp=>?_)) (λb o e hn=>?_) (λb hb=>?_)
 .rw[Ui,Dx hc]
  by_cases e:x=n
  .subst e;rw[_j S,_j S];rfl
  .grind
 .rw[DF];rwa[e3 x]
 .rw[DF];rwa[h3 x]
 ·(try dsimp only)
  rcases hkw m l e with⟨rfl,rfl⟩ | ⟨hm,e'⟩
  .rw[_j S];rwa[by rw[Ui,_j S],by rw[Zd q2];rwa[kq],by rw[lapp];show 1<=_;lia]
  .rw[_i hm];let(y1,y2,y3):=w4 m l e';rwa[by rw[Ui,_i (λz=>hm (Sum.inr.inj z))];rwa[y1],by rw[Zd (wap m l e').2.1];rwa[(old m l e').1],()]
 .let hv:Zx k1 (Sum.inr n:ZN)=none:=by rw[c3,hc];rfl
  rw[Iq _ hv,xL,Dl,xL,o2];rfl
 .grind
 .grind
 .rw[w2] at y7;ext y7;rcases Nl hp with rfl | hp
  .rwa[n,[(Sum.inl day,.int wt)],by rw[Uc,Wb,_j S],by (try dsimp only);rw[_j S]]
  .let(m,l,e,S):=y9 p hp;let hm:m≠n:=λz=>by rw[z,hkn] at e;ext e
   rwa[m,l,by rw[Uc,Wb,_i hm];rwa[e],by (try dsimp only);rw[_i hm]]
 .rw[Zd (λz=>hn (.inr (.inr (.inl z))))];rwa[S3 _ _ (g0 b o (λz=>hn (.inr (.inl z))) (s1 _ _ e))]
 .rcases hb with z | z | z | z | z | ⟨m,l,e,z⟩
  .rwa[.inl (.inl z)]
  .rwa[.inl (.inr (.inl z))]
  .rwa[.inl (.inr (.inr (.inl z)))]
  .rwa[.inl (.inr (.inr (.inr (.inl z))))]
  .rwa[.inl (.inr (.inr (.inr (.inr (.inl z)))))]
  ·(try dsimp only at z)
   rcases hkw m l e with⟨rfl,rfl⟩ | ⟨hm,y⟩
   .rw[_j S] at z;erw[.inr ?_];cases eq:H b with
    | none=>rfl
    | some o =>
     have:=g0 _ _ (by rw[z];rwa[q1]) (s1 _ _ eq);rw[z,hq] at this;ext this
   .rw[_i hm] at z;rwa[.inl (.inr (.inr (.inr (.inr (.inr (m,l,y,z))))))]
inductive TU(C:jP)(vs:aG)(H:Hp)(Q:VK)(a:XK):Prop
 |mk(L) (F) (wa) (n) (day wt)(_:vs=[.ref L.p,.str n,.int day,.int wt])(_:Fk C H L F wa)(_:F.9<=1000)(_:n.9<=100)(_:okI day)(_:okI wt)(_:A7 F n day wt=_n)(_:∀J,Fk C J L (F ++ [.rise n day wt]) wa->WW L F wa H J->BO L F wa (F ++ [.rise n day wt]) wa H->Q .non J)
abbrev Mq:Stmt:=Yr (top 43) 2
def cM(b:ZU K C "rise" "Folk.rise" Mq)(j:VI K C)(a:ZX P w K mg Z C "check_rise" 3 (UP C c)):Mt P w K mg Z C "rise" lg 4 (TU C):=by
 erw[b.mq lg λH b Q E e h=>?_];let(L,F,m,n,d,i,S,b,g,o,l,p,f,k):=h;let((h,r),(u,v),(e0,g,s),t):=Hn f;erw[rfl,_,(Zc (Zl (Yh Xq.never Q0 j.cl a (Za Q1 (Za Q2 (Za Q3 Zb))))) (Zf (Jf e (BB e (Z3 Q0) Q1 (λ_ _=>rfl)) Q2 Q3))),?_];let a:=b.f;let W:=b.w;let(Y,y8,y9):=b.all;let b:=aC
 let(b,e):=a.ob;erw[_,S,L.p,b,_,S,e,Y4 _ _ _ _ aA,_,S,_,S,_,S,L,F,n,d,i,S,a,o,l,p,due.of f ?_];obtain⟨l,f⟩:∃l,kw F n=_s l:=by
  have:=EJ F n;rw[g] at this;cases e:kw F n with
  | none=>rw[e] at this;ext this
  | some l=>rwa[l,rfl]
 let((t,b),(u,o,g,N),_,(U,O,h,Q),(X,R,p,T),E,G,H,I,J,M):=a;let((v,p,s,A),(r,g,o2),a,h):=W;rw[o] at g;ext g;let(B,r,g):=A n l f;let(y,s,z3,z4):=a n l f;let x:L.p≠m n:=λz=>by rw[z,r] at b;ext b
 let g:=YD.k (k:=Sum.inr n) p;rw[B] at g;erw[_,S,_,S,L.p,C,t,_,_,S,b,j.cl,j.nw,EB _ _ _ _,_,S,L.dw,.ref (m n),S,g,_,S,m n,_,S,YU.k (k:=Sum.inl d) r (),?_];let a:=YX.j8 (kvs':=Z4 l (Sum.inl d) (.int i)) r;let a:=Vv l (Sum.inl d:ZN) (V.int i);let a:(F ++ [ZK.rise n d i]).9=F.9+1:=by rw[xG];rfl
 let j:∀m a,kw (F ++ [.rise n d i]) m=_s a->(m=n/\a=Z4 l (Sum.inl d) (.int i))\/(m≠n/\kw F m=_s a):=λm a e=>by
  rw[Uc,Wb] at e;split at e
  .grind
  .rename_i z;rwa[.inr (z,e)]
 let r:∀m a,kw (F ++ [.rise n d i]) m=_s a->∃g,kw F m=_s g:=λm a e=>by grind
 refine k _ (((t,by rw[Zd x];rwa[b]),(u,by rw[Zd y.6];rwa[o],(),λx=>by rw[EU];rwa[N x]),(v,by rw[Zd s.6];rwa[p],()),(U,by rw[Zd z3.6];rwa[O],(),λx=>by rw[Dq];rwa[Q x]),(X,by rw[Zd z4.6];rwa[R],(),λx=>by rw[Dq];rwa[T x]),E,G,H,I,J,M),
  ((v,by rw[Zd s.6];rwa[p],(),λm a e=>?_),(u,by rw[Zd y.6];rwa[o],?_),λm a e=>?_,λm p k o e b z=>?_),(Y,by rw[Zd s.6];rwa[y8],λp t=>?_)) (λb o e s=>?_) (λb k=>?_)
 .rcases j m a e with⟨rfl,rfl⟩ | ⟨b,y⟩
  .rwa[B,Zi,()]
  .let(j,o,u):=A m a y;rwa[j,by rw[Zd (λz=>b (h m n a l y f z))];rwa[o],()]
 .rw[Dl,o2];show _=((Vr F)++[]).map V.str;rw[yC]
 .grind
 .grind
 .let(m,a,e,S):=y9 p t
  by_cases b:m=n
  .subst b;rwa[m,Z4 l (Sum.inl d) (.int i),by rw[Uc,Wb,_j S,f];rfl,rfl]
  .rwa[m,a,by rw[Uc,Wb,_i b];rwa[e],rfl]
 .rw[Zd (λz=>s (.inr (.inr (.inr (.inr (.inr (n,l,f,z)))))))];rwa[e]
 .rcases k with z | z | z | z | z | ⟨m,a,e,z⟩
  .rwa[.inl (.inl z)]
  .rwa[.inl (.inr (.inl z))]
  .rwa[.inl (.inr (.inr (.inl z)))]
  .rwa[.inl (.inr (.inr (.inr (.inl z))))]
  .rwa[.inl (.inr (.inr (.inr (.inr (.inl z)))))]
  .let(g,y):=r m a e;rwa[.inl (.inr (.inr (.inr (.inr (.inr (m,g,y,z))))))]
inductive AB(C:jP)(vs:aG)(H:Hp)(Q:VK)(a:XK):Prop
 |mk(L) (F) (wa) (n hr) (day)(_:vs=[.ref L.p,.str n,.int day,.str hr])(_:Fk C H L F wa)(_:F.9<=1000)(_:n.9<=100)(_:hr.9<=100)(_:okI day)(_:Af F n hr day=_n)(_:∀J,Fk C J L (F ++ [.die n day hr]) wa->WW L F wa H J->BO L F wa (F ++ [.die n day hr]) wa H->Q .non J)
abbrev Ms:Stmt:=Yr (top 43) 3
def Xy(a:ZU K C "die" "Folk.die" Ms)(i:VI K C)(b:ZX P w K mg Z C "check_death" 2 (Jc C c)) :
  Mt P w K mg Z C "die" lG 3 (AB C):=by
 erw[a.mq lG λH a Q E e h=>?_];let(L,F,p,n,j,a,S,d,g,o,f,m,l,k):=h;let(_,_,_,B,g,h):=gW l;erw[rfl,_,(Zc (Zl (Yh Xq.never Q0 i.cl b (Za Q1 (Za Q2 (Za Q3 Zb))))) (Zc (Jf e (Z3 Q0) Q1 Q2) (Zf (Jf e (Z3 Q0) Q1 Q3)))),?_];let b:=d.f;let((T,x1,e,x3),(U,X,Y),h,p):=d.w;let(W,y8,y9):=d.all;let d:kw (F ++ [.die n a j])=kw F:=by rw[Uc];rfl
 let e:=aC
 let(e,g):=b.ob;erw[_,S,L.p,e,_,S,g,Y4 _ _ _ _ aA,_,S,_,S,_,S,L,F,n,j,a,S,b,o,f,m,due.of l ?_];let((l,e),(M,x,o,R),(N,I,G),(f,g,v,z),(y,J,A,E),Q,t,u,r,s,m):=b;let b:L.p≠L.dd:=λz=>by rw[z,g] at e;ext e
 let A:L.p≠L.dh:=λz=>by rw[z,J] at e;ext e
 erw[_,S,_,S,L.p,C,l,_,_,S,e,i.cl,i.nd,CU _ _ _ _,_,S,L.dd,_,S,YU.k (k:=Sum.inr n) g (),?_];let O:=YX.j8 (kvs':=Z4 f (Sum.inr n) (.int a)) g;let v:(upd H L.dd (.dK (Z4 f (Sum.inr n) (.int a)))) L.p=_s (.ins C l (Us L.dc L.dw L.dd L.dh)):=by rw[Zd b];rwa[e]
 let g:∀b o,b≠L.dd->H b=_s o->(upd H L.dd (.dK (Z4 f (Sum.inr n) (.int a)))) b=_s o:=λb o E e=>by rw[Zd E];rwa[e]
 let E:(upd H L.dd (.dK (Z4 f (Sum.inr n) (.int a)))) L.dd=_s (.dK (Z4 f (Sum.inr n) (.int a))):=Zi;let G:(upd H L.dd (.dK (Z4 f (Sum.inr n) (.int a)))) L.dw=_s (.dK N):=by rw[Zd r];rwa[I]
 let I:(upd H L.dd (.dK (Z4 f (Sum.inr n) (.int a)))) L.dc=_s (.dK M):=by rw[Zd t];rwa[x]
 let x:(upd H L.dd (.dK (Z4 f (Sum.inr n) (.int a)))) L.dh=_s (.dK y):=by rw[Zd m.6];rwa[J]
 generalize (upd H L.dd (.dK (Z4 f (Sum.inr n) (.int a))))=H at O g v E G I x |-;erw[_,S,_,S,L.p,C,l,_,_,S,v,i.cl,i.nh,GH _ _ _ _,_,S,L.dh,_,S,YU.k (k:=Sum.inr n) x (),?_];let i:=YX.j8 (kvs':=Z4 y (Sum.inr n) (.str j)) x;let i:=Vv f (Sum.inr n:ZN) (V.int a);let f:=Vv y (Sum.inr n:ZN) (V.str j);let f:(F ++ [ZK.die n a j]).9=F.9+1:=by rw[xG];rfl
 refine k _ (((l,by rw[Zd A];rwa[v]),(M,by rw[Zd u];rwa[I],(),λx=>?_),(N,by rw[Zd s];rwa[G],()),(_,by rw[Zd m];rwa[E],(),λx=>?_),(_,Zi,(),λx=>?_),Q,t,u,r,s,m),
  ((T,by rw[Zd s];rwa[g _ _ r x1],(),λm l e=>?_),(U,by rw[Zd u];rwa[g _ _ t X],?_),λm l e=>h m l (by rw[<- d];rwa[e]),λm i l f e a z=>p m i l f (by rw[<- d];rwa[e]) (by rw[<- d];rwa[a]) z),(W,by rw[Zd s];rwa[g _ _ r y8],λp i=>?_)) (λb o e f=>?_) (λb a=>?_)
 .rw[EZ];rwa[R x]
 .rw[Ui,DV B]
  by_cases e:x=n
  .subst e;rw[_j S,_j S];rfl
  .grind
 .rw[Ui,DV B]
  by_cases e:x=n
  .subst e;rw[_j S,_j S];rfl
  .grind
 .rw[d] at e;let(j,k,n):=x3 m l e;let(_,_,n,r):=h m l e;rwa[j,by rw[Zd r];rwa[g _ _ n k],()]
 .rw[Dl,Y];show _=((Vr F)++[]).map V.str;rw[yC]
 .let(m,l,e,q):=y9 p i;rwa[m,l,by rw[d];rwa[e],q]
 .rw[Zd (λz=>f (.inr (.inr (.inr (.inr (.inl z))))))];rwa[g b o (λz=>f (.inr (.inr (.inr (.inl z))))) e]
 .erw[.inl ?_];unfold own at a |-;rw[d] at a;rwa[a]
end
def YB(H J:Hp):Prop:=∀b L,H b=_s (.tup L)->J b=_s (.tup L)
theorem Bj(a:H l=_s (.lst L)):YB H (upd H l o):=λb c e=>by
 rw[Zd (λz=>by rw[z,a] at e;ext e)];rwa[e]
theorem fK(h:a≠b):¬(V.str a=V.str b):=λz=>h (by injection z)
abbrev Va:=List (Str×Int)
def Dy(p:Str×Int):D:=.tup [.str p.1,.int p.2]
def Fd(a:Va):D:=.lst (a.map Dy)
def ZS(H:Hp):Va->List V->Prop
 | [],c=>c=[]
 | p::r,c=>∃a b,c=.ref a::b/\H a=_s (.tup [.str p.1,.int p.2])/\ZS H r b
theorem ZS.mono(k:YB H J):∀{b:Va}{vs:aG},ZS H b vs->ZS J b vs
 | [],_,h=>h
 | _::_,_,⟨a,vs',e,h1,h2⟩=>(a,vs',e,k _ _ h1,ZS.mono k h2)
theorem ZS.rep:∀{b:Va}{vs:aG},ZS H b vs->ZI H (b.map Dy) vs
 | [],_,h=>h
 | p::_,_,⟨a,vs',e,h1,h2⟩=>(.ref a,vs',e,(a,_,S,h1,(.str p.1,_,S,S,(.int p.2,[],S,S,S))),ZS.rep h2)
theorem ZS.of:∀{b:Va}{vs:aG},ZI H (b.map Dy) vs->ZS H b vs
 | [],_,h=>h
 | p::_,_,⟨v,vs',e,⟨a,us,e2,h1,⟨x,r1,e3,e4,⟨y,r2,e5,e6,e7⟩⟩⟩,h2⟩=>by
  subst e2 e7 e5 e3;ext e4;ext e6;rwa[a,vs',e,h1,ZS.of h2]
def ZS.len(h:ZS H sd vs):vs.9=sd.9:=by
 have:=(ZS.rep h).9;rw[xA] at this;rwa[this]
theorem ZS.get:∀{b:Va}{vs:aG}{i:Nat}{v:V},ZS H b vs->vs[i]?=_s v->∃p a,b[i]?=_s p/\v=.ref a/\H a=_s (.tup [.str p.1,.int p.2])
 | [],vs,i,v,h,e=>by ext h;simp at e
 | p::b,vs,i,v,⟨a,vs',e1,h1,h2⟩,e=>by
  subst e1;cases i with
  | zero=>simp at e;subst e;rwa[p,a,S,S,h1]
  | succ i=>simp at e;rwa[ZS.get (i:=i) h2 e]
theorem ZS.snoc(d:H a=_s (.tup [.str p.1,.int p.2])):∀{c:Va}{vs:aG},ZS H c vs->ZS H (c ++ [p]) (vs ++ [.ref a])
 | [],vs,h=>by ext h;rwa[a,[],S,d,rfl]
 | q::c,vs,⟨b,vs',e,h1,h2⟩=>by subst e;rwa[b,vs' ++ [.ref a],S,h1,ZS.snoc d h2]
theorem YB.trans(a:YB H H1)(b:YB H1 H2):YB H H2:=λc L e=>b c L (a c L e)
def wts(a:Va):List Int:=a.map (·.2)
def YY(a:Va):Prop:=(∀p∈a,1<=p.2/\p.2<=1000)/\a.9<=60
theorem YY.bnd(h:YY sd):∀n∈wts sd,-1000000000<=n/\n<=1000000000:=λn a=>by
 let(p,b,S):=zD.mp a;have:=h.1 p b;show -1000000000<=p.2/\p.2<=1000000000;lia
def eX{a:Va}{i:Nat}{p:Str×Int}(h:a[i]?=_s p):(wts a)[i]?=_s p.2:=by unfold wts;rw[xF,h];rfl
def YN(H:Hp)(c:Va)(v:V):Prop:=∃a b,v=.ref a/\H a=_s (.lst b)/\ZS H c b
theorem ZC.t(h:ZC H J):YB H J:=λb L e=>h b _ e
theorem YN.mono(h:YN H sd v)(k:ZC H J):YN J sd v:=let ⟨a,d,e,b,c⟩:=h;(a,d,e,k _ _ b,c.mono λb L e=>k b _ e)
inductive UW(vs:aG)(H:Hp)(Q:VK)(a:XK):Prop
 |mk(v) (sd)(_:vs=[v])(_:YN H sd v)(_:YY sd)(_:∀J,ZC H J->Q (.int (wts sd).sum) J)
def OY(f:H a=_s (.lst vs))(d:ZS H sd vs)(b:sd.9<=60)(g:∀l,H l=_n->Q (.ref l) (upd H l (.lst ((wts sd).map V.int)))) :
  Vz (JJ K a) 2 fv (Jn K 2 (UJ (Wl 0) (UJ (Wl 1) E4))) (λ_ H Q=>Q _t H) (YL 1) Q H:=by
 let b:=d.len;erw[Uy (L:=vs) (λi c J=>J=H/\c=((wts sd).take i).map V.int) (S,S) () (λi c J _ ⟨e,_⟩=>by rw[e];rwa[ZG.of f]) ?_ ?_ ?_]
 .grind
 .rintro i x c J j ⟨rfl,rfl⟩ f b;let(u,v,S):=BG b;let(p,b,h,S,f):=d.get j;erw[b,_,S,ZR.of f,S,_,_,S,_,_,S,S,([_,_],S,S),Z6 ?_];erw[_,S,S,?_];rw[xQ,eX h,xL];rfl
 .rintro c J ⟨rfl,rfl⟩ l b;let e:(wts sd).take vs.9=wts sd:=zL (by unfold wts;rw[xA];lia);rw[e];rwa[g l b]
abbrev HE:Stmt:=top 40
def NC(a:YC K mg "total" HE)(T:Txt mg):Fn P w K mg Z "total" ["side"] 1 UW:=by
 erw[a.fq ["side"] λH b Q E e h=>?_];let(v,f,S,(a,b,S,d,e),c,k):=h
 refine(S,_,(Zf (Zv (Z1 (B4 (by rfl)) T.sum BC (Za (Vg (locs:=i6) (fr:=[]) (S,aA,aA,aA,aA,aA) .nil S (Ys Q0) ⟨λ_ _ _ _ _ _=>by
  let b:(inN i6 []).Nodup:=aA
  rwa[(AW 2 (by rfl) (Ye (Y6 0 b) (Ye (Y6 1 b) Vf))),Jz,(Yj 1)]⟩) Zb)))),?_)
 erw[_,S,a,S,(_,ZG.of d),?_];erw[OY d e c.2 λl a=>?_];rwa[l,wts f,S,ZG.of Zi,c.bnd,by unfold wts;rw[xA];have:=c.2;lia,k _ (ZC.new a)]
structure ZV where
 ones:Va
 others:Va
 need:Int
 named:Option (Int×Str)
def Br:Option (Int×Str)->D
 | none=>.non
 | some (c,n)=>.tup [.int c,.str n]
def Wo(t:ZV):D:=.tup [Fd t.ones,Fd t.others,.int t.need,Br t.named]
def YN.of(h:YA H (Fd sd) v):YN H sd v:=by
 let(a,d,e,b,c):=h;rwa[a,d,e,b,ZS.of c]
def Mp(h:YA H (Wo t) v):∃a b c d,v=.ref a/\H a=_s (.tup [b,c,.int t.need,d])/\YN H t.ones b/\YN H t.others c/\YA H (Br t.named) d:=by
 let(a,s,e,l,(b,m,S,f,(c,n,S,g,(r,o,S,i,(d,p,S,j,k))))):=h;ext i;ext k;rwa[a,b,c,d,e,l,.of f,.of g,j]
theorem ZS.app(d:ZS H b ws):∀{a:Va}{vs:aG},ZS H a vs->ZS H (a++b) (vs++ws)
 | [],vs,h=>by ext h;rwa[d]
 | p::a,vs,⟨c,vs',e,h1,h2⟩=>by subst e;rwa[c,vs'++ws,S,h1,ZS.app d h2]
def IA(f:H a=_s (.lst vs))(d:ZS H sd vs)(b:sd.9<=1000)(g:∀l,H l=_n->Q (.ref l) (upd H l (.lst ((sd.map (·.1)).map V.str)))) :
  Vz (JJ K a) 2 fv (Jn K 2 (UJ (Wl 0) (UJ (Wl 1) E4))) (λ_ H Q=>Q _t H) (YL 0) Q H:=by
 let b:=d.len;erw[Uy (L:=vs) (λi c J=>J=H/\c=((sd.map (·.1)).take i).map V.str) (S,S) () (λi c J _ ⟨e,_⟩=>by rw[e];rwa[ZG.of f]) ?_ ?_ ?_]
 .grind
 .rintro i x c J j ⟨rfl,rfl⟩ f b;let(u,v,S):=BG b;let(p,b,h,S,f):=d.get j;erw[b,_,S,ZR.of f,S,_,_,S,_,_,S,S,([_,_],S,S),Z6 ?_];erw[_,S,S,?_];let e:(sd.map (·.1))[i]?=_s p.1:=by rw[xF,h];rfl
  rw[xQ,e,xL];rfl
 .rintro c J ⟨rfl,rfl⟩ l b;let e:(sd.map (·.1)).take vs.9=sd.map (·.1):=zL (by rw[xA];lia);rw[e];rwa[g l b]
def Uu(t:ZV):Prop:=YY t.ones/\YY t.others/\1<=t.need/\t.need<=12000
def HH(L:aG)(c:Nat):Uw L _n (_s (c:Int))=L.take c:=by
 unfold Uw;rw[HT.sIx_none,HT.sIx_nat,mD,Nat.sub_zero]
 by_cases h:c<=L.9
 .rw[mE h]
 .grind
def LN(L:aG)(c:Nat):Uw L (_s (c:Int)) _n=L.drop c:=by
 unfold Uw;rw[HT.sIx_none,HT.sIx_nat]
 by_cases h:c<=L.9
 .rw[mE h];rwa[zL (by rw[wI];lia)]
 .rw[Nat.min_eq_right (),wO (xE _),wO ()];rwa[List.take_nil]
abbrev Aa:=List (List ZN×V)
def Yo(c:Int)(n:Str):List ZN:=[.inl c,.inr n]
def brk(U:Aa)(c:Int)(n:Str):Bool:=(Zx U (Yo c n)).isSome
def keep(br:Int->Str->Bool)(c:Int)(a:Va):Va:=a.filter λp=>!br c p.1
def Ue(br:Int->Str->Bool)(c:Int)(a:Va):Int:=(wts (keep br c a)).sum
inductive Jt(vs:aG)(H:Hp)(Q:VK)(a:XK):Prop
 |mk(c) (v) (g) (sd) (U)(_:vs=[.int c,v,.ref g])(_:YN H sd v)(_:YY sd)(_:H g=_s (.dT U))(_:∀J,ZC H J->Q (.int (Ue (brk U) c sd)) J)
def LR{br:Int->Str->Bool}{c:Int}{a:Va}{i:Nat}{p:Str×Int}(h:a[i]?=_s p):keep br c (a.take (i+1))=keep br c (a.take i)++(if br c p.1 then [] else [p]):=by
 unfold keep;rw[xQ,h,zM];cases e:br c p.1<;>simp[e]
abbrev DK:Stmt:=top 58
theorem Si:Nm (Zm DK) "case" .cell:=aA
theorem cX:Nm (Zm DK) "gone" .cell:=aA
def dX(a:YC K mg "kept_weight" DK)(T:Txt mg):Fn P w K mg Z "kept_weight" i7 1 Jt:=by
 erw[a.fq i7 λH e Q E f h=>?_];let(c,v,g,n,U,S,(a,e,S,l,d),m,r,k):=h
 refine(S,_,(Zf (Zv (Z1 (B4 (by rfl)) T.sum BC (Za (Vg (locs:=i6) (fr:=[("case", 0),("gone", 2)]) (S,aA,aA,aA,aA,aA) (.ij Si (.ij cX .nil)) S (Ys Q1) ⟨λ_ _ _ _ _ _=>by
  let b:(inN i6 [("case", 0),("gone", 2)]).Nodup:=aA
  rwa[(AW 2 (by rfl) (Ye (Y6 0 b) (Ye (Y6 1 b) Vf))),(Jb (Zn (Kv f) (Z7 (Za (Wx 2) (Za (Yj 0) Zb))) (Wx 3) rfl)),(Yj 1)]⟩) Zb)))),?_)
 let b:(2000:Nat)<=sizeLine:=by decide
 let j:=d.len;let b:=m.2;erw[_,S,a,S,(_,ZG.of l),?_];erw[Uy (L:=e) (λi f J=>ZC H J/\f=(wts (keep (brk U) c (n.take i))).map V.int) (λ_ _ e=>e,S) () (λi f J _ ⟨e,_⟩=>ZG.of (e _ _ l)) ?_ ?_ ?_]
 .rintro i f J ⟨_,rfl⟩;unfold wts keep;rw[xA,xA];erw[xX (yQ _ _) ?_];rw[xY];lia
 .rintro i x f J l ⟨a,rfl⟩ h b;let(h,i,S):=BG b;let(p,b,h,S,i):=d.get l;erw[b,_,S,ZR.of (a _ _ i),S,_,_,S,_,_,S,S,([_,_],S,S),?_];erw[_,S,_,S,aB S,λq b=>?_];erw[nw (o:=.tup [.int c,.str p.1]) b λi d b=>?_];erw[_,S,g,_,S,YD.t (d _ _ (a _ _ r)) (k:=Yo c p.1) b,_,S,?_];let e:=LR (br:=brk U) (c:=c) h;show if (!brk U c p.1)=_t then _ else _
  cases b:brk U c p.1 with
  | true =>
   rw[b,_j S,yC] at e;erw[Zz ?_];rwa[a.trans d,by rw[e]]
  | false =>
   rw[b,_i xJ] at e;erw[Z6 ?_];erw[_,S,a.trans d,?_];rw[e];unfold wts;rw[xL,xL];rfl
 .rintro f J ⟨a,rfl⟩ l b;rw[j,xR];erw[l,wts (keep (brk U) c n),S,ZG.of Zi,λn c=>?_,?_,k _ (a.trans (ZC.new b))]
  .let(p,h,S):=zD.mp c;rwa[m.bnd _ (zD.mpr (p,(List.mem_filter.mp h).1,S))]
  .unfold wts keep;rw[xA];rwa[xX (yQ _ _) ()]
def U0(br:Int->Str->Bool)(c:Int)(t:ZV):Int:=Ue br c t.ones - Ue br c t.others - t.need
def ZT(H:Hp)(b:List ZV)(l:jP):Prop:=∃a,H l=_s (.lst a)/\ZI H (b.map Wo) a
theorem ZT.mono(h:ZT H ss l)(k:ZC H J):ZT J ss l:=let ⟨c,a,b⟩:=h;(c,k _ _ a,b.oA k)
def ZT.get{H:Hp}{d:List ZV}{l:jP}{us:aG}{i:Nat}{t:ZV}(b:ZI H (d.map Wo) us)(h:d[i]?=_s t) :
  ∃a c f g,us[i]?=_s (.ref a)/\H a=_s (.tup [c,f,.int t.need,g])/\YN H t.ones c/\YN H t.others f/\YA H (Br t.named) g:=by
 let d:=b.9;rw[xA] at d;let e:i<us.9:=by rw[d];rwa[(xH.mp h).1]
 let j:us[i]?=_s us[i]:=xC e;let(d,e,n):=b.get j;rw[xF,h] at e;ext e;let(a,c,f,g,e,d,h,k,m):=Mp n;rwa[a,c,f,g,by rw[j,e],d,h,k,m]
inductive UK(vs:aG)(H:Hp)(Q:VK)(a:XK):Prop
 |mk(l g:jP) (c:Nat) (a:List ZV) (t:ZV) (U:Aa)(_:vs=[.ref l,.int c,.ref g])(_:ZT H a l)(_:a[c]?=_s t)(_:Uu t)(_:H g=_s (.dT U))(_:∀J,ZC H J->Q (.int (U0 (brk U) c t)) J)
abbrev Lb:Stmt:=top 57
def RO(c:YC K mg "margin_without" Lb)(T:Txt mg)(a:∃t,mg "ONES"=_s (.int 0 t))(d:∃t,mg "OTHERS"=_s (.int 1 t))(h:∃t,mg "NEED"=_s (.int 2 t))(j:Fn P w K mg Z "kept_weight" i7 1 Jt):Fn P w K mg Z "margin_without" ["suits","case","gone"] 2 UK:=by
 let(b,e):=a;let(f,a):=d;let(g,d):=h;let i:ZH (.int 0) (.int 0 b):=(b,S);let b:ZH (.int 1) (.int 1 f):=(f,S);let f:ZH (.int 2) (.int 2 g):=(g,S);erw[c.fq ["suits","case","gone","suit"] λH g Q E c h=>?_];let(l,g,c,v,t,U,S,(u,r,m),s,(p,n,_,_),o,k):=h;erw[rfl,_,(Zc (Zw 3 (Zh Yg Q0 Q1)) (Zf (Zv (Z0 Ub (Z0 Ub (Zk j (Za Q1 (Za (Zh Zq Q3 (Wh e i)) (Za Q2 Zb)))) (Zk j (Za Q1 (Za (Zh Zq Q3 (Wh a b)) (Za Q2 Zb))))) (Zh Zq Q3 (Wh d f)))))),?_];let(d,b,e,v,i,a,f,h,j):=ZT.get (l:=l) m s;erw[_,S,_,S,l,u,c,.ref d,S,S,ZG.of r,Yy i,?_];erw[_,S,_,S,d,_,0,b,S,S,ZR.of a,S,_,S,c,b,g,t.ones,U,S,f,p,o,λf b=>?_];erw[_,S,_,S,d,_,1,e,S,S,ZR.of (b _ _ a),S,_,S,c,e,g,t.others,U,S,h.mono b,n,b _ _ o,λe c=>?_];erw[_,_,S,S,_,S,d,_,2,_,S,S,ZR.of (c _ _ (b _ _ a)),S,_,_,S,S,k e (b.trans c)]
abbrev Bm:=Int×Str
def Yd(a:List Bm):Nat->List ZV->List Bool×List Bm
 | _,[]=>([],a)
 | i,t::r =>
  (decide (0<=U0 (λc n=>decide ((c,n)∈(Yd a (i+1) r).2)) i t)::(Yd a (i+1) r).1,
   if decide (0<=U0 (λc n=>decide ((c,n)∈(Yd a (i+1) r).2)) i t)=_t then (Yd a (i+1) r).2++t.named.toList else (Yd a (i+1) r).2)
theorem Ec(a:List Bm):∀b i,(Yd a i b).1.9=b.9
 | [],_=>rfl
 | t::r,i=>by rw[Yd,yH,Ec a r (i+1),yH]
def WU(U:Aa)(a:List Bm):Prop:=∀c n,brk U c n=decide ((c,n)∈a)
def WU.put(h:WU U gn):WU (Z4 U (Yo c n) v) (gn ++ [(Prod.mk (c) (n))]):=by
 intro a b;unfold brk;rw[Ui]
 by_cases e:Yo a b=Yo c n
 .rw[_j e];let d:(Prod.mk (a) (b))=(Prod.mk (c) (n)):=by
   unfold Yo at e;injection e with g f
   injection f with f _
   ext g;ext f;rfl
  rw[d];rwa[(yE (xO _ (xV.mpr S))).6]
 .rw[_i e];erw[(h a b).trans ?_];let d:¬(Prod.mk (a) (b))=(Prod.mk (c) (n)):=λz=>e (by injection z with e f;rw[e,f]);have:((Prod.mk (a) (b))∈gn ++ [(Prod.mk (c) (n))])↔((Prod.mk (a) (b))∈gn):=by rw[xK,xV];rwa[λz=>z.elim id (λz=>_a z d),.inl]
  rw[decide_eq_decide];rwa[this.6]
theorem K8(r:List Bool)(b:Bool):∀c:Nat,((List.replicate (c+1) _x++r).map V.bl).set c (.bl b)=(List.replicate c _x++(b::r)).map V.bl
 | 0=>rfl
 | c+1=>by
  rw[yW,yN,yD,List.set_cons_succ,K8 r b c,yW,yN,yD]
theorem Nh(r:List Bool)(b:Bool):∀c:Nat,((List.replicate c _x++(b::r)).map V.bl)[c]?=_s (.bl b)
 | 0=>rfl
 | c+1=>by
  rw[yW,yN,yD,List.getElem?_cons_succ];rwa[Nh r b c]
def iM(h:c<n):ixN n (c:Int)=_s c:=by
 unfold ixN;rw[_j (),_j (),yI]
inductive UY(vs:aG)(H:Hp)(Q:VK)(a:XK):Prop
 |mk(l m) (ss) (ms) (more)(_:vs=[.ref l,.ref m])(_:ZT H ss l)(_:(∀t∈ss,Uu t))(_:ss.9<=1000)(_:H m=_s (.lst ms))(_:ZI H (more.map λx=>Br (_s x)) ms)(_:more.9<=1000)(_:∀a J,H a=_n->J a=_s (.lst ((Yd more 0 ss).1.map V.bl))->ZC H J->Q (.ref a) J)
abbrev HJ:Stmt:=top 50
def XW(b3:YC K mg "settled_with" HJ)(T:Txt mg)(C3:∃t,mg "NAMED"=_s (.int 3 t))(b2:Fn P w K mg Z "margin_without" ["suits","case","gone"] 2 UK):Fn P w K mg Z "settled_with" ["suits","more"] 3 UY:=by
 let(t3,s):=C3;let u:ZH (.int 3) (.int 3 t3):=(t3,S);erw[b3.fq ["suits","more","gone","oath","standing","case"] λH vs Q E hr h=>?_];let(l,m,j,ms,f,S,G,b6,c1,hm,a6,c3,k):=h;erw[rfl,_,(Zc (Zw 2 Fs) (Zc (Y5 mO S (Ys Q1) (Z8 3) (Zf (Jf hr Q2 Q3 V0))) (Zc (Zw 4 (Z0 Nb (Yn (Za V0 Zb)) (Z1 Yu T.len Ym (Za Q0 Zb)))) (Zc (Y5 mO S (fL T.range (Za (Z0 Ub (Z1 Yu T.len Ym (Za Q0 Zb)) Ze) (Za (Jx Jv Ze) (Za (Jx Jv Ze) Zb)))) (Z8 5) (Zc (Jl (Jq AE (Zk b2 (Za Q0 (Za Q5 (Za Q2 Zb)))) Ze (Zo _)) (Bh Q4 Q5 Bs)) (Zf (Zs (QW.pt (Vo (Wq (Zh Yg Q4 Q5)) (V9 (Zn Az (Zh Zq (Zh Yg Q0 Q5) (Wh s u)) Wa (Zo _))))) (Zf (Jf hr Q2 (Zh Zq (Zh Yg Q0 Q5) (Wh s u)) V0)) Zr)))) (Zf (Zv Q4)))))),?_];let hz:=aC
 erw[λg hg=>?_];let S0:ZC H (upd H g (.dT [])):=ZC.new hg;let a5:ms.9=f.9:=by have:=a6.9;rw[xA] at this;rwa[this]
 erw[_,S,m,S,(_,ZG.of (S0 _ _ hm)),?_];erw[Ws ms (λi Y J=>∃(U:Aa)(v3:Option V),Y=[_s (.ref l),_s (.ref m),_s (.ref g),v3,_n,_n]/\J g=_s (.dT U)/\WU U (f.take i)/\U.9<=i/\ZC H J) ([],_n,S,Zi,λc n=>rfl,xE _,S0) (λi Y J _ ⟨_,_,_,_,_,_,e⟩=>ZG.of (e _ _ hm)) ?_ ?_]
 .rintro i x Y J hx ⟨U,v3,rfl,v,C,b5,sm⟩;let(d,hd,b7):=a6.get hx;rw[xF] at hd;obtain⟨⟨c,n⟩,ho⟩:∃o,f[i]?=_s o:=by cases e:f[i]? with | none=>rw[e] at hd;cases hd | some t=>rwa[t,rfl]
  rw[ho] at hd;ext hd;let(b,bs,S,hb,(y1,r1,S,e1,(y2,r2,S,e2,e3))):=b7;ext e1;ext e2;ext e3;let hi:i<ms.9:=(xH.mp hx).1;erw[_,S,_,S,g,_,S,YU.t v (k:=Yo c n) (sm _ _ hb) (),?_];erw[_,_,S,Zi,?_,xX (Vv _ _ _) (),?_]
  .rw[xQ,ho];rwa[C.put]
  .intro b' o e;rw[Zd (λz=>by rw[z,hg] at e;ext e)];rwa[sm b' o e]
 .rintro Y H1 ⟨U,v3,rfl,a1,C,b5,X⟩;rw[a5,xR] at C;let(us,a3,O):=G.mono X;let b9:us.9=j.9:=by have:=O.9;rw[xA] at this;rwa[this]
  erw[aB S,λq hq=>?_];erw[nw (o:=.lst [.bl _x]) hq λH2 S2 k2=>?_];erw[_,S,l,us,S,.inl (ZG.of (S2 _ _ a3)),q,_,_,S,S,k2,(),(),?_,λst F=>?_]
  .grind
  let L:H st=none:=(X.trans S2).free F;let I:g≠st:=λz=>by rw[<- z,S2 _ _ a1] at F;ext F
  let S3:=ZC.new (o:=.lst (List.replicate (us.9:Int).toNat [V.bl _x]).flatten) F;let k3:(upd H2 st (.lst (List.replicate (us.9:Int).toNat [V.bl _x]).flatten)) st=_s (.lst ((List.replicate j.length _x).map V.bl)):=by
   rw[Zi,yI,b9];have:∀n:Nat,(List.replicate n [V.bl _x]).flatten=(List.replicate n _x).map V.bl:=by
    intro n
    induction n with
    | zero=>rfl
    | succ n ih=>rw[yW,wP,ih,yW,yD];rfl
   rw[this]
  generalize (upd H2 st (.lst (List.replicate (us.9:Int).toNat [V.bl _x]).flatten))=H3 at S3 k3 |-;let M:=S2.trans S3;let c0:=X.trans M;erw[_,S,l,us,S,.inl (ZG.of (M _ _ a3)),_,_,S,S,_,S,_,S,_,_,S,((),(),aA,aA),?_]
  refine Kt j.length () (λi Y J=>∃(U:Aa)(v3 v5:Option V),Y=[_s (.ref l),_s (.ref m),_s (.ref g),v3,_s (.ref st),v5]/\
    J st=_s (.lst ((List.replicate (j.9 - i) _x++(Yd f (j.9 - i) (j.drop (j.9 - i))).1).map V.bl))/\J g=_s (.dT U)/\WU U (Yd f (j.9 - i) (j.drop (j.9 - i))).2/\U.9<=1000+i/\ZC H J)
   (U,_,_n,S,?_,M _ _ a1,?_,(),c0) ?_ ?_
  .rw[Nat.sub_zero,List.drop_length,Yd,yC];rwa[k3]
  .rw[Nat.sub_zero,List.drop_length,Yd];rwa[C]
  .rintro i Y J hi ⟨U,v3,v5,rfl,r,v,p,a2,y⟩;obtain⟨c,hc⟩:∃c,j.9 - i=c+1:=(j.9 - i - 1,());let b4:j.9 - (i+1)=c:=by lia
   let N:c<j.9:=by lia
   let ec:((us.9:Int) - 1 - (i:Nat))=((c:Nat):Int):=by lia
   rw[hc] at r p;rw[ec,b4];let ht:j[c]?=_s j[c]:=xC N;let b0:j[c]∈j:=zH N;let ed:j.drop c=j[c]::j.drop (c+1):=zO N;rw[ed];generalize j[c]=t at ht b0 ed |-;let(c4,c2,b8):=G.mono y;let a0:brk U=λ(a:Int) (n:Str)=>decide ((a,n)∈(Yd f (c+1) (j.drop (c+1))).2):=funext λa=>funext λb=>p a b;let a7:Yd f c (t::j.drop (c+1))=(decide (0<=U0 (brk U) c t)::(Yd f (c+1) (j.drop (c+1))).1,if decide (0<=U0 (brk U) c t)=_t then (Yd f (c+1) (j.drop (c+1))).2++t.named.toList else (Yd f (c+1) (j.drop (c+1))).2):=by rw[a0,Yd]
   rw[a7];generalize Yd f (c+1) (j.drop (c+1))=R at r p |-;erw[_,S,_,S,_,S,l,g,c,j,t,U,S,G.mono y,ht,b6 t b0,v,λH4 s4=>?_];let a8:=s4 _ _ r;erw[U0 (brk U) c t,0,S,S,_,S,_,S,st,_,c,c,S,S,a8,?_,?_]
   .rwa[iM (by rw[xA,xG,zZ];lia)]
   dsimp only;generalize decide (0<=U0 (brk U) c t)=b;rw[K8];let A:ZC H (upd H4 st (.lst ((List.replicate c _x++(b::R.1)).map V.bl))):=λx o e=>by
    rw[Zd (λz=>by rw[z,L] at e;ext e)];rwa[s4 _ _ (y _ _ e)]
   let k5:(upd H4 st (.lst ((List.replicate c _x++(b::R.1)).map V.bl))) st=_s (.lst ((List.replicate c _x++(b::R.1)).map V.bl)):=Zi;let B:(upd H4 st (.lst ((List.replicate c _x++(b::R.1)).map V.bl))) g=_s (.dT U):=by rw[Zd I];rwa[s4 _ _ v]
   generalize (upd H4 st (.lst ((List.replicate c _x++(b::R.1)).map V.bl)))=H5 at A k5 B |-;let(b1,a4,W):=G.mono A;let(ta,u1,u2,u4,hu,a9,h1,h2,h4):=ZT.get (l:=l) W ht;erw[_,S,_,S,st,_,c,.bl b,S,S,ZG.of k5,Yy (Nh ..),b,S,?_];cases b with
   | false =>
    erw[Zz (Zz ?_)];rwa[U,_,_,S,k5,B,p,(),A]
   | true =>
    erw[Z6 ?_];erw[_,S,_,S,l,b1,c,.ref ta,S,S,ZG.of a4,Yy hu,ta,_,3,u4,S,S,ZR.of a9,S,S,_,S,?_];cases hn:t.named with
    | none =>
     rw[hn] at h4;ext h4;erw[Zz ?_];rwa[U,_,_,S,k5,B,by show WU U (R.2 ++ []);rw[yC];rwa[p],(),A]
    | some o =>
     rw[hn] at h4;let(oc,on):=o;let(d,bs,S,hb,(y1,r1,S,e1,(y2,r2,S,e2,e3))):=h4;ext e1;ext e2;ext e3;erw[Z6 ?_];erw[_,S,_,S,_,S,l,b1,c,.ref ta,S,S,ZG.of a4,Yy hu,ta,_,3,.ref d,S,S,ZR.of a9,S,?_];erw[g,_,S,YU.t B (k:=Yo oc on) hb (),?_];erw[_,_,_,S,by rw[Zd I.6];rwa[k5],Zi,p.put,xX (Vv _ _ _) (),?_];intro b' o e;rw[Zd (λz=>by rw[z,hg] at e;ext e)];rwa[A b' o e]
  .rintro Y J ⟨U,v3,v5,rfl,r,v,p,a2,y⟩;rw[Nat.sub_self] at r;rwa[_,S,k st J L r y]
inductive US(vs:aG)(H:Hp)(Q:VK)(a:XK):Prop
 |mk(l) (ss)(_:vs=[.ref l])(_:ZT H ss l)(_:(∀t∈ss,Uu t))(_:ss.9<=1000)(_:∀a J,H a=_n->J a=_s (.lst ((Yd [] 0 ss).1.map V.bl))->ZC H J->Q (.ref a) J)
abbrev Mh:Stmt:=top 49
def QZ(a:YC K mg "settled" Mh)(T:Txt mg)(b:Fn P w K mg Z "settled_with" ["suits","more"] 3 UY):Fn P w K mg Z "settled" i8 4 US:=by
 erw[a.fq i8 λH c Q E a h=>?_];let(l,e,rfl,d,c,a,k):=h;erw[rfl,_,(Zf (Zv (Zk b (Za Q0 (Za (Yn Zb) Zb))))),?_];erw[_,rfl,aB rfl,λq b=>?_];let S:=ZC.new (o:=.lst []) b;rwa[l,q,e,[],[],rfl,d.mono S,c,a,Zi,rfl,yJ _,λd J a b c=>k d J (S.free a) b (S.trans c)]
def KP(bs:List Bool)(a:List ZV)(c:Nat)(n:Str):Prop:=∃j t,c<j/\a[j]?=_s t/\bs[j]?=_s _t/\t.named=_s ((c:Int),n)
def Vk(cs:List Nat):List V:=cs.map λ(c:Nat)=>V.int (c:Int)
def nmd(a:List ZV)(c:Int)(n:Str)(j:Nat):Bool:=match a[j]? with
 | some u=>decide (u.named=_s (c,n))
 | none=>_x
def nmd_iff:nmd ss c n j=_t↔∃u,ss[j]?=_s u/\u.named=_s (c,n):=by
 unfold nmd;cases e:ss[j]? with
 | none=>rwa[(λz=>nomatch z),(λ⟨u,z,_⟩=>nomatch z)]
 | some u=>rwa[λz=>(u,S,zR z),λ⟨v,z,q⟩=>by ext z;rwa[yE q]]
def Wt(a:List ZV)(c:Int)(n:Str)(cs:List Nat):List Nat:=cs.filter (nmd a c n)
def DT{a:List ZV}{c:Int}{n:Str}{cs:List Nat}{i j:Nat}(h:cs[i]?=_s j):Wt a c n (cs.take (i+1))=Wt a c n (cs.take i)++(if nmd a c n j then [j] else []):=by
 unfold Wt;rw[xQ,h,zM];cases e:nmd a c n j<;>simp[e]
theorem Xk(a:List ZV)(c:Int)(n:Str)(cs:List Nat):(Wt a c n cs).9<=cs.9:=yQ _ _
def GX(H:Hp)(g:jP)(b:List ZV)(cs:List Nat):Prop:=∃U:Aa,H g=_s (.dT U)/\U.9<=cs.9/\(∀p∈U,∃c n,p.1=Yo c n/\Wt b c n cs ≠ [])/\∀c n,(Zx U (Yo c n)=_n/\Wt b c n cs=[])\/∃a,Zx U (Yo c n)=_s (.ref a)/\H a=_s (.lst (Vk (Wt b c n cs)))
structure CO (H J:Hp) (g:jP) (ss:List ZV) (cs:List Nat) (U:Aa):Prop where
 at_:J g=_s (.dT U)
 len:U.9<=cs.9
 keys:∀p∈U,∃c n,p.1=Yo c n/\Wt ss c n cs ≠ []
 no:∀c n,Zx U (Yo c n)=_n->Wt ss c n cs=[]
 yes:∀c n v,Zx U (Yo c n)=_s v->∃a,v=.ref a/\H a=_n/\a≠g/\J a=_s (.lst (Vk (Wt ss c n cs)))
 one:∀c n c' n' a,Zx U (Yo c n)=_s (.ref a)->Zx U (Yo c' n')=_s (.ref a)->(Prod.mk (c) (n))=(Prod.mk (c') (n'))
inductive UI(vs:aG)(H:Hp)(Q:VK)(a:XK):Prop
 |mk(l lc) (ss) (cs)(_:vs=[.ref l,.ref lc])(_:ZT H ss l)(_:cs.9<=1000)(_:(∀j∈cs,j<ss.9))(_:H lc=_s (.lst (Vk cs)))(_:∀g J,H g=_n->GX J g ss cs->(∀U c n a,J g=_s (.dT U)->Zx U (Yo c n)=_s (.ref a)->H a=_n)->ZC H J->Q (.ref g) J)
def Fv(e:Yo c n=Yo c' n'):(Prod.mk (c) (n))=(Prod.mk (c') (n')):=by
 unfold Yo at e;injection e with b a
 injection a with a _
 ext b;ext a;rfl
def KA{l:Aa}{k:List ZN}{v:V}{p:List ZN×V}(h:p∈Z4 l k v):p=(k,v)\/p∈l:=by
 unfold Z4 at h;split at h
 .grind
 .grind
abbrev LM:Stmt:=top 54
def Rc(a6:YC K mg "naming" LM)(T:Txt mg)(C3:∃t,mg "NAMED"=_s (.int 3 t)):Fn P w K mg Z "naming" ["suits","cases"] 1 UI:=by
 let(t3,s):=C3;let F:ZH (.int 3) (.int 3 t3):=(t3,S);erw[a6.fq ["suits","cases","named_by","case","oath"] λH vs Q E hr h=>?_];let(l,lc,m,cs,S,b2,b5,a9,a2,k):=h;erw[rfl,_,(Zc (Zw 2 Fs) (Zc (Y5 mO S (Ys Q1) (Z8 3) (Zc (Zw 4 (Zh Zq (Zh Yg Q0 Q3) (Wh s F))) (Zf (Zs (Zn Az Q4 Wa (Zo _)) (Zf (Zl (Yz aD aE aF Y1 (Qq hr Q2 Q4 (Yn Zb)) (Za Q3 Zb)))) Zr)))) (Zf (Zv Q2)))),?_];let hz:=aC
 erw[λg hg=>?_];let S0:ZC H (upd H g (.dT [])):=ZC.new hg;erw[_,S,lc,S,(_,ZG.of (S0 _ _ a2)),?_];erw[Ws (Vk cs) (λi Y J=>∃(U:Aa)(v3 v4:Option V),Y=[_s (.ref l),_s (.ref lc),_s (.ref g),v3,v4]/\CO H J g m (cs.take i) U/\ZC H J) ([],_n,_n,S,(Zi,xE _,(λp L=>nomatch L),λc n _=>rfl,(λc n v e=>nomatch e),(λc n c' n' a e=>nomatch e)),S0) (λi Y J _ ⟨_,_,_,_,_,e⟩=>ZG.of (e _ _ a2)) ?_ ?_]
 .rintro i x Y J hx ⟨U,v3,v4,rfl,I,sm⟩;let hi:i<cs.9:=by
   have:=(xH.mp hx).1;unfold Vk at this;rw[xA] at this;rwa[this]
  obtain⟨j,y,ex⟩:∃j,cs[i]?=_s j/\x=.int (j:Int):=by
   unfold Vk at hx;rw[xF] at hx;let(j,h1,W):=xS.mp hx;rwa[j,h1,W.6]
  subst ex;let tl:(cs.take i).9=i:=by rw[xY];lia
  let b7:(cs.take (i+1)).9=i+1:=by rw[xY];lia
  let C:∀c n,Wt m c n (cs.take i)≠ []->Wt m c n (cs.take (i+1))≠ []:=λc n h z=>by
   rw[DT y] at z;rwa[h (List.append_eq_nil_iff.mp z).1]
  let N:=I.len;rw[tl] at N;obtain⟨t,ht⟩:∃t,m[j]?=_s t:=(_,xC (a9 j (xN y)));let(us,b0,a4):=b2.mono sm;let(ta,u1,u2,u4,hu,b3,_,_,h4):=ZT.get (l:=l) a4 ht;erw[_,S,_,S,l,us,j,.ref ta,S,S,ZG.of b0,Yy hu,ta,_,3,u4,S,S,ZR.of b3,S,?_];cases hn:t.named with
  | none =>
   rw[hn] at h4;ext h4;erw[_,S,S,_,S,Vi (λz=>_a S z) (λ_=>?_)];let same:∀c n,Wt m c n (cs.take (i+1))=Wt m c n (cs.take i):=λc n=>by
    rw[DT y];have:nmd m c n j=false:=by
     cases e:nmd m c n j with
     | false=>rfl
     | true=>let(u,q1,q2):=nmd_iff.mp e;rw[ht] at q1;ext q1;rw[hn] at q2;ext q2
    rw[this,_i xJ,yC]
   rwa[U,_,_,S,(I.at_,(),λp L=>let ⟨c,n,e,h⟩:=I.keys p L;(c,n,e,C c n h),λc n e=>by rw[same];rwa[I.no c n e],λc n v e=>by rw[same];rwa[I.yes c n v e],I.one),sm]
  | some o =>
   rw[hn] at h4;let(d,f):=o;let(b,bs,S,hb,(y1,r1,S,e1,(y2,r2,S,e2,e3))):=h4;ext e1;ext e2;ext e3;let B:Wt m d f (cs.take (i+1))=Wt m d f (cs.take i)++[j]:=by rw[DT y,nmd_iff.mpr (t,ht,hn),_j S]
   let same:∀c n,(Prod.mk (c) (n))≠(Prod.mk (d) (f))->Wt m c n (cs.take (i+1))=Wt m c n (cs.take i):=λc n b1=>by
    rw[DT y];have:nmd m c n j=false:=by
     cases e:nmd m c n j with
     | false=>rfl
     | true=>let(u,q1,q2):=nmd_iff.mp e;rw[ht] at q1;ext q1;rw[hn] at q2;rwa[_a (ma q2).symm b1]
    rw[this,_i xJ,yC]
   let O:Vk (Wt m d f (cs.take i))++[V.int j]=Vk (Wt m d f (cs.take (i+1))):=by rw[B];unfold Vk;rw[xL];rfl
   let jl:=Xk m d f (cs.take i);rw[tl] at jl;erw[_,S,S,_,S,Vi (λ_=>?_) (λz=>nomatch z)];erw[_,S,g,S,.inr (U,.inl I.at_),_,S,aB S,λq X=>?_];let M:=ZC.new (o:=.lst []) X;let kq:(upd J q (.lst [])) q=_s (.lst []):=Zi;let gq:q≠g:=λz=>by rw[z,I.at_] at X;ext X
   let a3:H q=none:=sm.free X;generalize (upd J q (.lst []))=H1 at M kq |-;let a5:=sm.trans M;erw[U,Yo d f,b,M _ _ I.at_,S,M _ _ hb,(),λv hv=>?_,λhv=>?_]
   .let(a,S,a7,a8,ha):=I.yes d f v hv;let a0:=M _ _ ha;erw[.inl (S,_,ZG.of a0),_,S,a,_,_,S,S,a0,by unfold Vk;rw[xA];lia,?_];erw[U,_,_,S,(?_,(),λp L=>let ⟨c,n,e,h⟩:=I.keys p L;(c,n,e,C c n h),λc n e=>?_,λc n v e=>?_,I.one),?_]
    .rw[Zd a8.6];rwa[M _ _ I.at_]
    .rw[same c n (λz=>by ext z;rw[hv] at e;ext e)];rwa[I.no c n e]
    .let(R,S,h1,W,G):=I.yes c n v e;erw[R,S,h1,W,?_]
     by_cases r:(Prod.mk (c) (n))=(Prod.mk (d) (f))
     .ext r;rw[hv] at e;ext e;rw[Zi,O]
     .rw[same c n r,Zd (λz=>r (by rw[z] at e;rwa[I.one c n d f a e hv]))];rwa[M _ _ G]
    .intro b' o e;rw[Zd (λz=>by rw[z,a7] at e;ext e)];rwa[a5 b' o e]
   .let a1:(upd H1 g (.dT (Z4 U (Yo d f) (.ref q)))) q=_s (.lst []):=by rw[Zd gq];rwa[kq]
    erw[.inl (S,_,ZG.of a1),_,S,q,_,_,S,S,a1,by show 0<_z;lia,?_];let j0:=I.no d f hv;erw[Z4 U (Yo d f) (.ref q),_,_,S,(?_,xX (Vv _ _ _) (),λp L=>?_,λc n e=>?_,λc n v e=>?_,λc n c' n' a e e'=>?_),?_]
    .rw[Zd gq.6,Zi]
    .rcases KA L with rfl | L
     .rwa[d,f,S,by rw[B];simp]
     .let(c,n,e,h):=I.keys p L;rwa[c,n,e,C c n h]
    .rw[Ui] at e
     by_cases r:Yo c n=Yo d f
     .rw[_j r] at e;ext e
     .rw[_i r] at e;rw[same c n (λz=>r (by ext z;rfl))];rwa[I.no c n e]
    .rw[Ui] at e
     by_cases r:Yo c n=Yo d f
     .rw[_j r] at e;ext e;let A:=Fv r;ext A;rwa[q,S,a3,gq,by rw[Zi,B,j0];rfl]
     .rw[_i r] at e;let(R,S,h1,W,G):=I.yes c n v e;erw[R,S,h1,W,?_];let aq:R≠q:=λz=>by rw[z,X] at G;ext G
      rw[same c n (λz=>r (by ext z;rfl)),Zd aq,Zd W];rwa[M _ _ G]
    .rw[Ui] at e e';let no:∀c n,Zx U (Yo c n)=_s (.ref q)->False:=λc n z=>by
      let(R,z1,_,_,G):=I.yes c n _ z;ext z1;rw[X] at G;ext G
     by_cases r:Yo c n=Yo d f
     .by_cases A:Yo c' n'=Yo d f
      .rwa[(Fv r).trans (Fv A).6]
      .grind
     .rw[_i r] at e
      by_cases A:Yo c' n'=Yo d f
      .grind
      .rw[_i A] at e';rwa[I.one _ _ _ _ _ e e']
    .intro b' o e;rw[Zd (λz=>by rw[z,a3] at e;ext e),Zd (λz=>by rw[z,hg] at e;ext e)];rwa[a5 b' o e]
 .rintro Y J ⟨U,v3,v4,rfl,I,sm⟩;let el:(Vk cs).9=cs.9:=by unfold Vk;rw[xA]
  rw[el,xR] at I;erw[_,S,k g J hg (U,I.at_,I.len,I.keys,λc n=>?_) (λb6 c n a e1 e2=>?_) sm]
  .cases e:Zx U (Yo c n) with
   | none=>rwa[.inl (S,I.no c n e)]
   | some v =>
    let(a,S,_,_,G):=I.yes c n v e;rwa[.inr (a,S,G)]
  .rw[I.at_] at e1;ext e1;let(R,z,b4,_,_):=I.yes c n _ e2;ext z;rwa[b4]
def stT(bs:List Bool)(i:Nat):List Nat:=(List.range i).filter λj=>bs.getD j _x
def stL(bs:List Bool):List Nat:=stT bs bs.9
def RA{bs:List Bool}{i:Nat}{b:Bool}(h:bs[i]?=_s b):stT bs (i+1)=stT bs i++(if b then [i] else []):=by
 unfold stT;rw[List.range_succ,zM];ext b<;>simp[h]
theorem Ka(bs:List Bool)(i:Nat):(stT bs i).9<=i:=xX (yQ _ _) (by rw[wQ];rwa[xE _])
def stL_mem:j∈stL bs↔bs[j]?=_s true:=by
 unfold stL stT;rw[List.mem_filter,zN,xT];constructor
 .grind
 .grind
abbrev JI(ss:List ZV):List Bool:=(Yd [] 0 ss).1
def Ez(a:List ZV)(c:Int)(n:Str):List Nat:=Wt a c n (stL (JI a))
inductive VL(vs:aG)(H:Hp)(Q:VK)(a:XK):Prop
 |mk(l) (ss)(_:vs=[.ref l])(_:ZT H ss l)(_:(∀t∈ss,Uu t))(_:ss.9<=1000)(_:∀g J,H g=_n->GX J g ss (stL (JI ss))->(∀U c n a,J g=_s (.dT U)->Zx U (Yo c n)=_s (.ref a)->H a=_n)->ZC H J->Q (.ref g) J)
abbrev Nn:Stmt:=top 53
def XO(a:YC K mg "breaking" Nn)(T:Txt mg)(e:Fn P w K mg Z "settled" i8 4 US)(b:Fn P w K mg Z "naming" ["suits","cases"] 1 UI) :
  Fn P w K mg Z "breaking" i8 5 VL:=by
 erw[a.fq i8 λH c Q E a h=>?_];let(l,a,rfl,d,f,c,k):=h
 refine(rfl,_,(Zf (Zv (Zk b (Za Q0 (Za (Vg (locs:=["case","stands"]) (fr:=[]) (rfl,aA,aA,aA,aA,aA) .nil rfl (K3 T.enumerate (Za (Zk e (Za Q0 Zb)) Zb)) ⟨λ_ _ _ _ _ _=>by
  let b:(inN ["case","stands"] []).Nodup:=aA
  rwa[(AW 2 (by rfl) (Ye (Y6 0 b) (Ye (Y6 1 b) Vf))),(Jb (Wq (Yj 1))),(Yj 0)]⟩) Zb))))),?_)
 erw[_,rfl,_,rfl,l,a,rfl,d,f,c,λc e f b g=>?_];let h:(JI a).9=a.9:=Ec [] a 0;erw[c,_,rfl,ZG.of b,?_];erw[iL ((JI a).map V.bl) (λi c J=>ZC e J/\c=Vk (stT (JI a) i)) (λ_ _ e=>e,rfl) (by rw[xA];lia) (λi c J _ ⟨e,_⟩=>ZG.of (e _ _ b)) ?_ ?_ ?_]
 .rintro i c J ⟨_,rfl⟩;unfold Vk;rw[xA];rwa[Ka _ _]
 .rintro i x p c J m ⟨f,rfl⟩ j n b;let(m,n,rfl):=BG b;erw[nw (o:=.tup [.int i,x]) j λm Sp kp=>?_];obtain⟨b,j,rfl⟩:∃b,(JI a)[i]?=_s b/\x=.bl b:=by grind
  erw[p,_,rfl,ZR.of kp,rfl,_,_,rfl,_,_,rfl,rfl,([_,_],rfl,rfl),?_];erw[_,rfl,b,rfl,?_];let e:=RA j;cases b with
  | true =>
   erw[Z6 ?_];erw[_,rfl,f.trans Sp,?_];rw[e];unfold Vk;rw[xL];rfl
  | false =>
   erw[Zz ?_];rwa[f.trans Sp,by rw[e];simp]
 .rintro c J ⟨f,rfl⟩ e b;rw[xA];let c:=ZC.new (o:=.lst (Vk (stL (JI a)))) b;let S:=(g.trans f).trans c;let b:=Ka (JI a) (JI a).9;erw[l,e,a,stL (JI a),rfl,d.mono S,by unfold stL;lia,λj e=>?_,Zi,λg m c a b d=>?_]
  .rw[<- h];rwa[(xH.mp (stL_mem.mp e)).1]
  .rwa[k g m (S.free c) a (λU c n a e f=>S.free (b U c n a e f)) (S.trans d)]
section
variable{K:uFg}{C CM:jP}
def fz(L:jM)(H:Hp):Hp:=λb=>if b∈L then H b else match H b with
 | some (.tup t)=>_s (.tup t)
 | _=>_n
def Bz(h:fz L H b=_s o):H b=_s o/\(b∈L\/∃t,o=.tup t):=by
 unfold fz at h;split at h
 .rename_i m;rwa[h,.inl m]
 .grind
def Uf(m:b∈L)(h:H b=_s o):fz L H b=_s o:=by unfold fz;rw[_j m];rwa[h]
def Wi(h:H b=_s (.tup t)):fz L H b=_s (.tup t):=by
 unfold fz;split
 .rwa[h]
 .rw[h]
theorem Df:ZC (fz L H) H:=λ_ _ e=>(Bz e).1
theorem Wu(a:YB H J)(c:∀x∈L,∀o,H x=_s o->J x=_s o)(s:∀x∈L,x∈xs'):ZC (fz L H) (fz xs' J):=λb o e=>by
 obtain⟨e,m | ⟨t,rfl⟩⟩:=Bz e
 .rwa[Uf (s b m) (c b m o e)]
 .rwa[Wi (a b t e)]
def WD(H:Hp)(L:jM)(l:jP)(F:List D):Prop:=∃a,H l=_s (.lst a)/\ZI (fz L H) F a
theorem WD.mono(h:WD H L l F)(k:∀o,H l=_s o->J l=_s o)(s:ZC (fz L H) (fz xs' J)):WD J xs' l F :=
 let ⟨c,a,b⟩:=h;(c,k _ a,b.oA s)
theorem WD.get(h:WD H L l F):∃vs,H l=_s (.lst vs)/\ZI H F vs/\vs.9=F.9 :=
 let ⟨vs,a,b⟩:=h;(vs,a,b.oA Df,b.9)
structure ML where
 p:jP
 L:FL
 ld:jP
 lb:jP
 lh:jP
 lq:jP
 lt:jP
 ly:jP
 lv:jP
 dp:jP
def Wp(M:ML):List (Str×V):=Zu "penances" (.ref M.dp) (Zu "verdicts" (.ref M.lv) (Zu "trial_days" (.ref M.ly) (Zu "trials" (.ref M.lt) (Zu "debts" (.ref M.lq) (Zu "happenings" (.ref M.lh) (Zu "bringings" (.ref M.lb) (Zu "folk" (.ref M.L.p) (Zu "deeds" (.ref M.ld) []))))))))
local macro_rules | `(tactic| walk_at "mf")=>`(tactic| (unfold Wp;repeat (first | rw[Y8,if_pos (by decide +kernel)] | rw[Y8,if_neg (by decide +kernel)])))
def TR(M:ML):(Wp M).lookup ("deeds":Str)=_s (.ref M.ld):=by walk_at "mf"
def Vx(M:ML):(Wp M).lookup ("folk":Str)=_s (.ref M.L.p):=by walk_at "mf"
def CQ(M:ML):(Wp M).lookup ("bringings":Str)=_s (.ref M.lb):=by walk_at "mf"
def FX(M:ML):(Wp M).lookup ("happenings":Str)=_s (.ref M.lh):=by walk_at "mf"
def Di(M:ML):(Wp M).lookup ("debts":Str)=_s (.ref M.lq):=by walk_at "mf"
def Av(M:ML):(Wp M).lookup ("trials":Str)=_s (.ref M.lt):=by walk_at "mf"
def Iy(M:ML):(Wp M).lookup ("trial_days":Str)=_s (.ref M.ly):=by walk_at "mf"
def GW(M:ML):(Wp M).lookup ("verdicts":Str)=_s (.ref M.lv):=by walk_at "mf"
def IY(M:ML):(Wp M).lookup ("penances":Str)=_s (.ref M.dp):=by walk_at "mf"
def ML.oP(M:ML)(l:jP):ML:={M with lv:=l }
def Ob(M:ML)(l:jP):Zu "verdicts" (.ref l) (Wp M)=Wp (M.oP l):=by
 let(p,L,ld,b,c,d,e,g,f,a):=M;rfl
def Fz(m:Str):Prop:=¬m="penances" /\ ¬m="verdicts" /\ ¬m="trial_days" /\ ¬m="trials" /\ ¬m="debts" /\ ¬m="happenings" /\ ¬m="bringings" /\ ¬m="folk" /\ ¬m="deeds"
instance (m:Str):Decidable (Fz m):=by unfold Fz;rwa[inferInstance]
def Yk(M:ML)(h:autoParam (Fz m) y4z):(Wp M).lookup m=none:=by
 let(a,b,c,d,e,f,g,i,j):=h;unfold Wp;rw[Y8,_i a,Y8,_i b,Y8,_i c,Y8,_i d,Y8,_i e,Y8,_i f,Y8,_i g,Y8,_i i,Y8,_i j];rfl
abbrev Sz:=VI
structure ZQ (K:uFg) (C:jP):Prop where
 cl:UM K C
 nd:ZW K C "deeds"
 nf:ZW K C "folk"
 nb:ZW K C "bringings"
 nh:ZW K C "happenings"
 nq:ZW K C "debts"
 nt:ZW K C "trials"
 ny:ZW K C "trial_days"
 nv:ZW K C "verdicts"
 np:ZW K C "penances"
structure Mo where
 ip:List D
 ia:List D
 o8:List (List D)
 ik:List D
 oX:List ZV
 days:List Int
 j9:List Bool
 pen:Str->Option Int
 oH:Nat
def ML.ls(M:ML):List jP:=[M.ld,M.lb,M.lq,M.lt,M.ly,M.lv]
def Mo.at_(m:Mo)(M:ML)(qs:jM):List (jP×List D) :=
 (M.ld,m.ip)::(M.lb,m.ia)::(M.lq,m.ik)::(M.lt,m.oX.map Wo)::(M.ly,m.days.map D.int)::(M.lv,m.j9.map D.bl)::qs.zip m.o8
structure ZD (C CM:jP) (H:Hp) (M:ML) (F:List ZK) (wa:jL) (L:jM) (m:Mo) (qs:jM):Prop where
 ob:∃dx,H M.p=_s (.ins CM dx (Wp M))
 fk:Fk C H M.L F wa
 ls:∀p∈m.at_ M qs,WD H L p.1 p.2
 hl:H M.lh=_s (.lst (qs.map V.ref))
 hn:qs.9=m.o8.9
 pn:∃U:List (ZN×V),H M.dp=_s (.dK U)/\U.9<=m.oH/\∀n:Str,Zx U (.inr n)=(m.pen n).map V.int
 nl:(M.lh::(M.ls++qs)).Nodup
 nx:∀x∈L,x∉M.lh::(M.ls++qs)
 xl:∀x∈L,∃vs,H x=_s (.lst vs)
 np:M.p≠M.L.p
 nd:¬own M.L F wa M.dp
def mo(M:ML)(F:List ZK)(a:jL)(L qs:jM)(b:jP):Prop:=b=M.p\/b=M.dp\/b∈M.lh::(M.ls++qs)\/b∈L\/own M.L F a b
variable{M:ML}{qs:jM}{m:Mo}
def Ds{p:jP×List D}(h:p∈m.at_ M qs):p.1∈M.ls++qs:=by
 unfold Mo.at_ at h;simp only[xD] at h;rcases h with rfl | rfl | rfl | rfl | rfl | rfl | h
 iterate 6 (erw[yP _ ?_];unfold ML.ls;simp only[xD,true_or,or_true])
 rwa[xO _ (zE h).1]
def ZD.keep(h:ZD C CM H M F wa L m qs)(k:∀b o,mo M F wa L qs b->H b=_s o->J b=_s o)(a:YB H J):ZD C CM J M F wa L m qs:=by
 let((c,p),d,i,f,g,(U,t,u,v),l,r,w,n,j):=h;let s:=Wu (L:=L) (xs':=L) a (λx a o e=>k x o (.inr (.inr (.inr (.inl a)))) e) (λ_ z=>z);rwa[(c,k _ _ (.inl S) p),d.at λb o c e=>k b o (.inr (.inr (.inr (.inr c)))) e,λp c=>(i p c).mono (λo e=>k _ o (.inr (.inr (.inl (xM _ (Ds c))))) e) s, k _ _ (.inr (.inr (.inl xZ))) f,g,(U,k _ _ (.inr (.inl S)) t,u,v),l,r,λx a=>let ⟨c,e⟩:=w x a;(c,k _ _ (.inr (.inr (.inr (.inl a)))) e),n,j]
theorem ZD.same(h:ZD C CM H M F wa L m qs)(k:ZC H J):ZD C CM J M F wa L m qs:=h.keep (λb o _ e=>k b o e) λ_ _ e=>k _ _ e
theorem ZD.x(h:ZD C CM H M F wa L m qs)(hs:H s=_s (.lst ys))(c:¬mo M F wa L qs s)(k:ZF s H J):ZD C CM J M F wa L m qs :=
 h.keep (λb o a e=>k b o (λz=>c (z▸a)) e) λb ys e=>k b _ (λz=>by rw[z,hs] at e;ext e) e
theorem ZD.nown(h:ZD C CM H M F wa L m qs)(e:H b=_s (.lst ys)):¬own M.L F wa b:=λz=>by
 let(o,a,c,_):=h.fk.there z;rw[e] at a;ext a;rwa[c ys S]
theorem ZD.pown(h:ZD C CM H M F wa L m qs):¬own M.L F wa M.p:=λz=>by
 let(b,a):=h.ob;let((_,(i,b,_),(j,f,_),(k,c,_),(o,d,_),_),((p,r,s,g),_),_):=h.fk;rcases z with z | z | z | z | z | ⟨n,l,e,z⟩
 .rwa[h.np z]
 .rw[z,b] at a;ext a
 .rw[z,f] at a;ext a
 .rw[z,c] at a;ext a
 .rw[z,d] at a;ext a
 .rw[z,(g n l e).2.1] at a;ext a
def ZD.iu(h:ZD C CM H M F wa L m qs)(a:Fk C J M.L ds' wa')(t:WW M.L F wa H J)(f:BO M.L F wa ds' wa' H):ZD C CM J M ds' wa' L m qs:=by
 let T:=WW.lt h.fk t;let B:=h.pown;let((k,p),b,r,l,n,(U,i,y,A),u,w,j,v,g):=h;let s:=Wu (L:=L) (xs':=L) T.2 (λx d o e=>by let(c,b):=j x d;rw[e] at b;ext b;rwa[T.1 _ _ e]) (λ_ z=>z)
 exact((k,t _ _ p B),a,λp k=>by
  let(c,a,b):=r p k
  rwa[c,T.1 _ _ a,b.oA s],T.1 _ _ l,n,(U,t _ _ i g,y,A),u,w,λx d=>let ⟨c,e⟩:=j x d;(c,T.1 _ _ e),v,λz=>(f _ z).elim g λz=>by rw[i] at z;ext z)
end
section
variable{M:ML}{qs:jM}
theorem DU{l:jP}(h:l∈M.ls++qs):l∈M.lh::(M.ls++qs):=xM _ h
def ZD.lst(h:ZD C CM H M F wa L m qs)(b:l∈M.lh::(M.ls++qs)):∃ys,H l=_s (.lst ys):=by
 rcases xD.mp b with rfl | b
 .rwa[_,h.hl]
 have:∃p∈m.at_ M qs,p.1=l:=by
  rcases xK.mp b with z | z
  .unfold ML.ls at z;simp only[xD,xW,or_false] at z;unfold Mo.at_;rcases z with rfl | rfl | rfl | rfl | rfl | rfl
   .rwa[(M.ld,m.ip),by simp,rfl]
   .rwa[(M.lb,m.ia),by simp,rfl]
   .rwa[(M.lq,m.ik),by simp,rfl]
   .rwa[(M.lt,m.oX.map Wo),by simp,rfl]
   .rwa[(M.ly,m.days.map D.int),by simp,rfl]
   .rwa[(M.lv,m.j9.map D.bl),by simp,rfl]
  .let(i,c,e):=List.getElem_of_mem z;let a:i<m.o8.9:=h.hn▸c;erw[(qs[i],m.o8[i]),?_,e];have:(qs[i],m.o8[i])∈qs.zip m.o8:=xN (i:=i) (by rw[zG];rwa[xC c,xC a]);rwa[xO [(M.ld,m.ip),(M.lb,m.ia),(M.lq,m.ik),(M.lt,m.oX.map Wo),(M.ly,m.days.map D.int),(M.lv,m.j9.map D.bl)] this]
 let(p,d,S):=this;let(f,e,_):=h.ls p d;rwa[f,e]
def ZD.there(h:ZD C CM H M F wa L m qs)(a:mo M F wa L qs b):∃o,H b=_s o:=by
 rcases a with rfl | rfl | a | a | a
 .let(c,e):=h.ob;rwa[_,e]
 .let(U,e,_):=h.pn;rwa[_,e]
 .let(c,e):=h.lst a;rwa[_,e]
 .let(c,e):=h.xl b a;rwa[_,e]
 .let(o,e,_):=h.fk.there a;rwa[o,e]
def ZD.put(h:ZD C CM H M F wa L m qs)(a:l∈M.ls++qs)(n:m'.o8.9=m.o8.9)(r:m'.pen=m.pen)(t:m'.oH=m.oH)(k:∀p∈m'.at_ M qs,(p∈m.at_ M qs/\p.1≠l)\/(p.1=l/\ZI (fz L H) p.2 zs)):ZD C CM (upd H l (.lst zs)) M F wa L m' qs:=by
 let(b,e):=h.lst (DU a);let nw:=h.nown e;let b:=h;let((j,b),u,y,w,v,(U,d,G,I),g,i,J,E,A):=h;let o:YB H (upd H l (.lst zs)):=Bj e;let f:∀x∈L,x≠l:=λx c z=>i x c (z▸DU a);let s:ZC (fz L H) (fz L (upd H l (.lst zs))):=Wu o (λx c o e=>by rw[Zd (f x c)];rwa[e]) (λ_ z=>z);let B:M.lh≠l:=λz=>(yK.mp g).1 (z▸a)
 refine((j,by rw[Zd (λz=>by rw[z,e] at b;ext b)];rwa[b]),u.at λb o j a=>by rw[Zd (λz:b=l=>nw (z▸j))];rwa[a],λp a=>?_,by rw[Zd B];rwa[w],by rw[n];rwa[v],
  (U,by rw[Zd (λz=>by rw[z,e] at d;ext d)];rwa[d],by rw[t];rwa[G],by rw[r];rwa[I]),g,i,λx c=>?_,E,A)
 .rcases k p a with⟨a,b⟩ | ⟨a,b⟩
  .rwa[(y p a).mono (λo e=>by rw[Zd b];rwa[e]) s]
  .rwa[zs,by rw[a,Zi],b.oA s]
 .let(d,e):=J x c;rwa[d,by rw[Zd (f x c)];rwa[e]]
def ZD.freeze(h:ZD C CM H M F wa L m qs)(e:H a=_s (.lst vs))(n:a∉M.lh::(M.ls++qs)):ZD C CM H M F wa (a::L) m qs:=by
 let(l,b,f,d,c,o,i,k,r,j,g):=h;let s:ZC (fz L H) (fz (a::L) H):=Wu (λ_ _ e=>e) (λ_ _ _ e=>e) (λ_ z=>xM _ z);rwa[l,b,λp b=>(f p b).mono (λ_ e=>e) s,d,c,o,i,λx b=>(xD.mp b).elim (λz=>z▸n) (k x),λx b=>(xD.mp b).elim (λz=>(vs,z▸e)) (r x),j,g]
def ZD.oK(h:ZD C CM H M F wa L m qs)(e:H M.dp=_s (.dK U)) :
  ZD C CM (upd H M.dp (.dK (Z4 U (.inr n) (.int c)))) M F wa L {m with pen:=λx=>if x=n then _s c else m.pen x,oH:=m.oH+1 } qs:=by
 let d:=h;let((p,g),u,y,w,v,(a,b,f,i),A,E,r,B,k):=h;rw[e] at b;ext b;let j:∀l∈M.lh::(M.ls++qs),l≠M.dp:=λl b z=>by let(f,a):=d.lst b;rw[z,e] at a;ext a
 let o:YB H (upd H M.dp (.dK (Z4 U (.inr n) (.int c)))):=λb t f=>by rw[Zd (λz=>by rw[z,e] at f;ext f)];rwa[f]
 let i:∀x∈L,x≠M.dp:=λx d z=>by let(l,a):=r x d;rw[z,e] at a;ext a
 let s:ZC (fz L H) (fz L (upd H M.dp (.dK (Z4 U (.inr n) (.int c))))):=Wu o (λx d o e=>by rw[Zd (i x d)];rwa[e]) (λ_ z=>z)
 refine((p,by rw[Zd (λz=>by rw[z,e] at g;ext g)];rwa[g]),u.at λb o g f=>by rw[Zd (λz:b=M.dp=>k (z▸g))];rwa[f],λp b=>(y p b).mono (λo e=>by rw[Zd (j _ (DU (Ds b)))];rwa[e]) s,
  by rw[Zd (j _ xZ)];rwa[w],v,(_,Zi,xX (Vv _ _ _) (by show U.9+1<=m.oH+1;lia),λx=>?_),A,E,λx d=>?_,B,k)
 .rw[Ui];show _=(if x=n then _s c else m.pen x).map V.int
  by_cases z:x=n
  .rw[_j (by rw[z]),_j z];rfl
  .grind
 .let(l,a):=r x d;rwa[l,by rw[Zd (i x d)];rwa[a]]
def ZD.oP(h:ZD C CM H M F wa L m qs)(e:H M.p=_s (.ins CM dx (Wp M)))(g:H l=_s (.lst (bs.map V.bl)))(n:¬mo M F wa L qs l) :
  ZD C CM (upd H M.p (.ins CM dx (Wp (M.oP l)))) (M.oP l) F wa L {m with j9:=bs } qs:=by
 let f:=h;let(_,y,E,B,A,(U,j,N,O),v,K,w,J,G):=h;let u:∀l∈M.lh::(M.ls++qs),l≠M.p:=λl g z=>by let(a,c):=f.lst g;rw[z,e] at c;ext c
 let i:l≠M.p:=λz=>n (.inl z);let o:YB H (upd H M.p (.ins CM dx (Wp (M.oP l)))):=λb t d=>by rw[Zd (λz=>by rw[z,e] at d;ext d)];rwa[d]
 let k:∀x∈L,x≠M.p:=λx a z=>by let(t,c):=w x a;rw[z,e] at c;ext c
 let s:ZC (fz L H) (fz L (upd H M.p (.ins CM dx (Wp (M.oP l))))):=Wu o (λx a o e=>by rw[Zd (k x a)];rwa[e]) (λ_ z=>z);let P:=f.pown;let Q:∀(H:Hp)(bs:List Bool),ZI H (bs.map D.bl) (bs.map V.bl):=λH bs=>by
  induction bs with
  | nil=>rfl
  | cons b r f=>rwa[_,_,S,S,f]
 let I:∀x,x∈M.lh::((M.oP l).ls++qs)->x∈M.lh::(M.ls++qs)\/x=l:=λx a=>by
  simp only[ML.ls,ML.oP,xD,xK,xW,or_false] at a |-;rcases a with z | (z | z | z | z | z | z) | z<;>simp[z]
 let f:l∉M.lh::(M.ls++qs):=λz=>n (.inr (.inr (.inl z)))
 refine((dx,Zi),y.at λb o r d=>by rw[Zd (λz:b=M.p=>P (z▸r))];rwa[d],λp d=>?_,by show (upd H M.p _) M.lh=_;rw[Zd (u _ xZ)];rwa[B],A,
  (U,by show (upd H M.p _) M.dp=_;rw[Zd (λz=>by rw[z,e] at j;ext j)];rwa[j],N,O),?_,λx a z=>(I x z).elim (K x a) (λz=>n (.inr (.inr (.inr (.inl (z▸a)))))),λx a=>?_,J,G)
 .by_cases z:p=(l,bs.map D.bl)
  .subst z;rwa[_,by show (upd H M.p _) l=_;rw[Zd i];rwa[g],Q _ bs]
  .let b:p∈m.at_ M qs:=by
    simp only[Mo.at_,ML.oP,xD] at d |-;rcases d with y | y | y | y | y | y | y
    .rwa[.inl y]
    .rwa[.inr (.inl y)]
    .rwa[.inr (.inr (.inl y))]
    .rwa[.inr (.inr (.inr (.inl y)))]
    .rwa[.inr (.inr (.inr (.inr (.inl y))))]
    .rwa[_a y z]
    .grind
   rwa[(E p b).mono (λo e=>by rw[Zd (u _ (DU (Ds b)))];rwa[e]) s]
 .simp only[ML.ls,ML.oP,yK,xD,xK,yN,zP,not_or] at v f |-;let((b,d,g,i,j,R,o),(r,s,u,y,T,z),(A,B,E,U,G),(I,J,W,K),(N,X,O),(Y,P),Z,Q):=v;let(v,R,T,U,W,X,Z,Y):=f;rwa[(b,d,g,i,j,Ne.symm v,o),(r,s,u,y,Ne.symm R,z),(A,B,E,Ne.symm T,G),(I,J,Ne.symm U,K),(N,Ne.symm W,O),(Ne.symm X,P),Y,Q]
 .let(t,c):=w x a;rwa[t,by rw[Zd (k x a)];rwa[c]]
end
def ZD.rep(h:ZD C CM H M F wa L m qs)(b:(l,c)∈m.at_ M qs)(e:H l=_s (.lst vs)):ZI (fz L H) c vs:=by
 let(d,a,r):=h.ls _ b;rw[e] at a;ext a;rwa[r]
def ZD.deed(h:ZD C CM H M F wa L m qs)(e:H M.ld=_s (.lst vs))(n:YA (fz L H) d v):ZD C CM (upd H M.ld (.lst (vs ++ [v]))) M F wa L {m with ip:=m.ip ++ [d] } qs:=by
 let r:=h.rep (l:=M.ld) (c:=m.ip) (by simp[Mo.at_]) e;let a:=h.nl;simp only[ML.ls,yK,xD,xK,yN,zP,not_or] at a;let(_,(b,f,g,i,j,k),(o,p,s,t,u),(w,x,y,z),(A,B,E),(G,I),J,K):=a;erw[h.put (l:=M.ld) (by simp[ML.ls]) S S S λp a=>?_];simp only[Mo.at_,xD] at a |-;rcases a with rfl | rfl | rfl | rfl | rfl | rfl | a
 .rwa[.inr (S,r.snoc n)]
 .rwa[.inl (by simp,Ne.symm b)]
 .rwa[.inl (by simp,Ne.symm f)]
 .rwa[.inl (by simp,Ne.symm g)]
 .rwa[.inl (by simp,Ne.symm i)]
 .rwa[.inl (by simp,Ne.symm j)]
 .rwa[.inl (by simp[a],λz=>k (z▸(zE a).1))]
def ZD.debt(h:ZD C CM H M F wa L m qs)(e:H M.lq=_s (.lst vs))(n:YA (fz L H) d v):ZD C CM (upd H M.lq (.lst (vs ++ [v]))) M F wa L {m with ik:=m.ik ++ [d] } qs:=by
 let r:=h.rep (l:=M.lq) (c:=m.ik) (by simp[Mo.at_]) e;let a:=h.nl;simp only[ML.ls,yK,xD,xK,yN,zP,not_or] at a;let(_,(o,b,p,s,t,u),(f,w,x,y,z),(g,i,j,k),(A,B,E),(G,I),J,K):=a;erw[h.put (l:=M.lq) (by simp[ML.ls]) S S S λp a=>?_];simp only[Mo.at_,xD] at a |-;rcases a with rfl | rfl | rfl | rfl | rfl | rfl | a
 .rwa[.inl (by simp,b)]
 .rwa[.inl (by simp,f)]
 .rwa[.inr (S,r.snoc n)]
 .rwa[.inl (by simp,Ne.symm g)]
 .rwa[.inl (by simp,Ne.symm i)]
 .rwa[.inl (by simp,Ne.symm j)]
 .rwa[.inl (by simp[a],λz=>k (z▸(zE a).1))]
def ZD.trial(h:ZD C CM H M F wa L m qs)(e:H M.lt=_s (.lst vs))(n:YA (fz L H) (Wo d) v):ZD C CM (upd H M.lt (.lst (vs ++ [v]))) M F wa L {m with oX:=m.oX ++ [d] } qs:=by
 let r:=h.rep (l:=M.lt) (c:=m.oX.map Wo) (by simp[Mo.at_]) e;let a:=h.nl;simp only[ML.ls,yK,xD,xK,yN,zP,not_or] at a;let(_,(o,p,b,s,t,u),(w,f,x,y,z),(g,A,B,E),(i,j,k),(G,I),J,K):=a;erw[h.put (l:=M.lt) (by simp[ML.ls]) S S S λp a=>?_];simp only[Mo.at_,xD] at a |-;rcases a with rfl | rfl | rfl | rfl | rfl | rfl | a
 .rwa[.inl (by simp,b)]
 .rwa[.inl (by simp,f)]
 .rwa[.inl (by simp,g)]
 .rwa[.inr (S,by rw[xL];rwa[r.snoc n])]
 .rwa[.inl (by simp,Ne.symm i)]
 .rwa[.inl (by simp,Ne.symm j)]
 .rwa[.inl (by simp[a],λz=>k (z▸(zE a).1))]
def ZD.day(h:ZD C CM H M F wa L m qs)(e:H M.ly=_s (.lst vs))(n:YA (fz L H) (.int d) v):ZD C CM (upd H M.ly (.lst (vs ++ [v]))) M F wa L {m with days:=m.days ++ [d] } qs:=by
 let r:=h.rep (l:=M.ly) (c:=m.days.map D.int) (by simp[Mo.at_]) e;let a:=h.nl;simp only[ML.ls,yK,xD,xK,yN,zP,not_or] at a;let(_,(o,p,s,b,t,u),(w,x,f,y,z),(A,g,B,E),(i,G,I),(j,k),J,K):=a;erw[h.put (l:=M.ly) (by simp[ML.ls]) S S S λp a=>?_];simp only[Mo.at_,xD] at a |-;rcases a with rfl | rfl | rfl | rfl | rfl | rfl | a
 .rwa[.inl (by simp,b)]
 .rwa[.inl (by simp,f)]
 .rwa[.inl (by simp,g)]
 .rwa[.inl (by simp,i)]
 .rwa[.inr (S,by rw[xL];rwa[r.snoc n])]
 .rwa[.inl (by simp,Ne.symm j)]
 .rwa[.inl (by simp[a],λz=>k (z▸(zE a).1))]
def ZD.brg(h:ZD C CM H M F wa L m qs)(e:H M.lb=_s (.lst vs))(n:YA (fz L H) d v):ZD C CM (upd H M.lb (.lst (vs ++ [v]))) M F wa L {m with ia:=m.ia ++ [d] } qs:=by
 let r:=h.rep (l:=M.lb) (c:=m.ia) (by simp[Mo.at_]) e;let a:=h.nl;simp only[ML.ls,yK,xD,xK,yN,zP,not_or] at a;let(_,(b,o,p,s,t,u),(f,g,i,j,k),(w,x,y,z),(A,B,E),(G,I),J,K):=a;erw[h.put (l:=M.lb) (by simp[ML.ls]) S S S λp a=>?_];simp only[Mo.at_,xD] at a |-;rcases a with rfl | rfl | rfl | rfl | rfl | rfl | a
 .rwa[.inl (by simp,b)]
 .rwa[.inr (S,r.snoc n)]
 .rwa[.inl (by simp,Ne.symm f)]
 .rwa[.inl (by simp,Ne.symm g)]
 .rwa[.inl (by simp,Ne.symm i)]
 .rwa[.inl (by simp,Ne.symm j)]
 .rwa[.inl (by simp[a],λz=>k (z▸(zE a).1))]
def ZD.hap(h:ZD C CM H M F wa L m qs){q:jP}(f:qs[i]?=_s q)(g:m.o8[i]?=_s c)(e:H q=_s (.lst vs))(n:YA (fz L H) d v) :
  ZD C CM (upd H q (.lst (vs ++ [v]))) M F wa L {m with o8:=m.o8.set i (c ++ [d]) } qs:=by
 let b:q∈qs:=xN f;let a:(q,c)∈qs.zip m.o8:=xN (i:=i) (by rw[zG];rwa[f,g]);let r:=h.rep (l:=q) (c:=c) (by simp[Mo.at_,a]) e;let a:=h.nl;simp only[ML.ls,yK,xD,xK,yN,zP,not_or] at a;let(_,(j,k,p,s,t,u),(w,x,y,z,A),(B,E,G,I),(J,K,N),(O,P),Q,o):=a;erw[h.put (l:=q) (xO _ b) (List.length_set ..) S S λp a=>?_];simp only[Mo.at_,xD] at a |-;rcases a with rfl | rfl | rfl | rfl | rfl | rfl | a
 .grind
 .grind
 .grind
 .grind
 .grind
 .grind
 .let(j,k):=wE a;rw[zG] at k;let(a,b):=k
  by_cases z:i=j
  .subst z;rw[f] at a;injection a with a
   rw[List.getElem?_set_self (by
    rcases Nat.lt_or_ge i m.o8.9 with y | y
    .rwa[y]
    .rw[wU y] at g;ext g)] at b
   injection b with b
   rwa[.inr (a.6,by rw[<- b];rwa[r.snoc n])]
  .rw[List.getElem?_set_ne z] at b;erw[.inl (.inr (.inr (.inr (.inr (.inr (.inr (xN (i:=j) (by rw[zG];rwa[a,b]))))))),λy=>z ?_)];let b:i<qs.9:=(xH.mp f).1;rwa[(List.getElem?_inj b o).mp (by rw[f,a,y])]
def ZD.newq(h:ZD C CM H M F wa L m qs){q:jP}(r:H q=_s (.lst []))(n:¬mo M F wa L qs q) :
  ZD C CM (upd H M.lh (.lst ((qs ++ [q]).map V.ref))) M F wa L {m with o8:=m.o8 ++ [[]] } (qs ++ [q]):=by
 let a:=h;let nw:=h.nown h.hl;let((c,b),l,t,d,i,(U,g,y,A),f,k,B,w,u):=h;let e:YB H (upd H M.lh (.lst ((qs ++ [q]).map V.ref))):=Bj d;let j:∀x∈L,x≠M.lh:=λx a z=>k x a (z▸xZ);let s:ZC (fz L H) (fz L (upd H M.lh (.lst ((qs ++ [q]).map V.ref)))):=Wu e (λx a o e=>by rw[Zd (j x a)];rwa[e]) (λ_ z=>z);let v:M.lh∉M.ls++qs:=(yK.mp f).1;let p:q∉M.lh::(M.ls++qs):=λz=>n (.inr (.inr (.inl z)));let f:q≠M.lh:=λz=>p (z▸xZ)
 refine((c,by rw[Zd (λz=>by rw[z,d] at b;ext b)];rwa[b]),l.at λb o l c=>by rw[Zd (λz:b=M.lh=>nw (z▸l))];rwa[c],λp c=>?_,Zi,by rw[xG,i];show _=(m.o8 ++ [[]]).9;rw[xG];rfl,
  (U,by rw[Zd (λz=>by rw[z,d] at g;ext g)];rwa[g],y,A),?_,λx a z=>?_,λx a=>?_,w,u)
 .by_cases z:p=(q,[])
  .subst z;rwa[[],by show (upd H M.lh _) q=_;rw[Zd f];rwa[r],rfl]
  .let b:p∈m.at_ M qs:=by
    simp only[Mo.at_,xD] at c |-;rw[List.zip_append i] at c;rcases c with y | y | y | y | y | y | y
    .rwa[.inl y]
    .rwa[.inr (.inl y)]
    .rwa[.inr (.inr (.inl y))]
    .rwa[.inr (.inr (.inr (.inl y)))]
    .rwa[.inr (.inr (.inr (.inr (.inl y))))]
    .grind
    .rcases xK.mp y with y | y
     .grind
     .rwa[_a (xV.mp y) z]
   rwa[(t p b).mono (λo e=>by rw[Zd (λz:p.1=M.lh=>v (z▸Ds b))];rwa[e]) s]
 .grind
 .rw[<- yX,<- yN] at z;rcases xK.mp z with z | z
  .rwa[k x a z]
  .rwa[n (.inr (.inr (.inr (.inl (xV.mp z▸a)))))]
 .let(c,b):=B x a;rwa[c,by rw[Zd (j x a)];rwa[b]]
section
variable{C CM:jP}{c:jL}
abbrev inB(i:Int)(n:Nat):Prop:=0<=i/\i<n
def JN(m:Mo)(i:Int):Option Str:=if inB i m.ia.9 then _n else _s "NoThing"
inductive UD(C CM:jP)(c:jL)(vs:aG)(H:Hp)(Q:VK)(E:XK):Prop
 |mk(M) (F) (wa) (L) (m) (qs) (i)(_:vs=[.ref M.p,.int i])(_:ZD C CM H M F wa L m qs)(_:okI i)(_:due E c H (Q .non H) (JN m i))
abbrev Lc:Stmt:=Yr (top 64) 41
def bS(a:ZU K CM "check_thing" "Moot.check_thing" Lc)(T:Txt mg)(Tm:ZQ K CM)(b:Er K mg c errs):ZX P w K mg Z CM "check_thing" 1 (UD C CM c):=by
 erw[a.mx ["self","thing"] ["self","thing"] λH e Q E a h=>?_];let(M,F,f,L,m,a,i,S,W,d,k):=h;erw[rfl,_,(Zf (Zs (Ur (B0 Wr J5 Ze Q1 (Z1 Yu T.len Ym (Za (Z3 Q0) Zb)))) (Zf (Wc Y2 b (Wg (Yt (Y3 Q1 Wf))))) Zr)),?_];let(f,g):=W.ob;let(e,a,_,b):=(W.ls (M.lb,m.ia) (by simp[Mo.at_])).get;dsimp only at a b;unfold JN at k;rw[<- b] at k;erw[_,S,_,_,S,S,_,S,Zy (λb=>?_) (λz=>?_)]
 .erw[_,S,M.p,CM,f,_,_,S,g,Tm.cl,Tm.nb,CQ _,M.lb,e,S,.inl (ZG.of a),_,_,S,S,_,S,Vi (λz=>?_) (λa=>?_)]
  .rw[_i (λy=>z y.2)] at k;rwa[aA,_,S,.inr (i,S,Wy d),λ_=>k]
  .rw[_j (b,a)] at k;rwa[k]
 .rw[_i (λy=>z y.1)] at k;rwa[_x,S,Z6 (aA,_,S,.inr (i,S,Wy d),λ_=>k)]
inductive Td(c:jL)(vs:aG)(H:Hp)(Q:VK)(E:XK):Prop
 |mk(l) (us) (i)(_:vs=[.ref l,.int i])(_:H l=_s (.lst us))(_:okI i)(_:due E c H (Q .non H) (if inB i us.9 then _n else _s "NoCase"))
abbrev KS:Stmt:=top 55
def dD(a:YC K mg "check_case" KS)(T:Txt mg)(b:Er K mg c errs):WA P w K mg Z "check_case" 1 (Td c):=by
 erw[a.fx ["suits","case"] ["suits","case"] λH d Q E a h=>?_];let(l,e,i,S,d,a,k):=h;erw[rfl,_,(Zf (Zs (Ur (B0 Wr J5 Ze Q1 (Z1 Yu T.len Ym (Za Q0 Zb)))) (Zf (Wc Y2 b (Wg (Yt (Y3 Q1 Wf))))) Zr)),?_];erw[_,S,_,_,S,S,_,S,Zy (λb=>?_) (λz=>?_)]
 .erw[_,S,l,e,S,.inl (ZG.of d),_,_,S,S,_,S,Vi (λz=>?_) (λd=>?_)]
  .rw[_i (λy=>z y.2)] at k;rwa[aA,_,S,.inr (i,S,Wy a),λ_=>k]
  .rw[_j (b,d)] at k;rwa[k]
 .rw[_i (λy=>z y.1)] at k;rwa[_x,S,Z6 (aA,_,S,.inr (i,S,Wy a),λ_=>k)]
def Wd(m:Mo):Option Str:=if m.ip.9<400 then _n else _s "TooMany"
inductive YS(C CM:jP)(c:jL)(vs:aG)(H:Hp)(Q:VK)(E:XK):Prop
 |mk(M) (F) (wa) (L) (m) (qs)(_:vs=[.ref M.p])(_:ZD C CM H M F wa L m qs)(_:due E c H (Q .non H) (Wd m))
abbrev Ml:Stmt:=Yr (top 64) 43
def Qb(d:ZU K CM "check_moments" "Moot.check_moments" Ml)(T:Txt mg)(Tm:ZQ K CM)(f:Er K mg c errs)(b:∃t,mg "MOST_MOMENTS"=_s (.int 400 t)):ZX P w K mg Z CM "check_moments" 1 (YS C CM c):=by
 let(e,a):=b;let b:ZH (.int 400) (.int 400 e):=(e,S);erw[d.mx lX lX λH d Q E e h=>?_];let(M,F,g,L,m,e,S,W,k):=h;erw[rfl,_,(Zf (Zs (Zn AE (Z1 Yu T.len Ym (Za (Z3 Q0) Zb)) (Wh a b) (Zo _)) (Zf (Wc Y2 f (Wg (Yt (Y3 (Wh a b) (Yt Wf)))))) Zr)),?_];let(e,f):=W.ob;let(d,a,_,b):=(W.ls (M.ld,m.ip) (by simp[Mo.at_])).get;dsimp only at a b;unfold Wd at k;erw[_,S,M.p,CM,e,_,_,S,f,Tm.cl,Tm.nd,TR _,M.ld,d,S,.inl (ZG.of a),_,_,S,S,_,S,Zy (λz=>?_) (λz=>?_)]
 .rw[_i ()] at k;rwa[aA,.inr (400,S,aA),aA,λ_=>k]
 .rw[_j ()] at k;rwa[k]
end
section
variable{c:jL}
def V3(a:List ZV)(i:Int)(n:Str):Option Str:=match a[i.toNat]? with
 | some t=>if inB i a.9 then (if n∈(t.ones++t.others).map (·.1) then _n else _s "NoOath") else _s "NoCase"
 | none=>_s "NoCase"
inductive VX(c:jL)(vs:aG)(H:Hp)(Q:VK)(E:XK):Prop
 |mk(l) (ss) (i) (n)(_:vs=[.ref l,.int i,.str n])(_:ZT H ss l)(_:(∀t∈ss,Uu t))(_:okI i)(_:n.9<=100)(_:∀J,ZC H J->due E c J (Q .non J) (V3 ss i n))
abbrev Kw:Stmt:=top 56
def RG(f:YC K mg "check_oath" Kw)(T:Txt mg)(a:∃t,mg "ONES"=_s (.int 0 t))(e:∃t,mg "OTHERS"=_s (.int 1 t))(m:Er K mg c errs)(g:WA P w K mg Z "check_case" 1 (Td c)) :
  WA P w K mg Z "check_oath" 2 (VX c):=by
 let(b,d):=a;let(h,a):=e;let e:ZH (.int 0) (.int 0 b):=(b,S);let b:ZH (.int 1) (.int 1 h):=(h,S);erw[f.fx lQ lQ λH i Q E f h=>?_];let(l,f,i,n,S,j,x,C,p,k):=h
 refine(S,_,(Zc (Zl (Wm Z5 g (Za Q0 (Za Q1 Zb)))) (Zf (Zs (Zn HA Q2 (Vg (locs:=["swearer","weight"]) (fr:=[]) (S,aA,aA,aA,aA,aA) .nil S (Ys (Z0 JG (Zh Zq (Zh Yg Q0 Q1) (Wh d e)) (Zh Zq (Zh Yg Q0 Q1) (Wh a b)))) ⟨λ_ _ _ _ _ _=>by
  let a:(inN ["swearer","weight"] []).Nodup:=aA
  rwa[(AW 2 (by rfl) (Ye (Y6 0 a) (Ye (Y6 1 a) Vf))),Jz,(Yj 0)]⟩) S) (Zf (Wc Y2 m (Wg (Y3 Q2 (Yt (Y3 Q1 Wf)))))) Zr))),?_)
 let a:=aC
 let(r,v,a):=id j;let h:r.9=f.9:=by have:=a.9;rw[xA] at this;rwa[this]
 erw[_,S,_,S,l,r,i,S,v,C,?_]
 by_cases b:inB i f.9
 .unfold V3 at k;rw[_j (by rw[h];rwa[b])];let(j,S):=yL b.1;let d:j<f.9:=by have:=b.2;lia
  let m:f[j]?=_s f[j]:=xC d;generalize f[j]=t at m;rw[yI,m] at k;dsimp only at k;rw[_j b] at k;let(p,G,I,J,E,g,(A,y,S,s,d),(B,z,S,u,e),F):=ZT.get (l:=l) a m;let(F,a,_,_):=x t (xN m);let m:=d.len;let m:=e.len;let m:=F.2;let m:=a.2;erw[_,S,_,S,_,S,l,r,j,.ref p,S,S,ZG.of v,Yy E,p,_,0,.ref A,S,S,ZR.of g,S,?_];erw[_,S,_,S,l,r,j,.ref p,S,S,ZG.of v,Yy E,p,_,1,.ref B,S,S,ZR.of g,S,?_];erw[A,B,y,z,S,S,s,u,(),λq a=>?_];erw[nw (o:=.lst (y++z)) a λl g j=>?_];let a:ZS l (t.ones++t.others) (y++z):=ZS.mono (ZC.t g) (ZS.app e d);erw[q,S,(_,ZG.of j),?_];erw[IA j a (by rw[xG];lia) λd a=>?_];erw[d,_,S,.inl (ZG.of Zi),S,Lh _,_,S,?_];rw[Ku];erw[Vi (λz=>?_) (λz=>?_)]
  .rw[_i z] at k;rwa[_,S,.inl (n,S,()),aA,_,S,.inr (_,S,Wy C),λ_=>k _ (g.trans (ZC.new a))]
  .rw[_j z] at k;rwa[k _ (g.trans (ZC.new a))]
 .rw[_i (by rw[h];rwa[b])];let e:V3 f i n=_s "NoCase" := by
   unfold V3;cases f[i.toNat]? with
   | none=>rfl
   | some t=>rwa[_i b]
  let k:=k H (ZC.refl H);rw[e] at k;rwa[k]
inductive VA(vs:aG)(H:Hp)(Q:VK)(a:XK):Prop
 |mk(l:jP) (a:List ZV) (i:Nat) (n:Str)(_:vs=[.ref l,.int i,.str n])(_:ZT H a l)(_:(∀t∈a,Uu t))(_:a.9<=1000)(_:n.9<=100)(_:V3 a i n=_n)(_:∀(b:jP)(J:Hp),H b=_n->J b=_s (.lst (Vk (Ez a i n)))->ZC H J->Q (.ref b) J)
abbrev Hr:Stmt:=top 51
def Rb(d:YC K mg "breakers" Hr)(T:Txt mg)(e:WA P w K mg Z "check_oath" 2 (VX c))(b:Fn P w K mg Z "breaking" i8 5 VL) :
  Fn P w K mg Z "breakers" lQ 6 VA:=by
 erw[d.fq lQ λH d Q E r h=>?_];let(l,m,i,n,rfl,g,f,d,p,j,k):=h;erw[rfl,_,(Zc (Zl (Wm Xq.never e (Za Q0 (Za Q1 (Za Q2 Zb))))) (Zf (Zv (E1 r (Zk b (Za Q0 Zb)) (Z7 (Za Q1 (Za Q2 Zb))) (Yn Zb))))),?_];let b:i<m.9:=by
  unfold V3 at j;cases e:m[(i:Int).toNat]? with
  | none=>rw[e] at j;ext j
  | some t=>rw[yI] at e;rwa[(xH.mp e).1]
 erw[_,rfl,_,rfl,_,rfl,l,m,i,n,rfl,g,f,by unfold okI;lia,p,λh b=>?_];rw[j];erw[_,rfl,l,m,rfl,g.mono b,f,d,λg d r ⟨U,h,m,p,j⟩ l f=>(g,rfl,.inr (U,.inl h),?_)];erw[_,rfl,_,rfl,aB rfl,λq d=>?_];erw[nw (o:=.tup [.int i,.str n]) d λd p t=>?_];erw[aB rfl,λe r=>?_];erw[nw (o:=.lst []) r λm g s=>?_];let d:=p.trans g;let S:=(b.trans f).trans d;erw[_,YD.t (d _ _ h) (k:=Yo i n) (g _ _ t),?_];rcases j i n with⟨g,j⟩ | ⟨a,g,j⟩
 .rw[g];erw[k e m (((b.trans f).trans p).free r) ?_ S];unfold Ez;rw[j];rwa[s]
 .rw[g];rwa[k a m (b.free (l U i n a h g)) (d _ _ j) S]
end
section
variable{C CM:jP}{c:jL}
theorem Eo{t u:TS}{D:_}{Y:St}{H:Hp}(a:Hp->Prop)(h:(∀J,a J->u D Y J)->Ug t u D Y H)(k:∀J,a J->u D Y J):Ug t u D Y H:=h k
theorem C8:∀{b:jJ}{i:Nat}{n x:Str},b[i]?=_s n->(∀j<i,∀y,b[j]?=_s y->f y=_n)->f n=_s x->b.findSome? f=_s x
 | [],i,n,x,h,_,_=>by ext h
 | p::b,0,n,x,h,_,e=>by ext h;rw[List.findSome?_cons,e]
 | p::b,i+1,n,x,h,a,e=>by rw[List.findSome?_cons,a 0 () p S];rwa[C8 (i:=i) h (λj d y b=>a (j+1) () y b) e]
def Eu{f:Str->Option Str}{b:jJ}(a:∀j<b.9,∀y,b[j]?=_s y->f y=_n):b.findSome? f=none:=by
 rw[List.findSome?_eq_none_iff];intro x d;let(j,b,e):=List.getElem_of_mem d;rwa[a j b x (by rw[xC b,e])]
theorem DW{f:Str->Option Str}{b:jJ}{i:Nat}{n:Str}(h:b[i]?=_s n)(a:∀j<i,∀y,b[j]?=_s y->f y=_n)(e:f n=_n):∀j<i+1,∀y,b[j]?=_s y->f y=none:=λj b y d=>by grind
structure WY (m:Mo):Prop where
 ok:∀t∈m.oX,Uu t
 dl:m.days.9=m.oX.9
 br:∀(i:Nat)(e:D),m.ia[i]?=_s e->∃(x:Str)(d:Int),e=.tup [.str x,.int d]
 le:m.oX.9<=60
 vl:m.j9.9=m.oX.9
 hb:m.o8.9=m.ia.9
 hl:∀q∈m.o8,q.9<=m.ip.9
 ql:m.ik.9<=m.ip.9
def brD(m:Mo)(i:Int):Int:=match m.ia[i.toNat]? with
 | some (.tup [_,.int d])=>d
 | _=>0
def Vs(F:List ZK)(m:Mo)(day:Int)(a:jJ)(d:Option Int)(b:Option (Int×Str)):Option Str :=
 (a.findSome? (Vp F)).or ((d.bind (JN m)).or ((b.bind λp=>V3 m.oX p.1 p.2).or ((a.findSome? λn=>Wz ((Zp F n).getD 0) day).or ((d.bind λi=>Wz (brD m i) day).or
  ((b.bind λp=>Wz (m.days.getD p.1.toNat 0) day).or (a.findSome? λn=>A9 F n day))))))
def thV:Option Int->V
 | none=>.non
 | some i=>.int i
def oaV(H:Hp):Option (Int×Str)->V->Prop
 | none,v=>v=.non
 | some (i,n),v=>okI i/\n.9<=100/\∃a,v=.ref a/\H a=_s (.tup [.int i,.str n])
inductive YQ(C CM:jP)(c:jL)(vs:aG)(H:Hp)(Q:VK)(E:XK):Prop
 |mk(M) (F) (wa) (L) (m) (qs) (day) (pl) (ps) (th) (oa) (v2)(_:vs=[.ref M.p,.int day,.ref pl,thV th,v2])(_:ZD C CM H M F wa L m qs)(_:WY m)(_:H pl=_s (.lst (ps.map V.str)))(_:(∀n∈ps,n.9<=100))(_:okI day)(_:(∀i,th=_s i->okI i))(_:oaV H oa v2)(_:∀J,ZC H J->due E c J (Q .non J) (Vs F m day ps th oa))
abbrev LV:Stmt:=Yr (top 64) 40
def dY(b:ZU K CM "check_named" "Moot.check_named" LV)(i:VI K C)(Tm:ZQ K CM)(n:Er K mg c errs)(e:ZX P w K mg Z C "check_known" 1 (YO C c))(f:ZX P w K mg Z C "check_there" 1 (YZ C c))(d:ZX P w K mg Z C "check_living" 2 (WS C c))(a:ZX P w K mg Z CM "check_thing" 1 (UD C CM c))(j:WA P w K mg Z "check_oath" 2 (VX c)):ZX P w K mg Z CM "check_named" 3 (YQ C CM c):=by
 erw[b.mx ["self","day","people","thing","oath","name"] ["self","day","people","thing","oath"] λH R Q E b h=>?_];let(M,F,E,L,m,p,b,Q,B,O,oa,v2,S,W,ok,l,o,hd,a0,G,k):=h
 refine(S,_,(Zc (El Dj Y2 (by rfl) (Ys Q2) (Z8 5)
 (λg h=>(Zf (Zl (Yh g (Z3 Q0) i.cl e (Za Q5 Zb))))))
 (Zc (Zs (Zn Az Q3 Wa (Zo _)) (Zf (Zl (Yh Z5 Q0 Tm.cl a (Za Q3 Zb)))) Zr)
 (Zc (Zs (Zn Az Q4 Wa (Zo _)) (Zf (Zl (Wm Z5 j (Za (Z3 Q0) (Za (Zh Zq Q4 Ze) (Za (Zh Zq Q4 Ze) Zb)))))) Zr)
 (Zc (El Dj Y2 (by rfl) (Ys Q2) (Z8 5)
 (λg h=>(Zf (Zl (Yh g (Z3 Q0) i.cl f (Za Q5 (Za Q1 Zb)))))))
 (Zc (Zs (QW.pt (Vo (Zn Az Q3 Wa (Zo _)) (V9 (Zn J5 Q1 (Zh Zq (Zh Yg (Z3 Q0) Q3) Ze) (Zo _))))) (Zf (Wc Y2 n (Wg (Yt (Y3 Q3 (Yt (Y3 Q1 Wf))))))) Zr)
 (Zc (Zs (QW.pt (Vo (Zn Az Q4 Wa (Zo _)) (V9 (Zn J5 Q1 (Zh Yg (Z3 Q0) (Zh Zq Q4 Ze)) (Zo _))))) (Zf (Wc Y2 n (Wg (Yt (Y3 Q1 Wf))))) Zr)
 (Zf (El Dj Y2 (by rfl) (Ys Q2) (Z8 5)
 (λg h=>(Zf (Zl (Yh g (Z3 Q0) i.cl d (Za Q5 (Za Q1 Zb)))))))))))))),?_)
 let(N,g):=W.ob;let d:=W.fk.f;let(dx,ob):=d.ob;let r:∀{i:Nat}{v:V},(B.map V.str)[i]?=_s v->∃n,v=.str n/\B[i]?=_s n/\n.9<=100:=λ{i v} I=>by
  rw[xF] at I;let(a,e,f):=xS.mp I;rwa[a,f.6,e,o a (xN e)]
 let u:(B.map V.str).9=B.9:=xA ..;unfold Vs at k;erw[_,S,Q,S,(_,ZG.of l),?_];erw[Ws (B.map V.str) (λi Y J=>∃h:Option V,Y=[_s (.ref M.p),_s (.int b),_s (.ref Q),_s (thV O),_s v2,h]/\H=J/\∀j<i,∀y,B[j]?=_s y->Vp F y=_n) (_n,S,S,λj t=>_a t ()) (λi Y J _ ⟨_,_,e,_⟩=>by rw[<- e];rwa[ZG.of l]) ?_ ?_]
 .rintro i v Y J I ⟨h,rfl,rfl,f⟩;let(n,S,o,hl):=r I;erw[_,S,M.p,CM,N,_,_,S,g,Tm.cl,Tm.nf,Vx _,M.L.p,dx,_,S,ob,Y4 _ _ _ _ aA,_,S,M.L,F,n,S,d,λ_=>hl,?_];cases e:Vp F n with
  | none=>rwa[_,S,S,DW o f e]
  | some x =>
   rw[C8 o f e] at k;rwa[k H (ZC.refl H)]
 rintro Y J ⟨h,rfl,rfl,f⟩;rw[u] at f;rw[Eu f,zI] at k;let z:∀i n,B[i]?=_s n->∃d,Zp F n=_s d:=λi n hi=>by
  have:=f i (xH.mp hi).1 n hi;unfold Vp at this;cases e:Zp F n with
  | none=>rw[_j e] at this;ext this
  | some d=>rwa[d,rfl]
 try dsimp only
 erw[Eo (λJ=>ZC H J/\O.bind (JN m)=_n) (λA=>?_) (λX ⟨s,U⟩=>?_)]
 .cases O with
  | none=>rwa[_,S,S,_,S,Zz (A H (ZC.refl H,S))]
  | some i =>
   erw[_,S,S,_,S,Z6 (_,S,M.p,N,_,S,g,Yk _ aA,_,S,M,F,E,L,m,p,i,S,W,a0 i S,?_)];rw[zC] at k;cases e:JN m i with
   | none=>rwa[A H (ZC.refl H,e)]
   | some x=>rw[e] at k;rwa[k H (ZC.refl H)]
 rw[U,zI] at k;let L:=W.same s
 try dsimp only
 erw[Eo (λJ=>ZC H J/\(oa.bind λp=>V3 m.oX p.1 p.2)=_n) (λA=>?_) (λT ⟨E,e2⟩=>?_)]
 .cases oa with
  | none =>
   obtain rfl:=G;rwa[_,S,S,_,S,Zz (A X (s,S))]
  | some p =>
   let(hi,o,a,S,f):=G;let(ts,X,t2,_):=(L.ls (M.lt,m.oX.map Wo) (by simp[Mo.at_])).get;erw[_,S,S,_,S,Z6 (_,S,M.p,CM,N,_,_,S,s _ _ g,Tm.cl,Tm.nt,Av _,_,S,a,_,0,_,S,S,ZR.of (s _ _ f),S,_,S,a,_,1,_,S,S,ZR.of (s _ _ f),S,?_)];erw[M.lt,m.oX,p.1,p.2,S,(ts,X,t2),ok.ok,hi,o,λJ L=>?_];rw[zC] at k;cases e:V3 m.oX p.1 p.2 with
   | none=>rwa[A J (s.trans L,e)]
   | some x=>rw[e] at k;rwa[k J (s.trans L)]
 rw[e2,zI] at k;let s:=W.same E;let X:=s.fk.f;erw[_,S,Q,S,(_,ZG.of (E _ _ l)),?_];erw[Ws (B.map V.str) (λi Y J=>∃h:Option V,Y=[_s (.ref M.p),_s (.int b),_s (.ref Q),_s (thV O),_s v2,h]/\T=J/\∀j<i,∀y,B[j]?=_s y->Wz ((Zp F y).getD 0) b=_n) (h,S,S,λj t=>_a t ()) (λi Y J _ ⟨_,_,e,_⟩=>by rw[<- e];rwa[ZG.of (E _ _ l)]) ?_ ?_]
 .rintro i v Y J I ⟨h,rfl,rfl,f⟩;let(n,S,o,hl):=r I;let(d,L):=z i n o;erw[_,S,M.p,CM,N,_,_,S,E _ _ g,Tm.cl,Tm.nf,Vx _,M.L.p,dx,_,S,E _ _ ob,Y4 _ _ _ _ aA,_,S,_,S,M.L,F,n,d,b,S,X,L,λ_=>(hl,hd),?_];let z:Wz ((Zp F n).getD 0) b=Wz d b:=by rw[L];rfl
  cases e:Wz d b with
  | none=>rwa[_,S,S,DW o f (z.trans e)]
  | some x =>
   rw[C8 o f (z.trans e)] at k;rwa[k T E]
 rintro Y J ⟨h,rfl,rfl,z⟩;rw[u] at z;rw[Eu z,zI] at k
 try dsimp only
 erw[Eo (λJ=>ZC H J/\(O.bind λi=>Wz (brD m i) b)=_n) (λA=>?_) (λH3 ⟨L,e3⟩=>?_)]
 .cases O with
  | none=>rwa[_,S,S,_,S,Zz (Zz (A T (E,S)))]
  | some i =>
   let(R,b1,b2,z):=(s.ls (M.lb,m.ia) (by simp[Mo.at_])).get;dsimp only at b1 b2 z;let s:inB i m.ia.9:=by
    rw[zC] at U;unfold JN at U
    by_cases z:inB i m.ia.9
    .rwa[z]
    .rw[_i z] at U;ext U
   let(j,S):=yL s.1;let t:j<R.9:=by have:=s.2;lia
   let(e,X,re):=b2.get (xC t);let(x,d,S):=ok.br j e X;let(a,U,ea,f,(_,_,S,S,(_,_,S,S,S))):=re;let U:brD m (j:Int)=d:=by unfold brD;rw[yI,X]
   rw[zC,U] at k;erw[_,S,S,_,S,Z6 (_,S,_,S,M.p,CM,N,_,_,S,E _ _ g,Tm.cl,Tm.nb,CQ _,_,S,M.lb,R,j,_,S,S,ZG.of b1,Yy (xC t),a,_,1,_,ea,S,ZR.of f,S,_,_,S,S,_,S,Zy (λz=>?_) (λz=>?_))]
   .let e:Wz d b=_s "NotYet" := _j z;rw[e] at k;rwa[aA,_,S,.inr (_,S,Wy (a0 _ S)),aA,_,S,.inr (_,S,Wy hd),λ_=>k T E]
   .rwa[A T (E,by rw[zC,U];rwa[_i z])]
 rw[e3,zI] at k;let U:=W.same L
 try dsimp only
 erw[Eo (λJ=>ZC H J/\(oa.bind λp=>Wz (m.days.getD p.1.toNat 0) b)=_n) (λA=>?_) (λH ⟨E,e4⟩=>?_)]
 .cases oa with
  | none =>
   obtain rfl:=G;rwa[_,S,S,_,S,Zz (Zz (A H3 (L,S)))]
  | some p =>
   let(i,n):=p;let(hi,o,a,S,f):=G;let(R,G,p,T):=(U.ls (M.ly,m.days.map D.int) (by simp[Mo.at_])).get;dsimp only at G p T;rw[xA] at T;let s:inB i m.oX.9:=by
    rw[zC] at e2;unfold V3 at e2
    by_cases z:inB i m.oX.9
    .rwa[z]
    .grind
   let(j,S):=yL s.1;let t:j<R.9:=by have:=s.2;have:=ok.dl;lia
   let(e,X,re):=p.get (xC t);rw[xF] at X;let(d,s,S):=xS.mp X;let re:R[j]= .int d:=re;let p:m.days.getD (j:Int).toNat 0=d:=by rw[yI,xT,s];rfl
   rw[zC] at k;dsimp only at k;rw[p] at k;erw[_,S,S,_,S,Z6 (_,S,_,S,M.p,CM,N,_,_,S,L _ _ g,Tm.cl,Tm.ny,Iy _,_,S,a,_,0,_,S,S,ZR.of (L _ _ f),S,M.ly,R,j,.int d,S,S,ZG.of G,re▸Yy (xC t),_,_,S,S,_,S,Zy (λz=>?_) (λz=>?_))]
   .let e:Wz d b=_s "NotYet" := _j z;rw[e] at k;rwa[aA,_,S,.inr (_,S,Wy hd),λ_=>k H3 L]
   .rwa[A H3 (L,by rw[zC];dsimp only;rw[p];rwa[_i z])]
 rw[e4,zI] at k;let d:=W.same E;let a:=d.fk.f;erw[_,S,Q,S,(_,ZG.of (E _ _ l)),?_];erw[Ws (B.map V.str) (λi Y J=>∃h:Option V,Y=[_s (.ref M.p),_s (.int b),_s (.ref Q),_s (thV O),_s v2,h]/\H=J/\∀j<i,∀y,B[j]?=_s y->A9 F y b=_n) (h,S,S,λj t=>_a t ()) (λi Y J _ ⟨_,_,e,_⟩=>by rw[<- e];rwa[ZG.of (E _ _ l)]) ?_ ?_]
 .rintro i v Y J I ⟨h,rfl,rfl,f⟩;let(n,S,o,hl):=r I;erw[_,S,M.p,CM,N,_,_,S,E _ _ g,Tm.cl,Tm.nf,Vx _,M.L.p,dx,_,S,E _ _ ob,Y4 _ _ _ _ aA,_,S,_,S,M.L,F,n,b,S,a,hl,hd,?_];cases e:A9 F n b with
  | none=>rwa[_,S,S,DW o f e]
  | some x =>
   rw[C8 o f e] at k;rwa[k H E]
 rintro Y J ⟨h,rfl,rfl,a⟩;rw[u] at a;rw[Eu a] at k;rwa[k _ E]
end
section
variable{C CM:jP}
def wOk(F:List ZK)(day:Int)(f:Str->Int)(n:Str):Prop:=∃d,Zp F n=_s d/\d<=day/\AN (kw F n) day (f n)
inductive WK(C CM:jP)(vs:aG)(H:Hp)(Q:VK)(a:XK):Prop
 |mk(M:ML) (F:List ZK) (e:jL) (L:jM) (m:Mo) (d:jM) (c:jP) (b:jJ) (a:Int) (f:Str->Int)(_:vs=[.ref M.p,.ref c,.int a])(_:ZD C CM H M F e L m d)(_:F.9<=1000)(_:H c=_s (.lst (b.map V.str)))(_:b.9<=60)(_:0<=a)(_:a<=9999)(_:(∀n∈b,wOk F a f n))(_:∀(l:jP)(a:aG)(J:Hp),H l=_n->ZC H J->J l=_s (.lst a)->ZS J (b.map λn=>(n,f n)) a->Q (.ref l) J)
abbrev DH:Stmt:=Yr (top 64) 38
theorem bN:Nm (Zm DH) "day" .cell:=aA
theorem NF:Nm (Zm DH) "self" .cell:=aA
def fP(b:ZU K CM "weighed" "Moot.weighed" DH)(e:VI K C)(Tm:ZQ K CM)(a:Mt P w K mg Z C "weight" lj 2 (UX C)):Mt P w K mg Z CM "weighed" lZ 3 (WK C CM):=by
 erw[b.mq lZ λH c Q E b h=>?_];let(M,F,z,L,m,l,i,d,g,f,rfl,W,j,b,c,o,s,v,k):=h
 refine(rfl,_,(Zf (Zv (Vg (locs:=["name"]) (fr:=[("self", 0),("day", 2)]) (rfl,aA,aA,aA,aA,aA) (.ij NF (.ij bN .nil)) rfl (Ys Q1) ⟨λ_ _ _ _ _ _=>by
  let c:(inN ["name"] [("self", 0),("day", 2)]).Nodup:=aA
  rwa[(Y6 0 c),Jz,(Z7 (Za (Yj 0) (Za (Ve (Hk (Wx 1)) e.cl a (Za (Yj 0) (Za (Wx 2) Zb))) Zb)))]⟩))),?_)
 let a:(60:Nat)<=sizeLine:=by decide
 let(h,c):=W.ob;let(l,y):=W.fk.f.ob;erw[_,rfl,i,rfl,(_,ZG.of b),?_];erw[Uy (L:=d.map V.str) (λi a J=>ZC H J/\ZS J ((d.take i).map λn=>(n,f n)) a) (ZC.refl H,rfl) (by rw[xA];lia) (λi a J _ ⟨e,_⟩=>ZG.of (e _ _ b)) ?_ ?_ ?_]
 .rintro i a J ⟨_,r⟩;rw[r.len,xA,xY];lia
 .rintro i x a J d ⟨S,r⟩ e b;let(u,rfl):=Uz b;rw[xF] at d;let(n,e,rfl):=xS.mp d;let(d,i,m,t):=v n (xN e);let b:=W.same S;erw[([_],rfl,rfl),Z6 ?_];erw[_,rfl,_,rfl,M.p,CM,h,_,_,rfl,S _ _ c,Tm.cl,Tm.nf,Vx _,M.L.p,l,_,rfl,S _ _ y,Y4 _ _ _ _ aA,_,rfl,_,rfl,M.L,F,z,n,g,d,f n,rfl,b.fk.f,b.fk.w,j,o,s,i,m,t,λc b=>?_];erw[aB rfl,λq c=>((S.trans b).trans (ZC.new c),?_)];rw[xQ,e,xL];rwa[ZS.snoc (p:=(n,f n)) Zi (ZS.mono (ZC.t (b.trans (ZC.new c))) r)]
 .rintro a J ⟨S,r⟩ l b;rw[xA,xR] at r;rwa[k l a _ (S.free b) (S.trans (ZC.new b)) Zi (ZS.mono (ZC.t (ZC.new b)) r)]
def B9(m:Mo)(n:Str)(i:Nat):Bool:=match (m.oX[i]?).bind (·.named) with
 | some p=>decide (p.2=n)&&m.j9.getD i _x&&decide ((m.pen n).getD 0<=(i:Int))
 | none=>_x
def BQ(m:Mo)(k:Nat)(n:Str):Bool:=(List.range k).any (B9 m n)
def Cc(m:Mo)(n:Str):Bool:=BQ m m.oX.length n
def Il(m:Mo)(k:Nat)(n:Str):BQ m (k+1) n=(BQ m k n || B9 m n k):=by
 unfold BQ;rw[List.range_succ,List.any_append];simp
inductive UU(C CM:jP)(vs:aG)(H:Hp)(Q:VK)(a:XK):Prop
 |mk(M) (F) (wa) (L) (m) (qs)(_:vs=[.ref M.p])(_:ZD C CM H M F wa L m qs)(_:m.j9.9=m.oX.9)(_:m.oX.9<=60)(_:∀g U J,H g=_n->ZC H J->J g=_s (.dK U)->(∀n:Str,(Zx U (.inr n)).isSome=Cc m n)->Q (.ref g) J)
abbrev GY:Stmt:=Yr (top 64) 37
def iQ(c:ZU K CM "forsworn_names" "Moot.forsworn_names" GY)(T:Txt mg)(Tm:ZQ K CM)(b:∃t,mg "NAMED"=_s (.int 3 t)):Mt P w K mg Z CM "forsworn_names" lX 1 (UU C CM):=by
 let(d,a):=b;let b:ZH (.int 3) (.int 3 d):=(d,rfl);erw[c.mq ["self","names","case","suit","oath"] λH d Q E c h=>?_];let(M,F,g,L,m,f,rfl,W,e,d,k):=h
 refine(rfl,_,(Zc (Zw 1 BL) (Zc (Y5 mO rfl (K3 T.enumerate (Za (Z3 Q0) Zb)) (JA (by rfl) (Ye (Z8 2) (Ye (Z8 3) Vf)))
 (Zc (Zw 4 (Zh Zq Q3 (Wh a b)))
 (Zf (Zs (QW.pt (Vo (Zn Az Q4 Wa (Zo _)) (Vo (Wq (Zh Yg (Z3 Q0) Q2)) (V9 (Zn AE Q2 (E1 c (Z3 Q0) (Zh Zq Q4 Ze) Ze) (Zo _)))))) (Zf (Jf c Q1 (Zh Zq Q4 Ze) V0)) Zr))))
 (Zf (Zv Q1)))),?_)
 let a:=aC
 let(O,a):=W.ob;erw[λg E=>?_];erw[nw (o:=.dK []) E λB y kg=>?_];erw[Yb ?_];let b:=W.same y;let(h,c,R,s):=(b.ls (M.lt,m.oX.map Wo) (by simp[Mo.at_])).get;let(N,L,v,u):=(b.ls (M.lv,m.j9.map D.bl) (by simp[Mo.at_])).get;dsimp only at c R s L v u;rw[xA] at s u;let(pk,p1,d,p3):=b.pn;let d:∀{o:HO}{b:jP},H b=_s o->b≠g:=λe z=>by rw[z,E] at e;ext e
 erw[_,rfl,M.p,CM,O,_,_,rfl,y _ _ a,Tm.cl,Tm.nt,Av _,M.lt,h,rfl,ZG.of c,?_];refine Ro h (λi Y J=>∃(v u v4:Option V)(U:List (ZN×V)),Y=[_s (.ref M.p),_s (.ref g),v,u,v4]/\ZC H J/\J g=_s (.dK U)/\(∀b o,b≠g->B b=_s o->J b=_s o)/\U.9<=i/\∀n:Str,(Zx U (.inr n)).isSome=BQ m i n) (_n,_n,_n,[],rfl,y,kg,λ_ _ _ e=>e,yJ _,λ_=>rfl)
  (λi Y J _ ⟨_,_,_,_,_,_,_,G,_,_⟩=>ZG.of (G _ _ (d ((W.ls (M.lt,m.oX.map Wo) (by simp[Mo.at_])).get.choose_spec.1)) c)) ?_ ?_
 .rintro i x p Y J r ⟨a0,a1,a2,U,rfl,S,I,G,hk,A⟩ c;erw[nw (o:=.tup [.int i,x]) c λf Sp kp=>?_];let c:i<h.9:=(xH.mp r).1;obtain⟨t,Q⟩:∃t,m.oX[i]?=_s t:=(_,xC ());obtain⟨h,j⟩:∃h,m.j9[i]?=_s h:=(_,xC ());let(ta,u1,u2,u4,X,c,_,_,x):=ZT.get (l:=M.lt) R Q;rw[X] at r;ext r;let r:∀b o,b≠g->B b=_s o->f b=_s o:=λb o n e=>Sp _ _ (G b o n e);let X:∀{b R},B b=_s (.tup R)->f b=_s (.tup R):=λ{b R} e=>r b _ (λz=>by rw[z,kg] at e;ext e) e;let R:m.j9.getD i _x=h:=by rw[xT,j];rfl
  erw[p,_,rfl,ZR.of kp,rfl,_,_,rfl,_,_,rfl,rfl,?_];erw[_,rfl,ta,_,3,u4,rfl,rfl,ZR.of (X c),rfl,?_];let c:(∀n,B9 m n i=_x)->∃(v u v4:Option V)(U:List (ZN×V)),[_s (V.ref M.p),_s (.ref g),_s (.int i),_s (.ref ta),_s u4]= [_s (.ref M.p),_s (.ref g),v,u,v4]/\ZC H f/\f g=_s (.dK U)/\(∀b o,b≠g->B b=_s o->f b=_s o)/\U.9<=i+1/\∀n:Str,(Zx U (.inr n)).isSome=BQ m (i+1) n:=λz =>
   (_,_,_,U,rfl,S.trans Sp,Sp _ _ I,r,(),λn=>by rw[Il,z,Bool.or_false];rwa[A n])
  cases B:t.named with
  | none =>
   rw[B] at x;ext x;erw[_,rfl,rfl,_,rfl,Zz (Zz (c λn=>?_))];unfold B9;rw[Q,zC,B]
  | some o =>
   rw[B] at x;let(p,f):=o;let(b,p,rfl,H,(y1,r1,rfl,t,(y2,r2,rfl,e2,e3))):=x;ext t;ext e2;ext e3;let p:∀n,B9 m n i=(decide (f=n)&&h&&decide ((m.pen n).getD 0<=(i:Int))):=λn=>by unfold B9;rw[Q,zC,B,R]
   let t:i<N.9:=by rw[u];rwa[(xH.mp j).1]
   let(e,x,u):=v.get (xC t);rw[xF,j] at x;ext x;let u:N[i]= .bl h:=u;erw[_,rfl,rfl,_,rfl,Z6 ?_];erw[_,rfl,M.p,CM,O,_,_,rfl,r _ _ (d a) (y _ _ a),Tm.cl,Tm.nv,GW _,_,rfl,M.lv,N,i,.bl h,rfl,rfl,ZG.of (r _ _ (λz=>by rw[z,kg] at L;ext L) L),u▸Yy (xC t),h,rfl,?_];cases h with
   | false=>rwa[Zz (Zz (c λn=>by rw[p,Bool.and_false];rfl))]
   | true =>
    erw[Z6 ?_];let i:M.dp≠g:=λz=>by let(j,h,_):=W.pn;rw[z,E] at h;ext h
    let h:=r _ _ i p1;let i:=YD.k (k:=Sum.inr f) h;rw[p3] at i;erw[_,rfl,_,rfl,M.p,CM,O,_,_,rfl,r _ _ (d a) (y _ _ a),Tm.cl,Tm.np,IY _,M.dp,rfl,.inl (pk,.inl h),_,rfl,b,_,1,_,rfl,rfl,ZR.of (X H),rfl,_,i,?_];let a:(Option.map V.int (m.pen f)).getD (.int 0)= .int ((m.pen f).getD 0):=by cases m.pen f<;>rfl
    rw[a];erw[_,_,rfl,rfl,_,rfl,Zy (λz=>?_) (λz=>c λn=>?_)]
    .erw[_,rfl,_,rfl,b,_,1,_,rfl,rfl,ZR.of (X H),rfl,g,_,rfl,YU.k (k:=Sum.inr f) (Sp _ _ I) (),?_];erw[_,_,_,Z4 U (.inr f) (.bl _t),rfl,λb o e=>?_,Zi,λb o n e=>by rw[Zd n];rwa[r b o n e],xX (Vv _ _ _) (),λn=>?_]
     .rw[Zd (d e)];rwa[(S.trans Sp) b o e]
     .rw[Ui,Il,p,<- A n]
      by_cases e:n=f
      .grind
      .grind
    .grind
 .rintro Y J ⟨a0,a1,a2,U,rfl,S,I,G,hk,A⟩;rw[s] at A;rwa[_,rfl,k g U J E S I A]
end
section
variable{C CM:jP}{c:jL}
abbrev Yi(f:Str->Int)(ns:jJ):Va:=ns.map λn=>(n,f n)
def Ax(m:Mo)(a:Int)(f:Str->Int)(b d:jJ):Option Str :=
 if 60<=m.oX.9 then _s "TooMany" else if 12<max b.length d.9 then _s "TooMany" else (Wd m).or (if FA (b++d)<(b++d).9 then _s ("SwornTwice":Str) else
  ((b++d).findSome? λn=>if Cc m n=_t then _s ("Forsworn":Str) else _n).or (if (wts (Yi f b)).sum<a then _s ("TooLight":Str) else _n))
inductive WG(C CM:jP)(c:jL)(vs:aG)(H:Hp)(Q:VK)(E:XK):Prop
 |mk(M) (F) (wa) (L) (m) (qs) (day need) (l1 l2) (o1 o2) (f)(_:vs=[.ref M.p,.int day,.int need,.ref l1,.ref l2])(_:ZD C CM H M F wa L m qs)(_:WY m)(_:F.9<=1000)(_:H l1=_s (.lst (o1.map V.str)))(_:H l2=_s (.lst (o2.map V.str)))(_:o1.9<=60)(_:o2.9<=60)(_:0<=day)(_:day<=9999)(_:okI need)(_:(∀n∈o1++o2,n.9<=100/\wOk F day f n/\1<=f n/\f n<=1000))(_:∀J,ZC H J->due E c J (Q .non J) (Ax m need f o1 o2))
abbrev Ir:Stmt:=Yr (top 64) 42
def fB(f:ZU K CM "check_sides" "Moot.check_sides" Ir)(T:Txt mg)(Tm:ZQ K CM)(n:Er K mg c errs)(a:∃t,mg "MOST_CASES"=_s (.int 60 t))(e:∃t,mg "MOST_SWEARERS"=_s (.int 12 t))(i:ZX P w K mg Z CM "check_moments" 1 (YS C CM c))(g:Mt P w K mg Z CM "forsworn_names" lX 1 (UU C CM))(j:Mt P w K mg Z CM "weighed" lZ 3 (WK C CM))(x:Fn P w K mg Z "total" ["side"] 1 UW):ZX P w K mg Z CM "check_sides" 4 (WG C CM c):=by
 let(b,d):=a;let(u,a):=e;let e:ZH (.int 60) (.int 60 b):=(b,rfl);let b:ZH (.int 12) (.int 12 u):=(u,rfl);erw[f.mx ["self","day","need","ones","others","barred","name"] ["self","day","need","ones","others"] λH f Q E z h=>?_];let(M,F,I,L,m,G,s,y,r,v,p,l,f,rfl,W,J,E,t,B,O,A,Q,R,X,N,k):=h
 refine(rfl,_,(Zc (Zs (Zn AE (Z1 Yu T.len Ym (Za (Z3 Q0) Zb)) (Wh d e) (Zo _)) (Zf (Wc Y2 n (Wg (Yt (Y3 (Wh d e) (Yt Wf)))))) Zr) (Zc (Zs (Zn J8 (Z1 (EG (by rfl)) T.max Dr (Za (Z1 Yu T.len Ym (Za Q3 Zb)) (Za (Z1 Yu T.len Ym (Za Q4 Zb)) Zb))) (Wh a b) (Zo _)) (Zf (Wc Y2 n (Wg (Yt (Y3 (Wh a b) (Yt Wf)))))) Zr)
 (Zc (Zl (A2 Z5 Q0 Tm.cl i))
 (Zc (Zs (Zn J5 (NL (by rfl) T.len T.set (Za (Z0 JG Q3 Q4) Zb)) (Z1 Yu T.len Ym (Za (Z0 JG Q3 Q4) Zb)) (Zo _)) (Zf (Wc Y2 n Z9)) Zr)
 (Zc (Zw 5 (dH Q0 Tm.cl g))
 (Zc (El Dj Y2 (by rfl) (Ys (Z0 JG Q3 Q4)) (Z8 6)
 (λb a=>(Zf (Zs (Zn (Cn z) Q6 Q5 rfl) (Zf (Wc a n (Wg (Y3 Q6 (Yt Wf))))) Zr))))
 (Zf (Zs (Zn J5 (Zk x (Za (Ve Q0 Tm.cl j (Za Q3 (Za Q1 Zb))) Zb)) Q2 (Zo _)) (Zf (Wc Y2 n (Wg (Yt (Y3 Q2 Wf))))) Zr)))))))),?_)
 let a:=aC
 let(A,b):=W.ob;let(g,u,_,a):=(W.ls (M.lt,m.oX.map Wo) (by simp[Mo.at_])).get;dsimp only at u a;rw[xA] at a;unfold Ax at k;let d:(p.map V.str).9=p.9:=xA ..;let e:(l.map V.str).9=l.9:=xA ..;erw[_,rfl,M.p,CM,A,_,_,rfl,b,Tm.cl,Tm.nt,Av _,M.lt,g,rfl,.inl (ZG.of u),_,_,rfl,rfl,_,rfl,Zy (λz=>?_) (λz=>?_)]
 .rw[_j ()] at k;rwa[aA,.inr (60,rfl,aA),aA,λ_=>k H (ZC.refl H)]
 rw[_i ()] at k;erw[_,rfl,r,_,rfl,.inl (ZG.of t),_,rfl,v,_,rfl,.inl (ZG.of B),_,_,rfl,?_];let a:(if ((l.map V.str).9:Int) > (p.map V.str).9 then ((l.map V.str).9:Int) else (p.map V.str).9)=((max p.length l.9:Nat):Int):=by rw[d,e];split<;>lia
 rw[a];erw[_,_,rfl,rfl,_,rfl,Zy (λz=>?_) (λz=>?_)]
 .rw[_j ()] at k;rwa[aA,.inr (12,rfl,aA),aA,λ_=>k H (ZC.refl H)]
 rw[_i ()] at k;erw[_,rfl,M.p,A,_,rfl,b,Yk _ aA,M,F,I,L,m,G,rfl,W,?_];cases a:Wd m with
 | some x=>rw[a] at k;rwa[k H (ZC.refl H)]
 | none =>
 rw[a,zI] at k;let j:p.map V.str++l.map V.str=(p++l).map V.str:=xL.6;erw[_,rfl,_,rfl,r,v,_,_,rfl,rfl,t,B,by rw[d,e];lia,λq a=>?_];rw[j];erw[nw (o:=.lst ((p++l).map V.str)) a λn h a=>?_];erw[q,p++l,rfl,ZG.of a,by rw[xG];lia,?_];erw[_,rfl,_,rfl,r,v,_,_,rfl,rfl,h _ _ t,h _ _ B,by rw[d,e];lia,λg i=>?_];rw[j];let a:=h.trans (ZC.new (o:=.lst ((p++l).map V.str)) i);let h:(upd n g (.lst ((p++l).map V.str))) g=_s (.lst ((p++l).map V.str)):=Zi;generalize (upd n g (.lst ((p++l).map V.str)))=i at a h |-;erw[g,_,rfl,.inl (ZG.of h),_,_,rfl,rfl,_,rfl,Zy (λz=>?_) (λz=>?_)]
 .rw[_j (by rw[xA] at z;lia)] at k;rwa[k i a]
 rw[_i (by rw[xA] at z;lia)] at k;erw[_,rfl,M.p,A,_,rfl,a _ _ b,Yk _ aA,M,F,I,L,m,G,rfl,W.same a,J.vl,J.le,λg U n h i kg H=>?_];let h:=a.trans i;erw[Yb ?_];erw[_,rfl,_,rfl,r,v,_,_,rfl,rfl,h _ _ t,h _ _ B,by rw[d,e];lia,λe d=>?_];rw[j];let a:=ZC.new (o:=.lst ((p++l).map V.str)) d;let d:=h.trans a;let u:=a _ _ kg;let a:(upd n e (.lst ((p++l).map V.str))) e=_s (.lst ((p++l).map V.str)):=Zi;generalize (upd n e (.lst ((p++l).map V.str)))=B at d a u |-;erw[e,rfl,(_,ZG.of a),?_];erw[Ws ((p++l).map V.str) (λi Y J=>∃x:Option V,Y=[_s (.ref M.p),_s (.int s),_s (.int y),_s (.ref r),_s (.ref v),_s (.ref g),x]/\B=J/\∀j<i,∀y,(p++l)[j]?=_s y->(if Cc m y=_t then _s ("Forsworn":Str) else _n)=_n) (_n,rfl,rfl,λj e=>_a e ()) (λi Y J _ ⟨_,_,e,_⟩=>by rw[<- e];rwa[ZG.of a]) ?_ ?_]
 .rintro i v Y J a ⟨x,rfl,rfl,h⟩;rw[xF] at a;let(n,i,rfl):=xS.mp a;erw[_,rfl,_,rfl,g,_,rfl,YD.k (k:=Sum.inr n) u,_,rfl,?_];let a:=H n;cases e:Zx U (.inr n) with
  | none =>
   rw[e] at a;rwa[Zz (_,rfl,rfl,DW i h (_i (by rw[<- a];decide)))]
  | some v =>
   rw[e] at a;rw[C8 (f:=λn=>if Cc m n=_t then _s ("Forsworn":Str) else _n) i h (_j a.6)] at k;rwa[Z6 (_,rfl,.inl (n,rfl,by have:=(N n (xN i)).1;lia),aA,λ_=>k B d)]
 rintro Y J ⟨x,rfl,rfl,h⟩;rw[xA] at h;rw[Eu (f:=λn=>if Cc m n=_t then _s ("Forsworn":Str) else _n) h,zI] at k
 try dsimp only
 erw[_,rfl,M.p,A,_,rfl,d _ _ b,Yk _ aA,_,rfl,_,rfl,M,F,I,L,m,G,r,p,s,f,rfl,W.same d,E,d _ _ t,O,Q,R,λn i=>(N n (yP _ i)).2.1,λl g h i a b e=>?_];erw[.ref l,Yi f p,rfl,(l,g,rfl,b,e),(λp b=>?_,by rw[xA];rwa[O]),λb e=>?_]
 .grind
 let S:=(d.trans a).trans e;erw[_,rfl,_,_,rfl,rfl,_,rfl,Zy (λz=>?_) (λz=>?_)]
 .rw[_j z] at k;rwa[aA,_,rfl,.inr (_,rfl,Wy X),λ_=>k b S]
 .rw[_i z] at k;rwa[k b S]
end
def JX(M:ML)(F:List ZK)(a:jL)(L qs:jM)(H J:Hp):Prop:=∀b o,H b=_s o->¬mo M F a L qs b->J b=_s o
def VT(M:ML)(F:List ZK)(f:jL)(L qs:jM)(e:ML)(a:List ZK)(d:jL)(xs' c:jM)(H:Hp):Prop:=∀b,mo e a d xs' c b->mo M F f L qs b\/H b=_n
theorem VT.iu(f:BO M.L F wa ds' wa' H):VT M F wa L qs M ds' wa' L qs H:=λb a=>by
 rcases a with z | z | z | z | z
 .rwa[.inl (.inl z)]
 .rwa[.inl (.inr (.inl z))]
 .rwa[.inl (.inr (.inr (.inl z)))]
 .rwa[.inl (.inr (.inr (.inr (.inl z))))]
 .rwa[(f b z).imp (λz=>.inr (.inr (.inr (.inr z)))) id]
theorem GD:mo M F wa L qs M.ld:=.inr (.inr (.inl (by simp[ML.ls])))
section
variable{C CM:jP}
theorem Qd(M:ML):(Wp M).9<1000:=show 9<1000 by decide
def Mo.oY(m:Mo)(day:Int)(t:ZV):Mo:={m with oX:=m.oX ++ [t],days:=m.days ++ [day],j9:=(Yd [] 0 (m.oX ++ [t])).1 }
def oaV.rep(h:oaV H oa v):YA (fz L H) (Br oa) v:=by
 cases oa with
 | none=>rwa[h]
 | some p=>let(_,_,a,e,b):=h;rwa[a,_,e,Wi b,(_,_,S,S,(_,_,S,S,S))]
def oaV.same(h:oaV H oa v)(k:ZC H J):oaV J oa v:=by
 cases oa with
 | none=>rwa[h]
 | some p=>let(b,c,a,e,d):=h;rwa[b,c,a,e,k _ _ d]
theorem ZS.fz(r:ZS H sd us):ZI (fz L H) (sd.map Dy) us:=(ZS.mono (λ_ _ e=>Wi e) r).rep
inductive To(C CM:jP)(vs:aG)(H:Hp)(Q:VK)(a:XK):Prop
 |mk(M) (F) (wa) (L) (m) (qs) (day need) (l1 l2) (o1 o2) (f) (oa) (v2)(_:vs=[.ref M.p,.int day,.int need,.ref l1,.ref l2,v2])(_:ZD C CM H M F wa L m qs)(_:WY m)(_:m.oX.9<60)(_:F.9<=1000)(_:H l1=_s (.lst (o1.map V.str)))(_:H l2=_s (.lst (o2.map V.str)))(_:o1.9<=60)(_:o2.9<=60)(_:0<=day)(_:day<=9999)(_:1<=need)(_:need<=12000)(_:(∀n∈o1++o2,wOk F day f n/\1<=f n/\f n<=1000))(_:oaV H oa v2)(_:∀a b c J,ZD C CM J (M.oP a) F wa (b::c::L) (m.oY day (Yi f o1,Yi f o2,need,oa)) qs->JX M F wa L qs H J->VT M F wa L qs (M.oP a) F wa (b::c::L) qs H->Q (.int m.oX.9) J)
abbrev L7:Stmt:=Yr (top 64) 39
def NX(c:ZU K CM "try_case" "Moot.try_case" L7)(T:Txt mg)(Tm:ZQ K CM)(b:Mt P w K mg Z CM "weighed" lZ 3 (WK C CM))(j:Fn P w K mg Z "settled" i8 4 US):Mt P w K mg Z CM "try_case" lD 5 (To C CM):=by
 erw[c.mq lD λH e Q E c h=>?_];let(M,F,r,L,m,i,g,c,s,z,v,x,f,G,A,rfl,W,ok,n,e,l,u,n1,n2,o,p,e0,e1,t,N,k):=h;erw[rfl,_,(Zc (Zl (Yz aD aE aF Y1 (Z3 Q0) (Za (Z7 (Za (Ve Q0 Tm.cl b (Za Q3 (Za Q1 Zb))) (Za (Ve Q0 Tm.cl b (Za Q4 (Za Q1 Zb))) (Za Q2 (Za Q5 Zb))))) Zb))) (Zc (Zl (Yz aD aE aF Y1 (Z3 Q0) (Za Q1 Zb))) (Zc (V1 Q0 (Zk j (Za (Z3 Q0) Zb))) (Zf (Zv (Z0 Ub (Z1 Yu T.len Ym (Za (Z3 Q0) Zb)) Ze)))))),?_];let b:=aC
 let(h,b):=W.ob;let(X,I,_,j):=(W.ls (M.lt,m.oX.map Wo) (by simp[Mo.at_])).get;dsimp only at I j;rw[xA] at j;erw[_,rfl,M.p,CM,h,_,_,rfl,b,Tm.cl,Tm.nt,Av _,.inl (rfl,_,ZG.of I),?_];erw[_,rfl,M.p,h,_,rfl,b,Yk _ aA,_,rfl,_,rfl,M,F,r,L,m,i,s,v,g,f,rfl,W,e,l,n1,o,p,λn j=>(t n (yP _ j)).1,λy Y E B l s R=>?_];erw[_,rfl,M.p,h,_,rfl,l _ _ b,Yk _ aA,_,rfl,_,rfl,M,F,r,L,m,i,z,x,g,f,rfl,W.same l,e,l _ _ u,n2,o,p,λn j=>(t n (xO _ j)).1,λu a0 e O b n U=>?_];erw[_,rfl,_,rfl,aB rfl,λp e=>?_];erw[nw (o:=.tup [.ref y,.ref u,.int c,A]) e λJ E k3=>?_];let h:=b.trans E;let S:=l.trans h;let t:∀{b:jP},H b=_n->¬mo M F r L i b:=λe z=>by let(o,A):=W.there z;rw[e] at A;ext A
 let j:H u=none:=l.free O;let O:=((W.same S).freeze (a:=u) (E _ _ n) (λz=>t j (.inr (.inr (.inl z))))).freeze (a:=y) (h _ _ s) (λz=>t B (.inr (.inr (.inl z))));erw[M.lt,X,.ref p,rfl,rfl,S _ _ I,(),?_];let t:YA (fz (y::u::L) J) (Wo (Yi f v,Yi f x,c,G)) (.ref p) :=
  (p,_,rfl,Wi k3,(_,_,rfl,(y,Y,rfl,Uf (by simp) (h _ _ s),ZS.fz (ZS.mono (ZC.t h) R)),(_,_,rfl,(u,a0,rfl,Uf (by simp) (E _ _ n),ZS.fz (ZS.mono (ZC.t E) U)),(_,_,rfl,rfl,(_,_,rfl,(N.same S).rep,rfl)))))
 let l:=O.trial (S _ _ I) t;let N:JX M F r L i H (upd J M.lt (.lst (X ++ [.ref p]))):=λb o e s=>by
  rw[Zd (λz:b=M.lt=>s (z ▸ .inr (.inr (.inl (by simp[ML.ls])))))];rwa[S _ _ e]
 generalize (upd J M.lt (.lst (X ++ [.ref p])))=I at l N |-;let(p,h):=l.ob;let(t,n,_,E):=(l.ls (M.ly,m.days.map D.int) (by simp[Mo.at_])).get;dsimp only at n E;rw[xA] at E;let E:=ok.dl;erw[_,rfl,M.p,CM,p,_,_,rfl,h,Tm.cl,Tm.ny,Iy _,.inl (rfl,_,ZG.of n),_,rfl,M.ly,t,.int g,rfl,rfl,n,(),?_];let p:=l.day (d:=g) n rfl;let E:JX M F r L i H (upd I M.ly (.lst (t ++ [.int g]))):=λb o e s=>by
  rw[Zd (λz:b=M.ly=>s (z ▸ .inr (.inr (.inl (by simp[ML.ls])))))];rwa[N b o e s]
 generalize (upd I M.ly (.lst (t ++ [.int g])))=g at p E |-;let(h,g):=p.ob;let(n,I,J,l):=(p.ls (M.lt,(m.oX ++ [((Yi f v,Yi f x,c,G):ZV)]).map Wo) (by simp[Mo.at_])).get;dsimp only at I J l;rw[xA,xG,wB] at l;let l:∀t∈m.oX ++ [((Yi f v,Yi f x,c,G):ZV)],Uu t:=λt N=>by
  rcases xK.mp N with z | z
  .rwa[ok.ok t z]
  .rw[xV.mp z];erw[(λq t=>?_,by show (v.map _).9<=60;rw[xA];rwa[n1]),(λq t=>?_,by show (x.map _).9<=60;rw[xA];rwa[n2]),e0,e1]
   .grind
   .grind
 erw[_,rfl,M.p,CM,h,_,_,rfl,g,Tm.cl,Tm.nt,Av _,M.lt,_,rfl,(n,I,J),l,by rw[xG,wB];lia,λg J h I N=>?_];let O:=p.same N;let(n,l):=O.ob;erw[_,rfl,M.p,CM,n,_,rfl,l,Tm.cl,Tm.nv,Qd _,?_];rw[Ob];let t:=O.oP l I (λz=>by let(o,e):=p.there z;rw[h] at e;ext e);let O:JX M F r L i H (upd J M.p (.ins CM n (Wp (M.oP g)))):=λb o e s=>by
  rw[Zd (λz:b=M.p=>s (.inl z))];rwa[N _ _ (E b o e s)]
 generalize (upd J M.p (.ins CM n (Wp (M.oP g))))=J at t O |-;let(n,l):=t.ob;let(I,N,_,s):=(t.ls ((M.oP g).lt,(m.oX ++ [((Yi f v,Yi f x,c,G):ZV)]).map Wo) (by simp[Mo.at_])).get;dsimp only at N s;rw[xA,xG,wB] at s;erw[_,rfl,M.p,CM,n,_,_,rfl,l,Tm.cl,Tm.nt,Av _,M.lt,I,rfl,.inl (ZG.of N),_,_,rfl,rfl,?_];rw[s];show Q (.int (((m.oX.9+1:Nat):Int) - 1)) J;rw[show (((m.oX.9+1:Nat):Int) - 1)=(m.oX.9:Int) by lia];erw[k g y u J t O λb f=>?_];let c:H g=none:=by
  cases e:H g with
  | none=>rfl
  | some o =>
   by_cases z:mo M F r L i g
   .let k:mo M F r (y::u::L) i g:=by
     rcases z with z | z | z | z | z
     .rwa[.inl z]
     .rwa[.inr (.inl z)]
     .rwa[.inr (.inr (.inl z))]
     .rwa[.inr (.inr (.inr (.inl (xM _ (xM _ z)))))]
     .rwa[.inr (.inr (.inr (.inr z)))]
    let(l,A):=p.there k;rw[h] at A;ext A
   .rw[E g o e z] at h;ext h
 rcases f with z | z | z | z | z
 .rwa[.inl (.inl z)]
 .rwa[.inl (.inr (.inl z))]
 .simp only[ML.ls,ML.oP,xD,xK,xW,or_false] at z;let e:b∈M.lh::(M.ls++i)\/b=g:=by
   simp only[ML.ls,xD,xK,xW,or_false];rcases z with z | (z | z | z | z | z | z) | z<;>simp[z]
  rwa[e.elim (λz=>.inl (.inr (.inr (.inl z)))) (λz=>.inr (z▸c))]
 .rcases xD.mp z with z | z
  .rwa[.inr (z▸B)]
  .rcases xD.mp z with z | z
   .rwa[.inr (z▸j)]
   .rwa[.inl (.inr (.inr (.inr (.inl z))))]
 .rwa[.inl (.inr (.inr (.inr (.inr z))))]
end
section
variable{C CM:jP}{c:jL}
def YK(O:jP->Prop)(H:Hp)(a:jP->Prop)(J:Hp):Prop:=(∀b o,H b=_s o->¬O b->J b=_s o)/\∀b,a b->O b\/H b=_n
def YK.trans(a:YK O H O1 H1)(b:YK O1 H1 O2 H2):YK O H O2 H2:=by
 erw[λx o e n=>b.1 x o (a.1 x o e n) λz=>(a.2 x z).elim n (λy=>by rw[e] at y;ext y),λx d=>?_];rcases b.2 x d with z | z
 .rwa[a.2 x z]
 .by_cases y:O x
  .rwa[.inl y]
  .erw[.inr ?_];cases e:H x with
   | none=>rfl
   | some o=>rw[a.1 x o e y] at z;ext z
theorem YK.same(s:ZC H J):YK O H O J:=(λb o e _=>s b o e,λb a=>.inl a)
def YE(C CM:jP)(H:Hp)(p:jP)(F:List ZK)(m:Mo)(O:jP->Prop):Prop:=∃M b L a,M.p=p/\ZD C CM H M F b L m a/\O=mo M F b L a
theorem YE.same(h:YE C CM H p F m O)(k:ZC H J):YE C CM J p F m O:=let ⟨M,b,L,a,e,W,o⟩:=h;(M,b,L,a,e,W.same k,o)
def dueM(E:XK)(c:jL)(H:Hp)(k:Prop):Option Str->Prop
 | none=>k
 | some x=>∀J,ZC H J->E (.ref (c x)) _n J
def dueM.cut(k:dueM E c H Q (a.or b))(S:ZC H J)(f:a=_n->dueM E c H Q b->R):due E c J R a:=by cases a with
 | none=>rwa[f rfl k]
 | some x=>rwa[k J S]
def dueM.last(k:dueM E c H Q a)(S:ZC H J)(f:a=_n->Q->R):due E c J R a:=by cases a with
 | none=>rwa[f rfl k]
 | some x=>rwa[k J S]
def Kh:V->Bool
 | .str _ | .int _=>_t
 | _=>_x
def LP:V->D
 | .str x=>.str x
 | .int i=>.int i
 | _=>.non
theorem Lu:∀us:List V,us.all Kh=_t->ZI X (us.map LP) us
 | [],_=>rfl
 | x::us,h=>by
  rw[List.all_cons,yR] at h;erw[_,_,S,?_,Lu us h.2];ext x<;>first | rfl | cases h.1
def Aw(h:Vs F m day ps th oa=_n):(∀n∈ps,∃d,Zp F n=_s d/\d<=day)/\(∀i,th=_s i->JN m i=_n)/\∀i n,oa=_s (i,n)->V3 m.oX i n=none:=by
 unfold Vs at h;simp only[yF] at h;let(b,a,j,f,_):=h;rw[List.findSome?_eq_none_iff] at b f;erw[λn g=>?_,λi e=>by subst e;rwa[a],λi n e=>by subst e;rwa[j]];let a:=b n g;let b:=f n g;unfold Vp at a;unfold Wz at b;cases e:Zp F n with
 | none=>rw[_j e] at a;ext a
 | some d =>
  erw[d,S,?_];rw[e,mQ] at b
  by_cases z:day<d
  .rw[_j z] at b;ext b
  .lia
theorem JF(H:Hp):∀o:List Str,ZI H (o.map D.str) (o.map V.str)
 | []=>rfl
 | x::o=>(_,_,S,S,JF H o)
structure AF (F:List ZK) (m:Mo) (H:Hp) (l1 l2:jP) (o1 o2:jJ) (day need:Int) (f:Str->Int):Prop where
 ok:WY m
 hd:F.9<=1000
 h1:H l1=_s (.lst (o1.map V.str))
 h2:H l2=_s (.lst (o2.map V.str))
 n1:o1.9<=60
 n2:o2.9<=60
 di:okI day
 ni:okI need
 hw:∀n∈o1++o2,n.9<=100/\∀d,Zp F n=_s d->d<=day->AN (kw F n) day (f n)/\1<=f n/\f n<=1000
theorem AF.all(a:AF F m H l1 l2 o1 o2 day need f)(h:∀n∈o1++o2,∃d,Zp F n=_s d/\d<=day):∀n∈o1++o2,n.9<=100/\wOk F day f n/\1<=f n/\f n<=1000:=λn b=>by
 let(d,e,g):=h n b;let(x,y,z):=(a.hw n b).2 d e g;rwa[(a.hw n b).1,(d,e,g,x),y,z]
def JW(h:Wd m=_n):m.ip.9<400:=by
 unfold Wd at h
 by_cases z:m.ip.9<400
 .rwa[z]
 .rw[_i z] at h;ext h
def JL(h:Ax m need f o1 o2=_n):m.oX.9<60/\m.ip.9<400:=by
 unfold Ax at h
 by_cases z:60<=m.oX.9
 .rw[_j z] at h;ext h
 .rw[_i z] at h
  by_cases y:12<max o1.length o2.9
  .rw[_j y] at h;ext h
  .rw[_i y,yF] at h;rwa[(),JW h.1]
def dC(h:mo M F wa (a::a2::L) qs b):mo M F wa L qs b\/b=a\/b=a2:=by
 rcases h with z | z | z | z | z
 .rwa[.inl (.inl z)]
 .rwa[.inl (.inr (.inl z))]
 .rwa[.inl (.inr (.inr (.inl z)))]
 .rcases xD.mp z with z | z
  .rwa[.inr (.inl z)]
  .rcases xD.mp z with z | z
   .rwa[.inr (.inr z)]
   .rwa[.inl (.inr (.inr (.inr (.inl z))))]
 .rwa[.inl (.inr (.inr (.inr (.inr z))))]
def ZD.il(W:ZD C CM H M F wa L m qs)(S:ZC H J)(g:H a=_n)(h:H a2=_n)(k1:J a=_s (.lst u1))(k2:J a2=_s (.lst u2))(e:H M.ld=_s (.lst vs))(i:YA (fz (a::a2::L) J) d v) :
  ZD C CM (upd J M.ld (.lst (vs ++ [v]))) M F wa (a::a2::L) {m with ip:=m.ip ++ [d] } qs/\YK (mo M F wa L qs) H (mo M F wa (a::a2::L) qs) (upd J M.ld (.lst (vs ++ [v]))):=by
 let a:∀{b:jP},H b=_n->b∉M.lh::(M.ls++qs):=λe z=>by let(j,f):=W.lst z;rw[e] at f;ext f
 erw[(((W.same S).freeze k2 (a h)).freeze k1 (a g)).deed (S _ _ e) i,λb o a i=>?_,λb f=>?_]
 .rw[Zd (λz:b=M.ld=>i (z▸GD))];rwa[S _ _ a]
 .rcases dC f with z | z | z
  .rwa[.inl z]
  .rwa[.inr (z▸g)]
  .rwa[.inr (z▸h)]
def ZD.tell(W:ZD C CM H M F wa L m qs)(e:H M.ld=_s (.lst vs))(b:H p=_n)(hs:autoParam (us.all Kh=true) y1z) :
  (upd H p (.tup us)) M.ld=_s (.lst vs)/\ZD C CM (upd (upd H p (.tup us)) M.ld (.lst (vs ++ [.ref p]))) M F wa L {m with ip:=m.ip ++ [.tup (us.map LP)] } qs/\YK (mo M F wa L qs) H (mo M F wa L qs) (upd (upd H p (.tup us)) M.ld (.lst (vs ++ [.ref p]))):=by
 let a:=ZC.new (o:=.tup us) b;let b:=a _ _ e;erw[b,(W.same a).deed b (p,us,S,Wi Zi,Lu us hs),λb o d g=>?_,λ_ f=>.inl f];rw[Zd (λz:b=M.ld=>g (z▸GD))];rwa[a _ _ d]
theorem YK.iu(t:WW M.L F wa H J)(f:BO M.L F wa ds' wa' H):YK (mo M F wa L qs) H (mo M ds' wa' L qs) J :=
 (λb o e a=>t b o e λz=>a (.inr (.inr (.inr (.inr z)))),λb a=>VT.iu (L:=L) (qs:=qs) f b a)
def clD(x:Str)(i day a:Int)(b d:jJ):D:=.tup [.str "claim", .str x,.int i,.int day,.int a,.lst (b.map D.str),.lst (d.map D.str)]
def Mo.won(m:Mo)(x:Str)(i:Nat)(day a:Int)(f:Str->Int)(b d:jJ):Mo :=
 {m.oY day (Yi f b,Yi f d,a,_n) with o8:=m.o8.set i (m.o8.getD i [] ++ [.tup [.int m.oX.9,.tup [.int day,.str "won", .non,.str x]]]),ip:=m.ip ++ [clD x i day a b d] }
def En(F:List ZK)(m:Mo)(x:Str)(i day a:Int)(f:Str->Int)(b d:jJ):Option Str:=(eM 0 9999 day).or ((eM 1 12000 a).or ((Vs F m day ([x]++b++d) (_s i) _n).or (Ax m a f b d)))
inductive UC(C CM:jP)(c:jL)(vs:aG)(H:Hp)(Q:VK)(E:XK):Prop
 |mk(p) (F) (m) (O) (x) (i day need) (l1 l2) (o1 o2) (f)(_:vs=[.ref p,.str x,.int i,.int day,.int need,.ref l1,.ref l2])(_:YE C CM H p F m O)(_:AF F m H l1 l2 o1 o2 day need f)(_:¬O l1)(_:¬O l2)(_:x.9<=100)(_:okI i)(_:dueM E c H (∀a J,YE C CM J p F (m.won x i.toNat day need f o1 o2) a->YK O H a J->Q (.int m.oX.9) J) (En F m x i day need f o1 o2))
abbrev HN:Stmt:=Yr (top 64) 8
def PQ(a:ZU K CM "claim" "Moot.claim" HN)(T:Txt mg)(Tm:ZQ K CM)(n:WA P w K mg Z "check_day" 1 (VC 0 9999 c))(j:WA P w K mg Z "check_need" 1 (VC 1 12000 c))(b:ZX P w K mg Z CM "check_named" 3 (YQ C CM c))(e:ZX P w K mg Z CM "check_sides" 4 (WG C CM c))(g:Mt P w K mg Z CM "try_case" lD 5 (To C CM)):ZX P w K mg Z CM "claim" 6 (UC C CM c):=by
 erw[a.mx ["self","claimer","thing","day","need","ones","others","case"] ["self","claimer","thing","day","need","ones","others"] λH Y Q E a h=>?_];let(_,F,m,_,x,i,p,r,y,A,s,t,f,S,(M,u,L,l,S,W,S),a,w1,w2,o,hi,k):=h;erw[rfl,_,(Zc (Zl (Wm Z5 n (Za Q3 Zb))) (Zc (Zl (Wm Z5 j (Za Q4 Zb))) (Zc (Zl (Yh Z5 Q0 Tm.cl b (Za Q3 (Za (Z0 JG (Z0 JG (Yn (Za Q1 Zb)) Q5) Q6) (Za Q2 (Za Wa Zb)))))) (Zc (Zl (Yh Z5 Q0 Tm.cl e (Za Q3 (Za Q4 (Za Q5 (Za Q6 Zb)))))) (Zc (Zw 7 (Ve Q0 Tm.cl g (Za Q3 (Za Q4 (Za Q5 (Za Q6 (Za Wa Zb))))))) (Zc (Zl (Yz aD aE aF Y1 (Zh Yg (Z3 Q0) Q2) (Za (Z7 (Za Q7 (Za (Z7 (Za Q3 (Za Z9 (Za Wa (Za Q1 Zb))))) Zb))) Zb))) (Zc (Zl (Yz aD aE aF Y1 (Z3 Q0) (Za (Z7 (Za Z9 (Za Q1 (Za Q2 (Za Q3 (Za Q4 (Za (J4 A0 T.list V8 (Za Q5 Zb)) (Za (J4 A0 T.list V8 (Za Q6 Zb)) Zb)))))))) Zb))) (Zf (Zv Q7))))))))),?_];let b:=aC
 let(J,g):=W.ob;have ⟨B,o,E,G,R,U,Q,X,b⟩:=a;let z:(s.map V.str).9=s.9:=xA ..;let I:(t.map V.str).9=t.9:=xA ..;unfold En at k;erw[_,S,p,S,Q,dueM.cut k (ZC.refl H) λb k=>?_];let(N,O):=Vj b;erw[_,S,r,S,X,dueM.cut k (ZC.refl H) λen k=>?_];erw[_,S,M.p,J,_,S,g,Yk _ aA,_,S,_,S,aB S,λe b=>?_];erw[nw (o:=.lst [.str x]) b λj n b=>?_];erw[_,S,e,y,_,_,S,S,b,n _ _ E,by rw[z];show 1+_<=_;lia,λb h=>?_];let e:=n.trans (ZC.new (o:=.lst ([.str x]++s.map V.str)) h);let h:(upd j b (.lst ([.str x]++s.map V.str))) b=_s (.lst ([.str x]++s.map V.str)):=Zi;generalize (upd j b (.lst ([.str x]++s.map V.str)))=j at e h |-;erw[_,S,b,A,_,_,S,S,h,e _ _ G,by rw[xG,z,I];show 1+_+_<=_;lia,λb h=>?_];let I:=e.trans (ZC.new (o:=.lst ([.str x]++s.map V.str++t.map V.str)) h);let e:(upd j b (.lst ([.str x]++s.map V.str++t.map V.str))) b=_s (.lst (([x]++s++t).map V.str)):=by rw[Zi,xL,xL];rfl
 generalize (upd j b (.lst ([.str x]++s.map V.str++t.map V.str)))=h at I e |-;erw[_,S,M,F,u,L,m,l,p,b,[x]++s++t,_s i,_n,.non,S,W.same I,B,e,λn z=>?_,Q,λj e=>by ext e;rwa[hi],S,λh b=>?_]
 .grind
 let h:=I.trans b;erw[dueM.cut k h λb k=>?_];let(I,p2,_):=Aw b;let b:=a.all λn z=>I n (by rw[yX];rwa[xO _ z]);erw[_,S,M.p,J,_,S,h _ _ g,Yk _ aA,_,S,_,S,_,S,_,S,M,F,u,L,m,l,p,r,y,A,s,t,f,S,W.same h,B,o,h _ _ E,h _ _ G,R,U,N,O,X,b,λa I=>?_];let a:=h.trans I;erw[dueM.last k a λh k=>?_];let(I,Q):=Vj en;let X:=(JL h).2;erw[_,S,M.p,J,_,S,a _ _ g,Yk _ aA,_,S,_,S,_,S,_,S,M,F,u,L,m,l,p,r,y,A,s,t,f,_n,.non,S,W.same a,B,(JL h).1,o,a _ _ E,a _ _ G,R,U,N,O,I,Q,λn z=>(b n z).2,S,λJ Q R g f h b=>?_];let U:YK (mo M F u L l) H (mo (M.oP J) F u (Q::R::L) l) g:=(YK.same a).trans (h,b);erw[Yb ?_];let a:inB i m.ia.9:=by
  have:=p2 i S;unfold JN at this
  by_cases z:inB i m.ia.9
  .rwa[z]
  .rw[_i z] at this;ext this
 let(j,S):=yL a.1;let b:j<m.o8.9:=by rw[B.hb];have:=a.2;lia
 let h:j<l.9:=by rw[f.hn];rwa[b]
 let i:l[j]?=_s l[j]:=xC h;let a:m.o8[j]?=_s (m.o8.getD j []):=by rw[xT,xC b];rfl
 let b:=B.hl _ (xN a);rw[yI] at k;unfold Mo.won at k;generalize m.o8.getD j []=g at a b k;let n:(l[j],g)∈l.zip m.o8:=xN (i:=j) (by rw[zG];rwa[i,a]);let(N,B,_,b):=(f.ls (l[j],g) (by simp[Mo.at_,Mo.oY,n])).get;dsimp only at B b;let(g,b):=f.ob;erw[_,S,M.p,CM,g,_,_,S,b,Tm.cl,Tm.nh,FX _,_,S,M.lh,_,j,.ref l[j],S,S,ZG.of f.hl,Yy (by rw[xF,i];rfl),.inl (S,_,ZG.of B),_,S,_,S,_,S,aB S,λb I=>?_];erw[nw (o:=.tup [.int p,.str "won", .non,.str x]) I λg o k7=>?_];erw[aB S,λg n=>?_];erw[nw (o:=.tup [.int m.oX.9,.ref b]) n λO n k8=>?_];let X:=f.same (o.trans n);let f:=n _ _ (o _ _ B);erw[l[j],N,.ref g,S,S,f,(),?_];let B:=X.hap i a (d:=.tup [.int m.oX.9,.tup [.int p,.str "won", .non,.str x]]) (v:=.ref g) f (g,_,S,Wi k8,(_,_,S,S,(_,_,S,(b,_,S,Wi (n _ _ k7),(_,_,S,S,(_,_,S,S,(_,_,S,S,(_,_,S,S,S))))),S)))
 let i:YK (mo M F u L l) H (mo (M.oP J) F u (Q::R::L) l) (upd O l[j] (.lst (N ++ [.ref g]))):=(U.trans (YK.same (o.trans n))).trans (λb o e a=>by
  rw[Zd (λz:b=l[j]=>a (z ▸ .inr (.inr (.inl (xM _ (xO _ (zH h)))))))];rwa[e],λ_ I=>.inl I)
 generalize (upd O l[j] (.lst (N ++ [.ref g])))=a at B i |-;let(b,a):=B.ob;let(Y,h,_,e):=(B.ls (M.ld,m.ip) (by simp[Mo.at_,Mo.oY,ML.oP])).get;dsimp only at h e;let e:=i.1 y _ E w1;let f:=i.1 A _ G w2;erw[_,S,M.p,CM,b,_,_,S,a,Tm.cl,Tm.nd,TR _,.inl (S,_,ZG.of h),_,S,_,S,_,S,_,S,_,S,y,_,S,.inl (ZG.of e),λy b=>?_];erw[nw (o:=.lst (s.map V.str)) b λa n o=>?_];erw[_,S,A,_,S,.inl (ZG.of (n _ _ f)),λz e=>?_];erw[nw (o:=.lst (t.map V.str)) e λa g A=>?_];erw[aB S,λq a=>?_];erw[nw (o:=.tup [.str "claim", .str x,.int j,.int p,.int r,.ref y,.ref z]) a λa m E=>?_];let a:=(n.trans g).trans m;erw[M.ld,Y,.ref q,S,S,a _ _ h,(),?_];let f:=m _ _ (g _ _ o);let g:=m _ _ A;let(o,m):=B.il a b (n.free e) f g h (d:=clD x j p r s t) (v:=.ref q)
  (q,_,S,Wi E,(_,_,S,S,(_,_,S,S,(_,_,S,S,(_,_,S,S,(_,_,S,S,(_,_,S,(y,_,S,Uf (by simp) f,JF _ _),(_,_,S,(z,_,S,Uf (by simp) g,JF _ _),S))))))))
 rwa[_,S,k _ _ (M.oP J,u,_,l,S,o,S) (i.trans m)]
def weD(x y:Str)(a day b:Int)(d e:jJ):D:=.tup [.str "wergild", .str x,.str y,.int a,.int day,.int b,.lst (d.map D.str),.lst (e.map D.str)]
def Mo.owes(m:Mo)(x y:Str)(a day b:Int)(f:Str->Int)(d e:jJ):Mo :=
 {m.oY day (Yi f d,Yi f e,b,_n) with ik:=m.ik ++ [.tup [.int m.oX.9,.tup [.int day,.str y,.str x,.int a]]],ip:=m.ip ++ [weD x y a day b d e] }
def B3(F:List ZK)(m:Mo)(x y:Str)(b day a:Int)(f:Str->Int)(d e:jJ):Option Str:=(eM 1 1000000 b).or ((eM 0 9999 day).or ((eM 1 12000 a).or ((Vs F m day ([x,y]++d++e) _n _n).or (Ax m a f d e))))
inductive TK(C CM:jP)(c:jL)(vs:aG)(H:Hp)(Q:VK)(E:XK):Prop
 |mk(p) (F) (m) (O) (x y) (many day need) (l1 l2) (o1 o2) (f)(_:vs=[.ref p,.str x,.str y,.int many,.int day,.int need,.ref l1,.ref l2])(_:YE C CM H p F m O)(_:AF F m H l1 l2 o1 o2 day need f)(_:¬O l1)(_:¬O l2)(_:x.9<=100)(_:y.9<=100)(_:okI many)(_:dueM E c H (∀a J,YE C CM J p F (m.owes x y many day need f o1 o2) a->YK O H a J->Q (.int m.oX.9) J) (B3 F m x y many day need f o1 o2))
abbrev Mm:Stmt:=Yr (top 64) 9
def Xw(a:ZU K CM "wergild" "Moot.wergild" Mm)(T:Txt mg)(Tm:ZQ K CM)(n:WA P w K mg Z "check_money" 1 (VC 1 1000000 c))(o:WA P w K mg Z "check_day" 1 (VC 0 9999 c))(j:WA P w K mg Z "check_need" 1 (VC 1 12000 c))(b:ZX P w K mg Z CM "check_named" 3 (YQ C CM c))(e:ZX P w K mg Z CM "check_sides" 4 (WG C CM c))(g:Mt P w K mg Z CM "try_case" lD 5 (To C CM)):ZX P w K mg Z CM "wergild" 6 (TK C CM c):=by
 erw[a.mx ["self","claimer","answerer","many","day","need","ones","others","case"] ["self","claimer","answerer","many","day","need","ones","others"] λH vs Q E a h=>?_];let(_,F,m,_,x,y,l,i,p,A,B,r,s,f,S,(M,u,L,t,S,W,S),a,w1,w2,E,G,z,k):=h;erw[rfl,_,(Zc (Zl (Wm Z5 n (Za Q3 Zb))) (Zc (Zl (Wm Z5 o (Za Q4 Zb))) (Zc (Zl (Wm Z5 j (Za Q5 Zb))) (Zc (Zl (Yh Z5 Q0 Tm.cl b (Za Q4 (Za (Z0 JG (Z0 JG (Yn (Za Q1 (Za Q2 Zb))) Q6) Q7) (Za Wa (Za Wa Zb)))))) (Zc (Zl (Yh Z5 Q0 Tm.cl e (Za Q4 (Za Q5 (Za Q6 (Za Q7 Zb)))))) (Zc (Zw 8 (Ve Q0 Tm.cl g (Za Q4 (Za Q5 (Za Q6 (Za Q7 (Za Wa Zb))))))) (Zc (Zl (Yz aD aE aF Y1 (Z3 Q0) (Za (Z7 (Za Q8 (Za (Z7 (Za Q4 (Za Q2 (Za Q1 (Za Q3 Zb))))) Zb))) Zb))) (Zc (Zl (Yz aD aE aF Y1 (Z3 Q0) (Za (Z7 (Za Z9 (Za Q1 (Za Q2 (Za Q3 (Za Q4 (Za Q5 (Za (J4 A0 T.list V8 (Za Q6 Zb)) (Za (J4 A0 T.list V8 (Za Q7 Zb)) Zb))))))))) Zb))) (Zf (Zv Q8)))))))))),?_];let b:=aC
 let(N,g):=W.ob;have ⟨J,o,E,G,U,X,R,Y,b⟩:=a;let I:(r.map V.str).9=r.9:=xA ..;let e2:(s.map V.str).9=s.9:=xA ..;unfold B3 at k;erw[_,S,l,S,z,dueM.cut k (ZC.refl H) λb k=>?_];erw[_,S,i,S,R,dueM.cut k (ZC.refl H) λb k=>?_];let(O,Q):=Vj b;erw[_,S,p,S,Y,dueM.cut k (ZC.refl H) λen k=>?_];erw[_,S,M.p,N,_,S,g,Yk _ aA,_,S,_,S,_,S,aB S,λe b=>?_];erw[nw (o:=.lst [.str x,.str y]) b λj n b=>?_];erw[_,S,e,A,_,_,S,S,b,n _ _ E,by rw[I];show 2+_<=_;lia,λb h=>?_];let e:=n.trans (ZC.new (o:=.lst ([.str x,.str y]++r.map V.str)) h);let h:(upd j b (.lst ([.str x,.str y]++r.map V.str))) b=_s (.lst ([.str x,.str y]++r.map V.str)):=Zi;generalize (upd j b (.lst ([.str x,.str y]++r.map V.str)))=j at e h |-;erw[_,S,b,B,_,_,S,S,h,e _ _ G,by rw[xG,I,e2];show 2+_+_<=_;lia,λb h=>?_];let I:=e.trans (ZC.new (o:=.lst ([.str x,.str y]++r.map V.str++s.map V.str)) h);let e:(upd j b (.lst ([.str x,.str y]++r.map V.str++s.map V.str))) b=_s (.lst (([x,y]++r++s).map V.str)):=by rw[Zi,xL,xL];rfl
 generalize (upd j b (.lst ([.str x,.str y]++r.map V.str++s.map V.str)))=h at I e |-;erw[M,F,u,L,m,t,i,b,[x,y]++r++s,_n,_n,.non,S,W.same I,J,e,λn z=>?_,R,(λj e=>nomatch e),S,λh b=>?_]
 .grind
 let h:=I.trans b;erw[dueM.cut k h λb k=>?_];let(j,_):=Aw b;let b:=a.all λn z=>j n (by rw[yX];rwa[xO _ z]);erw[_,S,M.p,N,_,S,h _ _ g,Yk _ aA,_,S,_,S,_,S,_,S,M,F,u,L,m,t,i,p,A,B,r,s,f,S,W.same h,J,o,h _ _ E,h _ _ G,U,X,O,Q,Y,b,λa j=>?_];let a:=h.trans j;erw[dueM.last k a λh k=>?_];let(j,I):=Vj en;let R:=(JL h).2;erw[_,S,M.p,N,_,S,a _ _ g,Yk _ aA,_,S,_,S,_,S,_,S,M,F,u,L,m,t,i,p,A,B,r,s,f,_n,.non,S,W.same a,J,(JL h).1,o,a _ _ E,a _ _ G,U,X,O,Q,j,I,λn z=>(b n z).2,S,λI z N f h g b=>?_];let O:YK (mo M F u L t) H (mo (M.oP I) F u (z::N::L) t) f:=(YK.same a).trans (g,b);erw[Yb ?_];unfold Mo.owes at k;let(g,j,_,a):=(h.ls (M.lq,m.ik) (by simp[Mo.at_,Mo.oY,ML.oP])).get;dsimp only at j a;let a:=J.ql;let(b,a):=h.ob;erw[_,S,M.p,CM,b,_,_,S,a,Tm.cl,Tm.nq,Di _,.inl (S,_,ZG.of j),_,S,_,S,_,S,_,S,_,S,aB S,λb J=>?_];erw[nw (o:=.tup [.int i,.str y,.str x,.int l]) J λa o R=>?_];erw[aB S,λa f=>?_];erw[nw (o:=.tup [.int m.oX.9,.ref b]) f λn f U=>?_];let Q:=h.same (o.trans f);let h:=f _ _ (o _ _ j);erw[M.lq,g,.ref a,S,S,h,(),?_];let j:ZD C CM (upd n M.lq (.lst (g ++ [.ref a]))) (M.oP I) F u (z::N::L) _ t:=Q.debt (d:=.tup [.int m.oX.9,.tup [.int i,.str y,.str x,.int l]]) (v:=.ref a) h (a,_,S,Wi U,(_,_,S,S,(_,_,S,(b,_,S,Wi (f _ _ R),(_,_,S,S,(_,_,S,S,(_,_,S,S,(_,_,S,S,S))))),S)))
 let h:YK (mo M F u L t) H (mo (M.oP I) F u (z::N::L) t) (upd n M.lq (.lst (g ++ [.ref a]))):=(O.trans (YK.same (o.trans f))).trans (λb o e f=>by
  rw[Zd (λz:b=M.lq=>f (z ▸ .inr (.inr (.inl (by simp[ML.ls,ML.oP])))))];rwa[e],λ_ J=>.inl J)
 generalize (upd n M.lq (.lst (g ++ [.ref a])))=a at j h |-;let(b,a):=j.ob;let(vs,n,_,e):=(j.ls (M.ld,m.ip) (by simp[Mo.at_,Mo.oY,ML.oP])).get;dsimp only at n e;let e:=h.1 A _ E w1;let f:=h.1 B _ G w2;erw[_,S,M.p,CM,b,_,_,S,a,Tm.cl,Tm.nd,TR _,.inl (S,_,ZG.of n),_,S,_,S,_,S,_,S,_,S,_,S,A,_,S,.inl (ZG.of e),λA b=>?_];erw[nw (o:=.lst (r.map V.str)) b λa o z=>?_];erw[_,S,B,_,S,.inl (ZG.of (o _ _ f)),λB e=>?_];erw[nw (o:=.lst (s.map V.str)) e λa g E=>?_];erw[aB S,λq a=>?_];erw[nw (o:=.tup [.str "wergild", .str x,.str y,.int l,.int i,.int p,.ref A,.ref B]) a λa m G=>?_];let a:=(o.trans g).trans m;erw[M.ld,vs,.ref q,S,S,a _ _ n,(),?_];let f:=m _ _ (g _ _ z);let g:=m _ _ E;let(z,m):=j.il a b (o.free e) f g n (d:=weD x y l i p r s) (v:=.ref q)
  (q,_,S,Wi G,(_,_,S,S,(_,_,S,S,(_,_,S,S,(_,_,S,S,(_,_,S,S,(_,_,S,S,(_,_,S,(A,_,S,Uf (by simp) f,JF _ _),(_,_,S,(B,_,S,Uf (by simp) g,JF _ _),S)))))))))
 rwa[_,S,k _ _ (M.oP I,u,_,t,S,z,S) (h.trans m)]
theorem Fn.alias(F:Fn P w K mg Z y ps k sp)(e:mg x=mg y):Fn P w K mg Z x ps k sp:=let ⟨f,g,a,b,c,d⟩:=F;(f,g,e.trans a,b,c,d)
def acD(i:Int)(n:Str)(day a:Int)(b d:jJ):D:=.tup [.str "accuse", .int i,.str n,.int day,.int a,.lst (b.map D.str),.lst (d.map D.str)]
def Mo.told(m:Mo)(d:D):Mo:={m with ip:=m.ip ++ [d] }
theorem WY.told(k:WY m)(d:D):WY (m.told d):=(k.ok,k.dl,k.br,k.le,k.vl,k.hb,λq a=>xX (k.hl q a) (by show _<=(m.ip ++ [d]).9;rw[xG];lia),xX k.ql (by show _<=(m.ip ++ [d]).9;rw[xG];lia))
def Mo.acc(m:Mo)(i:Int)(n:Str)(day a:Int)(f:Str->Int)(b d:jJ):Mo:=(m.told (acD i n day a b d)).oY day (Yi f b,Yi f d,a,_s (i,n))
def Ef(F:List ZK)(m:Mo)(i:Int)(n:Str)(day a:Int)(f:Str->Int)(b d:jJ):Option Str:=(eM 0 9999 day).or ((eM 1 12000 a).or ((Vs F m day (b++d) _n (_s (i,n))).or ((Ax m a f b d).or (if Ez m.oX i n=[] then _n else _s ("Broken":Str)))))
inductive Je(C CM:jP)(c:jL)(vs:aG)(H:Hp)(Q:VK)(E:XK):Prop
 |mk(p) (F) (m) (O) (i) (n) (day need) (l1 l2) (o1 o2) (f)(_:vs=[.ref p,.int i,.str n,.int day,.int need,.ref l1,.ref l2])(_:YE C CM H p F m O)(_:AF F m H l1 l2 o1 o2 day need f)(_:¬O l1)(_:¬O l2)(_:n.9<=100)(_:okI i)(_:dueM E c H (∀a J,YE C CM J p F (m.acc i n day need f o1 o2) a->YK O H a J->Q (.int m.oX.9) J) (Ef F m i n day need f o1 o2))
abbrev HU:Stmt:=Yr (top 64) 10
def NQ(a7:ZU K CM "accuse" "Moot.accuse" HU)(T:Txt mg)(Tm:ZQ K CM)(er:Er K mg c errs)(Wn:WA P w K mg Z "check_day" 1 (VC 0 9999 c))(a6:WA P w K mg Z "check_need" 1 (VC 1 12000 c))(b:ZX P w K mg Z CM "check_named" 3 (YQ C CM c))(g:ZX P w K mg Z CM "check_sides" 4 (WG C CM c))(a5:Fn P w K mg Z "breakers_stands" lQ 6 VA)(p:Mt P w K mg Z CM "try_case" lD 5 (To C CM)):ZX P w K mg Z CM "accuse" 7 (Je C CM c):=by
 erw[a7.mx lT lT λH vs Q E hr h=>?_];let(_,F,m,_,i,n,s,l,l1,l2,u,x,f,S,(M,wa,L,qs,S,W,S),a,w1,w2,hx,hi,k):=h;erw[rfl,_,(Zc (Zl (Wm Z5 Wn (Za Q3 Zb))) (Zc (Zl (Wm Z5 a6 (Za Q4 Zb))) (Zc (Zl (Yh Z5 Q0 Tm.cl b (Za Q3 (Za (Z0 JG Q5 Q6) (Za Wa (Za (Z7 (Za Q1 (Za Q2 Zb))) Zb)))))) (Zc (Zl (Yh Z5 Q0 Tm.cl g (Za Q3 (Za Q4 (Za Q5 (Za Q6 Zb)))))) (Zc (Zs (cN (Zk a5 (Za (Z3 Q0) (Za Q1 (Za Q2 Zb)))) (λ_=>rfl)) (Zf (Wc Y2 er (Wg (Yt (Y3 Q2 (Yt (Y3 Q1 (Yt Wf)))))))) Zr) (Zc (Zl (Yz aD aE aF Y1 (Z3 Q0) (Za (Z7 (Za Z9 (Za Q1 (Za Q2 (Za Q3 (Za Q4 (Za (J4 A0 T.list V8 (Za Q5 Zb)) (Za (J4 A0 T.list V8 (Za Q6 Zb)) Zb)))))))) Zb))) (Zf (Zv (Ve Q0 Tm.cl p (Za Q3 (Za Q4 (Za Q5 (Za Q6 (Za (Z7 (Za Q1 (Za Q2 Zb))) Zb)))))))))))))),?_];let hz:=aC
 let(dm,A):=W.ob;have ⟨ok,U,h1,h2,n1,n2,dI,ni,hw⟩:=a;let e1:(u.map V.str).9=u.9:=xA ..;let e2:(x.map V.str).9=x.9:=xA ..;unfold Ef at k;erw[_,S,s,S,dI,dueM.cut k (ZC.refl H) λed k=>?_];let(d0,d1):=Vj ed;erw[_,S,l,S,ni,dueM.cut k (ZC.refl H) λen k=>?_];erw[_,S,M.p,dm,_,S,A,Yk _ aA,_,S,_,S,_,S,l1,l2,_,_,S,S,h1,h2,by rw[e1,e2];lia,λq hq=>?_];let S1:=ZC.new (o:=.lst (u.map V.str++x.map V.str)) hq;let k1:(upd H q (.lst (u.map V.str++x.map V.str))) q=_s (.lst ((u++x).map V.str)):=by rw[Zi,xL]
 generalize (upd H q (.lst (u.map V.str++x.map V.str)))=H1 at S1 k1 |-;erw[_,S,_,S,aB S,λt ht=>?_];let J:=ZC.new (o:=.tup [.int i,.str n]) ht;let S2:=S1.trans J;let k2:(upd H1 t (.tup [.int i,.str n])) t=_s (.tup [.int i,.str n]):=Zi;let X:=J _ _ k1;generalize (upd H1 t (.tup [.int i,.str n]))=H2 at S2 k2 X |-;erw[M,F,wa,L,m,qs,s,q,u++x,_n,_s (i,n),.ref t,S,W.same S2,ok,X,λn hn=>(hw n hn).1,dI,(λj e=>nomatch e),(hi,hx,t,S,k2),λH4 a2=>?_];let G:=S2.trans a2;erw[dueM.cut k G λea k=>?_];let(p1,_,p3):=Aw ea;let ho:=p3 i n S;let B:=a.all p1;erw[_,S,M.p,dm,_,S,G _ _ A,Yk _ aA,_,S,_,S,_,S,_,S,M,F,wa,L,m,qs,s,l,l1,l2,u,x,f,S,W.same G,ok,U,G _ _ h1,G _ _ h2,n1,n2,d0,d1,ni,B,λH5 a3=>?_];let S5:=G.trans a3;erw[dueM.cut k S5 λes k=>?_];let(g0,g1):=Vj en;let h4:=(JL es).2;let a9:inB i m.oX.9:=by
  unfold V3 at ho
  by_cases z:inB i m.oX.9
  .rwa[z]
  .grind
 let(j,S):=yL a9.1;let(ts,t1,t2,_):=((W.same S5).ls (M.lt,m.oX.map Wo) (by simp[Mo.at_])).get;let b4:=ok.le;erw[_,S,M.p,CM,dm,_,_,S,S5 _ _ A,Tm.cl,Tm.nt,Av _,_,S,_,S,M.lt,m.oX,j,n,S,(ts,t1,t2),ok.ok,(),hx,ho,λlb H6 b3 b2 a4=>?_];let I:=S5.trans a4;erw[_,.inl (_,ZG.of b2,S),?_];cases eb:Ez m.oX j n with
 | cons z r =>
  rw[eb,_i (by intro y;ext y)] at k;rwa[Z6 (aA,_,S,.inl (n,S,()),aA,_,S,.inr (_,S,Wy hi),aA,λ_=>k H6 I)]
 | nil =>
 rw[eb,_j S] at k;erw[Zz ?_];let W6:=W.same I;let(vs,f1,_,f2):=(W6.ls (M.ld,m.ip) (by simp[Mo.at_])).get;dsimp only at f1 f2;erw[_,S,M.p,CM,dm,_,_,S,I _ _ A,Tm.cl,Tm.nd,TR _,.inl (S,_,ZG.of f1),_,S,_,S,_,S,_,S,_,S,l1,_,S,.inl (ZG.of (I _ _ h1)),λa1 O=>?_];erw[nw (o:=.lst (u.map V.str)) O λHa Sa ka=>?_];erw[_,S,l2,_,S,.inl (ZG.of (Sa _ _ (I _ _ h2))),λa2 R=>?_];erw[nw (o:=.lst (x.map V.str)) R λHb Sb kb=>?_];erw[aB S,λq' b0=>?_];erw[nw (o:=.tup [.str "accuse", .int j,.str n,.int s,.int l,.ref a1,.ref a2]) b0 λHc Sc kc=>?_];let N:=(Sa.trans Sb).trans Sc;erw[M.ld,vs,.ref q',S,S,N _ _ f1,(),?_];let Y:=Sc _ _ (Sb _ _ ka);let a0:=Sc _ _ kb;let(W7,R7):=W6.il N O (Sa.free R) Y a0 f1 (d:=acD j n s l u x) (v:=.ref q')
  (q',_,S,Wi kc,(_,_,S,S,(_,_,S,S,(_,_,S,S,(_,_,S,S,(_,_,S,S,(_,_,S,(a1,_,S,Uf (by simp) Y,JF _ _),(_,_,S,(a2,_,S,Uf (by simp) a0,JF _ _),S))))))))
 replace R7:=(YK.same I).trans R7;generalize (upd Hc M.ld (.lst (vs ++ [.ref q'])))=H7 at W7 R7 |-;let(a8,a1):=W7.ob;erw[_,S,M.p,a8,_,S,a1,Yk _ aA,_,S,_,S,_,S,_,S,_,S,_,S,aB S,λt2 b1=>?_];erw[nw (o:=.tup [.int j,.str n]) b1 λH8 S8 k8=>?_];let R8:=R7.trans (YK.same S8);erw[M,F,wa,_,m.told (acD j n s l u x),qs,s,l,l1,l2,u,x,f,_s ((j:Int),n),.ref t2,S,W7.same S8,ok.told _,(JL es).1,U,R8.1 l1 _ h1 w1,R8.1 l2 _ h2 w2,n1,n2,d0,d1,g0,g1,λn hn=>(B n hn).2,(hi,hx,t2,S,k8),λlv s1 s2 H9 W9 T9 F9=>?_];rwa[k _ _ (M.oP lv,wa,_,qs,S,W9,S) (R8.trans (T9,F9))]
def Mo.oK(m:Mo)(n:Str):Mo:={m with pen:=λx=>if x=n then _s (m.oX.9:Int) else m.pen x,oH:=m.oH+1,ip:=m.ip ++ [.tup [.str "penance", .str n]] }
inductive TY(C CM:jP)(c:jL)(vs:aG)(H:Hp)(Q:VK)(E:XK):Prop
 |mk(p) (F) (m) (O) (n)(_:vs=[.ref p,.str n])(_:YE C CM H p F m O)(_:n.9<=100)(_:m.oH<=1000)(_:m.oX.9<=1000)(_:dueM E c H (∀a J,YE C CM J p F (m.oK n) a->YK O H a J->Q .non J) ((Vp F n).or ((Ar F n).or (Wd m))))
abbrev Ke:Stmt:=Yr (top 64) 4
def NP(e:ZU K CM "penance" "Moot.penance" Ke)(T:Txt mg)(f:VI K C)(Tm:ZQ K CM)(d:ZX P w K mg Z C "check_known" 1 (YO C c))(b:ZX P w K mg Z C "check_untold" 1 (WN C c))(a:ZX P w K mg Z CM "check_moments" 1 (YS C CM c)):ZX P w K mg Z CM "penance" 2 (TY C CM c):=by
 erw[e.mx lV lV λH l Q E i h=>?_];let(_,F,m,_,n,S,(M,r,L,j,S,W,S),e,g,o,k):=h;erw[rfl,_,(Zc (Zl (Yh Z5 (Z3 Q0) f.cl d (Za Q1 Zb))) (Zc (Zl (Yh Z5 (Z3 Q0) f.cl b (Za Q1 Zb))) (Zc (Zl (A2 Z5 Q0 Tm.cl a)) (Zc (Jf i (Z3 Q0) Q1 (Z1 Yu T.len Ym (Za (Z3 Q0) Zb))) (Zf (Zl (Yz aD aE aF Y1 (Z3 Q0) (Za (Z7 (Za Z9 (Za Q1 Zb))) Zb)))))))),?_];let a:=aC
 let(b,a):=W.ob;let(d,f):=W.fk.f.ob;erw[_,S,M.p,CM,b,_,_,S,a,Tm.cl,Tm.nf,Vx _,M.L.p,d,_,S,f,Y4 _ _ _ _ aA,_,S,M.L,F,n,S,W.fk.f,λ_=>e,dueM.cut k (ZC.refl H) λg k=>?_];erw[_,S,M.p,CM,b,_,_,S,a,Tm.cl,Tm.nf,Vx _,M.L.p,d,_,S,f,Y4 _ _ _ _ aA,_,S,M.L,F,n,S,W.fk.f,e,dueM.cut k (ZC.refl H) λd k=>?_];erw[_,S,M.p,b,_,S,a,Yk _ aA,M,F,r,L,m,j,S,W,dueM.last k (ZC.refl H) λd k=>?_];let e:=JW d;let(g,f,_,d):=(W.ls (M.lt,m.oX.map Wo) (by simp[Mo.at_])).get;dsimp only at f d;rw[xA] at d;let(U,e,h,i):=W.pn;erw[_,S,M.p,CM,b,_,_,S,a,Tm.cl,Tm.nt,Av _,M.lt,g,S,.inl (ZG.of f),?_];erw[_,S,M.p,CM,b,_,_,S,a,Tm.cl,Tm.np,IY _,_,S,M.dp,_,S,YU.k (k:=Sum.inr n) e (),?_];rw[d];let a:=W.oK (n:=n) (c:=(m.oX.9:Int)) e;let i:∀b o,b≠M.dp->H b=_s o->(upd H M.dp (.dK (Z4 U (.inr n) (.int m.oX.9)))) b=_s o:=λb o h e=>by rw[Zd h];rwa[e]
 generalize (upd H M.dp (.dK (Z4 U (.inr n) (.int m.oX.9))))=d at a i |-;let(g,f):=a.ob;let(l,d,_,n):=(a.ls (M.ld,m.ip) (by simp[Mo.at_])).get;dsimp only at d n;erw[_,S,M.p,CM,g,_,_,S,f,Tm.cl,Tm.nd,TR _,.inl (S,_,ZG.of d),_,S,aB S,λp f=>?_];rwa[M.ld,l,.ref p,S,S,(a.tell d f).1,(),k _ _ (M,r,L,j,S,(a.tell d f).2.1,S) (YK.trans (λb o e h=>i b o (λz=>h (.inr (.inl z))) e,λ_ b=>.inl b) (a.tell d f).2.2)]
def coD(n:Str)(day wt:Int):D:=.tup [.str "come", .str n,.int day,.int wt]
inductive Te(C CM:jP)(c:jL)(vs:aG)(H:Hp)(Q:VK)(E:XK):Prop
 |mk(p) (F) (m) (O) (n) (day wt)(_:vs=[.ref p,.str n,.int day,.int wt])(_:YE C CM H p F m O)(_:F.9<=1000)(_:okN n)(_:okI day)(_:okI wt)(_:dueM E c H (∀a J,YE C CM J p (F ++ [.come n day wt]) (m.told (coD n day wt)) a->YK O H a J->Q .non J) ((Ut F n day wt).or (Wd m)))
abbrev Ni:Stmt:=Yr (top 64) 1
def bG(e:ZU K CM "come" "Moot.come" Ni)(g:VI K C)(Tm:ZQ K CM)(b:ZX P w K mg Z C "check_coming" 2 (WQ C c))(d:Mt P w K mg Z C "come" lg 3 (Ta C))(a:ZX P w K mg Z CM "check_moments" 1 (YS C CM c)):ZX P w K mg Z CM "come" 4 (Te C CM c):=by
 erw[e.mx lg lg λH t Q E e h=>?_];let(_,F,m,_,n,e,u,S,(M,i,L,s,S,f,S),l,o,j,p,k):=h;erw[rfl,_,(Zc (Zl (Yh Z5 (Z3 Q0) g.cl b (Za Q1 (Za Q2 (Za Q3 Zb))))) (Zc (Zl (A2 Z5 Q0 Tm.cl a)) (Zc (Zl (Ve (Z3 Q0) g.cl d (Za Q1 (Za Q2 (Za Q3 Zb))))) (Zf (Zl (Yz aD aE aF Y1 (Z3 Q0) (Za (Z7 (Za Z9 (Za Q1 (Za Q2 (Za Q3 Zb))))) Zb))))))),?_];let a:=aC
 let(g,b):=f.ob;let(h,r):=f.fk.f.ob;erw[_,S,M.p,CM,g,_,_,S,b,Tm.cl,Tm.nf,Vx _,M.L.p,h,_,S,r,Y4 _ _ _ _ aA,_,S,_,S,_,S,M.L,F,i,n,e,u,S,f.fk,l,o,j,p,λd a=>dueM.cut k a λv k=>?_];let d:=f.same a;erw[_,S,M.p,g,_,S,a _ _ b,Yk _ aA,M,F,i,L,m,s,S,d,dueM.last k a λf k=>?_];let x:=JW f;erw[_,S,M.p,CM,g,_,_,S,a _ _ b,Tm.cl,Tm.nf,Vx _,M.L.p,h,_,S,a _ _ r,Y4 _ _ _ _ aA,_,S,_,S,_,S,M.L,F,i,n,e,u,S,d.fk,l,o,j,p,v,λg b e h R2=>?_];let b:=d.iu e h R2;let(f,e):=b.ob;let(t,d,_,i):=(b.ls (M.ld,m.ip) (by simp[Mo.at_])).get;dsimp only at d i;erw[_,S,M.p,CM,f,_,_,S,e,Tm.cl,Tm.nd,TR _,.inl (S,_,ZG.of d),_,S,_,S,_,S,aB S,λp e=>?_];rwa[M.ld,t,.ref p,S,S,(b.tell d e).1,(),k _ _ (M,g,L,s,S,(b.tell d e).2.1,S) (((YK.same a).trans (YK.iu h R2)).trans (b.tell d e).2.2)]
def Nr(n:Str)(day:Int):D:=.tup [.str "bring", .str n,.int day]
def Mo.brg(m:Mo)(n:Str)(day:Int):Mo:={m with ia:=m.ia ++ [.tup [.str n,.int day]],o8:=m.o8 ++ [[]],ip:=m.ip ++ [Nr n day] }
def Em(m:Mo):Option Str:=if m.ia.9<40 then _n else _s "TooMany"
inductive UH(C CM:jP)(c:jL)(vs:aG)(H:Hp)(Q:VK)(E:XK):Prop
 |mk(p) (F) (m) (O) (n) (day)(_:vs=[.ref p,.str n,.int day])(_:YE C CM H p F m O)(_:WY m)(_:n.9<=100)(_:okI day)(_:dueM E c H (∀a J,YE C CM J p F (m.brg n day) a->YK O H a J->Q (.int m.ia.9) J) ((eM 0 9999 day).or ((Vs F m day [n] _n _n).or ((Em m).or (Wd m)))))
abbrev IG:Stmt:=Yr (top 64) 5
def Sh(g:ZU K CM "bring" "Moot.bring" IG)(T:Txt mg)(Tm:ZQ K CM)(b:∃t,mg "MOST_THINGS"=_s (.int 40 t))(r:Er K mg c errs)(o:WA P w K mg Z "check_day" 1 (VC 0 9999 c))(f:ZX P w K mg Z CM "check_named" 3 (YQ C CM c))(e:ZX P w K mg Z CM "check_moments" 1 (YS C CM c)):ZX P w K mg Z CM "bring" 4 (UH C CM c):=by
 let(h,a):=b;let b:ZH (.int 40) (.int 40 h):=(h,S);erw[g.mx lj lj λH s Q E g h=>?_];let(_,F,m,_,n,g,S,(M,l,L,i,S,u,S),p,t,j,k):=h;erw[rfl,_,(Zc (Zl (Wm Z5 o (Za Q2 Zb))) (Zc (Zl (Yh Z5 Q0 Tm.cl f (Za Q2 (Za (Yn (Za Q1 Zb)) (Za Wa (Za Wa Zb)))))) (Zc (Zs (Zn AE (Z1 Yu T.len Ym (Za (Z3 Q0) Zb)) (Wh a b) (Zo _)) (Zf (Wc Y2 r (Wg (Yt (Y3 (Wh a b) (Yt Wf)))))) Zr) (Zc (Zl (A2 Z5 Q0 Tm.cl e)) (Zc (Zl (Yz aD aE aF Y1 (Z3 Q0) (Za (Z7 (Za Q1 (Za Q2 Zb))) Zb))) (Zc (Zl (Yz aD aE aF Y1 (Z3 Q0) (Za (Yn Zb) Zb))) (Zc (Zl (Yz aD aE aF Y1 (Z3 Q0) (Za (Z7 (Za Z9 (Za Q1 (Za Q2 Zb)))) Zb))) (Zf (Zv (Z0 Ub (Z1 Yu T.len Ym (Za (Z3 Q0) Zb)) Ze)))))))))),?_];let a:=aC
 let a:=p.hb;erw[_,S,g,S,j,dueM.cut k (ZC.refl H) λa k=>?_];let(o,h):=u.ob;erw[_,S,M.p,o,_,S,h,Yk _ aA,_,S,_,S,aB S,λe a=>?_];erw[nw (o:=.lst [.str n]) a λb f a=>?_];let b:=u.same f;erw[M,F,l,L,m,i,g,e,[n],_n,_n,.non,S,b,p,a,λm a=>by rw[xV.mp a];rwa[t],j,(λj e=>nomatch e),S,λj a=>?_];replace f:=f.trans a;replace b:=b.same a;erw[dueM.cut k f λa k=>?_];let a:=f _ _ h;let(r,h,_,p):=(b.ls (M.lb,m.ia) (by simp[Mo.at_])).get;dsimp only at h p;erw[_,S,M.p,CM,o,_,_,S,a,Tm.cl,Tm.nb,CQ _,M.lb,r,S,.inl (ZG.of h),_,_,S,S,_,S,Zy (λz=>?_) (λz=>?_)]
 .have:Em m=_s "TooMany" := _i ();rw[this] at k;rwa[aA,.inr (40,S,aA),aA,λ_=>k j f]
 let j:m.ia.9<40:=by lia
 have:Em m=none:=_j j;rw[this,zI] at k;erw[_,S,M.p,o,_,S,a,Yk _ aA,M,F,l,L,m,i,S,b,?_];erw[dueM.last k f λx k=>?_];let j:=JW x;erw[_,S,M.p,CM,o,_,_,S,a,Tm.cl,Tm.nb,CQ _,.inl (S,_,ZG.of h),_,S,_,S,aB S,λa j=>?_];erw[nw (o:=.tup [.str n,.int g]) j λy p t=>?_];let o:=b.same p;erw[M.lb,r,.ref a,S,S,p _ _ h,(),?_];let j:=o.brg (p _ _ h) (d:=.tup [.str n,.int g]) (v:=.ref a) (a,_,S,Wi t,(_,_,S,S,(_,_,S,S,S)));let t:JX M F l L i H (upd y M.lb (.lst (r ++ [.ref a]))):=λb o e h=>by
  rw[Zd (λz:b=M.lb=>h (z ▸ .inr (.inr (.inl (by simp[ML.ls])))))];rwa[p _ _ (f _ _ e)]
 generalize (upd y M.lb (.lst (r ++ [.ref a])))=p at j t |-;let(f,a):=j.ob;let r:=j.hl;erw[_,S,M.p,CM,f,_,_,S,a,Tm.cl,Tm.nh,FX _,.inl (S,_,ZG.of r),aB S,λq a=>?_];let f:=ZC.new (o:=.lst []) a;let y:(upd p q (.lst [])) q=_s (.lst []):=Zi;let A:¬mo M F l L i q:=λz=>by let(o,e):=j.there z;rw[a] at e;ext e
 let B:H q=none:=by
  cases e:H q with
  | none=>rfl
  | some o=>rw[t q o e A] at a;ext a
 generalize (upd p q (.lst []))=p at f y |-;erw[M.lh,i.map V.ref,.ref q,S,S,f _ _ r,by rw[xA];have:=u.hn;lia,?_];let a:=(j.same f).newq y A;let u:JX M F l L i H (upd p M.lh (.lst (i.map V.ref ++ [.ref q]))):=λb o e h=>by
  rw[Zd (λz:b=M.lh=>h (z ▸ .inr (.inr (.inl xZ))))];rwa[f _ _ (t b o e h)]
 let x:(i ++ [q]).map V.ref=i.map V.ref ++ [.ref q]:=by rw[xL];rfl
 rw[x] at a;generalize (upd p M.lh (.lst (i.map V.ref ++ [.ref q])))=f at a u |-;let(j,f):=a.ob;let(s,r,_,p):=(a.ls (M.ld,m.ip) (by simp[Mo.at_])).get;dsimp only at r p;erw[_,S,M.p,CM,j,_,_,S,f,Tm.cl,Tm.nd,TR _,.inl (S,_,ZG.of r),_,S,_,S,aB S,λp f=>?_];erw[nw (o:=.tup [.str "bring", .str n,.int g]) f λt f y=>?_];let x:=a.same f;erw[M.ld,s,.ref p,S,S,f _ _ r,(),?_];let j:=x.deed (v:=.ref p) (f _ _ r) (d:=.tup [.str "bring", .str n,.int g]) (p,_,S,Wi y,(_,_,S,S,(_,_,S,S,(_,_,S,S,S))));let r:JX M F l L i H (upd t M.ld (.lst (s ++ [.ref p]))):=λb o e h=>by
  rw[Zd (λz:b=M.ld=>h (z▸GD))];rwa[f _ _ (u b o e h)]
 generalize (upd t M.ld (.lst (s ++ [.ref p])))=i at j r |-;let(f,e):=j.ob;let(a,o,_,h):=(j.ls (M.lb,m.ia ++ [.tup [.str n,.int g]]) (by simp[Mo.at_])).get;dsimp only at o h;rw[xG] at h;erw[_,S,M.p,CM,f,_,_,S,e,Tm.cl,Tm.nb,CQ _,M.lb,a,S,.inl (ZG.of o),_,_,S,S,?_];let e:((a.9:Int) - 1)=(m.ia.9:Int):=by rw[h];simp
 show Q (.int ((a.9:Int) - 1)) i;rw[e];erw[k _ i (M,l,L,_,S,j,S) (r,λb a=>?_)];rcases a with z | z | z | z | z
 .rwa[.inl (.inl z)]
 .rwa[.inl (.inr (.inl z))]
 .rw[<- yX,<- yN] at z;rcases xK.mp z with z | z
  .rwa[.inl (.inr (.inr (.inl z)))]
  .grind
 .rwa[.inl (.inr (.inr (.inr (.inl z))))]
 .rwa[.inl (.inr (.inr (.inr (.inr z))))]
def gvD(i:Int)(x y:Str)(day:Int):D:=.tup [.str "give", .int i,.str x,.str y,.int day]
def Mo.give(m:Mo)(i:Nat)(x y:Str)(day:Int):Mo:={m with o8:=m.o8.set i (m.o8.getD i [] ++ [.tup [.non,.tup [.int day,.str "given", .str x,.str y]]]),ip:=m.ip ++ [gvD i x y day] }
inductive Ti(C CM:jP)(c:jL)(vs:aG)(H:Hp)(Q:VK)(E:XK):Prop
 |mk(p) (F) (m) (O) (i) (x y) (day)(_:vs=[.ref p,.int i,.str x,.str y,.int day])(_:YE C CM H p F m O)(_:WY m)(_:x.9<=100)(_:y.9<=100)(_:okI i)(_:okI day)(_:dueM E c H (∀a J,YE C CM J p F (m.give i.toNat x y day) a->YK O H a J->Q .non J) ((eM 0 9999 day).or ((Vs F m day [x,y] (_s i) _n).or (Wd m))))
abbrev GG:Stmt:=Yr (top 64) 6
def Rl(e:ZU K CM "give" "Moot.give" GG)(Tm:ZQ K CM)(j:WA P w K mg Z "check_day" 1 (VC 0 9999 c))(b:ZX P w K mg Z CM "check_named" 3 (YQ C CM c))(a:ZX P w K mg Z CM "check_moments" 1 (YS C CM c)):ZX P w K mg Z CM "give" 4 (Ti C CM c):=by
 erw[e.mx ["self","thing","giver","taker","day"] ["self","thing","giver","taker","day"] λH G Q E e h=>?_];let(_,F,m,_,i,x,y,l,S,(M,r,L,f,S,g,S),s,n,o,p,e,k):=h;erw[rfl,_,(Zc (Zl (Wm Z5 j (Za Q4 Zb))) (Zc (Zl (Yh Z5 Q0 Tm.cl b (Za Q4 (Za (Yn (Za Q2 (Za Q3 Zb))) (Za Q1 (Za Wa Zb)))))) (Zc (Zl (A2 Z5 Q0 Tm.cl a)) (Zc (Zl (Yz aD aE aF Y1 (Zh Yg (Z3 Q0) Q1) (Za (Z7 (Za Wa (Za (Z7 (Za Q4 (Za Z9 (Za Q2 (Za Q3 Zb))))) Zb))) Zb))) (Zf (Zl (Yz aD aE aF Y1 (Z3 Q0) (Za (Z7 (Za Z9 (Za Q1 (Za Q2 (Za Q3 (Za Q4 Zb)))))) Zb)))))))),?_];let a:=aC
 erw[_,S,l,S,e,dueM.cut k (ZC.refl H) λa k=>?_];let(o,b):=g.ob;erw[_,S,M.p,o,_,S,b,Yk _ aA,_,S,_,S,_,S,aB S,λj a=>?_];erw[nw (o:=.lst [.str x,.str y]) a λn h a=>?_];erw[_,S,M,F,r,L,m,f,l,j,[x,y],_s i,_n,.non,S,g.same h,s,a,λn a=>?_,e,(λj e=>by ext e;rwa[p]),S,λj a=>?_]
 .grind
 replace h:=h.trans a;erw[dueM.cut k h λn k=>?_];let j:=g.same h;let a:=h _ _ b;erw[_,S,M.p,o,_,S,a,Yk _ aA,M,F,r,L,m,f,S,j,?_];erw[dueM.last k h λb k=>?_];let g:=JW b;let(_,g,_):=Aw n;let b:inB i m.ia.9:=by
  have:=g i S;unfold JN at this
  by_cases z:inB i m.ia.9
  .rwa[z]
  .rw[_i z] at this;ext this
 let(i,S):=yL b.1;let n:i<m.o8.9:=by rw[s.hb];have:=b.2;lia
 let g:m.o8[i]?=_s (m.o8.getD i []):=by rw[xT,xC n];rfl
 let b:=s.hl _ (xN g);rw[yI] at k;unfold Mo.give at k;generalize m.o8.getD i []=n at g b k;let p:i<f.9:=by rw[j.hn];rwa[(xH.mp g).1]
 let A:f[i]?=_s f[i]:=xC p;let s:(f[i],n)∈f.zip m.o8:=xN (i:=i) (by rw[zG];rwa[A,g]);let(B,t,_,b):=(j.ls (f[i],n) (by simp[Mo.at_,s])).get;dsimp only at t b;erw[_,S,M.p,CM,o,_,_,S,a,Tm.cl,Tm.nh,FX _,_,S,M.lh,_,i,.ref f[i],S,S,ZG.of j.hl,Yy (by rw[xF,A];rfl),.inl (S,_,ZG.of t),_,S,_,S,_,S,aB S,λb u=>?_];erw[nw (o:=.tup [.int l,.str "given", .str x,.str y]) u λa s J=>?_];erw[aB S,λa n=>?_];erw[nw (o:=.tup [.non,.ref b]) n λE n N=>?_];let I:=(j.same s).same n;let o:=n _ _ (s _ _ t);erw[f[i],B,.ref a,S,S,o,(),?_];let j:=I.hap A g (d:=.tup [.non,.tup [.int l,.str "given", .str x,.str y]]) (v:=.ref a) o (a,_,S,Wi N,(_,_,S,S,(_,_,S,(b,_,S,Wi (n _ _ J),(_,_,S,S,(_,_,S,S,(_,_,S,S,(_,_,S,S,S))))),S)));let g:JX M F r L f H (upd E f[i] (.lst (B ++ [.ref a]))):=λc o e b=>by
  rw[Zd (λz:c=f[i]=>b (z ▸ .inr (.inr (.inl (xM _ (xO _ (zH p)))))))];rwa[n _ _ (s _ _ (h _ _ e))]
 generalize (upd E f[i] (.lst (B ++ [.ref a])))=a at j g |-;let(e,b):=j.ob;let(G,a,_,h):=(j.ls (M.ld,m.ip) (by simp[Mo.at_])).get;dsimp only at a h;erw[_,S,M.p,CM,e,_,_,S,b,Tm.cl,Tm.nd,TR _,.inl (S,_,ZG.of a),_,S,_,S,_,S,_,S,aB S,λp b=>?_];rwa[M.ld,G,.ref p,S,S,(j.tell a b).1,(),k _ _ (M,r,L,f,S,(j.tell a b).2.1,S) (YK.trans (g,λ_ u=>.inl u) (j.tell a b).2.2)]
def pyD(x y:Str)(a day:Int):D:=.tup [.str "pay", .str x,.str y,.int a,.int day]
def Mo.pay(m:Mo)(x y:Str)(a day:Int):Mo:={m with ik:=m.ik ++ [.tup [.non,.tup [.int day,.str y,.str x,.int a]]],ip:=m.ip ++ [pyD x y a day] }
inductive TC(C CM:jP)(c:jL)(vs:aG)(H:Hp)(Q:VK)(E:XK):Prop
 |mk(p) (F) (m) (O) (x y) (many day)(_:vs=[.ref p,.str x,.str y,.int many,.int day])(_:YE C CM H p F m O)(_:WY m)(_:x.9<=100)(_:y.9<=100)(_:okI many)(_:okI day)(_:dueM E c H (∀a J,YE C CM J p F (m.pay x y many day) a->YK O H a J->Q .non J) ((eM 1 1000000 many).or ((eM 0 9999 day).or ((Vs F m day [x,y] _n _n).or (Wd m)))))
abbrev Mx:Stmt:=Yr (top 64) 7
def fX(f:ZU K CM "pay" "Moot.pay" Mx)(Tm:ZQ K CM)(e:WA P w K mg Z "check_money" 1 (VC 1 1000000 c))(p:WA P w K mg Z "check_day" 1 (VC 0 9999 c))(b:ZX P w K mg Z CM "check_named" 3 (YQ C CM c))(a:ZX P w K mg Z CM "check_moments" 1 (YS C CM c)):ZX P w K mg Z CM "pay" 4 (TC C CM c):=by
 erw[f.mx ["self","payer","taker","many","day"] ["self","payer","taker","many","day"] λH u Q E f h=>?_];let(_,F,m,_,x,y,f,g,S,(M,r,L,l,S,i,S),n,s,t,j,o,k):=h;erw[rfl,_,(Zc (Zl (Wm Z5 e (Za Q3 Zb))) (Zc (Zl (Wm Z5 p (Za Q4 Zb))) (Zc (Zl (Yh Z5 Q0 Tm.cl b (Za Q4 (Za (Yn (Za Q1 (Za Q2 Zb))) (Za Wa (Za Wa Zb)))))) (Zc (Zl (A2 Z5 Q0 Tm.cl a)) (Zc (Zl (Yz aD aE aF Y1 (Z3 Q0) (Za (Z7 (Za Wa (Za (Z7 (Za Q4 (Za Q2 (Za Q1 (Za Q3 Zb))))) Zb))) Zb))) (Zf (Zl (Yz aD aE aF Y1 (Z3 Q0) (Za (Z7 (Za Z9 (Za Q1 (Za Q2 (Za Q3 (Za Q4 Zb)))))) Zb))))))))),?_];let a:=aC
 let a:=n.ql;erw[_,S,f,S,j,dueM.cut k (ZC.refl H) λa k=>?_];erw[_,S,g,S,o,dueM.cut k (ZC.refl H) λa k=>?_];let(p,b):=i.ob;erw[_,S,M.p,p,_,S,b,Yk _ aA,_,S,_,S,_,S,aB S,λe a=>?_];erw[nw (o:=.lst [.str x,.str y]) a λj h a=>?_];erw[M,F,r,L,m,l,g,e,[x,y],_n,_n,.non,S,i.same h,n,a,λn a=>?_,o,(λj e=>nomatch e),S,λj a=>?_]
 .grind
 replace h:=h.trans a;erw[dueM.cut k h λa k=>?_];let o:=i.same h;let a:=h _ _ b;erw[_,S,M.p,p,_,S,a,Yk _ aA,M,F,r,L,m,l,S,o,?_];erw[dueM.last k h λb k=>?_];let i:=JW b;let(t,i,_,b):=(o.ls (M.lq,m.ik) (by simp[Mo.at_])).get;dsimp only at i b;erw[_,S,M.p,CM,p,_,_,S,a,Tm.cl,Tm.nq,Di _,.inl (S,_,ZG.of i),_,S,_,S,_,S,_,S,aB S,λb s=>?_];erw[nw (o:=.tup [.int g,.str y,.str x,.int f]) s λa n A=>?_];erw[aB S,λa j=>?_];erw[nw (o:=.tup [.non,.ref b]) j λp j B=>?_];let z:=(o.same n).same j;let o:=j _ _ (n _ _ i);erw[M.lq,t,.ref a,S,S,o,(),?_];let i:=z.debt (d:=.tup [.non,.tup [.int g,.str y,.str x,.int f]]) (v:=.ref a) o (a,_,S,Wi B,(_,_,S,S,(_,_,S,(b,_,S,Wi (j _ _ A),(_,_,S,S,(_,_,S,S,(_,_,S,S,(_,_,S,S,S))))),S)));let f:JX M F r L l H (upd p M.lq (.lst (t ++ [.ref a]))):=λc o e b=>by
  rw[Zd (λz:c=M.lq=>b (z ▸ .inr (.inr (.inl (by simp[ML.ls])))))];rwa[j _ _ (n _ _ (h _ _ e))]
 generalize (upd p M.lq (.lst (t ++ [.ref a])))=a at i f |-;let(e,b):=i.ob;let(u,a,_,g):=(i.ls (M.ld,m.ip) (by simp[Mo.at_])).get;dsimp only at a g;erw[_,S,M.p,CM,e,_,_,S,b,Tm.cl,Tm.nd,TR _,.inl (S,_,ZG.of a),_,S,_,S,_,S,_,S,aB S,λp b=>?_];rwa[M.ld,u,.ref p,S,S,(i.tell a b).1,(),k _ _ (M,r,L,l,S,(i.tell a b).2.1,S) (YK.trans (f,λ_ s=>.inl s) (i.tell a b).2.2)]
def riD(n:Str)(day wt:Int):D:=.tup [.str "rise", .str n,.int day,.int wt]
inductive Tn(C CM:jP)(c:jL)(vs:aG)(H:Hp)(Q:VK)(E:XK):Prop
 |mk(p) (F) (m) (O) (n) (day wt)(_:vs=[.ref p,.str n,.int day,.int wt])(_:YE C CM H p F m O)(_:F.9<=1000)(_:n.9<=100)(_:okI day)(_:okI wt)(_:dueM E c H (∀a J,YE C CM J p (F ++ [.rise n day wt]) (m.told (riD n day wt)) a->YK O H a J->Q .non J) ((A7 F n day wt).or (Wd m)))
abbrev LJ:Stmt:=Yr (top 64) 2
def NZ(e:ZU K CM "rise" "Moot.rise" LJ)(i:VI K C)(Tm:ZQ K CM)(b:ZX P w K mg Z C "check_rise" 3 (UP C c))(d:Mt P w K mg Z C "rise" lg 4 (TU C))(a:ZX P w K mg Z CM "check_moments" 1 (YS C CM c)):ZX P w K mg Z CM "rise" 5 (Tn C CM c):=by
 erw[e.mx lg lg λH s Q E e h=>?_];let(_,F,m,_,n,f,p,S,(M,g,L,r,S,e,S),u,l,j,o,k):=h;erw[rfl,_,(Zc (Zl (Yh Z5 (Z3 Q0) i.cl b (Za Q1 (Za Q2 (Za Q3 Zb))))) (Zc (Zl (A2 Z5 Q0 Tm.cl a)) (Zc (Zl (Ve (Z3 Q0) i.cl d (Za Q1 (Za Q2 (Za Q3 Zb))))) (Zf (Zl (Yz aD aE aF Y1 (Z3 Q0) (Za (Z7 (Za Z9 (Za Q1 (Za Q2 (Za Q3 Zb))))) Zb))))))),?_];let a:=aC
 let(b,a):=e.ob;let(d,h):=e.fk.f.ob;erw[_,S,M.p,CM,b,_,_,S,a,Tm.cl,Tm.nf,Vx _,M.L.p,d,_,S,h,Y4 _ _ _ _ aA,_,S,_,S,_,S,M.L,F,n,f,p,S,e.fk.f,l,j,o,dueM.cut k (ZC.refl H) λi k=>?_];erw[_,S,M.p,b,_,S,a,Yk _ aA,M,F,g,L,m,r,S,e,dueM.last k (ZC.refl H) λt k=>?_];let v:=JW t;erw[_,S,M.p,CM,b,_,_,S,a,Tm.cl,Tm.nf,Vx _,M.L.p,d,_,S,h,Y4 _ _ _ _ aA,_,S,_,S,_,S,M.L,F,g,n,f,p,S,e.fk,u,l,j,o,i,λa b f R2=>?_];let a:=e.iu b f R2;let(e,d):=a.ob;let(s,b,_,h):=(a.ls (M.ld,m.ip) (by simp[Mo.at_])).get;dsimp only at b h;erw[_,S,M.p,CM,e,_,_,S,d,Tm.cl,Tm.nd,TR _,.inl (S,_,ZG.of b),_,S,_,S,_,S,aB S,λp d=>?_];rwa[M.ld,s,.ref p,S,S,(a.tell b d).1,(),k _ _ (M,g,L,r,S,(a.tell b d).2.1,S) ((YK.iu f R2).trans (a.tell b d).2.2)]
def diD(n a:Str)(day:Int):D:=.tup [.str "die", .str n,.int day,.str a]
inductive TF(C CM:jP)(c:jL)(vs:aG)(H:Hp)(Q:VK)(E:XK):Prop
 |mk(p) (F) (m) (O) (n he) (day)(_:vs=[.ref p,.str n,.int day,.str he])(_:YE C CM H p F m O)(_:F.9<=1000)(_:n.9<=100)(_:he.9<=100)(_:okI day)(_:dueM E c H (∀a J,YE C CM J p (F ++ [.die n day he]) (m.told (diD n he day)) a->YK O H a J->Q .non J) ((Af F n he day).or (Wd m)))
abbrev La:Stmt:=Yr (top 64) 3
def iA(e:ZU K CM "die" "Moot.die" La)(j:VI K C)(Tm:ZQ K CM)(b:ZX P w K mg Z C "check_death" 2 (Jc C c))(d:Mt P w K mg Z C "die" lG 3 (AB C))(a:ZX P w K mg Z CM "check_moments" 1 (YS C CM c)):ZX P w K mg Z CM "die" 4 (TF C CM c):=by
 erw[e.mx lG lG λH s Q E e h=>?_];let(_,F,m,_,n,l,f,S,(M,i,L,r,S,e,S),u,p,g,o,k):=h;erw[rfl,_,(Zc (Zl (Yh Z5 (Z3 Q0) j.cl b (Za Q1 (Za Q2 (Za Q3 Zb))))) (Zc (Zl (A2 Z5 Q0 Tm.cl a)) (Zc (Zl (Ve (Z3 Q0) j.cl d (Za Q1 (Za Q2 (Za Q3 Zb))))) (Zf (Zl (Yz aD aE aF Y1 (Z3 Q0) (Za (Z7 (Za Z9 (Za Q1 (Za Q2 (Za Q3 Zb))))) Zb))))))),?_];let a:=aC
 let(b,a):=e.ob;let(d,h):=e.fk.f.ob;erw[_,S,M.p,CM,b,_,_,S,a,Tm.cl,Tm.nf,Vx _,M.L.p,d,_,S,h,Y4 _ _ _ _ aA,_,S,_,S,_,S,M.L,F,n,l,f,S,e.fk.f,p,g,o,dueM.cut k (ZC.refl H) λj k=>?_];erw[_,S,M.p,b,_,S,a,Yk _ aA,M,F,i,L,m,r,S,e,dueM.last k (ZC.refl H) λt k=>?_];let v:=JW t;erw[_,S,M.p,CM,b,_,_,S,a,Tm.cl,Tm.nf,Vx _,M.L.p,d,_,S,h,Y4 _ _ _ _ aA,_,S,_,S,_,S,M.L,F,i,n,l,f,S,e.fk,u,p,g,o,j,λa b f R2=>?_];let a:=e.iu b f R2;let(e,d):=a.ob;let(s,b,_,g):=(a.ls (M.ld,m.ip) (by simp[Mo.at_])).get;dsimp only at b g;erw[_,S,M.p,CM,e,_,_,S,d,Tm.cl,Tm.nd,TR _,.inl (S,_,ZG.of b),_,S,_,S,_,S,aB S,λp d=>?_];rwa[M.ld,s,.ref p,S,S,(a.tell b d).1,(),k _ _ (M,i,L,r,S,(a.tell b d).2.1,S) ((YK.iu f R2).trans (a.tell b d).2.2)]
theorem Yl(d:Y[i]?=_s (_s (.ref a)))(e:H a=_s (.tup us))(f:atI us k=_s v)(h:tr Y H λvs b=>Q (v::vs) b):Uq (T8 (Tx K) (YL i) (tC (.int k))) tr Y H Q:=(_,d,a,us,k,v,S,S,ZR.of e,f,h)
theorem JP{i:Nat}{w v:Str}{t u:TS}{D:YF}{Y:St}{H:Hp}(a:Y[i]?=_s (_s (.str v)))(b:v≠w)(h:u D Y H):Ug (DL (BH (T8 Ci (YL i) (tC (.str w)))) t Y0) u D Y H:=(_,a,S,_,S,Zy (λz=>_a (by injection z) b) (λ_=>h))
theorem JC{i:Nat}{w:Str}{t u:TS}{D:YF}{Y:St}{H:Hp}(a:Y[i]?=_s (_s (.str w)))(h:t {D with nx:=u D } Y H):Ug (DL (BH (T8 Ci (YL i) (tC (.str w)))) t Y0) u D Y H:=(_,a,S,_,S,Zy (λ_=>h) (λz=>_a S z))
inductive CD where
 | wer (x y:Str) (a:Int) | clm (x:Str) (i:Int) | acc (i:Int) (n:Str)
def cdV(day a:Int)(d e:jP):CD->List V
 | .wer x y b=>[.str "wergild", .str x,.str y,.int b,.int day,.int a,.ref d,.ref e]
 | .clm x i=>[.str "claim", .str x,.int i,.int day,.int a,.ref d,.ref e]
 | .acc i n=>[.str "accuse", .int i,.str n,.int day,.int a,.ref d,.ref e]
def cdOk:CD->Prop
 | .wer x y a=>x.9<=100/\y.9<=100/\okI a
 | .clm x i=>x.9<=100/\okI i
 | .acc i n=>n.9<=100/\okI i
def eCD(F:List ZK)(m:Mo)(day a:Int)(f:Str->Int)(d e:jJ):CD->Option Str
 | .wer x y b=>B3 F m x y b day a f d e
 | .clm x i=>En F m x i day a f d e
 | .acc i n=>Ef F m i n day a f d e
def Mo.iq(m:Mo)(day a:Int)(f:Str->Int)(d e:jJ):CD->Mo
 | .wer x y b=>m.owes x y b day a f d e
 | .clm x i=>m.won x i.toNat day a f d e
 | .acc i n=>m.acc i n day a f d e
inductive SD where
 | come (n:Str) (a b:Int) | rise (n:Str) (a b:Int) | die (n b:Str) (a:Int) | pen (n:Str) | bring (n:Str) (a:Int) | give (i:Int) (x y:Str) (a:Int) | pay (x y:Str) (b a:Int)
def sdV:SD->List V
 | .come n a b=>[.str "come", .str n,.int a,.int b]
 | .rise n a b=>[.str "rise", .str n,.int a,.int b]
 | .die n b a=>[.str "die", .str n,.int a,.str b]
 | .pen n=>[.str "penance", .str n]
 | .bring n a=>[.str "bring", .str n,.int a]
 | .give i x y a=>[.str "give", .int i,.str x,.str y,.int a]
 | .pay x y b a=>[.str "pay", .str x,.str y,.int b,.int a]
def sdOk(F:List ZK)(m:Mo):SD->Prop
 | .come n a b=>F.9<=1000/\okN n/\okI a/\okI b
 | .rise n a b=>F.9<=1000/\n.9<=100/\okI a/\okI b
 | .die n b a=>F.9<=1000/\n.9<=100/\b.9<=100/\okI a
 | .pen n=>n.9<=100/\m.oH<=1000/\m.oX.9<=1000
 | .bring n a=>WY m/\n.9<=100/\okI a
 | .give i x y a=>WY m/\x.9<=100/\y.9<=100/\okI i/\okI a
 | .pay x y b a=>WY m/\x.9<=100/\y.9<=100/\okI b/\okI a
def eSD(F:List ZK)(m:Mo):SD->Option Str
 | .come n a b=>(Ut F n a b).or (Wd m)
 | .rise n a b=>(A7 F n a b).or (Wd m)
 | .die n b a=>(Af F n b a).or (Wd m)
 | .pen n=>(Vp F n).or ((Ar F n).or (Wd m))
 | .bring n a=>(eM 0 9999 a).or ((Vs F m a [n] _n _n).or ((Em m).or (Wd m)))
 | .give i x y a=>(eM 0 9999 a).or ((Vs F m a [x,y] (_s i) _n).or (Wd m))
 | .pay x y b a=>(eM 1 1000000 b).or ((eM 0 9999 a).or ((Vs F m a [x,y] _n _n).or (Wd m)))
def sdF(F:List ZK):SD->List ZK
 | .come n a b=>F ++ [.come n a b]
 | .rise n a b=>F ++ [.rise n a b]
 | .die n b a=>F ++ [.die n a b]
 | _=>F
def Mo.sd(m:Mo):SD->Mo
 | .come n a b=>m.told (coD n a b)
 | .rise n a b=>m.told (riD n a b)
 | .die n b a=>m.told (diD n b a)
 | .pen n=>m.oK n
 | .bring n a=>m.brg n a
 | .give i x y a=>m.give i.toNat x y a
 | .pay x y b a=>m.pay x y b a
def sdR(m:Mo):SD->V
 | .bring _ _=>.int m.ia.9
 | _=>.non
inductive VW(C CM:jP)(c:jL)(vs:aG)(H:Hp)(Q:VK)(E:XK):Prop
 |mk(p) (F) (m) (O) (a) (d)(_:vs=[.ref p,.ref a])(_:YE C CM H p F m O)(_:H a=_s (.tup (sdV d)))(_:sdOk F m d)(_:dueM E c H (∀b J,YE C CM J p (sdF F d) (m.sd d) b->YK O H b J->Q (sdR m d) J) (eSD F m d))
inductive VU(C CM:jP)(c:jL)(vs:aG)(H:Hp)(Q:VK)(E:XK):Prop
 |mk(p) (F) (m) (O) (a) (d) (day need) (l1 l2) (o1 o2) (f)(_:vs=[.ref p,.ref a])(_:YE C CM H p F m O)(_:H a=_s (.tup (cdV day need l1 l2 d)))(_:AF F m H l1 l2 o1 o2 day need f)(_:¬O l1)(_:¬O l2)(_:cdOk d)(_:dueM E c H (∀b J,YE C CM J p F (m.iq day need f o1 o2 d) b->YK O H b J->Q (.int m.oX.9) J) (eCD F m day need f o1 o2 d))
abbrev Fm:Stmt:=top 20
theorem bW:ZP ["moot","deed","word"] ["moot","deed"] (Zm Fm):=fsc
def Sx(a:YC K mg "done" Fm)(Tm:ZQ K CM)(u:Er K mg c errs)(l:ZX P w K mg Z CM "come" 4 (Te C CM c))(o:ZX P w K mg Z CM "rise" 5 (Tn C CM c))(r:ZX P w K mg Z CM "die" 4 (TF C CM c))(b:ZX P w K mg Z CM "penance" 2 (TY C CM c))(j:ZX P w K mg Z CM "bring" 4 (UH C CM c))(n:ZX P w K mg Z CM "give" 4 (Ti C CM c))(t:ZX P w K mg Z CM "pay" 4 (TC C CM c))(k:ZX P w K mg Z CM "claim" 6 (UC C CM c))(e:ZX P w K mg Z CM "wergild" 6 (TK C CM c))(i:ZX P w K mg Z CM "accuse" 7 (Je C CM c)):WA P w K mg Z "done" 8 (Sp.or (VW C CM c) (VU C CM c)):=by
 erw[a.fnX bW (λ_ _ _ _ _ _=>al2 λ_ _=>rfl) (λg H Q E h=>?_) (λf d A a s H g Q E m h=>?_)]
 .rcases h with⟨p,F,m,O,a,d,rfl,_⟩ | ⟨p,F,m,O,a,d,g,need,l1,l2,o1,o2,f,rfl,_⟩<;>rfl
 .erw[_,(Zc (Zw 2 (Zh Zq Q1 Ze)) (Zc (Zs (Zn Yp Q2 Z9 (Zo _)) (Zf (Zv (Yh Z5 Q0 Tm.cl l (Za (Zh Zq Q1 Ze) (Za (Zh Zq Q1 Ze) (Za (Zh Zq Q1 Ze) Zb)))))) Zr) (Zc (Zs (Zn Yp Q2 Z9 (Zo _)) (Zf (Zv (Yh Z5 Q0 Tm.cl o (Za (Zh Zq Q1 Ze) (Za (Zh Zq Q1 Ze) (Za (Zh Zq Q1 Ze) Zb)))))) Zr) (Zc (Zs (Zn Yp Q2 Z9 (Zo _)) (Zf (Zv (Yh Z5 Q0 Tm.cl r (Za (Zh Zq Q1 Ze) (Za (Zh Zq Q1 Ze) (Za (Zh Zq Q1 Ze) Zb)))))) Zr) (Zc (Zs (Zn Yp Q2 Z9 (Zo _)) (Zf (Zv (Yh Z5 Q0 Tm.cl b (Za (Zh Zq Q1 Ze) Zb)))) Zr) (Zc (Zs (Zn Yp Q2 Z9 (Zo _)) (Zf (Zv (Yh Z5 Q0 Tm.cl j (Za (Zh Zq Q1 Ze) (Za (Zh Zq Q1 Ze) Zb))))) Zr) (Zc (Zs (Zn Yp Q2 Z9 (Zo _)) (Zf (Zv (Yh Z5 Q0 Tm.cl n (Za (Zh Zq Q1 Ze) (Za (Zh Zq Q1 Ze) (Za (Zh Zq Q1 Ze) (Za (Zh Zq Q1 Ze) Zb))))))) Zr) (Zc (Zs (Zn Yp Q2 Z9 (Zo _)) (Zf (Zv (Yh Z5 Q0 Tm.cl t (Za (Zh Zq Q1 Ze) (Za (Zh Zq Q1 Ze) (Za (Zh Zq Q1 Ze) (Za (Zh Zq Q1 Ze) Zb))))))) Zr) (Zc (Zs (Zn Yp Q2 Z9 (Zo _)) (Zf (Zv (Yh Z5 Q0 Tm.cl k (Za (Zh Zq Q1 Ze) (Za (Zh Zq Q1 Ze) (Za (Zh Zq Q1 Ze) (Za (Zh Zq Q1 Ze) (Za (Zh Zq Q1 Ze) (Za (Zh Zq Q1 Ze) Zb))))))))) Zr) (Zc (Zs (Zn Yp Q2 Z9 (Zo _)) (Zf (Zv (Yh Z5 Q0 Tm.cl e (Za (Zh Zq Q1 Ze) (Za (Zh Zq Q1 Ze) (Za (Zh Zq Q1 Ze) (Za (Zh Zq Q1 Ze) (Za (Zh Zq Q1 Ze) (Za (Zh Zq Q1 Ze) (Za (Zh Zq Q1 Ze) Zb)))))))))) Zr) (Zc (Zs (Zn Yp Q2 Z9 (Zo _)) (Zf (Zv (Yh Z5 Q0 Tm.cl i (Za (Zh Zq Q1 Ze) (Za (Zh Zq Q1 Ze) (Za (Zh Zq Q1 Ze) (Za (Zh Zq Q1 Ze) (Za (Zh Zq Q1 Ze) (Za (Zh Zq Q1 Ze) Zb))))))))) Zr) (Zf (Wc Y2 u (Wg (Y3 Q2 (Yt Wf)))))))))))))))),?_];rcases h with⟨_,F,m,_,a,d,rfl,⟨M,r,L,p,rfl,W,rfl⟩,b,e,k⟩ | ⟨_,F,m,_,a,d,g,need,l1,l2,o1,o2,f,rfl,⟨M,r,L,p,rfl,W,rfl⟩,b,cs,y1,y2,e,k⟩
  .let(l,j):=W.ob;let h:YE C CM H M.p F m (mo M F r L p):=(M,r,L,p,S,W,S);cases d with
   | come n g i =>
    erw[_,S,a,_,0,_,S,S,ZR.of b,S,?_];erw[Yb ?_];erw[JC S ?_];rwa[_,S,M.p,l,_,S,j,Yk _ aA,Yl S b S (Yl S b S (Yl S b S (M.p,F,m,_,n,g,i,S,h,e.1,e.2.1,e.2.2.1,e.2.2.2,k)))]
   | rise n g i =>
    erw[_,S,a,_,0,_,S,S,ZR.of b,S,?_];erw[Yb ?_]
    iterate 1 erw[JP S aA ?_]
    erw[JC S ?_];rwa[_,S,M.p,l,_,S,j,Yk _ aA,Yl S b S (Yl S b S (Yl S b S (M.p,F,m,_,n,g,i,S,h,e.1,e.2.1,e.2.2.1,e.2.2.2,k)))]
   | die n i g =>
    erw[_,S,a,_,0,_,S,S,ZR.of b,S,?_];erw[Yb ?_]
    iterate 2 erw[JP S aA ?_]
    erw[JC S ?_];rwa[_,S,M.p,l,_,S,j,Yk _ aA,Yl S b S (Yl S b S (Yl S b S (M.p,F,m,_,n,i,g,S,h,e.1,e.2.1,e.2.2.1,e.2.2.2,k)))]
   | pen n =>
    erw[_,S,a,_,0,_,S,S,ZR.of b,S,?_];erw[Yb ?_]
    iterate 3 erw[JP S aA ?_]
    erw[JC S ?_];rwa[_,S,M.p,l,_,S,j,Yk _ aA,Yl S b S (M.p,F,m,_,n,S,h,e.1,e.2.1,e.2.2,k)]
   | bring n g =>
    erw[_,S,a,_,0,_,S,S,ZR.of b,S,?_];erw[Yb ?_]
    iterate 4 erw[JP S aA ?_]
    erw[JC S ?_];rwa[_,S,M.p,l,_,S,j,Yk _ aA,Yl S b S (Yl S b S (M.p,F,m,_,n,g,S,h,e.1,e.2.1,e.2.2,k))]
   | give i x y g =>
    erw[_,S,a,_,0,_,S,S,ZR.of b,S,?_];erw[Yb ?_]
    iterate 5 erw[JP S aA ?_]
    erw[JC S ?_];rwa[_,S,M.p,l,_,S,j,Yk _ aA,Yl S b S (Yl S b S (Yl S b S (Yl S b S (M.p,F,m,_,i,x,y,g,S,h,e.1,e.2.1,e.2.2.1,e.2.2.2.1,e.2.2.2.2,k))))]
   | pay x y o g =>
    erw[_,S,a,_,0,_,S,S,ZR.of b,S,?_];erw[Yb ?_]
    iterate 6 erw[JP S aA ?_]
    erw[JC S ?_];rwa[_,S,M.p,l,_,S,j,Yk _ aA,Yl S b S (Yl S b S (Yl S b S (Yl S b S (M.p,F,m,_,x,y,o,g,S,h,e.1,e.2.1,e.2.2.1,e.2.2.2.1,e.2.2.2.2,k))))]
  .let(l,j):=W.ob;let h:YE C CM H M.p F m (mo M F r L p):=(M,r,L,p,S,W,S);cases d with
   | clm x i =>
    erw[_,S,a,_,0,_,S,S,ZR.of b,S,?_];erw[Yb ?_]
    iterate 7 erw[JP S aA ?_]
    erw[JC S ?_];rwa[_,S,M.p,l,_,S,j,Yk _ aA,Yl S b S (Yl S b S (Yl S b S (Yl S b S (Yl S b S (Yl S b S (M.p,F,m,_,x,i,g,need,l1,l2,o1,o2,f,S,h,cs,y1,y2,e.1,e.2,k))))))]
   | wer x y o =>
    erw[_,S,a,_,0,_,S,S,ZR.of b,S,?_];erw[Yb ?_]
    iterate 8 erw[JP S aA ?_]
    erw[JC S ?_];rwa[_,S,M.p,l,_,S,j,Yk _ aA,Yl S b S (Yl S b S (Yl S b S (Yl S b S (Yl S b S (Yl S b S (Yl S b S (M.p,F,m,_,x,y,o,g,need,l1,l2,o1,o2,f,S,h,cs,y1,y2,e.1,e.2.1,e.2.2,k)))))))]
   | acc i n =>
    erw[_,S,a,_,0,_,S,S,ZR.of b,S,?_];erw[Yb ?_]
    iterate 9 erw[JP S aA ?_]
    erw[JC S ?_];rwa[_,S,M.p,l,_,S,j,Yk _ aA,Yl S b S (Yl S b S (Yl S b S (Yl S b S (Yl S b S (Yl S b S (M.p,F,m,_,i,n,g,need,l1,l2,o1,o2,f,S,h,cs,y1,y2,e.1,e.2,k))))))]
end
def YE.there(h:YE C CM H p F m O)(a:O b):∃o,H b=_s o:=by
 let(M,d,L,c,_,W,S):=h;rwa[W.there a]
theorem YE.out(h:YE C CM H p F m O)(e:H b=_n):¬O b:=λz=>by
 let(o,a):=h.there z;rw[e] at a;ext a
section
variable{C CM:jP}
theorem Yq{t u:TS}{D:YF}{Y:St}{H:Hp}(h:∀b:YF,(∀ a J,u D a J->b.nx a J)->t b Y H):Ug t u D Y H:=h {D with nx:=u D } λ_ _ h=>h
def ini(c:H p=_s (.ins CM dx fs))(a:H l=_n):(upd (upd H l y) p (.ins CM dx fs')) p=_s (.ins CM dx fs')/\(upd (upd H l y) p (.ins CM dx fs')) l=_s y/\(∀b o,H b=_s o->b≠p->(upd (upd H l y) p (.ins CM dx fs')) b=_s o)/\p≠l:=by
 let n:p≠l:=Zj c a;rwa[Zi,by rw[Zd n.6,Zi],λb o e c=>by rw[Zd c,Zd (Zj e a)];rwa[e],n]
theorem Ay{N:Hp->Prop}{H:Hp}{p l d:jP}{a:List (Str×V)}{nm:Str}{y:HO}{k:Nat}(g:H p=_s (.ins CM d a))(f:H l=_n)(i:a.9<=k)(h:∀c e,Zu nm (.ref l) a=e->e.9<=k+1->c p=_s (.ins CM d e)->c l=_s y->(∀b o,H b=_s o->b≠p->c b=_s o)->N c):N (upd (upd H l y) p (.ins CM d (Zu nm (.ref l) a))) :=
 let i:=ini (fs':=Zu nm (.ref l) a) (y:=y) g f
 h _ _ S (xX (AY ..) ()) i.1 i.2.1 i.2.2.1
def mo0:Mo:=([],[],[],[],[],[],[],λ_=>_n,0)
inductive Tf(C CM:jP)(vs:aG)(H:Hp)(Q:VK)(a:XK):Prop
 |mk(p dx)(_:vs=[.ref p])(_:H p=_s (.ins CM dx []))(_:∀M J,M.p=p->ZD C CM J M [] (λ_=>0) [] mo0 []->(∀b o,H b=_s o->b≠p->J b=_s o)->(∀b,mo M [] (λ_=>0) [] [] b->b=p\/H b=_n)->Q .non J)
abbrev Iz:Stmt:=Yr (top 64) 0
def bQ(b:ZU K CM "__init__" "Moot.__init__" Iz)(Tm:ZQ K CM)(a:DZ P w K mg Z C "Folk" 1 (Js C)):Mt P w K mg Z CM "__init__" lX 3 (Tf C CM):=by
 erw[b.mq lX λH c Q E b h=>?_];let(p,A,S,i,k):=h;erw[rfl,_,(Zc (V1 Q0 (Yn Zb)) (Zc (V1 Q0 (Ky a)) (Zc (V1 Q0 (Yn Zb)) (Zc (V1 Q0 (Yn Zb)) (Zc (V1 Q0 (Yn Zb)) (Zc (V1 Q0 (Yn Zb)) (Zc (V1 Q0 (Yn Zb)) (Zc (V1 Q0 (Yn Zb)) (Zf (V1 Q0 BL)))))))))),?_];let a:=aC
 erw[Yq λa b=>?_];erw[aB S,λld a2=>?_];let a:p≠ld:=Zj i a2;erw[_,S,p,CM,A,[],S,(by rw[Zd a];rwa[i]),Tm.cl,Tm.nd,(yU (xE 0) aA),Ay (k:=0) i a2 (xE 0) λH1 m g1 r f B a6=>b _ _ ?_];erw[Yq λb n=>?_];intro x d nx h b;let px:p≠x:=Zj f nx;let b:p≠d:=Zj f h;erw[x,d,S,Zi,λL g b j kp c=>(S,?_)];subst b;let u:ZC H1 g:=λb o e=>kp b o (by rw[Zd (Zj e nx),Zd (Zj e h)];rwa[e]) (Zj e nx);let W:∀b,b=L.dc\/b=L.dw\/b=L.dd\/b=L.dh->H1 b=none:=λb hb=>by
  have:=c b hb
  by_cases c:b=L.p
  .rw[c];rwa[nx]
  .rw[Zd c] at this
   by_cases c:b=d
   .rw[c];rwa[h]
   .rw[Zd c] at this;rwa[this]
 let c:=u _ _ f;let K2:Fk C g L [] (λ_=>0):=by
  let(d,f,h):=j.w;rwa[j,WX.start j,d,f,λp i=>by rw[mK (Nat.le_zero.mp h)] at i;ext i]
 erw[_,S,p,CM,A,m,S,c,Tm.cl,Tm.nf,(yU r aA),n _ _ ?_];let i:(Zu "folk" (V.ref L.p) m).9<=2:=xX (AY ..) ();generalize g2:Zu "folk" (V.ref L.p) m=f at i |-;let d:(upd g p (.ins CM A f)) p=_s (.ins CM A f):=Zi;let m:∀b o,g b=_s o->b≠p->(upd g p (.ins CM A f)) b=_s o:=λb o e c=>by rw[Zd c];rwa[e]
 generalize (upd g p (.ins CM A f))=H2 at d m |-;erw[Yq λc h=>?_];erw[aB S,λN Y=>?_];let c:p≠N:=Zj d Y;erw[_,S,p,CM,A,f,S,(by rw[Zd c];rwa[d]),Tm.cl,Tm.nb,(yU i aA),Ay (k:=2) d Y i λH3 j g3 i d G x=>h _ _ ?_];erw[Yq λh f=>?_];erw[aB S,λO J=>?_];let h:p≠O:=Zj d J;erw[_,S,p,CM,A,j,S,(by rw[Zd h];rwa[d]),Tm.cl,Tm.nh,(yU i aA),Ay (k:=3) d J i λH4 r g4 n d M i=>f _ _ ?_];erw[Yq λf j=>?_];erw[aB S,λQ F=>?_];let t:p≠Q:=Zj d F;erw[_,S,p,CM,A,r,S,(by rw[Zd t];rwa[d]),Tm.cl,Tm.nq,(yU n aA),Ay (k:=4) d F n λH5 s g5 r f a0 d=>j _ _ ?_];erw[Yq λj n=>?_];erw[aB S,λR z=>?_];let I:p≠R:=Zj f z;erw[_,S,p,CM,A,s,S,(by rw[Zd I];rwa[f]),Tm.cl,Tm.nt,(yU r aA),Ay (k:=5) f z r λH6 y g6 s j a3 f=>n _ _ ?_];erw[Yq λn r=>?_];erw[aB S,λU v=>?_];let a1:p≠U:=Zj j v;erw[_,S,p,CM,A,y,S,(by rw[Zd a1];rwa[j]),Tm.cl,Tm.ny,(yU s aA),Ay (k:=6) j v s λH7 E g7 y n a9 j=>r _ _ ?_];erw[Yq λr s=>?_];erw[aB S,λT r=>?_];let a5:p≠T:=Zj n r;erw[_,S,p,CM,A,E,S,(by rw[Zd a5];rwa[n]),Tm.cl,Tm.nv,(yU y aA),Ay (k:=7) n r y λH8 f8 g8 E n a7 y=>s _ _ ?_];intro dp X;let a8:p≠dp:=Zj n X;erw[_,S,p,CM,A,f8,S,(by rw[Zd a8];rwa[n]),Tm.cl,Tm.np,(yU E aA),Ay (k:=8) n X E λE n g9 l9 a4 b8 s=>?_];let k1:=a6;let k2:∀b o,H b=_s o->b≠p->H2 b=_s o:=λb o e n=>m b o (u b o (k1 b o e n)) n;let k3:∀b o,H b=_s o->b≠p->H3 b=_s o:=λb o e n=>x b o (k2 b o e n) n;let k4:∀b o,H b=_s o->b≠p->H4 b=_s o:=λb o e n=>i b o (k3 b o e n) n;let k5:∀b o,H b=_s o->b≠p->H5 b=_s o:=λb o e n=>d b o (k4 b o e n) n;let k6:∀b o,H b=_s o->b≠p->H6 b=_s o:=λb o e n=>f b o (k5 b o e n) n;let k7:∀b o,H b=_s o->b≠p->H7 b=_s o:=λb o e n=>j b o (k6 b o e n) n;let k8:∀b o,H b=_s o->b≠p->H8 b=_s o:=λb o e n=>y b o (k7 b o e n) n;let k9:∀b o,H b=_s o->b≠p->E b=_s o:=λb o e n=>s b o (k8 b o e n) n;let q2:=m;let q3:∀b o,g b=_s o->b≠p->H3 b=_s o:=λb o e n=>x b o (q2 b o e n) n;let q4:∀b o,g b=_s o->b≠p->H4 b=_s o:=λb o e n=>i b o (q3 b o e n) n;let q5:∀b o,g b=_s o->b≠p->H5 b=_s o:=λb o e n=>d b o (q4 b o e n) n;let q6:∀b o,g b=_s o->b≠p->H6 b=_s o:=λb o e n=>f b o (q5 b o e n) n;let q7:∀b o,g b=_s o->b≠p->H7 b=_s o:=λb o e n=>j b o (q6 b o e n) n;let q8:∀b o,g b=_s o->b≠p->H8 b=_s o:=λb o e n=>y b o (q7 b o e n) n;let q9:∀b o,g b=_s o->b≠p->E b=_s o:=λb o e n=>s b o (q8 b o e n) n;let b2:E ld=_s (.lst []):=(s _ _ (y _ _ (j _ _ (f _ _ (d _ _ (i _ _ (x _ _ (m _ _ (u _ _ B) a.6) a.6) a.6) a.6) a.6) a.6) a.6) a.6);let g:H ld=none:=a2;let b1:E N=_s (.lst []):=(s _ _ (y _ _ (j _ _ (f _ _ (d _ _ (i _ _ G c.6) c.6) c.6) c.6) c.6) c.6);let g:H N=none:=by
  cases g:H N with
  | none=>rfl
  | some o=>have:=k2 _ _ g c.6;rw[Y] at this;ext this
 let b3:E O=_s (.lst []):=(s _ _ (y _ _ (j _ _ (f _ _ (d _ _ M h.6) h.6) h.6) h.6) h.6);let a2:H O=none:=by
  cases g:H O with
  | none=>rfl
  | some o=>have:=k3 _ _ g h.6;rw[J] at this;ext this
 let b4:E Q=_s (.lst []):=(s _ _ (y _ _ (j _ _ (f _ _ a0 t.6) t.6) t.6) t.6);let a2:H Q=none:=by
  cases g:H Q with
  | none=>rfl
  | some o=>have:=k4 _ _ g t.6;rw[F] at this;ext this
 let b5:E R=_s (.lst []):=(s _ _ (y _ _ (j _ _ a3 I.6) I.6) I.6);let a2:H R=none:=by
  cases g:H R with
  | none=>rfl
  | some o=>have:=k5 _ _ g I.6;rw[z] at this;ext this
 let b7:E U=_s (.lst []):=(s _ _ (y _ _ a9 a1.6) a1.6);let y:H U=none:=by
  cases g:H U with
  | none=>rfl
  | some o=>have:=k6 _ _ g a1.6;rw[v] at this;ext this
 let b6:E T=_s (.lst []):=(s _ _ a7 a5.6);let s:H T=none:=by
  cases g:H T with
  | none=>rfl
  | some o=>have:=k7 _ _ g a5.6;rw[r] at this;ext this
 let b0:E dp=_s (.dK []):=b8;let b8:H dp=none:=by
  cases g:H dp with
  | none=>rfl
  | some o=>have:=k8 _ _ g a8.6;rw[X] at this;ext this
 let a1:ld≠N:=Zj (m _ _ (u _ _ B) a.6) Y;let Y:ld≠O:=Zj (x _ _ (m _ _ (u _ _ B) a.6) a.6) J;let a2:ld≠Q:=Zj (i _ _ (x _ _ (m _ _ (u _ _ B) a.6) a.6) a.6) F;let a5:ld≠R:=Zj (d _ _ (i _ _ (x _ _ (m _ _ (u _ _ B) a.6) a.6) a.6) a.6) z;let a7:ld≠U:=Zj (f _ _ (d _ _ (i _ _ (x _ _ (m _ _ (u _ _ B) a.6) a.6) a.6) a.6) a.6) v;let a6:ld≠T:=Zj (j _ _ (f _ _ (d _ _ (i _ _ (x _ _ (m _ _ (u _ _ B) a.6) a.6) a.6) a.6) a.6) a.6) r;let m:N≠O:=Zj G J;let s:N≠Q:=Zj (i _ _ G c.6) F;let u:N≠R:=Zj (d _ _ (i _ _ G c.6) c.6) z;let y:N≠U:=Zj (f _ _ (d _ _ (i _ _ G c.6) c.6) c.6) v;let x:N≠T:=Zj (j _ _ (f _ _ (d _ _ (i _ _ G c.6) c.6) c.6) c.6) r;let c:O≠Q:=Zj M F;let i:O≠R:=Zj (d _ _ M h.6) z;let F:O≠U:=Zj (f _ _ (d _ _ M h.6) h.6) v;let B:O≠T:=Zj (j _ _ (f _ _ (d _ _ M h.6) h.6) h.6) r;let d:Q≠R:=Zj a0 z;let G:Q≠U:=Zj (f _ _ a0 t.6) v;let h:Q≠T:=Zj (j _ _ (f _ _ a0 t.6) t.6) r;let J:R≠U:=Zj a3 v;let t:R≠T:=Zj (j _ _ a3 I.6) r;let j:U≠T:=Zj a9 r;let r:¬own L [] (λ_=>0) p:=λz=>by
  rcases z with z | z | z | z | z | ⟨n,l,e,z⟩
  .rwa[px z]
  .grind
  .grind
  .grind
  .grind
  .ext e
 let v:Fk C E L [] (λ_=>0):=K2.at λb o hb e=>q9 b o e λz=>r (z▸hb);let a:∀b,H1 b=_n->b≠p->H b=none:=λb hb n=>by
  cases g:H b with
  | none=>rfl
  | some o=>have:=k1 _ _ g n;rw[hb] at this;ext this
 let a4:E p=_s (.ins CM A _):=a4.trans (congrArg (λf=>_s (HO.ins CM A f)) (g9.symm.trans (congrArg (Zu _ _) (g8.symm.trans (congrArg (Zu _ _) (g7.symm.trans (congrArg (Zu _ _) (g6.symm.trans (congrArg (Zu _ _) (g5.symm.trans (congrArg (Zu _ _) (g4.symm.trans (congrArg (Zu _ _) (g3.symm.trans (congrArg (Zu _ _) (g2.symm.trans (congrArg (Zu _ _) g1.6)))))))))))))))));let f:¬own L [] (λ_=>0) dp:=λz=>by
  let(o,e,_):=K2.there z;have:=q8 _ _ e a8.6;rw[X] at this;ext this
 erw[k (p,L,ld,N,O,Q,R,U,T,dp) E S ((A,a4),v,λq g=>?_,b3,S,([],b0,xE _,λ_=>rfl),?_,(λ_ z=>nomatch z),(λ_ z=>nomatch z),px,f) k9 (λb hb=>?_)]
 .simp only[Mo.at_,mo0,xD,List.zip_nil_left,xW,or_false] at g;rcases g with rfl | rfl | rfl | rfl | rfl | rfl
  .rwa[[],b2,rfl]
  .rwa[[],b1,rfl]
  .rwa[[],b4,rfl]
  .rwa[[],b5,rfl]
  .rwa[[],b7,rfl]
  .rwa[[],b6,rfl]
 .simp only[ML.ls,yC,yK,xD,xW,or_false,not_or,not_false_eq_true,wS,and_true];rwa[(Ne.symm Y,Ne.symm m,c,i,F,B),(a1,a2,a5,a7,a6),(s,u,y,x),(d,G,h),(J,t),j]
 .rcases hb with z | z | z | z | z
  .rwa[.inl z]
  .rw[z];rwa[.inr b8]
  .simp only[ML.ls,yC,xD,xW,or_false] at z;rcases z with rfl | rfl | rfl | rfl | rfl | rfl | rfl<;>rwa[.inr (by assumption)]
  .ext z
  .let c:b≠p:=λy=>r (y▸z);erw[.inr ?_];rcases z with z | z | z | z | z | ⟨n,l,e,z⟩
   .rwa[a b (by rw[z];rwa[nx]) c]
   .rwa[a b (W b (.inl z)) c]
   .rwa[a b (W b (.inr (.inl z))) c]
   .rwa[a b (W b (.inr (.inr (.inl z)))) c]
   .rwa[a b (W b (.inr (.inr (.inr z)))) c]
   .ext e
end
inductive AD where
 | s (d:SD) | c (d:CD) (a a:Int) (a a:jJ) (f:Str->Int)
abbrev U8:=List ZK×Mo
def Ji(s:U8):AD->U8
 | .s d=>(sdF s.1 d,s.2.sd d)
 | .c d b a c e f=>(s.1,s.2.iq b a f c e d)
def Zg(as:List AD):U8:=as.foldl Ji ([],mo0)
def sdD:SD->D
 | .come n a b=>coD n a b
 | .rise n a b=>riD n a b
 | .die n b a=>diD n b a
 | .pen n=>.tup [.str "penance", .str n]
 | .bring n a=>Nr n a
 | .give i x y a=>gvD i.toNat x y a
 | .pay x y b a=>pyD x y b a
def cdD(day a:Int)(c d:jJ):CD->D
 | .wer x y b=>weD x y b day a c d
 | .clm x i=>clD x i.toNat day a c d
 | .acc i n=>acD i n day a c d
def adD:AD->D
 | .s d=>sdD d
 | .c d b a c e _=>cdD b a c e d
def Im:SD->Prop
 | .give i _ _ _=>0<=i
 | _=>True
def MO:CD->Prop
 | .clm _ i=>0<=i
 | _=>True
def HM(s:U8):AD->Prop
 | .s d=>sdOk s.1 s.2 d/\eSD s.1 s.2 d=_n/\Im d
 | .c d a b c e f=>cdOk d/\WY s.2/\s.1.9<=1000/\c.9<=60/\e.9<=60/\okI a/\okI b/\(∀n∈c++e,n.9<=100/\∀d,Zp s.1 n=_s d->d<=a->AN (kw s.1 n) a (f n)/\1<=f n/\f n<=1000)/\eCD s.1 s.2 a b f c e d=_n/\MO d
def VB(as:List AD):Prop:=as.9<=400/\∀i a,as[i]?=_s a->HM (Zg (as.take i)) a
def OR(s:U8)(a:AD):(Ji s a).2.ip=s.2.ip ++ [adD a]:=by
 cases a with
 | s d=>ext d<;>rfl
 | c d e b g h f=>ext d<;>rfl
theorem MN:∀(as:List AD)(s:U8),(as.foldl Ji s).2.ip=s.2.ip++as.map adD
 | [],s=>by simp
 | a::as,s=>by
  rw[zX,MN as,yD,OR,yX];rfl
def Oc(as:List AD):(Zg as).2.ip=as.map adD:=by unfold Zg;rw[MN];rfl
def JH(as:List AD)(a:AD):Zg (as ++ [a])=Ji (Zg as) a:=by unfold Zg;rw[zQ];rfl
def CW(as:List AD):(Zg as).2.ip.9=as.9:=by rw[Oc,xA]
def VB.snoc(h:VB as)(b:as.9<400)(g:HM (Zg as) a):VB (as ++ [a]):=by
 erw[by rw[xG];show as.9+1<=400;lia,λi p b=>?_];rcases Nat.lt_or_ge i as.9 with z | z
 .rw[wF z] at b;rw[List.take_append_of_le_length (yS z)];rwa[h.2 i p b]
 .grind
def scD:D->Bool
 | .str _=>_t
 | .int _=>_t
 | .non=>_t
 | .bl _=>_t
 | _=>_x
def Mf(h:scD d=_t):isI d "list"=false:=by ext d<;>first | rfl | ext h
def fQ(h:scD d=_t)(a:YA H d u)(b:YA J d v):v=u:=by
 ext d<;>first | (ext h;done) | (ext a;ext b;rfl)
theorem GB:∀{F:List D}{us vs:aG},(∀d∈F,scD d=_t)->ZI H F us->ZI J F vs->vs=us
 | [],_,_,_,a,b=>by ext a;ext b;rfl
 | d::F,_,_,h,⟨_,_,rfl,a,a'⟩,⟨_,_,rfl,b,b'⟩=>by rw[fQ (h d xZ) a b,GB (λx a=>h x (xM _ a)) a' b']
def sdP:SD->List D
 | .come n a b=>[.str "come", .str n,.int a,.int b]
 | .rise n a b=>[.str "rise", .str n,.int a,.int b]
 | .die n b a=>[.str "die", .str n,.int a,.str b]
 | .pen n=>[.str "penance", .str n]
 | .bring n a=>[.str "bring", .str n,.int a]
 | .give i x y a=>[.str "give", .int i,.str x,.str y,.int a]
 | .pay x y b a=>[.str "pay", .str x,.str y,.int b,.int a]
def EI(d:SD):∀x∈sdP d,scD x=true:=by ext d<;>simp[sdP,scD]
def BP(H:Hp)(d:SD):ZI H (sdP d) (sdV d):=by ext d<;>(repeat erw[_,_,S,S,?_])<;>rwa[rfl]
def cdP(day a:Int)(c d:jJ):CD->List D
 | .wer x y b=>[.str "wergild", .str x,.str y,.int b,.int day,.int a,.lst (c.map D.str),.lst (d.map D.str)]
 | .clm x i=>[.str "claim", .str x,.int i,.int day,.int a,.lst (c.map D.str),.lst (d.map D.str)]
 | .acc i n=>[.str "accuse", .int i,.str n,.int day,.int a,.lst (c.map D.str),.lst (d.map D.str)]
theorem Ek:∀{o:jJ}{vs:aG},ZI H (o.map D.str) vs->vs=o.map V.str
 | [],_,h=>h
 | _::_,_,⟨_,_,e,rfl,h⟩=>by rw[e,Ek h];rfl
def IU(h:ZI H (cdP day need o1 o2 d) vs):∃b c,vs=cdV day need b c d/\H b=_s (.lst (o1.map V.str))/\H c=_s (.lst (o2.map V.str)):=by
 let a:∀{o:jJ}{v:V},YA H (.lst (o.map D.str)) v->∃l,v=.ref l/\H l=_s (.lst (o.map V.str)):=λh=>by
  let(l,g,S,e,f):=h;rwa[l,S,by rw[e,Ek f]]
 cases d with
 | wer x y m =>
  let(_,_,S,S,(_,_,S,S,(_,_,S,S,(_,_,S,S,(_,_,S,S,(_,_,S,S,(_,_,S,g,(_,_,S,j,S)))))))):=h;let(b,S,e):=a g;let(c,S,f):=a j;rwa[b,c,S,e,f]
 | clm x i =>
  let(_,_,S,S,(_,_,S,S,(_,_,S,S,(_,_,S,S,(_,_,S,S,(_,_,S,g,(_,_,S,j,S))))))):=h;let(b,S,e):=a g;let(c,S,f):=a j;rwa[b,c,S,e,f]
 | acc i n =>
  let(_,_,S,S,(_,_,S,S,(_,_,S,S,(_,_,S,S,(_,_,S,S,(_,_,S,g,(_,_,S,j,S))))))):=h;let(b,S,e):=a g;let(c,S,f):=a j;rwa[b,c,S,e,f]
section
variable{C CM:jP}
def plD(d:D):Prop:=scD d=_t\/∃o:List Str,d=.lst (o.map D.str)/\o.9<=60
inductive J3(vs:aG)(H:Hp)(Q:VK)(a:XK):Prop
 |mk(p) (us) (F)(_:vs=[.ref p])(_:H p=_s (.tup us))(_:ZI H F us)(_:(∀d∈F,plD d))(_:F.9<=10)(_:∀q a J,H q=_n->J q=_s (.tup a)->ZI J F a->(∀l,V.ref l∈a->H l=_n)->ZC H J->Q (.ref q) J)
abbrev GJ:Stmt:=top 78
def NW(t:YC K mg "_law_hand" GJ)(T:Txt mg):Fn P w K mg Z "_law_hand" lF 1 J3:=by
 erw[t.fq lF λH vs Q E A h=>?_];let(p,R,F,rfl,M,A,Y,I,k):=h
 refine(rfl,_,(Zf (Zv (J4 QK T.tuple Gz (Za (Vg (locs:=["_law_part"]) (fr:=[]) (rfl,aA,aA,aA,aA,aA) .nil rfl (HY Q0) ⟨λ_ _ _ _ _ _=>by
  let u:(inN ["_law_part"] []).Nodup:=aA
  rwa[(Y6 0 u),Jz,(cH (Wq (Z1 Ig T.isinstance Uj (Za (Yj 0) (Za (Uk (v:=.ty "list") T.list V8 rfl (n:=nmC)) Zb)) (n:=nmC))) (J4 jB T.list V8 (Za (Yj 0) Zb) (n:=nmC)) (Yj 0))]⟩) Zb)))),?_)
 let B:R.9=F.9:=A.9;let hz:=aC
 erw[_,rfl,p,rfl,(_,ZR.of M),?_];erw[KF (L:=R) (λi a J=>ZC H J/\ZI J (F.take i) a/\∀l,V.ref l∈a->H l=_n) (ZC.refl H,rfl,(λl h=>nomatch h)) () (λi a J _ ⟨e,_⟩=>ZR.of (e _ _ M)) (λi a J ⟨_,e,_⟩=>by rw[e.9,xY];lia) ?_ ?_]
 .rintro i v a J hv ⟨S,r,j⟩ ls y;let(w0,rfl):=Uz y;let(d,G,c):=A.get hv;let c:=YA.mono S _ _ c;let(O,f,x):=isi (K:=K) c "list" aA;let U:F.take (i+1)=F.take i ++ [d]:=by rw[xQ,G];rfl
  rw[U];erw[([_],rfl,rfl),?_];rcases Y d (xN G) with z | ⟨o,rfl,ho⟩
  .rw[Mf z] at x;erw[_,rfl,v, "list", O,_,rfl,f,x,_,rfl,Zz (_,rfl,S,r.snoc c,λl h=>?_)];rcases xK.mp h with h | h
   .rwa[j l h]
   .have:=xV.mp h;subst this;ext d<;>first | (ext z;done) | ext c
  .let(N,g,rfl,W,X):=id c;erw[_,rfl,.ref N, "list", O,_,rfl,f,x,_,rfl,Z6 (_,rfl,N,_,rfl,.inl (ZG.of W),λq b=>?_)];let s:=ZC.new (o:=.lst g) b;erw[S.trans s,ZI.snoc (show YA _ (.lst (o.map D.str)) (.ref q) from(q,g,rfl,Zi,ZI.mono s _ _ X)) (ZI.mono s _ _ r),λl h=>?_];rcases xK.mp h with h | h
   .rwa[j l h]
   .cases xV.mp h;rwa[S.free b]
 .rintro a J ⟨S,r,j⟩ l I;rw[B,xR] at r;erw[nw (o:=.lst a) I λH1 m k1=>?_];rwa[l,_,rfl,.inl (ZG.of k1,λq b=>k q a _ ((S.trans m).free b) Zi (ZI.mono (m.trans (ZC.new b)) _ _ r) j ((S.trans m).trans (ZC.new b)))]
def Rx(b:o1.9<=60)(c:o2.9<=60)(d:CD):∀x∈cdP day need o1 o2 d,plD x:=by
 let a:plD (.lst (o1.map D.str)):=.inr (o1,S,b);let b:plD (.lst (o2.map D.str)):=.inr (o2,S,c);let c:∀x,plD (.str x):=λ_=>.inl S;let e:∀x,plD (.int x):=λ_=>.inl S;ext d<;>simp[cdP,a,b,c,e]
def LF(b:H l1=_s (.lst (o1.map V.str)))(c:H l2=_s (.lst (o2.map V.str)))(d:CD):ZI H (cdP day need o1 o2 d) (cdV day need l1 l2 d):=by
 let a:YA H (.lst (o1.map D.str)) (.ref l1):=(l1,_,S,b,JF H o1);let b:YA H (.lst (o2.map D.str)) (.ref l2):=(l2,_,S,c,JF H o2);let t:ZI H [.lst (o1.map D.str),.lst (o2.map D.str)] [.ref l1,.ref l2]:=(_,_,S,a,(_,_,S,b,S));ext d
 .rwa[_,_,S,S,(_,_,S,S,(_,_,S,S,(_,_,S,S,(_,_,S,S,(_,_,S,S,t)))))]
 all_goals rwa[_,_,S,S,(_,_,S,S,(_,_,S,S,(_,_,S,S,(_,_,S,S,t))))]
def YE.x(h:YE C CM H p F m O)(hs:H s=_s (.lst ys))(a:¬O s)(k:ZF s H J):YE C CM J p F m O:=by
 let(M,c,L,b,e,W,S):=h;rwa[M,c,L,b,e,W.x hs a k,rfl]
def trd{c:Type _}(e:Option Str)(a b:c):c:=match e with
 | none=>a
 | some _=>b
def Gp(C CM:jP)(Q:V->Hp->Prop)(H:Hp)(p:jP)(O:jP->Prop)(b:List ZK)(c:Mo)(d:aG):Prop:=∀a l J,YE C CM J p b c a->YK O H a J->¬a l->J l=_s (.lst d)->Q (.ref l) J
inductive WR(C CM:jP)(vs:aG)(H:Hp)(Q:VK)(b:XK):Prop
 |mk(p) (F) (m) (O) (a) (d)(_:vs=[.ref p,.ref a])(_:YE C CM H p F m O)(_:H a=_s (.tup (sdV d)))(_:sdOk F m d)(_:(∀x,eSD F m d=_s x->x∈errs))(_:Gp C CM Q H p O (trd (eSD F m d) (sdF F d) F) (trd (eSD F m d) (m.sd d) m) (trd (eSD F m d) [sdR m d] []))
inductive WT(C CM:jP)(vs:aG)(H:Hp)(Q:VK)(b:XK):Prop
 |mk(p) (F) (m) (O) (a) (d) (day need) (l1 l2) (o1 o2) (f)(_:vs=[.ref p,.ref a])(_:YE C CM H p F m O)(_:H a=_s (.tup (cdV day need l1 l2 d)))(_:AF F m H l1 l2 o1 o2 day need f)(_:cdOk d)(_:(∀x,eCD F m day need f o1 o2 d=_s x->x∈errs))(_:Gp C CM Q H p O F (trd (eCD F m day need f o1 o2 d) (m.iq day need f o1 o2 d) m) (trd (eCD F m day need f o1 o2 d) [.int m.oX.9] []))
abbrev Gn:Stmt:=top 79
theorem Pr:ZP ["_law_moot","_law_deed_here","_law_handed","_law_told","_law_part"] lO (Zm Gn):=fsc
def cW(Zju:YC K mg "_law_try" Gn)(T:Txt mg)(er:Er K mg c errs)(Z3t:Fn P w K mg Z "_law_hand" lF 1 J3)(Z3u:WA P w K mg Z "done" 8 (Sp.or (VW C CM c) (VU C CM c))):Fn P w K mg Z "_law_try" lO 9 (Sp.or (WR C CM) (WT C CM)):=by
 erw[Zju.fn0 Pr (λ_ _ _ _ _ _=>al2 λ_ _=>rfl) (λvs H Q E h=>?_) (λf cdv A outer s H vs Q E hr h=>?_)]
 .rcases h with⟨p,F,m,O,a,d,rfl,_⟩ | ⟨p,F,m,O,a,d,day,need,l1,l2,o1,o2,f,rfl,_⟩<;>rfl
 .refine(_,(CF (QS.q0 (Zw 2 (Zk Z3t (Za Q1 Zb)))) (CF (QS.q0 (Zw 3 (Yn Zb))) (CF (NO KI (λ_ _ hx=>(Zf (Zw 3 (Yn (Za (Wm hx Z3u (Za Q0 (Za Q2 Zb))) Zb))))) (Pu KI (er.m) (λ_ _=>(Zf (Zw 3 (Yn Zb)))) OX)) (CF (QS.q0 (Y5 mO rfl (Ys (Vg (locs:=["_law_part"]) (fr:=[]) (rfl,aA,aA,aA,aA,aA) .nil rfl (HY Q2) ⟨λ_ _ _ _ _ _=>by
  let cnd:(inN ["_law_part"] []).Nodup:=aA
  rwa[(Y6 0 cnd),(Jb (Wq (Z1 Ig T.isinstance Uj (Za (Yj 0) (Za (Uk (v:=.ty "list") T.list V8 rfl (n:=nmC)) Zb)) (n:=nmC)))),(Yj 0)]⟩)) (Z8 4)
 (Zf (Zl (Oz aD PySem.F.slot_list_clear PySem.F.type_list_clear iN Q4)))))
 (CF (QS.q0 (Zv Q3))
 (WZ.q0 Zr)))))),?_)
  let hz:=aC
  obtain⟨p,F,m,O,a,us,ps,hvs,W,ha,hr0,hpl,hps,hk⟩:∃(p:jP)(F:List ZK)(m:Mo)(O:jP->Prop)(a:jP)(us:aG)(ps:List D),vs=[.ref p,.ref a]/\YE C CM H p F m O/\H a=_s (.tup us)/\ZI H ps us/\(∀x∈ps,plD x)/\ps.9<=10 /\
    ∀(q:jP)(ys:aG)(H2:Hp),ZC H H2->H2 q=_s (.tup ys)->ZI H2 ps ys->(∀l,V.ref l∈ys->H l=_n)->
     ∃ds' m' tv,Gp C CM Q H p O ds' m' tv/\∀(R:V->Hp->Prop)(E:XK),(∀(v:V)(O':jP->Prop)(H3:Hp),tv=[v]->YE C CM H3 p ds' m' O'->YK O H2 O' H3->R v H3)->(∀x H3,x∈errs->tv=[]->ds'=F->m'=m->ZC H2 H3->E (.ref (c x)) _n H3)->(Sp.or (VW C CM c) (VU C CM c)) [.ref p,.ref q] H2 R E:=by
   rcases h with⟨p,F,m,O,a,d,rfl,W,ha,hd,he,k⟩ | ⟨p,F,m,O,a,d,day,need,l1,l2,o1,o2,f,rfl,W,ha,cs,hd,he,k⟩
   .erw[p,F,m,O,a,_,sdP d,rfl,W,ha,BP H d,λx hx=>.inl (EI d x hx),by ext d<;>simp[sdP],λq ys H2 S kq hy _=>(_,_,_,k,λR E g b=>.inl (p,F,m,O,q,d,rfl,W.same S,by rw[kq,GB (EI d) (BP H d) hy],hd,?_))];cases e:eSD F m d with
    | none=>rw[e] at g;rwa[λO' H3 W3 F3=>g _ O' H3 rfl W3 F3]
    | some x=>rw[e] at b;rwa[λH3 S3=>b x H3 (he x e) rfl rfl rfl S3]
   .erw[p,F,m,O,a,_,cdP day need o1 o2 d,rfl,W,ha,LF cs.h1 cs.h2 d,Rx cs.n1 cs.n2 d,by ext d<;>simp[cdP],λq ys H2 S kq hy fr=>(_,_,_,k,λR E g b=>?_)];let(m1,m2,rfl,h1,h2):=IU hy;erw[.inr (p,F,m,O,q,d,day,need,m1,m2,o1,o2,f,rfl,W.same S,kq,(cs.ok,cs.hd,h1,h2,cs.n1,cs.n2,cs.di,cs.ni,cs.hw),W.out (fr m1 (by ext d<;>simp[cdV])),W.out (fr m2 (by ext d<;>simp[cdV])),hd,?_)];cases e:eCD F m day need f o1 o2 d with
    | none=>rw[e] at g;rwa[λO' H3 W3 F3=>g _ O' H3 rfl W3 F3]
    | some x=>rw[e] at b;rwa[λH3 S3=>b x H3 (he x e) rfl rfl rfl S3]
  subst hvs;erw[_,rfl,a,us,ps,rfl,ha,hr0,hpl,hps,λq ys H1 hq kq hy fr S1=>?_];erw[Yb ?_];dsimp only [Y0];erw[aB rfl,λl0 hl0=>?_];let S2:=S1.trans (ZC.new (o:=.lst []) hl0);let kq2:=(ZC.new (o:=.lst []) hl0) _ _ kq;let hy2:=ZI.mono (ZC.new (o:=.lst []) hl0) _ _ hy;generalize (upd H1 l0 (.lst []))=H2 at S2 kq2 hy2 |-;erw[Yb ?_];dsimp only [Y0];let(ds',m',tv,k,g):=hk q ys H2 S2 kq2 hy2 fr;let ref:∀{l:jP},V.ref l∈ys->∃L:List Str,H2 l=_s (.lst (L.map V.str)):=λ{l} h=>by
   let(i,hi):=wE h;let(d,hd,re):=hy2.get hi;rcases hpl d (xN hd) with z | ⟨o,rfl,_⟩
   .ext d<;>first | (ext z;done) | ext re
   .let(b,us,e,e1,e2):=re;ext e;rwa[o,by rw[e1,Ek e2]]
  erw[Jy (λY H4=>∃(O':jP->Prop)(l:jP),Y=[_s (.ref p),_s (.ref a),_s (.ref q),_s (.ref l),_n]/\YE C CM H4 p ds' m' O'/\YK O H2 O' H4/\¬O' l/\H4 l=_s (.lst tv)/\∀b,V.ref b∈ys->b≠l) ?_ ?_]
  .rintro Y H4 ⟨O',l,rfl,W4,F4,nl,kl,hne⟩;let at4:∀{b:jP}{o:HO},H b=_n->H2 b=_s o->H4 b=_s o/\¬O' b:=λe e2=>(F4.1 _ _ e2 (W.out e),λz=>(F4.2 _ z).elim (W.out e) (λy=>by rw[e2] at y;ext y));let kq4:=(at4 hq kq2).1;erw[_,rfl,q,rfl,(_,ZR.of kq4),?_];let hyl:=hy2.9;erw[KF (L:=ys) (λi zs J=>J=H4/\zs.9<=i/\∀z∈zs,∃b,z=.ref b/\z∈ys) (rfl,yJ _,(λz h=>nomatch h)) () (λi zs J _ ⟨e,_⟩=>by rw[e];rwa[ZR.of kq4]) (λi zs J ⟨_,e,_⟩=>e) ?_ ?_]
   .rintro i v zs J hv ⟨rfl,hl,hz'⟩ ls hls;let(w0,rfl):=Uz hls;let(d,hd,re):=hy2.get hv;let hm:=xN hv;erw[([_],rfl,rfl),?_];rcases hpl d (xN hd) with z | ⟨o,rfl,_⟩
    .let re':YA J d v:=by ext d<;>first | (ext z;done) | rwa[re]
     let(t1,ty1,e1):=isi (K:=K) re' "list" aA;rw[Mf z] at e1;rwa[_,rfl,v, "list", t1,_,rfl,ty1,e1,_,rfl,Zz (rfl,(),hz')]
    .let(b,us,rfl,e1,e2):=re;let re':YA J (.lst (o.map D.str)) (.ref b):=(b,us,rfl,(at4 (fr b hm) e1).1,by rw[Ek e2];rwa[JF _ _]);let(t1,ty1,e1):=isi (K:=K) re' "list" aA;erw[_,rfl,.ref b, "list", t1,_,rfl,ty1,e1,_,rfl,Z6 (_,rfl,rfl,by rw[xG];show _+1<=_;lia,λz h=>?_)];rcases xK.mp h with h | h
     .rwa[hz' z h]
     .grind
   .rintro zs J ⟨rfl,hl,hz'⟩ l5 hl5;let S5:=ZC.new (o:=.lst zs) hl5;let k5:(upd J l5 (.lst zs)) l5=_s (.lst zs):=Zi;let n5:=W4.out hl5;let W5:=W4.same S5;let F5:=((YK.same S2).trans F4).trans (YK.same S5);let kl5:=S5 _ _ kl;let ne5:∀{b:jP}{o:HO},J b=_s o->b≠l5:=λe=>Zj e hl5;let in5:∀{b:jP},V.ref b∈ys->¬O' b/\b≠l5/\∃L,(upd J l5 (.lst zs)) b=_s (.lst L):=λ{b} h=>by
     let(L,e):=ref h;let(a1,a2):=at4 (fr b h) e;rwa[a2,ne5 a1,_,S5 _ _ a1]
    generalize (upd J l5 (.lst zs))=H5 at W5 F5 kl5 k5 in5 |-;erw[l5,rfl,(_,ZG.of k5),?_];erw[Ws zs (λi Y H6=>(∃v4:Option V,Y=[_s (.ref p),_s (.ref a),_s (.ref q),_s (.ref l),v4])/\YE C CM H6 p ds' m' O'/\YK O H O' H6/\H6 l=_s (.lst tv)/\H6 l5=_s (.lst zs)/\∀b,V.ref b∈ys->∃L,H6 b=_s (.lst L)) ((_n,rfl),W5,F5,kl5,k5,λb h=>(in5 h).2.2) (λi Y H6 _ ⟨_,_,_,_,e,_⟩=>ZG.of e) ?_ ?_]
    .rintro i v Y H6 hv ⟨⟨v4,rfl⟩,W6,F6,kl6,k6,in6⟩;let(b,rfl,hb):=hz' v (xN hv);let(L,e):=in6 b hb;let kx:ZF b H6 (upd H6 b (.lst [])):=ZF.upd;erw[_,rfl,.inl (rfl,_,ZG.of e),b,L,rfl,rfl,e,(_,rfl),W6.x e (in5 hb).1 kx,(λb' o e' n'=>kx _ _ (Zj e' (fr b hb)) (F6.1 _ _ e' n'),F6.2),kx _ _ (hne b hb).symm kl6,kx _ _ (in5 hb).2.1.symm k6,λb' hb'=>?_]
     by_cases z:b'=b
     .rw[z];rwa[_,Zi]
     .let(xs',e'):=in6 b' hb';rwa[xs',kx _ _ z e']
    .rintro Y H6 ⟨⟨v4,rfl⟩,W6,F6,kl6,k6,in6⟩;rwa[_,rfl,k O' l H6 W6 F6 nl kl6]
  .intro D' hn _ _ _;erw[_,rfl,_,rfl,g _ _ (λv O' H3 etv W3 F3=>?_) (λx H3 hx etv ed em S3=>?_)]
   .erw[aB rfl,λl hl=>?_];erw[Yb (hn _ _ (O',l,rfl,W3.same (ZC.new hl),F3.trans (YK.same (ZC.new hl)),W3.out hl,by rw[etv];rwa[Zi],λb hb=>?_))];let(L,e):=ref hb;rwa[Zj (F3.1 _ _ e (W.out (fr b hb))) hl]
   .erw[_,rfl,_,er.e x hx,Z6 (aB rfl,λl hl=>?_)];let S4:=S3.trans (ZC.new (o:=.lst []) hl);erw[Yb (hn _ _ (O,l,rfl,by rw[ed,em];rwa[(W.same S2).same S4],YK.same S4,W.out ((S2.trans S3).free hl),by rw[etv];rwa[Zi],λb hb=>?_))];let(L,e):=ref hb;rwa[Zj (S3 _ _ e) hl]
end
section
def adP:AD->List D
 | .s d=>sdP d
 | .c d b a c e _=>cdP b a c e d
def adT(a:AD):D:=.tup (adP a)
def isC:AD->Bool
 | .s _=>_x
 | .c ..=>_t
def BI(h:YA (fz fx H) (adT (.s d)) v):∃q,v=.ref q/\H q=_s (.tup (sdV d)):=by
 let(a,e,S,b,c):=h;rwa[a,S,by rw[(Bz b).1,GB (EI d) (BP H d) c]]
def Ep(h:YA (fz fx H) (adT (.c d day need o1 o2 f)) v):∃q b c,v=.ref q/\H q=_s (.tup (cdV day need b c d))/\fz fx H b=_s (.lst (o1.map V.str))/\fz fx H c=_s (.lst (o2.map V.str)):=by
 let(a,e,S,i,j):=h;let(b,c,S,e,g):=IU j;rwa[a,b,c,S,(Bz i).1,e,g]
structure WL where
 wl:jP
 dl:jP
 sl:jP
 tl:jP
structure ZY (s:jP) (H:Hp) (fx:jM) (W:WL) (as bs:List AD) (ss:List ZV):Prop where
 e:H W.wl=_s (.lst [.ref W.dl,.ref W.sl,.ref W.tl])
 d:WD H fx W.dl (as.map adT)
 u:WD H fx W.sl (ss.map Wo)
 t:WD H fx W.tl (bs.map adT)
 ne:∀b∈W.wl::W.dl::W.sl::W.tl::fx,b≠s
 nd:[W.wl,W.dl,W.sl,W.tl].Nodup
 nx:∀b∈fx,b ∉ [W.dl,W.sl,W.tl]
variable{s la:jP}{H J:Hp}{fx:jM}{as:List AD}
def ZY.keep(h:ZY s H fx W as bs ss)(c:YB H J)(a:∀b∈W.wl::W.dl::W.sl::W.tl::fx,∀o,H b=_s o->J b=_s o):ZY s J fx W as bs ss:=by
 let f:ZC (fz fx H) (fz fx J):=Wu c (λx c=>a x (by simp[c])) λ_ z=>z;rwa[a _ (by simp) _ h.e,h.d.mono (a _ (by simp)) f,h.u.mono (a _ (by simp)) f,h.t.mono (a _ (by simp)) f,h.ne,h.nd,h.nx]
theorem ZY.same(h:ZY s H fx W as bs ss)(k:ZC H J):ZY s J fx W as bs ss:=h.keep (λ_ _ e=>k _ _ e) λ_ _ _ e=>k _ _ e
def ZY.x(h:ZY s H fx W as bs ss)(hs:ZL H s la)(k:ZF s H J):ZY s J fx W as bs ss:=by
 let(_,_,_,_,_,a,_):=hs;rwa[h.keep (λb u e=>k _ _ (λz=>by rw[z,a] at e;ext e) e) λb a o e=>k _ _ (h.ne b a) e]
def ZY.more(h:ZY s H fx W as bs ss)(c:∀b∈gx,b≠s)(d:∀b∈gx,b ∉ [W.dl,W.sl,W.tl]):ZY s H (gx++fx) W as bs ss:=by
 let f:ZC (fz fx H) (fz (gx++fx) H):=Wu (λ_ _ e=>e) (λ_ _ _ e=>e) λ_ z=>xO _ z;erw[h.e,h.d.mono (λ_ e=>e) f,h.u.mono (λ_ e=>e) f,h.t.mono (λ_ e=>e) f,λb a=>?_,h.nd,λb a=>(xK.mp a).elim (d b) (h.nx b)];let a:b ∈ [W.wl,W.dl,W.sl,W.tl]\/b∈gx\/b∈fx:=by simpa [or_assoc] using a
 rcases a with z | z | z
 .rwa[h.ne b (yP fx z)]
 .rwa[c b z]
 .rwa[h.ne b (by simp[z])]
def ZY.grow(h:ZY s H fx W as bs ss)(c:l ∈ [W.dl,W.sl,W.tl])(e:H l=_s (.lst vs)) :
  ZC (fz fx H) (fz fx (upd H l (.lst (vs ++ [v]))))/\(∀b,b≠l->b∈W.wl::W.dl::W.sl::W.tl::fx->∀o,H b=_s o->(upd H l (.lst (vs ++ [v]))) b=_s o):=by
 let a:ZF l H (upd H l (.lst (vs ++ [v]))):=ZF.upd;rwa[Wu (λb u y=>a _ _ (λz=>by rw[z,e] at y;ext y) y) (λx d o y=>a _ _ (λz=>h.nx x d (z▸c)) y) λ_ z=>z,λb n _ o y=>a _ _ n y]
def WD.snoc(h:WD H fx l c)(e:H l=_s (.lst vs))(f:ZC (fz fx H) (fz fx (upd H l (.lst (vs ++ [v])))))(b:YA (fz fx H) d v):WD (upd H l (.lst (vs ++ [v]))) fx l (c ++ [d]):=by
 let(g,a,r):=h;rw[e] at a;ext a;rwa[_,Zi,ZI.snoc (YA.mono f _ _ b) (r.oA f)]
def ZY.wne(h:ZY s H fx W as bs ss):W.wl≠W.dl/\W.wl≠W.sl/\W.wl≠W.tl/\W.dl≠W.sl/\W.dl≠W.tl/\W.sl≠W.tl:=by
 have:=h.nd;simp only[yK,xD,xW,or_false,not_or] at this;let((a,b,c),(d,e),f,_):=this;rwa[a,b,c,d,e,f]
def ZY.addU(h:ZY s H fx W as bs ss){vs:aG}{v:V}{t:ZV}(e:H W.sl=_s (.lst vs))(a:YA (fz fx H) (Wo t) v):ZY s (upd H W.sl (.lst (vs ++ [v]))) fx W as bs (ss ++ [t]):=by
 let(f,g):=h.grow (l:=W.sl) (v:=v) (by simp) e;let(i,b,j,c,k,d):=h.wne;rwa[g _ b (by simp) _ h.e,h.d.mono (g _ c (by simp)) f,by rw[xL];rwa[h.u.snoc e f a],h.t.mono (g _ d.symm (by simp)) f,h.ne,h.nd,h.nx]
def ZY.addT(h:ZY s H fx W as bs ss){vs:aG}{v:V}{x:AD}(e:H W.tl=_s (.lst vs))(a:YA (fz fx H) (adT x) v):ZY s (upd H W.tl (.lst (vs ++ [v]))) fx W as (bs ++ [x]) ss:=by
 let(f,g):=h.grow (l:=W.tl) (v:=v) (by simp) e;let(i,j,b,k,c,d):=h.wne;rwa[g _ b (by simp) _ h.e,h.d.mono (g _ c (by simp)) f,h.u.mono (g _ d (by simp)) f,by rw[xL];rwa[h.t.snoc e f a],h.ne,h.nd,h.nx]
def ZY.addD(h:ZY s H fx W as bs ss){vs:aG}{v:V}{x:AD}(e:H W.dl=_s (.lst vs))(a:YA (fz fx H) (adT x) v):ZY s (upd H W.dl (.lst (vs ++ [v]))) fx W (as ++ [x]) bs ss:=by
 let(f,g):=h.grow (l:=W.dl) (v:=v) (by simp) e;let(b,i,j,c,d,k):=h.wne;rwa[g _ b (by simp) _ h.e,by rw[xL];rwa[h.d.snoc e f a],h.u.mono (g _ c.symm (by simp)) f,h.t.mono (g _ d.symm (by simp)) f,h.ne,h.nd,h.nx]
inductive Jp(vs:aG)(H:Hp)(Q:VK)(a:XK):Prop
 |mk(s la b:jP) (a:jJ)(_:vs=[.ref s,.ref b])(_:ZL H s la)(_:H b=_s (.lst (a.map V.str)))(_:b≠s)(_:0<a.9)(_:a.9<=1000)(_:∀(n:Str)(J:Hp),n∈a->ZL J s la->ZF s H J->Q (.str n) J)
abbrev Ny:Stmt:=top 84
def XZ(a:YC K mg "_law_one" Ny)(T:Txt mg)(c:Fn P w K mg Z "_law_next" lp 1 YI):Fn P w K mg Z "_law_one" lL 2 Jp:=by
 erw[a.fq lL λH b Q E a h=>?_];let(s,la,f,g,S,a,e,b,d,i,k):=h;erw[rfl,_,(Zf (Zv (Zh Yg Q1 (Zk c (Za Q0 (Za (Z1 Yu T.len Ym (Za Q1 Zb)) Zb)))))),?_];erw[_,S,_,S,_,S,f,_,S,.inl (ZG.of e),s,la,_,S,a,by rw[xA];lia,by rw[xA];lia,λd h i l c a=>?_];let(j,S):=yL i;rw[xA] at l;let d:j<g.9:=by lia
 rwa[f,_,_,.str g[j],S,S,ZG.of (a _ _ b e),Yy (by rw[xF,xC d];rfl),k _ h (zH d) c a]
def wst(n:Str)(day:Int)(p:Int×Int):ZK->Int×Int
 | .come m d a=>if m=n/\p.1<=d/\d<=day then (d,a) else p
 | .rise m d a=>if m=n/\p.1<=d/\d<=day then (d,a) else p
 | .die _ _ _=>p
def wgp(F:List ZK)(n:Str)(day:Int):Int×Int:=F.foldl (wst n day) (-1,0)
def wg(F:List ZK)(n:Str)(day:Int):Int:=(wgp F n day).2
def Uv(F:List ZK)(x:ZK)(n:Str)(day:Int):wgp (F ++ [x]) n day=wst n day (wgp F n day) x:=by unfold wgp;rw[zQ];rfl
theorem fY:inV (.str "come") [.str "come", .str "rise"]=true:=aA
theorem Xl:inV (.str "rise") [.str "come", .str "rise"]=true:=aA
theorem E5:∀x∈(["die","penance","bring","give","pay","wergild","claim","accuse"]:jJ),inV (.str x) [.str "come", .str "rise"]=false:=aA
def Yx:AD->Str
 | .s (.come ..)=> "come"
 | .s (.rise ..)=> "rise"
 | .s (.die ..)=> "die"
 | .s (.pen ..)=> "penance"
 | .s (.bring ..)=> "bring"
 | .s (.give ..)=> "give"
 | .s (.pay ..)=> "pay"
 | .c (.wer ..) .. => "wergild"
 | .c (.clm ..) .. => "claim"
 | .c (.acc ..) .. => "accuse"
def B8(h:YA (fz fx H) (adT x) v):∃q us,v=.ref q/\H q=_s (.tup us)/\us[0]?=_s (.str (Yx x)):=by
 cases x with
 | s d =>
  let(q,S,a):=BI h;rwa[q,_,S,a,by ext d<;>rfl]
 | c d e b g i f =>
  let(q,b,e,S,a,_):=Ep h;rwa[q,_,S,a,by ext d<;>rfl]
def fdS(F:List ZK):AD->List ZK
 | .s d=>sdF F d
 | .c ..=>F
def AC(as:List AD)(x:AD):(Zg (as ++ [x])).1=fdS (Zg as).1 x:=by
 rw[JH];ext x<;>rfl
inductive VD(vs:aG)(H:Hp)(Q:VK)(a:XK):Prop
 |mk(q) (fx) (as) (n) (day)(_:vs=[.ref q,.str n,.int day])(_:WD H fx q (as.map adT))(_:∀J,ZC H J->Q (.int (wg (Zg as).1 n day)) J)
abbrev MK:Stmt:=top 75
def iZ(G:YC K mg "_law_weighs" MK)(T:Txt mg):Fn P w K mg Z "_law_weighs" lB 1 VD:=by
 erw[G.fq ["_law_deeds","_law_name","_law_day","_law_last","_law_found","_law_deed_here"] λH vs Q E hr h=>?_];let(q,fx,as,n,b,rfl,(vs,hq,t),k):=h;erw[rfl,_,(Zc (Zw 3 (Jx Jv Ze)) (Zc (Zw 4 Ze) (Zc (Y5 mO rfl (Ys Q0) (Z8 5) (Zf (Zs (QW.pt (Vo (Zn GM (Zh Zq Q5 Ze) (Yn (Za Z9 (Za Z9 Zb))) rfl) (Vo (Zn Yp (Zh Zq Q5 Ze) Q1 (Zo _)) (Vo (Zn Wr Q3 (Zh Zq Q5 Ze) (Zo _)) (V9 (Zn Wr (Zh Zq Q5 Ze) Q2 (Zo _))))))) (Zc (Zw 3 (Zh Zq Q5 Ze)) (Zf (Zw 4 (Zh Zq Q5 Ze)))) Zr))) (Zf (Zv Q4))))),?_];let hz:=aC
 let A:=t.9;rw[xA] at A;erw[_,rfl,?_];erw[_,rfl,q,rfl,(_,ZG.of hq),?_];erw[Ws vs (λi Y J=>∃R:Option V,Y=[_s (.ref q),_s (.str n),_s (.int b),_s (.int (wgp (Zg (as.take i)).1 n b).1),_s (.int (wgp (Zg (as.take i)).1 n b).2),R]/\ZC H J) (_n,rfl,λ_ _ e=>e) (λi Y J _ ⟨_,_,e⟩=>ZG.of (e _ _ hq)) ?_ ?_]
 .rintro i v Y J hv ⟨R,rfl,C⟩;let(x0,B,O):=t.get hv;rw[xF] at B;let(x,hx,rfl):=xS.mp B;let et:as.take (i+1)=as.take i ++ [x]:=by rw[xQ,hx];rfl
  rw[et,AC];generalize (Zg (as.take i)).1=F;let(a,us,rfl,j,hw):=B8 O;let X:=C _ _ j;erw[_,rfl,a,_,0,.str (Yx x),rfl,rfl,ZR.of X,Yy hw,aB rfl,λlq M=>?_];erw[nw (o:=.lst [.str "come", .str "rise"]) M λH1 S kl=>?_];let p:=C.trans S;let l:=S _ _ X;erw[lq,_,rfl,.inl (ZG.of kl),rfl,rfl,_,rfl,?_];show if inV _ _=_t then _ else _
  by_cases g:∃(m:Str)(d r:Int),x=.s (.come m d r)\/x=.s (.rise m d r)
  .let(m,d,r,N):=g;let I:us=[.str (Yx x),.str m,.int d,.int r]/\inV (.str (Yx x)) [.str "come", .str "rise"]=_t/\wgp (fdS F x) n b=if m=n/\(wgp F n b).1<=d/\d<=b then (d,r) else wgp F n b:=by
    rcases N with rfl | rfl
    .let(q',e,u):=BI O;ext e;rw[u] at j;ext j;rwa[rfl,fY,Uv F _ n b]
    .let(q',e,u):=BI O;ext e;rw[u] at j;ext j;rwa[rfl,Xl,Uv F _ n b]
   let(rfl,g,L):=I;rw[g,L];erw[Z6 ?_];erw[_,rfl,a,_,1,.str m,rfl,rfl,ZR.of l,rfl,_,rfl,rfl,_,rfl,Zy (λz=>?_) (λz=>Zz ?_)]
   .let em:m=n:=by injection z
    erw[_,rfl,_,rfl,a,_,2,.int d,rfl,rfl,ZR.of l,rfl,_,d,rfl,rfl,_,rfl,Zy (λU=>?_) (λU=>Zz ?_)]
    .erw[_,rfl,a,_,2,.int d,rfl,rfl,ZR.of l,rfl,_,rfl,d,b,rfl,rfl,_,rfl,Zy (λW=>?_) (λW=>?_)]
     .rw[_j (em,U,W)];rwa[_,rfl,a,_,2,.int d,rfl,rfl,ZR.of l,rfl,_,rfl,a,_,3,.int r,rfl,rfl,ZR.of l,rfl,_,rfl,p]
     .rw[_i (λy=>W y.2.2)];rwa[_,rfl,p]
    .rw[_i (λy=>U y.2.1)];rwa[_,rfl,p]
   .rw[_i (λy=>z (by rw[y.1]))];rwa[_,rfl,p]
  .let I:inV (.str (Yx x)) [.str "come", .str "rise"]=_x/\wgp (fdS F x) n b=wgp F n b:=by
    cases x with
    | s d =>
     cases d with
     | come m d r=>rwa[_a (m,d,r,.inl rfl) g]
     | rise m d r=>rwa[_a (m,d,r,.inr rfl) g]
     | die m he d=>rwa[E5 _ (by simp[Yx]),Uv F _ n b]
     | _=>rwa[E5 _ (by simp[Yx]),rfl]
    | c d dy a0 o1 o2 f=>rwa[E5 _ (by ext d<;>simp[Yx]),rfl]
   let(g,L):=I;rw[g,L];rwa[Zz (Zz (_,rfl,p))]
 .rintro Y J ⟨R,rfl,C⟩;rw[A,xR];rwa[_,rfl,k J C]
end
def Q9{left:aG}{j:Nat}(b:j<left.9):([left[j]]++left.eraseIdx j).Perm left:=by
 rw[List.eraseIdx_eq_take_drop_succ];let e:left.take j++left[j]::left.drop (j+1)=left:=by rw[<- zO b,yZ]
 let h:=(List.perm_middle (a:=left[j]) (l₁:=left.take j) (l₂:=left.drop (j+1))).6;rwa[h.trans (by rw[e])]
inductive TL(vs:aG)(H:Hp)(Q:VK)(b:XK):Prop
 |mk(s la a) (ts) (n)(_:vs=[.ref s,.ref a,.int n])(_:ZL H s la)(_:H a=_s (.lst ts))(_:a≠s)(_:0<=n)(_:ts.9<=1000)(_:∀l b J,(∃left,(b++left).Perm ts)->b.9=(min n ts.9).toNat->H l=_n->J l=_s (.lst b)->ZL J s la->ZF s H J->Q (.ref l) J)
abbrev Mu:Stmt:=top 77
def Od(U:YC K mg "_law_pick" Mu)(T:Txt mg)(Yc:Fn P w K mg Z "_law_next" lp 1 YI) :
  Fn P w K mg Z "_law_pick" i0 2 TL:=by
 erw[U.fq ["_law_src_here","_law_things","_law_many","_law_left","_law_found","_law_k"] λH vs Q E hr h=>?_];let(s,la,a,g,n,S,m,ha,a3,a5,a6,k):=h
 refine(S,_,(Zc (Zw 3 (J4 A0 T.list V8 (Za Q1 Zb))) (Zc (Zw 4 (Yn Zb)) (Zc (Y5 mO S (Au T.range (Za (Z1 (SA (by rfl)) T.min Nc (Za Q2 (Za (Z1 Yu T.len Ym (Za Q1 Zb)) Zb))) Zb)) (Z8 5)
 (Zf (Zl (Yz aD aE aF Y1 Q4 (Za (Yz aD F.slot_list_pop F.type_list_pop P0 Q3 (Za (Zk Yc (Za Q0 (Za (Z1 Yu T.len Ym (Za Q3 Zb)) Zb))) Zb)) Zb)))))
 (Zf (Zv Q4))))),?_)
 let hz:(2000:Nat)<=sizeLine:=by decide
 erw[_,S,a,_,S,.inl (ZG.of ha),λp t=>?_];erw[aB S,λl R=>?_];let G:p≠l:=λz=>by rw[<- z,Zi] at R;ext R
 let I:ZC H (upd (upd H p (.lst g)) l (.lst [])):=(ZC.new t).trans (ZC.new R);let u:H l=none:=(ZC.new t).free R;let(n1,n2):=m.ne t;let(n3,n4):=m.ne u;let ea:(upd (upd H p (.lst g)) l (.lst [])) a=_s (.lst g):=I _ _ ha;erw[_,S,_,S,a,_,S,.inl (ZG.of ea),n,_,S,_,S,?_,?_,?_]
 .split<;>lia
 .split<;>lia
 let em:(if (g.9:Int)<n then (g.9:Int) else n)=min n g.9:=by split<;>lia
 refine Bl (min n g.9).toNat (by rw[em]) (λi Y J=>∃(c left:aG)(v:Option V),Y=[_s (.ref s),_s (.ref a),_s (.int n),_s (.ref p),_s (.ref l),v]/\c.9=i/\left.9+i=g.9/\(∀x∈c,x∈g)/\(∀x∈left,x∈g)/\(c++left).Perm g /\
   J l=_s (.lst c)/\J p=_s (.lst left)/\ZL J s la/\ZF s H J)
  ([],g,_n,S,S,S,(λ_ z=>nomatch z),(λ_ z=>z),.refl _,Zi,by rw[Zd G,Zi],m.keep I,I.x) ?_ ?_
 .rintro i Y J hi ⟨c,left,v,rfl,A,y,ho,N,B,r,f,C,L⟩;let a4:0<left.9:=by lia
  erw[_,S,.inl (S,_,ZG.of r),_,S,.inl (S,_,ZG.of f),_,S,_,S,p,_,S,.inl (ZG.of f),s,la,_,S,C,(),(),λd H1 d0 d1 a1 M=>?_];let(j,S):=yL d0;let W:j<left.9:=by lia
  let O:=M p _ n1 f;let X:=M l _ n3 r;erw[p,_,_,j,left[j],S,S,O,(),(),seqIndex_of () (),xC W,?_];let a2:ZL (upd H1 p (.lst (left.eraseIdx j))) s la:=a1.oj ZF.upd n1 n2;let a0:upd H1 p (.lst (left.eraseIdx j)) l=_s (.lst c):=by rw[Zd G.6];rwa[X]
  erw[l,c,left[j],S,S,a0,(),?_];erw[c ++ [left[j]],left.eraseIdx j,_,S,by rw[xG,A];rfl,?_,λx hx=>?_,λx hx=>?_,?_,Zi,?_,?_,?_]
  .rw[List.length_eraseIdx_of_lt W];lia
  .grind
  .rwa[N x (List.mem_of_mem_eraseIdx hx)]
  .erw[List.Perm.trans ?_ B];rw[yX];rwa[List.Perm.append_left _ (Q9 W)]
  .rw[Zd G,Zi]
  .rwa[a2.oj ZF.upd n3 n4]
  .intro b o hb e;let b1:b≠p:=λz=>by rw[z,t] at e;ext e
   let b2:b≠l:=λz=>by rw[z,u] at e;ext e
   rw[Zd b2,Zd b1];rwa[M b o hb (L b o hb e)]
 .rintro Y J ⟨c,left,v,rfl,A,y,ho,N,B,r,f,C,L⟩;rwa[_,S,k l c J (left,B) A u r C L]
theorem Nz:∀{l:List Int},(∀x∈l,0<=x/\x<=1000)->0<=l.sum
 | [],_=>Int.le_refl _
 | x::r,h=>by
  let a:=Nz (l:=r) λy a=>h y (xM _ a);let b:=(h x xZ).1;rw[wL];lia
theorem Cq{ns:jJ}:∀{out:aG},(∀v∈out,v∈ns.map V.str)->∃os:List Str,out=os.map V.str/\∀n∈os,n∈ns
 | [],_=>([],S,λ_ h=>nomatch h)
 | v::r,h=>by
  let(os,e,m):=Cq (out:=r) λv a=>h v (xM _ a);let(n,b,a):=zD.mp (h v xZ);rwa[n::os,by rw[<- a,e];rfl,λx a=>(xD.mp a).elim (λz=>z▸b) (m x)]
def gO{ns:jJ}(c:ns.Nodup){out left:aG}(h:(out++left).Perm (ns.map V.str)):∃os:List Str,out=os.map V.str/\(∀n∈os,n∈ns)/\os.Nodup:=by
 let(os,S,m):=Cq (ns:=ns) (out:=out) λv a=>h.mem_iff.mp (yP _ a);let d:(ns.map V.str).Nodup:=List.Pairwise.map V.str (λa b n e=>n (by injection e)) c;have:=(h.nodup_iff.mpr d);have:=(List.nodup_append.mp this).1;rwa[os,S,m,List.Pairwise.of_map V.str (λa b n e=>n (by rw[e])) this]
inductive Tq(vs:aG)(H:Hp)(Q:VK)(a:XK):Prop
 |mk(s g d:jP) (b:jJ) (W:WL) (f:jM) (a e:List AD) (h:List ZV) (c:Int)(_:vs=[.ref s,.ref W.wl,.ref d,.int c])(_:ZL H s g)(_:ZY s H f W a e h)(_:H d=_s (.lst (b.map V.str)))(_:d≠s)(_:b.Nodup)(_:0<b.9)(_:b.9<=1000)(_:(∀n d,0<=wg (Zg a).1 n d/\wg (Zg a).1 n d<=1000))(_:∀(q e f:jP)(c d:jJ)(a:Int)(J:Hp),1<=a->a<=12000->(∀n∈c++d,n∈b)->(c++d).Nodup->0<c.9->(c++d).9<=6->H e=_n->H f=_n->J q=_s (.tup [.int a,.ref e,.ref f])->J e=_s (.lst (c.map V.str))->J f=_s (.lst (d.map V.str))->ZL J s g->ZF s H J->Q (.ref q) J)
abbrev Dk:Stmt:=top 85
theorem HS:Nm (Zm Dk) "_law_day" .cell:=aA
theorem Np:Nm (Zm Dk) "_law_world" .cell:=aA
def RM(a:YC K mg "_law_sides" Dk)(T:Txt mg)(c:Fn P w K mg Z "_law_next" lp 1 YI)(b:Fn P w K mg Z "_law_pick" i0 2 TL)(d:Fn P w K mg Z "_law_weighs" lB 1 VD):Fn P w K mg Z "_law_sides" lC 3 Tq:=by
 erw[a.fq ["_law_src_here","_law_world","_law_names_here","_law_day","_law_row","_law_cut","_law_ones","_law_others","_law_need"] λH e Q E a h=>?_];let(s,j,N,p,W,U,l,f,r,a,rfl,n,t,m,e,g,o,i,C,k):=h
 refine(rfl,_,(Zc (Zw 4 (Zk b (Za Q0 (Za Q2 (Za (Z0 Y7 Ze (Zk c (Za Q0 (Za Ze Zb)))) Zb))))) (Zc (Zw 5 (Z0 Dt (Z0 Y7 (Z0 Y7 (Z1 Yu T.len Ym (Za Q4 Zb)) Ze) (Zk c (Za Q0 (Za Ze Zb)))) Ze)) (Zc (Zs (Zn Yp (Zk c (Za Q0 (Za Ze Zb))) Ze (Zo _)) (Zf (Zw 5 (Z0 Y7 Ze (Zk c (Za Q0 (Za (Z1 Yu T.len Ym (Za Q4 Zb)) Zb)))))) Zr) (Zc (Zw 6 (Z1 (B4 (by rfl)) T.sum BC (Za (Vg (locs:=lS) (fr:=[("_law_world", 1),("_law_day", 3)]) (rfl,aA,aA,aA,aA,aA) (.ij Np (.ij HS .nil)) rfl (Ys (JZ Ce Q4 JT (JV Q5))) ⟨λ_ _ _ _ _ _=>by
  let b:(inN lS [("_law_world", 1),("_law_day", 3)]).Nodup:=aA
  rwa[(Y6 0 b),Jz,(Zk d (Za (Zh C6 (Wx 1) Ze) (Za (Yj 0) (Za (Wx 2) Zb))) (n:=nmC))]⟩) Zb)))
 (Zc (Zw 7 (Z1 (B4 (by rfl)) T.sum BC (Za (Vg (locs:=lS) (fr:=[("_law_world", 1),("_law_day", 3)]) (rfl,aA,aA,aA,aA,aA) (.ij Np (.ij HS .nil)) rfl (Ys (JZ Ce Q4 (JV Q5) JT)) ⟨λ_ _ _ _ _ _=>by
  let b:(inN lS [("_law_world", 1),("_law_day", 3)]).Nodup:=aA
  rwa[(Y6 0 b),Jz,(Zk d (Za (Zh C6 (Wx 1) Ze) (Za (Yj 0) (Za (Wx 2) Zb))) (n:=nmC))]⟩) Zb)))
 (Zc (Zw 8 (Z1 (EG (by rfl)) T.max Dr (Za Ze (Za (Z1 (RQ (by rfl)) T.min Nc (Za Q6 (Za Ze (Za (Z0 Y7 (Z0 Ub (Z0 Ub Q6 Q7) Ze) (Zk c (Za Q0 (Za Ze Zb)))) Zb)))) Zb))))
 (Zc (Zs (Zn Yp (Zk c (Za Q0 (Za Ze Zb))) Ze (Zo _)) (Zf (Zw 8 Ze)) Zr)
 (Zf (Zv (Z7 (Za Q8 (Za (JZ Ce Q4 JT (JV Q5)) (Za (JZ Ce Q4 (JV Q5) JT) Zb))))))))))))),?_)
 let b:=aC
 erw[_,rfl,_,rfl,_,rfl,s,j,6,rfl,n,aA,aA,λb o c h d f=>?_];erw[_,_,rfl,rfl,s,j,N,_,1+b,rfl,d,f _ _ e m,e,(),by rw[xA];rwa[i],λr o m ⟨left,e⟩ b c A h i=>?_];let(os,rfl,om,O):=gO g e;rw[xA] at b;let e:0<os.9/\os.9<=6:=by rw[xA] at b;lia
 let g:r≠s:=λz=>by let(_,_,_,_,_,e,_):=d;rw[z,e] at c;ext c
 let o:ZF s H m:=f.trans i;erw[Yb ?_];dsimp only [Y0];erw[_,rfl,r,_,rfl,.inl (ZG.of A),_,_,rfl,rfl,_,rfl,s,j,2,rfl,h,aA,aA,λR d b c M B=>?_];erw[_,_,rfl,rfl,_,_,rfl,rfl,((),()),?_];erw[Yb ?_];dsimp only [Y0];rw[xA];erw[Jy (λY E=>∃c:Nat,Y=[_s (.ref s),_s (.ref W.wl),_s (.ref N),_s (.int a),_s (.ref r),_s (.int c),_n,_n,_n]/\0<c/\c<=os.9/\ZL E s j/\ZF s m E) ?_ ?_]
 .rintro Y E ⟨c,rfl,b,d,p,f⟩;let Q:=t.x n (o.trans f);let v:=f _ _ g A;let b:((os.take c).map V.str).9<=6:=by rw[xA,xY];lia
  let b:((os.drop c).map V.str).9<=6:=by rw[xA,wI];lia
  erw[_,rfl,_,rfl,_,rfl,r,_,rfl,ZG.of v,λh b=>?_];rw[HH,<- List.map_take];erw[nw (o:=.lst ((os.take c).map V.str)) b λd I b=>?_];erw[h,rfl,(_,ZG.of b),?_];erw[Uy (L:=(os.take c).map V.str) (λi h J=>ZC d J/\h=(((os.take c).take i).map λn=>wg (Zg l).1 n a).map V.int) (ZC.refl _,rfl) () (λi h J _ ⟨S,_⟩=>ZG.of (S _ _ b)) (λi h J ⟨_,e⟩=>by rw[e,xA,xA,xY];lia) ?_ ?_]
  .rintro i x h J b ⟨S,rfl⟩ ls t;let(u,rfl):=Uz t;rw[xF] at b;let(n,d,rfl):=xS.mp b;let y:=Q.same (I.trans S);erw[([_],rfl,rfl),Z6 (_,rfl,W.wl,_,0,_,rfl,rfl,ZG.of y.e,rfl,_,rfl,_,rfl,W.dl,U,l,n,a,rfl,y.d,λF G=>(S.trans G,?_))];rw[xQ,d,xL,xL];rfl
  rintro h H5 ⟨X,rfl⟩ b1 m;rw[xA,xR];erw[nw (o:=.lst (((os.take c).map λn=>wg (Zg l).1 n a).map V.int)) m λm T2 k2=>?_];let m:∀x∈(os.take c).map λn=>wg (Zg l).1 n a,0<=x/\x<=1000:=λx b=>by let(n,_,rfl):=zD.mp b;rwa[C n a]
  erw[b1,_,rfl,ZG.of k2,λx b=>by have:=m x b;lia,by rw[xA,xY];lia,?_];let s1:=Nz m;generalize ((os.take c).map λn=>wg (Zg l).1 n a).sum=w1 at s1 |-;erw[Yb ?_];dsimp only [Y0];let m:=(I.trans X).trans T2;let W5:=Q.same m;erw[_,rfl,_,rfl,_,rfl,r,_,rfl,ZG.of (m _ _ v),λa2 I=>?_];rw[LN,<- List.map_drop];erw[nw (o:=.lst ((os.drop c).map V.str)) I λX I Q=>?_];erw[a2,rfl,(_,ZG.of Q),?_];erw[Uy (L:=(os.drop c).map V.str) (λi h J=>ZC X J/\h=(((os.drop c).take i).map λn=>wg (Zg l).1 n a).map V.int) (ZC.refl _,rfl) () (λi h J _ ⟨S,_⟩=>ZG.of (S _ _ Q)) (λi h J ⟨_,e⟩=>by rw[e,xA,xA,xY];lia) ?_ ?_]
  .rintro i x h J b ⟨S,rfl⟩ ls t;let(u,rfl):=Uz t;rw[xF] at b;let(n,d,rfl):=xS.mp b;let y:=W5.same (I.trans S);erw[([_],rfl,rfl),Z6 (_,rfl,W.wl,_,0,_,rfl,rfl,ZG.of y.e,rfl,_,rfl,_,rfl,W.dl,U,l,n,a,rfl,y.d,λF G=>(S.trans G,?_))];rw[xQ,d,xL,xL];rfl
  rintro h y ⟨t,rfl⟩ u i;rw[xA,xR];erw[nw (o:=.lst (((os.drop c).map λn=>wg (Zg l).1 n a).map V.int)) i λy h i=>?_];erw[u,_,rfl,ZG.of i,λx b=>by let(n,_,rfl):=zD.mp b;have:=C n a;lia,by rw[xA,wI];lia,?_];generalize ((os.drop c).map λn=>wg (Zg l).1 n a).sum=x;erw[Yb ?_];dsimp only [Y0];let b:=m.trans ((I.trans t).trans h);let h:=p.keep b;let i:=b _ _ v;erw[_,rfl,_,rfl,_,rfl,_,_,rfl,rfl,_,_,rfl,rfl,_,rfl,s,j,4,rfl,h,aA,aA,λt n l m u h=>?_];erw[_,_,rfl,rfl,_,_,_,rfl,λm l t v y=>?_];erw[_,_,rfl,?_];let v:1<=(if m > 1 then m else 1)/\(if m > 1 then m else 1)<=12000:=by split<;>lia
  generalize (if m > 1 then m else 1)=l at v |-;erw[Yb ?_];dsimp only [Y0];let t:=h _ _ g i;let i:ZF s H n:=(((o.trans f)).trans b.x).trans h;erw[Jy (λY m=>∃l:Int,Y=[_s (.ref s),_s (.ref W.wl),_s (.ref N),_s (.int a),_s (.ref r),_s (.int c),_s (.int w1),_s (.int x),_s (.int l)]/\1<=l/\l<=12000/\ZL m s j/\ZF s n m) ?_ ?_]
  .rintro Y m ⟨l,rfl,F,G,a,h⟩;let n:=h _ _ g t;let x:ZF s H m:=i.trans h;let i:∀{J:Hp}{b:jP},ZF s H J->ZL J s j->J b=_n->H b=none:=λ{J b} I t e=>by
    cases C:H b with
    | none=>rfl
    | some o =>
     by_cases z:b=s
     .let(_,_,_,_,_,y,_):=t;rw[z,y] at e;ext e
     .rw[I b o z C] at e;ext e
   erw[_,rfl,_,rfl,_,rfl,_,rfl,r,_,rfl,ZG.of n,λy b=>?_];rw[HH,<- List.map_take];erw[nw (o:=.lst ((os.take c).map V.str)) b λe o H=>?_];erw[_,rfl,_,rfl,_,rfl,r,_,rfl,ZG.of (o _ _ n),λz e=>?_];rw[LN,<- List.map_drop];erw[nw (o:=.lst ((os.drop c).map V.str)) e λn t I=>?_];erw[aB rfl,λq C=>?_];let n:=ZC.new (o:=.tup [.int l,.ref y,.ref z]) C;let U:=(o.trans t).trans n;erw[k q y z (os.take c) (os.drop c) l _ F G (by rw[yZ];rwa[om]) (by rw[yZ];rwa[O]) (by rw[xY];lia) (by rw[yZ];lia) (i x a b) (i (x.trans o.x) (a.keep o) e) Zi (n _ _ (t _ _ H)) (n _ _ I) (a.keep U) (x.trans U.x)]
  .intro b d _ _ _;erw[_,rfl,s,j,4,rfl,u,aA,aA,λi m c e a h=>?_];erw[rfl,_,rfl,Zy (λ_=>?_) (λ_=>?_)]
   .rwa[Yb (d _ _ (1,rfl,aA,aA,a,h))]
   .rwa[d _ _ (l,rfl,v.1,v.2,a,h)]
 .intro b d _ _ _;erw[_,rfl,s,j,4,rfl,M,aA,aA,λc E a b p f=>?_];let e0:((os.9:Int)+1+R) / 2=((((os.9:Int)+1+R) / 2).toNat:Int):=by lia
  erw[rfl,_,rfl,Zy (λ_=>?_) (λ_=>?_)]
  .erw[_,rfl,_,rfl,r,_,rfl,.inl (ZG.of (f _ _ g (B _ _ g A))),s,j,_,rfl,p,by rw[xA];lia,by rw[xA];lia,λa H5 g b c e=>?_];rw[xA] at b;erw[_,_,rfl,rfl,?_];erw[Yb ?_];let b:1+a=((1+a).toNat:Int):=by lia
   rwa[d _ _ ((1+a).toNat,by rw[<- b];rfl,(),(),c,(B.trans f).trans e)]
  .rw[e0];rwa[d _ _ (_,rfl,(),(),p,B.trans f)]
inductive VQ(vs:aG)(H:Hp)(Q:VK)(a:XK):Prop
 |mk(s b:jP) (W:WL) (e:jM) (c d:List AD) (a:List ZV)(_:vs=[.ref s,.ref W.wl])(_:ZL H s b)(_:ZY s H e W c d a)(_:0<a.9)(_:a.9<=1000)(_:(∀t∈a,Uu t/\0<t.ones.9))(_:∀(q:jP)(i:Nat)(t:ZV)(n:Str)(J:Hp),a[i]?=_s t->n∈(t.ones++t.others).map (·.1)->J q=_s (.tup [.int i,.str n])->ZL J s b->ZF s H J->Q (.ref q) J)
abbrev Et:Stmt:=top 86
theorem OU:ZP lK lW (Zm Et):=fsc
theorem dG:Nm (Zm Et) "_law_swearers" .local:=aA
def Pq(a0:YC K mg "_law_accused" Et)(T:Txt mg)(Yc:Fn P w K mg Z "_law_next" lp 1 YI):Fn P w K mg Z "_law_accused" lW 2 VQ:=by
 erw[a0.fq lK λH vs Q E hr h=>?_];let(s,O,W,fx,as,bs,d,S,hs,M,h0,h1,a6,k):=h
 refine(S,_,(Zc (Zw 2 (Zh Yg Q1 Ze)) (Zc (Zw 3 (Zk Yc (Za Q0 (Za (Z1 Yu T.len Ym (Za Q2 Zb)) Zb)))) (Zc (Zs (Zn Yp (Zk Yc (Za Q0 (Za Ze Zb))) Ze (Zo _)) (Zf (Zw 3 (Z0 Ub (Z1 Yu T.len Ym (Za Q2 Zb)) Ze))) Zr) (Zc (DS (locs:=["_law_name","_law_weight"]) (fr:=[]) (S,aA,aA,aA,aA,aA) .nil S (Ys (Z0 JG (Zh Zq (Zh Yg Q2 Q3) Ze) (Zh Zq (Zh Yg Q2 Q3) Ze))) ⟨λ_ _ _ _ _ _=>by
  let y:(inN ["_law_name","_law_weight"] []).Nodup:=aA
  rwa[(AW 2 (by rfl) (Ye (Y6 0 y) (Ye (Y6 1 y) Vf))),Jz,(Yj 0)]⟩ OU.nd dG (by rfl) (i:=4))
 (Zf (Zv (Z7 (Za Q3 (Za (Zh Yg Q4 (Zk Yc (Za Q0 (Za (Z1 Yu T.len Ym (Za Q4 Zb)) Zb)))) Zb))))))))),?_)
 let hz:=aC
 let(L,hl,l):=M.u;let G:ZI H (d.map Wo) L:=l.oA Df;let b9:L.9=d.9:=by have:=G.9;rw[xA] at this;rwa[this]
 let a5:=M.ne W.sl (by simp);erw[_,S,W.wl,_,1,_,S,S,ZG.of M.e,S,?_];erw[Yb ?_];dsimp only [Y0];erw[_,S,_,S,W.sl,L,S,.inl (ZG.of hl),s,O,_,S,hs,(),(),λd1 H1 b4 b5 a8 n=>?_];erw[Yb ?_];dsimp only [Y0];erw[Jy (λY g=>∃i:Nat,Y=[_s (.ref s),_s (.ref W.wl),_s (.ref W.sl),_s (.int i),_n]/\i<d.9/\ZL g s O/\ZF s H g) ?_ ?_]
 .rintro Y g ⟨i,rfl,hi,c,b⟩;let W2:=M.x hs b;let(e,z,a):=W2.u;let a:ZI g (d.map Wo) e:=a.oA Df;let N:d[i]?=_s d[i]:=xC hi;generalize d[i]=t at N;obtain⟨v,hv⟩:∃v,e[i]?=_s v:=(_,xC (by have:=a.9;rw[xA] at this;lia));let(dd,hd,re):=a.get hv;rw[xF,N] at hd;ext hd;let(R,u1,u2,u4,S,I,(b1,r,S,a3,C),(b2,u,S,a4,F),h4):=Mp re;let((L1,X,_,_),b3):=a6 t (xN N);let z1:=C.len;let z2:=F.len;let y1:=L1.2;let y2:=X.2;erw[_,S,_,S,W.sl,e,i,.ref R,S,S,ZG.of z,Yy hv,R,_,0,.ref b1,S,S,ZR.of I,S,?_];erw[_,S,_,S,W.sl,e,i,.ref R,S,S,ZG.of z,Yy hv,R,_,1,.ref b2,S,S,ZR.of I,S,?_];erw[b1,b2,r,u,S,S,a3,a4,(),λq hq=>?_];let x:=ZC.new (o:=.lst (r++u)) hq;let kc:(upd g q (.lst (r++u))) q=_s (.lst (r++u)):=Zi;generalize (upd g q (.lst (r++u)))=U at x kc |-;let a7:ZS U (t.ones++t.others) (r++u):=ZS.mono (ZC.t x) (ZS.app F C);erw[q,S,(_,ZG.of kc),?_];erw[IA kc a7 (by rw[xG];lia) λp f=>?_];let Sd:=ZC.new (o:=.lst (((t.ones++t.others).map (·.1)).map V.str)) f;let m:(upd U p (.lst (((t.ones++t.others).map (·.1)).map V.str))) p=_s (.lst (((t.ones++t.others).map (·.1)).map V.str)):=Zi;generalize (upd U p (.lst (((t.ones++t.others).map (·.1)).map V.str)))=H4 at Sd m |-;erw[Yb ?_];dsimp only [Y0];let a9:=c.keep (x.trans Sd);let b1:p≠s:=(c.keep x).ne f |>.1
  let b8:0<((t.ones++t.others).map (·.1)).9/\((t.ones++t.others).map (·.1)).9<=120:=by rw[xA,xG];lia
  erw[_,S,_,S,_,S,_,S,p,_,S,.inl (ZG.of m),s,O,_,S,a9,by rw[xA];lia,by rw[xA];lia,λd3 H5 a1 a2 b0 J=>?_];rw[xA] at a2;let(j,S):=yL a1;let hj:j<((t.ones++t.others).map (·.1)).9:=by lia
  erw[p,_,_,.str ((t.ones++t.others).map (·.1))[j],S,S,ZG.of (J _ _ b1 m),Yy (by rw[xF,xC hj];rfl),aB S,λq2 B=>?_];rwa[k q2 i t _ _ N (zH hj) Zi (b0.keep (ZC.new B)) (((b.trans (x.trans Sd).x).trans J).trans (ZC.new B).x)]
 .intro D' A _ _ _;erw[_,S,s,O,2,S,a8,aA,aA,λd2 g b6 b7 c b=>?_];erw[rfl,_,S,Zy (λ_=>?_) (λ_=>?_)]
  .erw[_,S,W.sl,L,S,.inl (ZG.of ((n.trans b) _ _ a5 hl)),_,_,S,S,?_];let e1:((L.9:Int) - 1)=((d.9 - 1:Nat):Int):=by lia
   rwa[Yb (A _ _ (d.9 - 1,by rw[<- e1];rfl,(),c,n.trans b))]
  .let e1:d1=(d1.toNat:Int):=by lia
   rwa[A _ _ (d1.toNat,by rw[<- e1];rfl,(),c,n.trans b)]
theorem bY:∀x∈(["claim","wergild","accuse"]:jJ),inV (.str x) [.str "claim", .str "wergild", .str "accuse"]=true:=aA
theorem gB:∀x∈(["come","rise","die","penance","bring","give","pay"]:jJ),inV (.str x) [.str "claim", .str "wergild", .str "accuse"]=false:=aA
def Qm(x:AD):inV (.str (Yx x)) [.str "claim", .str "wergild", .str "accuse"]=isC x:=by
 cases x with
 | s d=>rwa[gB _ (by ext d<;>simp[Yx])]
 | c d b a e g f=>rwa[bY _ (by ext d<;>simp[Yx])]
inductive Ja(vs:aG)(H:Hp)(Q:VK)(a:XK):Prop
 |mk(v) (fx) (x)(_:vs=[v])(_:YA (fz fx H) (adT x) v)(_:∀J,ZC H J->Q (.bl (isC x)) J)
abbrev Ll:Stmt:=top 80
def Rr(a:YC K mg "_law_is_case" Ll)(T:Txt mg):Fn P w K mg Z "_law_is_case" lF 1 Ja:=by
 erw[a.fq lF λH b Q E a h=>?_];let(v,a,x,S,d,k):=h;erw[rfl,_,(Zf (Zv (Jq GM (Zh Zq Q0 Ze) (Yn (Za Z9 (Za Z9 (Za Z9 Zb)))) S))),?_];let a:=aC
 let(a,e,S,b,c):=B8 d;erw[_,S,a,_,0,.str (Yx x),S,S,ZR.of b,Yy c,aB S,λb a=>?_];erw[b,_,S,.inl (ZG.of Zi),S,S,?_];rw[Qm];rwa[k _ (ZC.new a)]
def fT(day a:Int)(c b:jP)(d:CD):atI (cdV day a c b d) (-1)=_s (.ref b):=by ext d<;>rfl
def QX(day a:Int)(b c:jP)(d:CD):atI (cdV day a b c d) (-2)=_s (.ref b):=by ext d<;>rfl
def PK(day a:Int)(b c:jP)(d:CD):atI (cdV day a b c d) (-3)=_s (.int a):=by ext d<;>rfl
def FD(day a:Int)(b c:jP)(d:CD):atI (cdV day a b c d) (-4)=_s (.int day):=by ext d<;>rfl
theorem fI{v:V}{i:Nat}{u:TS}{D:YF}{Y:St}{H:Hp}(h:u D (Y.set i (_s v)) H):Ug (J7 (tC v) (Wl i)) u D Y H:=h
def DQ:CD->Option (Int×Str)
 | .acc i n=>_s (i,n)
 | _=>_n
def kss(as:List AD)(c:List ZV):AD->List ZV
 | .s _=>c
 | .c d a b e f _=>c ++ [(Yi (λn=>wg (Zg as).1 n a) e,Yi (λn=>wg (Zg as).1 n a) f,b,DQ d)]
inductive VY(vs:aG)(H:Hp)(Q:VK)(a:XK):Prop
 |mk(v) (s) (W) (fx) (as bs) (ss) (x)(_:vs=[.ref W.wl,v])(_:ZY s H fx W as bs ss)(_:YA (fz fx H) (adT x) v)(_:as.9<=1000)(_:bs.9<=1000)(_:ss.9<=1000)(_:(∀d b a c e f,x=.c d b a c e f->c.9<=60/\e.9<=60))(_:(∃o,H s=_s o))(_:∀a J,ZY s J a W (as ++ [x]) (bs++(if isC x then [x] else [])) (kss as ss x)->(∀b o,b ∉ [W.dl,W.sl,W.tl]->H b=_s o->J b=_s o)->(∀b∈a,b∈fx\/H b=_n/\∃vs,J b=_s (.lst vs))->Q .non J)
abbrev AO:Stmt:=top 81
theorem Gb:ZP lE lN (Zm AO):=fsc
theorem Jh:Nm (Zm AO) "_law_deed_here" .cell:=aA
theorem CZ:Nm (Zm AO) "_law_deeds" .cell:=aA
theorem SF:Nm (Zm AO) "_law_ones" .local:=aA
theorem RU:Nm (Zm AO) "_law_others" .local:=aA
def Pb(c0:YC K mg "_law_keep" AO)(T:Txt mg)(c1:Fn P w K mg Z "_law_is_case" lF 1 Ja)(b1:Fn P w K mg Z "_law_weighs" lB 1 VD):Fn P w K mg Z "_law_keep" lN 2 VY:=by
 erw[c0.fq lE λH vs Q E hr h=>?_];let(v,s,W,O,t,bs,ss,x,rfl,hW,re,d3,d4,d7,m,(os,c4),k):=h
 refine(rfl,_,(Zc (Jl Q0 (cU (by rfl) (Ye (Ip (i:=2) Gb.nd CZ) (Ye (Z8 3) (Ye (Z8 4) Vf)))))
 (Zc (Zs (Wq (Zk c1 (Za (qvC 1 Jh) Zb))) (Zc (DS (locs:=lS) (fr:=[("_law_deed_here", 1),("_law_deeds", 2)]) (rfl,aA,aA,aA,aA,aA) (.ij Jh (.ij CZ .nil)) rfl (Ys (Zh Zq (qvC 1 Jh) (Jx Jv Ze))) ⟨λ_ _ _ _ _ _=>by
  let a3:(inN lS [("_law_deed_here", 1),("_law_deeds", 2)]).Nodup:=aA
  rwa[(Y6 0 a3),Jz,(Z7 (Za (Yj 0) (Za (Zk b1 (Za (Wx 2) (Za (Yj 0) (Za (Zh JS (Wx 1) (Jx Jv Ze)) Zb))) (n:=nmC)) Zb)))]⟩ Gb.nd SF (by rfl) (i:=5))
 (Zc (DS (locs:=lS) (fr:=[("_law_deed_here", 1),("_law_deeds", 2)]) (rfl,aA,aA,aA,aA,aA) (.ij Jh (.ij CZ .nil)) rfl (Ys (Zh Zq (qvC 1 Jh) (Jx Jv Ze))) ⟨λ_ _ _ _ _ _=>by
  let a3:(inN lS [("_law_deed_here", 1),("_law_deeds", 2)]).Nodup:=aA
  rwa[(Y6 0 a3),Jz,(Z7 (Za (Yj 0) (Za (Zk b1 (Za (Wx 2) (Za (Yj 0) (Za (Zh JS (Wx 1) (Jx Jv Ze)) Zb))) (n:=nmC)) Zb)))]⟩ Gb.nd RU (by rfl) (i:=6))
 (Zc (Zw 7 Wa)
 (Zc (Zs (Zn Yp (Zh Zq (qvC 1 Jh) Ze) Z9 (Zo _)) (Zf (Zw 7 (Z7 (Za (Zh Zq (qvC 1 Jh) Ze) (Za (Zh Zq (qvC 1 Jh) Ze) Zb))))) Zr)
 (Zc (Zl (Yz aD aE aF Y1 Q3 (Za (Z7 (Za Q5 (Za Q6 (Za (Zh Zq (qvC 1 Jh) (Jx Jv Ze)) (Za Q7 Zb))))) Zb)))
 (Zf (Zl (Yz aD aE aF Y1 Q4 (Za (qvC 1 Jh) Zb))))))))) Zr)
 (Zf (Zl (Yz aD aE aF Y1 (qvC 2 CZ) (Za (qvC 1 Jh) Zb)))))),?_)
 let hz:=aC
 erw[_,rfl,W.wl,_,rfl,ZG.of hW.e,rfl,_,_,rfl,_,_,rfl,_,_,rfl,rfl,?_]
 try dsimp only [Y0]
 erw[Jy (λY H1=>∃(v5 v6 v7:Option V)(C:jM),Y=[_s (.ref W.wl),_s v,_s (.ref W.dl),_s (.ref W.sl),_s (.ref W.tl),v5,v6,v7]/\ZY s H1 C W t (bs++(if isC x then [x] else [])) (kss t ss x)/\YA (fz C H1) (adT x) v/\(∀b o,b ∉ [W.dl,W.sl,W.tl]->H b=_s o->H1 b=_s o)/\∀b∈C,b∈O\/H b=_n/\∃vs,H1 b=_s (.lst vs)) ?_ ?_]
 .rintro Y H1 ⟨v5,v6,v7,C,rfl,W1,M,f1,g1⟩;let(us,hd,hr):=id W1.d;let a7:=hr.9;rw[xA] at a7;erw[_,rfl,.inl (rfl,_,ZG.of hd),_,rfl,W.dl,us,v,rfl,rfl,hd,(),?_];erw[k C _ (W1.addD hd M) (λb o B e=>?_) (λb j=>?_)]
  .rw[Zd (λz=>B (by rw[z];simp))];rwa[f1 b o B e]
  .rcases g1 b j with z | ⟨z,vs',e⟩
   .rwa[.inl z]
   .let(u1,e1,_):=hW.d;rwa[.inr (z,vs',by rw[Zd (λy=>by rw[y,e1] at z;ext z)];rwa[e])]
 .intro D' b5 _ _ _;erw[_,rfl,v,O,x,rfl,re,λH1 S1=>(_,rfl,?_)];let W1:=hW.same S1;let M:=YA.mono (Wu (xs':=O) (λ_ _ e=>S1 _ _ e) (λx _ o e=>S1 _ _ e) λ_ z=>z) _ _ re;cases x with
  | s d =>
   erw[Zz (b5 _ _ (_n,_n,_n,O,rfl,?_,M,λb o _ e=>S1 _ _ e,λb j=>.inl j))];show ZY s H1 O W t (bs ++ []) ss;rw[yC];rwa[W1]
  | c d a I o1 o2 f =>
   erw[Z6 ?_];let(d5,d6):=m _ _ _ _ _ _ rfl;let(q,l1,l2,rfl,hq,c2,c3):=Ep M;let h1:=(Bz c2).1;let h2:=(Bz c3).1;erw[_,rfl,_,rfl,q,_,_,_,rfl,rfl,ZR.of hq,QX _ _ _ _ _,l1,rfl,(_,ZG.of h1),?_];erw[Uy (L:=o1.map V.str) (λi X J=>ZC H1 J/\ZS J (Yi (λn=>wg (Zg t).1 n a) (o1.take i)) X) (ZC.refl _,rfl) (by rw[xA];lia) (λi X J _ ⟨S,_⟩=>ZG.of (S _ _ h1)) (λi X J ⟨_,r⟩=>by rw[r.len,xA,xY];lia) ?_ ?_]
   .rintro i x X J m ⟨S,r⟩ ls a4;let(u,rfl):=Uz a4;rw[xF] at m;let(n,F,rfl):=xS.mp m;erw[([_],rfl,rfl),Z6 (_,rfl,_,rfl,_,rfl,_,rfl,_,rfl,q,_,_,_,rfl,rfl,ZR.of (S _ _ hq),FD _ _ _ _ _,W.dl,O,t,n,a,rfl,(W1.same S).d,λb6 S'=>(aB rfl,λp hp=>((S.trans S').trans (ZC.new hp),?_)))];show ZS _ ((o1.take (i+1)).map λn=>(n,wg (Zg t).1 n a)) _;rw[xQ,F,xL];rwa[ZS.snoc (p:=(n,wg (Zg t).1 n a)) Zi (ZS.mono (ZC.t (S'.trans (ZC.new hp))) r)]
   rintro a9 H2 ⟨S2,r1⟩ a1 b3;rw[xA,xR] at r1;erw[nw (o:=.lst a9) b3 λH3 T1 k1=>?_];let g:=S2.trans T1;erw[Yb ?_];dsimp only [Y0];erw[_,rfl,_,rfl,q,_,_,_,rfl,rfl,ZR.of (g _ _ hq),fT _ _ _ _ _,l2,rfl,(_,ZG.of (g _ _ h2)),?_];erw[Uy (L:=o2.map V.str) (λi X J=>ZC H3 J/\ZS J (Yi (λn=>wg (Zg t).1 n a) (o2.take i)) X) (ZC.refl _,rfl) (by rw[xA];lia) (λi X J _ ⟨S,_⟩=>ZG.of (S _ _ (g _ _ h2))) (λi X J ⟨_,r⟩=>by rw[r.len,xA,xY];lia) ?_ ?_]
   .rintro i x X J m ⟨S,r⟩ ls a4;let(u,rfl):=Uz a4;rw[xF] at m;let(n,F,rfl):=xS.mp m;erw[([_],rfl,rfl),Z6 (_,rfl,_,rfl,_,rfl,_,rfl,_,rfl,q,_,_,_,rfl,rfl,ZR.of (S _ _ (g _ _ hq)),FD _ _ _ _ _,W.dl,O,t,n,a,rfl,((W1.same g).same S).d,λb6 S'=>(aB rfl,λp hp=>((S.trans S').trans (ZC.new hp),?_)))];show ZS _ ((o2.take (i+1)).map λn=>(n,wg (Zg t).1 n a)) _;rw[xQ,F,xL];rwa[ZS.snoc (p:=(n,wg (Zg t).1 n a)) Zi (ZS.mono (ZC.t (S'.trans (ZC.new hp))) r)]
   rintro b0 H4 ⟨S4,r2⟩ U b4;rw[xA,xR] at r2;erw[nw (o:=.lst b0) b4 λH5 T2 k2=>?_];show Wl 6 (.ref U) _ _ _;erw[Yb ?_];dsimp only;erw[fI ?_];let a0:=g.trans (S4.trans T2);let b7:=S1.trans a0;let n1:H a1=none:=(S1.trans S2).free b3;let n2:H U=none:=(S1.trans (g.trans S4)).free b4;erw[Jy (λY H6=>∃u4:V,Y=[_s (.ref W.wl),_s (.ref q),_s (.ref W.dl),_s (.ref W.sl),_s (.ref W.tl),_s (.ref a1),_s (.ref U),_s u4]/\YA (fz [] H6) (Br (DQ d)) u4/\ZC H5 H6) ?_ ?_]
   .rintro Y H6 ⟨u4,rfl,r4,S6⟩;let R:=a0.trans S6;let b8:=b7.trans S6;let c5:=R _ _ hq
    let A:∀{b:jP},H b=_n->b≠s/\b ∉ [W.dl,W.sl,W.tl]:=λ{b} e=>(Zj c4 e |>.symm,λz=>by
     let(u1,e1,_):=hW.d;let(u2,e2,_):=hW.u;let(u3,e3,_):=hW.t;simp only[xD,xW,or_false] at z;rcases z with z | z | z
     .rw[z,e1] at e;ext e
     .rw[z,e2] at e;ext e
     .rw[z,e3] at e;ext e)
    let W6:=(W1.same R).more (gx:=[a1,U]) (λb j=>by simp at j;rcases j with rfl | rfl;rwa[(A n1).1];rwa[(A n2).1]) (λb j=>by simp at j;rcases j with rfl | rfl;rwa[(A n1).2];rwa[(A n2).2]);let(us,hu,d0):=id W6.u;let a7:=d0.9;rw[xA] at a7;erw[_,rfl,.inl (rfl,_,ZG.of hu),_,rfl,_,rfl,_,rfl,_,rfl,q,_,_,_,rfl,rfl,ZR.of c5,PK _ _ _ _ _,_,rfl,aB rfl,λqt c6=>?_];erw[nw (o:=.tup [.ref a1,.ref U,.int I,u4]) c6 λH7 N k7=>?_];let W7:=W6.same N;let a6:=N _ _ hu;erw[W.sl,us,.ref qt,rfl,rfl,a6,(),?_];let b9:=(T1.trans (S4.trans T2)).trans (S6.trans N);let a2:=T2.trans (S6.trans N);let c7:YA (fz ([a1,U]++O) H7) (Wo (Yi (λn=>wg (Zg t).1 n a) o1,Yi (λn=>wg (Zg t).1 n a) o2,I,DQ d)) (.ref qt) :=
     (qt,_,rfl,Wi k7,(_,_,rfl,(a1,a9,rfl,Uf (by simp) ((S4.trans a2) _ _ k1),ZS.fz (ZS.mono (ZC.t b9) r1)),(_,_,rfl,(U,b0,rfl,Uf (by simp) ((S6.trans N) _ _ k2),ZS.fz (ZS.mono (ZC.t a2) r2)),(_,_,rfl,rfl,(_,_,rfl,YA.mono (Wu (λ_ _ e=>N _ _ e) (λx m=>by ext m) λx m=>by ext m) _ _ r4,rfl)))))
    let W8:=W7.addU a6 c7;let d1:YA (fz ([a1,U]++O) H7) (adT (.c d a I o1 o2 f)) (.ref q):=YA.mono (Wu (λ_ _ e=>(R.trans N) _ _ e) (λx m o e=>(R.trans N) _ _ e) λx m=>xO _ m) _ _ M;let a8:=YA.mono (W7.grow (l:=W.sl) (v:=.ref qt) (by simp) a6).1 _ _ d1;let f8:∀b o,b ∉ [W.dl,W.sl,W.tl]->H b=_s o->(upd H7 W.sl (.lst (us ++ [.ref qt]))) b=_s o:=λb o B e=>by rw[Zd (λz=>B (by rw[z];simp))];rwa[N _ _ (b8 _ _ e)]
    let b2:∀b o,b ∉ [W.dl,W.sl,W.tl]->H7 b=_s o->(upd H7 W.sl (.lst (us ++ [.ref qt]))) b=_s o:=λb o B e=>by rw[Zd (λz=>B (by rw[z];simp))];rwa[e]
    generalize (upd H7 W.sl (.lst (us ++ [.ref qt])))=H8 at W8 a8 f8 b2 |-;let(ts,ht,c9):=id W8.t;let c8:=c9.9;rw[xA] at c8;erw[_,rfl,.inl (rfl,_,ZG.of ht),_,rfl,W.tl,ts,.ref q,rfl,rfl,ht,(),?_];let f9:∀b o,b ∉ [W.dl,W.sl,W.tl]->H7 b=_s o->(upd H8 W.tl (.lst (ts ++ [.ref q]))) b=_s o:=λb o B e=>by rw[Zd (λz=>B (by rw[z];simp))];rwa[b2 b o B e]
    erw[b5 _ _ (_,_,_,[a1,U]++O,rfl,W8.addT ht a8,YA.mono (W8.grow (l:=W.tl) (v:=.ref q) (by simp) ht).1 _ _ a8,λb o B e=>?_,λb j=>?_)]
    .rw[Zd (λz=>B (by rw[z];simp))];rwa[f8 b o B e]
    .simp at j;rcases j with rfl | rfl | j
     .rwa[.inr (n1,a9,f9 _ _ (A n1).2 (S4.trans a2 _ _ k1))]
     .rwa[.inr (n2,b0,f9 _ _ (A n2).2 ((S6.trans N) _ _ k2))]
     .rwa[.inl j]
   .intro D2 a5 _ _ _;let G:=a0 _ _ hq;cases d with
    | acc i n =>
     erw[_,rfl,q,_,0,_,rfl,rfl,ZR.of G,rfl,rfl,_,rfl,Zy (λ_=>?_) (λz=>_a rfl z)];erw[_,rfl,q,_,1,_,rfl,rfl,ZR.of G,rfl,_,rfl,q,_,2,_,rfl,rfl,ZR.of G,rfl,aB rfl,λp hp=>?_];rwa[Yb (a5 _ _ (.ref p,rfl,(p,_,rfl,Wi Zi,(_,_,rfl,rfl,(_,_,rfl,rfl,rfl))),ZC.new hp))]
    | wer x y d2 =>
     rwa[_,rfl,q,_,0,_,rfl,rfl,ZR.of G,rfl,rfl,_,rfl,Zy (λz=>_a z aA) (λ_=>a5 _ _ (.non,rfl,rfl,ZC.refl _))]
    | clm x i =>
     rwa[_,rfl,q,_,0,_,rfl,rfl,ZR.of G,rfl,rfl,_,rfl,Zy (λz=>_a z aA) (λ_=>a5 _ _ (.non,rfl,rfl,ZC.refl _))]
def Vq:AD->Bool
 | .s (.bring ..)=>_t
 | _=>_x
def DG(x:AD):(Yx x="bring")↔Vq x=true:=by
 cases x with
 | s d=>ext d<;>simp[Yx,Vq]<;>decide +kernel
 | c d b a e g f=>ext d<;>simp[Yx,Vq]<;>decide +kernel
def Do(ns:jJ)(c d:Nat)(day:Int)(b:Int):CD->Prop
 | .wer x y a=>x∈ns/\y∈ns/\1<=a/\a<=1000000/\b=day
 | .clm x i=>x∈ns/\0<=i/\i<c/\b=day
 | .acc i n=>n∈ns/\0<=i/\i<d/\day<=b/\b<=9999
structure FR (ns:jJ) (as bs:List AD) (ss:List ZV):Prop where
 al:as.9<=1000
 sl:ss.9<=1000
 bl:bs.9=ss.9
 ok:∀t∈ss,Uu t/\0<t.ones.9
 nm:∀t∈ss,∀n∈(t.ones++t.others).map (·.1),n∈ns
 dy:∀x∈bs,∃d day need o1 o2 f,x=.c d day need o1 o2 f/\0<=day/\day<=9999
 wg:∀n d,0<=wg (Zg as).1 n d/\wg (Zg as).1 n d<=1000
 nd:ns.Nodup
 n0:0<ns.9
 n1:ns.9<=1000
def DE(ns:jJ)(a:Int)(b c:jJ):Prop:=1<=a/\a<=12000/\(∀n∈b++c,n∈ns)/\(b++c).Nodup/\0<b.9/\(b++c).9<=6
inductive VF(vs:aG)(H:Hp)(Q:VK)(a:XK):Prop
 |mk(s la nl) (ns) (W) (fx) (as bs) (ss) (day)(_:vs=[.ref s,.ref W.wl,.ref nl,.int day])(_:ZL H s la)(_:ZY s H fx W as bs ss)(_:FR ns as bs ss)(_:H nl=_s (.lst (ns.map V.str)))(_:nl≠s)(_:0<=day)(_:day<=9999)(_:∀q b c d e a f g J,Do ns (as.filter Vq).length ss.length day e d->DE ns a f g->H q=_n->H b=_n->H c=_n->J q=_s (.tup (cdV e a b c d))->J b=_s (.lst (f.map V.str))->J c=_s (.lst (g.map V.str))->ZL J s la->ZF s H J->Q (.ref q) J)
def Bb(d:ZF s H J)(a:ZL J s la)(e:J b=_n):H b=none:=by
 cases c:H b with
 | none=>rfl
 | some o =>
  by_cases z:b=s
  .let(_,_,_,_,_,y,_):=a;rw[z,y] at e;ext e
  .rw[d b o z c] at e;ext e
abbrev MZ:Stmt:=top 87
def XT(c4:YC K mg "_law_case_deed" MZ)(T:Txt mg)(Yc:Fn P w K mg Z "_law_next" lp 1 YI)(Um:Fn P w K mg Z "_law_one" lL 2 Jp)(c2:Fn P w K mg Z "_law_sides" lC 3 Tq)(c3:Fn P w K mg Z "_law_accused" lW 2 VQ):Fn P w K mg Z "_law_case_deed" lC 4 VF:=by
 erw[c4.fq ["_law_src_here","_law_world","_law_names_here","_law_day","_law_need","_law_ones","_law_others","_law_kind","_law_case","_law_name","_law_things","_law_many"] λH vs Q E hr h=>?_];let(s,la,nl,ns,W,fx,as,bs,ss,c,S,hs,hW,C,hn,g,y0,y1,k):=h
 refine(S,_,(Zc (Jl (Zk c2 (Za Q0 (Za Q1 (Za Q2 (Za Q3 Zb))))) (JA (by rfl) (Ye (Z8 4) (Ye (Z8 5) (Ye (Z8 6) Vf)))))
 (Zc (Zw 7 (Zk Yc (Za Q0 (Za Ze Zb))))
 (Zc (Zs (QW.pt (Vo (Zn J8 Q7 Ze (Zo _)) (V9 (Zn J8 (Z1 Yu T.len Ym (Za (Zh Yg Q1 Ze) Zb)) Ze (Zo _))))) (Zc (Jl (Zk c3 (Za Q0 (Za Q1 Zb))) (JA (by rfl) (Ye (Z8 8) (Ye (Z8 9) Vf))))
 (Zf (Zv (Z7 (Za Z9 (Za Q8 (Za (qvN 9) (Za (Z1 (EG (by rfl)) T.max Dr (Za Q3 (Za (Zh Zq (Zh Yg (Zh Yg Q1 Ze) Q8) (Jx Jv Ze)) Zb))) (Za Q4 (Za Q5 (Za Q6 Zb))))))))))) Zr)
 (Zc (Zw 10 (Z1 Yu T.len Ym (Za (Vg (locs:=lF) (fr:=[]) (S,aA,aA,aA,aA,aA) .nil S (Ys (Zh Yg Q1 Ze)) ⟨λ_ _ _ _ _ _=>by
  let c5:(inN lF []).Nodup:=aA
  rwa[(Y6 0 c5),(Jb (Zn Yp (Zh JS (Yj 0) Ze) Z9 (Zo _))),(Yj 0)]⟩) Zb)))
 (Zc (Zs (QW.pt (Vo (Zn Yp Q7 Ze (Zo _)) (V9 (Zn J8 (qvN 10) Ze (Zo _))))) (Zf (Zv (Z7 (Za Z9 (Za (Zk Um (Za Q0 (Za Q2 Zb))) (Za (Zk Yc (Za Q0 (Za (qvN 10) Zb))) (Za Q3 (Za Q4 (Za Q5 (Za Q6 Zb)))))))))) Zr)
 (Zc (Zw 11 (Z0 Y7 Ze (Zk Yc (Za Q0 (Za (Zh Yg (Yn (Za Ze (Za Ze Zb))) (Zk Yc (Za Q0 (Za Ze Zb)))) Zb)))))
 (Zf (Zv (Z7 (Za Z9 (Za (Zk Um (Za Q0 (Za Q2 Zb))) (Za (Zk Um (Za Q0 (Za Q2 Zb))) (Za (qvN 11) (Za Q3 (Za Q4 (Za Q5 (Za Q6 Zb))))))))))))))))),?_)
 let hz:=aC
 let n0:=C.n0;let n1:=C.n1;erw[_,S,_,S,_,S,_,S,s,la,nl,ns,W,fx,as,bs,ss,c,S,hs,hW,hn,g,C.nd,C.n0,C.n1,C.wg,λq X l2 o1 o2 d H1 g0 g1 g2 g3 g4 g5 f1 f2 hq h1 h2 d1 e2=>?_];let dr:DE ns d o1 o2:=(g0,g1,g2,g3,g4,g5);let(_,_,_,_,_,b4,_):=id hs;let a0:X≠s:=λz=>by rw[z,b4] at f1;ext f1
 let a1:l2≠s:=λz=>by rw[z,b4] at f2;ext f2
 erw[q,_,S,ZR.of hq,S,_,_,S,_,_,S,_,_,S,S,?_]
 try dsimp only [Y0]
 erw[_,S,s,la,5,S,d1,aA,aA,λkd H2 e7 e8 b2 M=>?_];erw[Yb ?_]
 try dsimp only [Y0]
 let r:ZF s H H2:=e2.trans M;let W2:=hW.x hs r;let d8:=r _ _ g hn;let(us,hu,d7):=id W2.u;let d6:=d7.9;rw[xA] at d6;erw[Jy (λY J=>Y=[_s (.ref s),_s (.ref W.wl),_s (.ref nl),_s (.int c),_s (.int d),_s (.ref X),_s (.ref l2),_s (.int kd),_n,_n,_n,_n]/\J=H2) ?_ ?_]
 .rintro Y J ⟨rfl,rfl⟩;let(vs,hv,b7):=id W2.d;let b6:=b7.9;rw[xA] at b6;let al:=C.al;erw[_,S,W.wl,_,0,_,S,S,ZG.of W2.e,S,W.dl,S,(_,ZG.of hv),?_];erw[Uy (L:=vs) (λi ys F=>F=J/\ys.9=((as.take i).filter Vq).9) (S,S) () (λi ys F _ ⟨e,_⟩=>by rw[e];rwa[ZG.of hv]) (λi ys F ⟨_,e⟩=>by rw[e];rwa[xX (yQ _ _) (by rw[xY];lia)]) ?_ ?_]
  .rintro i x ys F hx ⟨rfl,e⟩ ls c6;let(u,S):=Uz c6;let(x0,I,re):=b7.get hx;rw[xF] at I;let(x1,a8,S):=xS.mp I;let(a,f3,S,ha,hw):=B8 re;let et:as.take (i+1)=as.take i ++ [x1]:=by rw[xQ,a8];rfl
   rw[et,zM];erw[([_],S,S),_,S,a,_,0,.str (Yx x1),S,S,ZR.of ha,Yy hw,S,_,S,Zy (λz=>(_,S,S,?_)) (λz=>(S,?_))]
   .have:=(DG x1).mp (by injection z);rw[xG,xG,e,List.filter_cons_of_pos this];rfl
   .have:¬Vq x1=true:=λy=>z (by rw[(DG x1).mpr y]);rw[xG,e,List.filter_cons_of_neg this];rfl
  rintro ys F ⟨rfl,e⟩ lt c7;rw[b6,xR] at e;erw[nw (o:=.lst ys) c7 λH3 T1 k1=>?_];erw[lt,_,S,.inl (ZG.of k1),?_];rw[e];erw[Yb ?_]
  try dsimp only [Y0]
  let B:=b2.keep T1;let f:ZF s H H3:=r.trans T1.x;let d9:=T1 _ _ d8;let b0:=T1 _ _ (M _ _ a0 h1);let b1:=T1 _ _ (M _ _ a1 h2);let e9:(as.filter Vq).9<=1000:=xX (yQ _ _) al;erw[Jy (λY J=>Y=[_s (.ref s),_s (.ref W.wl),_s (.ref nl),_s (.int c),_s (.int d),_s (.ref X),_s (.ref l2),_s (.int kd),_n,_n,_s (.int (as.filter Vq).9),_n]/\J=H3) ?_ ?_]
  .rintro Y J ⟨rfl,rfl⟩;erw[_,S,aB S,λb8 a2=>?_];erw[nw (o:=.lst [.int 9,.int 1000000]) a2 λH4 T2 k2=>?_];let a7:=B.keep T2;let e1:b8≠s:=(B.ne a2).1;erw[_,S,s,la,2,S,a7,aA,aA,λz2 H5 f4 f5 U R=>?_];obtain⟨b,hb,e5⟩:∃b:Int,atI [V.int 9,V.int 1000000] z2=_s (.int b)/\0<b/\b<=1000000:=by
    rcases(show z2=0\/z2=1 by lia) with rfl | rfl
    .rwa[9,S,aA,aA]
    .rwa[1000000,S,aA,aA]
   erw[b8,_,_,.int b,S,S,ZG.of (R _ _ e1 k2),hb,s,la,b,S,U,(),(),λm H6 m0 m1 d2 c0=>?_];erw[_,_,S,S,?_];erw[Yb ?_]
   try dsimp only [Y0]
   let a4:ZF s H H6:=((f.trans T2.x).trans R).trans c0;let b9:ZF s J H6:=(T2.x.trans R).trans c0;erw[_,S,_,S,s,la,nl,ns,S,d2,a4 _ _ g hn,g,n0,n1,λx H7 mx d3 c1=>?_];erw[_,S,_,S,s,la,nl,ns,S,d3,c1 _ _ g (a4 _ _ g hn),g,n0,n1,λy H8 my b3 e4=>?_];erw[_,S,_,S,_,S,_,S,_,S,aB S,λqq l=>?_];let O:ZF s J H8:=(b9.trans c1).trans e4;let a5:ZF s H H8:=f.trans O;let p:=ZC.new (o:=.tup (cdV c d X l2 (.wer x y (1+m)))) l;rwa[k qq X l2 (.wer x y (1+m)) c d o1 o2 _ (mx,my,(),(),S) dr (Bb a5 b3 l) f1 f2 Zi (p _ _ (O _ _ a0 b0)) (p _ _ (O _ _ a1 b1)) (b3.keep p) (a5.trans p.x)]
  .intro D' G a6 _ _;erw[_,S,S,_,S,Zy (λz=>?_) (λz=>Zz (G _ _ (S,S)))];erw[_,S,_,_,S,S,_,S,Zy (λz2=>?_) (λz2=>G _ _ (S,S))];erw[_,S,_,S,s,la,nl,ns,S,B,d9,g,n0,n1,λx H4 mx a7 e3=>?_];erw[_,S,_,S,s,la,_,S,a7,(),(),λj H5 j0 j1 U R=>?_];erw[_,S,_,S,_,S,_,S,aB S,λqq l=>a6 _ _ ?_];let N:ZF s H3 H5:=e3.trans R;let a3:ZF s H H5:=f.trans N;let p:=ZC.new (o:=.tup (cdV c d X l2 (.clm x j))) l;rwa[k qq X l2 (.clm x j) c d o1 o2 _ (mx,j0,j1,S) dr (Bb a3 U l) f1 f2 Zi (p _ _ (N _ _ a0 b0)) (p _ _ (N _ _ a1 b1)) (U.keep p) (a3.trans p.x)]
 .intro D' G a6 _ _;erw[_,S,_,_,S,S,_,S,Zy (λz=>?_) (λz=>Zz (G _ _ (S,S)))];erw[_,S,W.wl,_,1,_,S,S,ZG.of W2.e,S,W.sl,us,S,.inl (ZG.of hu),_,_,S,S,_,S,Zy (λz2=>?_) (λz2=>G _ _ (S,S))];erw[_,S,_,S,s,la,W,fx,as,bs,ss,S,b2,W2,(),C.sl,C.ok,λq2 i t n H3 ht c8 c9 B a9=>?_];let f:ZF s H H3:=r.trans a9;let W3:=hW.x hs f;let(ts,d5,b5):=id W3.t;let e6:=(xH.mp ht).1;let d4:=b5.9;rw[xA,C.bl] at d4;obtain⟨v,hv⟩:∃v,ts[i]?=_s v:=(_,xC ());let(x0,I,re):=b5.get hv;rw[xF] at I;let(x1,a8,S):=xS.mp I;let(d',A,f0,p1,p2,ff,S,e0,e1):=C.dy x1 (xN a8);let(qc,m1,m2,S,d0,_):=Ep re;erw[q2,_,S,ZR.of c9,S,_,_,S,_,_,S,S,?_]
  try dsimp only [Y0]
  erw[_,S,_,S,_,S,_,S,W.wl,_,2,_,S,S,ZG.of W3.e,S,_,S,W.tl,ts,i,.ref qc,S,S,ZG.of d5,Yy hv,_,S,qc,_,_,_,S,S,ZR.of d0,FD _ _ _ _ _,_,_,S,?_];let mb:c<=(if A > c then A else c)/\(if A > c then A else c)<=9999:=by split<;>lia
  generalize (if A > c then A else c)=dy at mb |-;erw[_,S,_,S,_,S,aB S,λqq l=>a6 _ _ ?_];let p:=ZC.new (o:=.tup (cdV dy d X l2 (.acc i n))) l;rwa[k qq X l2 (.acc i n) dy d o1 o2 _ (C.nm t (xN ht) n c8,(),(),mb.1,mb.2) dr (Bb f B l) f1 f2 Zi (p _ _ ((M.trans a9) _ _ a0 h1)) (p _ _ ((M.trans a9) _ _ a1 h2)) (B.keep p) (f.trans p.x)]
def A3(day:Int):Prop:=5<=day/\day<=24
def FQ(ns:jJ)(c:Nat):SD->Prop
 | .come _ _ _=>False
 | .rise n a b=>n∈ns/\A3 a/\1<=b/\b<=1000
 | .die n b a=>n∈ns/\b∈ns/\A3 a
 | .pen n=>n∈ns
 | .bring n a=>n∈ns/\A3 a
 | .give i x y a=>x∈ns/\y∈ns/\0<=i/\i<c/\A3 a
 | .pay x y b a=>x∈ns/\y∈ns/\1<=b/\b<=9/\A3 a
inductive UT(vs:aG)(H:Hp)(Q:VK)(a:XK):Prop
 |mk(s la nl) (ns) (W) (fx) (as bs) (ss)(_:vs=[.ref s,.ref W.wl,.ref nl])(_:ZL H s la)(_:ZY s H fx W as bs ss)(_:FR ns as bs ss)(_:H nl=_s (.lst (ns.map V.str)))(_:nl≠s)(_:(∀q d J,FQ ns (as.filter Vq).length d->H q=_n->J q=_s (.tup (sdV d))->ZL J s la->ZF s H J->Q (.ref q) J))(_:∀q c e d b f a g h J,A3 b->Do ns (as.filter Vq).length ss.length b f d->DE ns a g h->H q=_n->H c=_n->H e=_n->J q=_s (.tup (cdV f a c e d))->J c=_s (.lst (g.map V.str))->J e=_s (.lst (h.map V.str))->ZL J s la->ZF s H J->Q (.ref q) J)
abbrev Li:Stmt:=top 88
def Oo(b1:YC K mg "_law_deed" Li)(T:Txt mg)(Yc:Fn P w K mg Z "_law_next" lp 1 YI)(R:Fn P w K mg Z "_law_one" lL 2 Jp)(b0:Fn P w K mg Z "_law_case_deed" lC 4 VF):Fn P w K mg Z "_law_deed" lU 5 UT:=by
 erw[b1.fq ["_law_src_here","_law_world","_law_names_here","_law_day","_law_kind","_law_things"] λH vs Q E hr h=>?_];let(s,n,N,O,W,fx,as,bs,ss,S,hs,hW,ok,hn,c,kS,kC):=h
 refine(S,_,(Zc (Zw 3 (Z0 Y7 Ze (Zk Yc (Za Q0 (Za Ze Zb))))) (Zc (Zw 4 (Zk Yc (Za Q0 (Za Ze Zb)))) (Zc (Zs (Zn J5 Q4 Ze (Zo _)) (Zf (Zv (Zk b0 (Za Q0 (Za Q1 (Za Q2 (Za Q3 Zb))))))) Zr) (Zc (Zw 5 (Z1 Yu T.len Ym (Za (Vg (locs:=lF) (fr:=[]) (S,aA,aA,aA,aA,aA) .nil S (Ys (Zh Yg Q1 Ze)) ⟨λ_ _ _ _ _ _=>by
  let b2:(inN lF []).Nodup:=aA
  rwa[(Y6 0 b2),(Jb (Zn Yp (Zh JS (Yj 0) Ze) Z9 (Zo _))),(Yj 0)]⟩) Zb)))
 (Zc (Zs (QW.pt (Vo (Zn J5 Q4 Ze (Zo _)) (V9 (Zn J8 Q5 Ze (Zo _))))) (Zf (Zv (Z7 (Za Z9 (Za (Zk Yc (Za Q0 (Za Q5 Zb))) (Za (Zk R (Za Q0 (Za Q2 Zb))) (Za (Zk R (Za Q0 (Za Q2 Zb))) (Za Q3 Zb)))))))) Zr)
 (Zc (Zs (Zn Yp Q4 Ze (Zo _)) (Zf (Zv (Z7 (Za Z9 (Za (Zk R (Za Q0 (Za Q2 Zb))) (Za (Zk R (Za Q0 (Za Q2 Zb))) (Za (Z0 Y7 Ze (Zk Yc (Za Q0 (Za Ze Zb)))) (Za Q3 Zb)))))))) Zr)
 (Zc (Zs (Zn Yp Q4 Ze (Zo _)) (Zf (Zv (Z7 (Za Z9 (Za (Zk R (Za Q0 (Za Q2 Zb))) (Za Q3 (Za (Z0 Y7 Ze (Zk Yc (Za Q0 (Za (Zh Yg (Yn (Za Ze (Za Ze Zb))) (Zk Yc (Za Q0 (Za Ze Zb)))) Zb)))) Zb))))))) Zr)
 (Zc (Zs (Zn Yp Q4 Ze (Zo _)) (Zf (Zv (Z7 (Za Z9 (Za (Zk R (Za Q0 (Za Q2 Zb))) (Za Q3 (Za (Zk R (Za Q0 (Za Q2 Zb))) Zb))))))) Zr)
 (Zc (Zs (Zn Yp Q4 Ze (Zo _)) (Zf (Zv (Z7 (Za Z9 (Za (Zk R (Za Q0 (Za Q2 Zb))) Zb))))) Zr)
 (Zf (Zv (Z7 (Za Z9 (Za (Zk R (Za Q0 (Za Q2 Zb))) (Za Q3 Zb))))))))))))))),?_)
 let hz:=aC
 let X:=ok.n0;let n1:=ok.n1;erw[_,S,s,n,20,S,hs,aA,aA,λd1 H1 c3 c4 b6 c0=>?_];erw[_,_,S,S,?_];erw[Yb ?_]
 try dsimp only [Y0]
 erw[_,S,s,n,16,S,b6,aA,aA,λkd H2 c6 c7 G c1=>?_];erw[Yb ?_]
 try dsimp only [Y0]
 let k:ZF s H H2:=c0.trans c1;let W2:=hW.x hs k;let a9:=k _ _ c hn;let v:A3 (5+d1):=((),());erw[_,S,_,_,S,S,_,S,Zy (λz=>?_) (λz=>?_)]
 .rwa[_,S,_,S,_,S,_,S,s,n,N,O,W,fx,as,bs,ss,5+d1,S,G,W2,ok,a9,c,(),(),λq l1 l2 d dy a8 o1 o2 J c1 c2 f0 f1 f2 e0 e1 e2 U a0=>kC q l1 l2 d _ dy a8 o1 o2 J v c1 c2 (Bb k G f0) (Bb k G f1) (Bb k G f2) e0 e1 e2 U (k.trans a0)]
 try dsimp only [Y0]
 let(vs,hv,a5):=id W2.d;let a4:=a5.9;rw[xA] at a4;let al:=ok.al;erw[_,S,W.wl,_,0,_,S,S,ZG.of W2.e,S,W.dl,S,(_,ZG.of hv),?_];erw[Uy (L:=vs) (λi ys F=>F=H2/\ys.9=((as.take i).filter Vq).9) (S,S) () (λi ys F _ ⟨e,_⟩=>by rw[e];rwa[ZG.of hv]) (λi ys F ⟨_,e⟩=>by rw[e];rwa[xX (yQ _ _) (by rw[xY];lia)]) ?_ ?_]
 .rintro i x ys F hx ⟨rfl,e⟩ ls b3;let(u,S):=Uz b3;let(x0,a6,re):=a5.get hx;rw[xF] at a6;let(x1,b8,S):=xS.mp a6;let(a,c9,S,ha,hw):=B8 re;let et:as.take (i+1)=as.take i ++ [x1]:=by rw[xQ,b8];rfl
  rw[et,zM];erw[([_],S,S),_,S,a,_,0,.str (Yx x1),S,S,ZR.of ha,Yy hw,S,_,S,Zy (λz=>(_,S,S,?_)) (λz=>(S,?_))]
  .have:=(DG x1).mp (by injection z);rw[xG,xG,e,List.filter_cons_of_pos this];rfl
  .have:¬Vq x1=true:=λy=>z (by rw[(DG x1).mpr y]);rw[xG,e,List.filter_cons_of_neg this];rfl
 rintro ys F ⟨rfl,e⟩ lt b4;rw[a4,xR] at e;erw[nw (o:=.lst ys) b4 λH3 T1 k1=>?_];erw[lt,_,S,.inl (ZG.of k1),?_];rw[e];erw[Yb ?_]
 try dsimp only [Y0]
 let A:=G.keep T1;let a2:ZF s H H3:=k.trans T1.x;let l:=T1 _ _ a9;let c8:(as.filter Vq).9<=1000:=xX (yQ _ _) al;let t:∀{J:Hp}{q:jP}{us:aG}(d:SD),sdV d=us->FQ O (as.filter Vq).length d->ZL J s n->ZF s H3 J->J q=_n->Q (.ref q) (upd J q (.tup us)):=λ{J q us} d e hd U a0 r=>by
  subst e;let T:=ZC.new (o:=.tup (sdV d)) r;rwa[kS q d _ hd (Bb (a2.trans a0) U r) Zi (U.keep T) ((a2.trans a0).trans T.x)]
 erw[Jy (λY J=>Y=[_s (.ref s),_s (.ref W.wl),_s (.ref N),_s (.int (5+d1)),_s (.int kd),_s (.int (as.filter Vq).9)]/\J=H3) ?_ ?_]
 .rintro Y J ⟨rfl,rfl⟩;erw[_,S,S,_,S,Zy (λz=>?_) (λz=>?_)]
  .erw[_,S,_,S,s,n,N,O,S,A,l,c,X,n1,λx H4 M g f=>?_];erw[_,S,_,S,s,n,N,O,S,g,f _ _ c l,c,X,n1,λy H5 my p B=>?_];erw[_,S,s,n,9,S,p,aA,aA,λm H6 m0 m1 I C=>?_];rwa[_,_,S,S,_,S,aB S,λq r=>t (.pay x y (1+m) (5+d1)) S (M,my,(),(),v) I ((f.trans B).trans C) r]
  try dsimp only [Y0]
  erw[_,S,S,_,S,Zy (λz=>?_) (λz=>?_)]
  .erw[_,S,_,S,s,n,N,O,S,A,l,c,X,n1,λx H4 M g f=>?_];erw[_,S,_,S,aB S,λa7 a1=>?_];erw[nw (o:=.lst [.int 9,.int 1000]) a1 λH5 T2 k2=>?_];let p:=g.keep T2;let b9:a7≠s:=(g.ne a1).1;erw[_,S,s,n,2,S,p,aA,aA,λz2 H6 d0 d2 I C=>?_];obtain⟨b,hb,c5⟩:∃b:Int,atI [V.int 9,V.int 1000] z2=_s (.int b)/\0<b/\b<=1000:=by
    rcases(show z2=0\/z2=1 by lia) with rfl | rfl
    .rwa[9,S,aA,aA]
    .rwa[1000,S,aA,aA]
   erw[a7,_,_,.int b,S,S,ZG.of (C _ _ b9 k2),hb,s,n,b,S,I,(),(),λm H7 m0 m1 b7 c2=>?_];rwa[_,_,S,S,aB S,λq r=>t (.rise x (5+d1) (1+m)) S (M,v,(),()) b7 (((f.trans T2.x).trans C).trans c2) r]
  try dsimp only [Y0]
  erw[_,S,S,_,S,Zy (λz=>?_) (λz=>?_)]
  .erw[_,S,_,S,s,n,N,O,S,A,l,c,X,n1,λx H4 M g f=>?_];erw[_,S,_,S,_,S,s,n,N,O,S,g,f _ _ c l,c,X,n1,λy H5 my p B=>?_];rwa[aB S,λq r=>t (.die x y (5+d1)) S (M,my,v) p (f.trans B) r]
  try dsimp only [Y0]
  erw[_,S,S,_,S,Zy (λz=>?_) (λz=>?_)]
  .erw[_,S,_,S,s,n,N,O,S,A,l,c,X,n1,λx H4 M g f=>?_];rwa[aB S,λq r=>t (.pen x) S M g f r]
  try dsimp only [Y0]
  erw[_,S,_,S,s,n,N,O,S,A,l,c,X,n1,λx H4 M g f=>?_];rwa[_,S,aB S,λq r=>t (.bring x (5+d1)) S (M,v) g f r]
 .intro D' a3 b5 _ _;erw[_,S,_,_,S,S,_,S,Zy (λz=>?_) (λz=>Zz (a3 _ _ (S,S)))];erw[_,S,_,_,S,S,_,S,Zy (λz2=>?_) (λz2=>a3 _ _ (S,S))];erw[_,S,_,S,s,n,_,S,A,(),(),λj H4 j0 j1 g f=>?_];erw[_,S,_,S,s,n,N,O,S,g,f _ _ c l,c,X,n1,λx H5 M p B=>?_];erw[_,S,_,S,s,n,N,O,S,p,B _ _ c (f _ _ c l),c,X,n1,λy H6 my I C=>?_];rwa[_,S,aB S,λq r=>b5 _ _ (t (.give j x y (5+d1)) S (M,my,j0,j1,v) I ((f.trans B).trans C) r)]
structure Fo (F:List ZK):Prop where
 bst:∀n day,J6 (kw F n) day (wgp F n day).1 (wgp F n day).2
 bd:∀n day,0<=(wgp F n day).2/\(wgp F n day).2<=1000
 pos:∀n day,(wgp F n day).1 = -1\/1<=(wgp F n day).2
 key:∀n d,Zp F n=_s d->0<=d/\d<=9999/\∃l v,kw F n=_s l/\Zx l (.inl d)=_s v
theorem Fo.nil:Fo []:=(λ_ _=>.inl (S,S,S),λ_ _=>(Int.le_refl 0,by show (0:Int)<=1000;decide),λ_ _=>.inl S,λn d h=>by ext h)
def Fo.isW(h:Fo F)(a:Zp F n=_s d)(b:d<=day):AN (kw F n) day (wg F n day)/\1<=wg F n day/\wg F n day<=1000:=by
 let(_,_,l,v,e,c):=h.key n d a;erw[Sj (h.bst n day) e c b,?_,(h.bd n day).2];rcases h.pos n day with z | z
 .rcases h.bst n day with⟨y,_⟩ | ⟨l',e',⟨_,_,y⟩ | ⟨y,_⟩⟩
  .rw[e] at y;ext y
  .grind
  .lia
 .rwa[z]
def Fo.come(h:Fo F)(f:Zp F n=_n)(c:0<=d)(g:d<=9999)(j:1<=wt)(k:wt<=1000):Fo (F ++ [.come n d wt]):=by
 let i:kw F n=none:=by
  have:=EJ F n;rw[f] at this;cases e:kw F n with
  | none=>rfl
  | some l=>rw[e] at this;ext this
 erw[λm a=>?_,λm a=>?_,λm a=>?_,λm e b=>?_]
 .rw[Uv,Uc];show J6 _ _ (if n=m/\_ then _ else _:Int×Int).1 (if n=m/\_ then _ else _:Int×Int).2
  by_cases z:n=m
  .subst z;let(l,o):=eF (w:=wt) (h.bst n a) i c
   by_cases y:(wgp F n a).1<=d/\d<=a
   .rw[_j (S,y)];rwa[l y.1 y.2]
   .rw[_i (λq=>y q.2)];rwa[o y]
  .rw[_i (λq=>z q.1),Wb,_i (Ne.symm z)];rwa[h.bst m a]
 .rw[Uv];show 0<=(if n=m/\_ then _ else _:Int×Int).2/\(if n=m/\_ then _ else _:Int×Int).2<=1000;split
  .rwa[by show 0<=wt;lia,k]
  .rwa[h.bd m a]
 .rw[Uv];show (if n=m/\_ then _ else _:Int×Int).1 = -1\/1<=(if n=m/\_ then _ else _:Int×Int).2;split
  .rwa[.inr j]
  .rwa[h.pos m a]
 .rw[Dx f] at b;rw[Uc,Wb]
  by_cases z:m=n
  .rw[_j z] at b |-;ext b;rwa[c,g,_,_,S,by rw[Dm,_j S]]
  .rw[_i z] at b |-;rwa[h.key m e b]
def Fo.rise(h:Fo F)(a:Zp F n=_s d2)(b:0<=d)(g:1<=wt)(i:wt<=1000):Fo (F ++ [.rise n d wt]):=by
 let(_,_,e,j,f,c):=h.key n d2 a;erw[λm a=>?_,λm a=>?_,λm a=>?_,λm e c=>?_]
 .rw[Uv,Uc];show J6 _ _ (if n=m/\_ then _ else _:Int×Int).1 (if n=m/\_ then _ else _:Int×Int).2
  by_cases z:n=m
  .subst z;let(j,k):=Qj (w:=wt) (h.bst n a) f b
   by_cases y:(wgp F n a).1<=d/\d<=a
   .rw[_j (S,y)];rwa[j y.1 y.2]
   .rw[_i (λq=>y q.2)];rwa[k y]
  .rw[_i (λq=>z q.1),Wb,_i (Ne.symm z)];rwa[h.bst m a]
 .rw[Uv];show 0<=(if n=m/\_ then _ else _:Int×Int).2/\(if n=m/\_ then _ else _:Int×Int).2<=1000;split
  .rwa[by show 0<=wt;lia,i]
  .rwa[h.bd m a]
 .rw[Uv];show (if n=m/\_ then _ else _:Int×Int).1 = -1\/1<=(if n=m/\_ then _ else _:Int×Int).2;split
  .rwa[.inr g]
  .rwa[h.pos m a]
 .rw[EU] at c;let(f,g,l,v,a,b):=h.key m e c;erw[f,g,?_];rw[Uc,Wb]
  by_cases z:m=n
  .rw[_j z,a]
   by_cases y:e=d
   .rwa[_,.int wt,S,by rw[AI,_j y]]
   .rwa[_,v,S,by rw[AI,_i y];rwa[b]]
  .rw[_i z];rwa[l,v,a,b]
theorem Fo.die(h:Fo F):Fo (F ++ [.die n d he]) :=
 (λm a=>by rw[Uv,Uc];rwa[h.bst m a],λm a=>by rw[Uv];rwa[h.bd m a],λm a=>by rw[Uv];rwa[h.pos m a],λm e a=>by rw[EZ] at a;rw[Uc];rwa[h.key m e a])
def okE(o:Option Str):Prop:=∀x,o=_s x->x∈errs
theorem okE.or(h:okE a)(k:okE b):okE (a.or b):=λx e=>by
 cases a with
 | none=>rwa[k x e]
 | some y=>rwa[h x e]
theorem okE.non:okE none:=λx e=>by ext e
theorem okE.yes(h:y∈errs):okE (_s y):=λx e=>by ext e;rwa[h]
def okE.ite [Decidable p] (h:okE a) (k:okE b):okE (if p then a else b):=by split<;>assumption
theorem okE.find{l:jJ}{f:Str->Option Str}(h:∀n,okE (f n)):okE (l.findSome? f):=λx e=>by
 let(n,_,a):=List.exists_of_findSome?_eq_some e;rwa[h n x a]
def okE.bind{a:Type}{o:Option a}{f:a->Option Str}(h:∀n,okE (f n)):okE (o.bind f):=by
 cases o with
 | none=>rwa[okE.non]
 | some a=>rwa[h a]
theorem okE.known(F:List ZK)(n:Str):okE (Vp F n):=.ite (.yes aA) .non
theorem okE.there(d day:Int):okE (Wz d day):=.ite (.yes aA) .non
theorem okE.living(F:List ZK)(n:Str)(day:Int):okE (A9 F n day):=.ite (.yes aA) .non
theorem okE.j6(F:List ZK)(n:Str):okE (Ar F n):=.ite .non (.yes aA)
theorem okE.m(lo a d:Int):okE (eM lo a d):=.ite .non (.yes aA)
theorem okE.oz(m:Mo):okE (Wd m):=.ite .non (.yes aA)
def okE.oath(a:List ZV)(i:Int)(n:Str):okE (V3 a i n):=by
 unfold V3;split
 .rwa[.ite (.ite .non (.yes aA)) (.yes aA)]
 .rwa[.yes aA]
theorem okE.named(F:List ZK)(m:Mo)(day:Int)(b:jJ)(c:Option Int)(a:Option (Int×Str)):okE (Vs F m day b c a) :=
 (okE.find (okE.known F)).or ((okE.bind λ_=>.ite .non (.yes aA)).or ((okE.bind λ_=>okE.oath _ _ _).or ((okE.find λ_=>okE.there _ _).or ((okE.bind λ_=>okE.there _ _).or ((okE.bind λ_=>okE.there _ _).or (okE.find λ_=>okE.living _ _ _))))))
def Qf(F:List ZK)(m:Mo)(d:SD):okE (eSD F m d):=by
 cases d with
 | come n a b=>rwa[okE.or (.ite (.yes aA) ((okE.m _ _ _).or ((okE.m _ _ _).or (okE.or (.ite .non (.yes aA)) (.ite .non (.yes aA)))))) (okE.oz m)]
 | rise n a b=>rwa[okE.or ((okE.m _ _ _).or ((okE.m _ _ _).or ((okE.known _ _).or ((okE.there _ _).or (okE.living _ _ _))))) (okE.oz m)]
 | die n b a=>rwa[okE.or ((okE.m _ _ _).or ((okE.known _ _).or ((okE.known _ _).or ((okE.there _ _).or ((okE.there _ _).or ((okE.j6 _ _).or (.ite (.yes aA) .non))))))) (okE.oz m)]
 | pen n=>rwa[(okE.known _ _).or ((okE.j6 _ _).or (okE.oz m))]
 | bring n a=>rwa[(okE.m _ _ _).or ((okE.named _ _ _ _ _ _).or (okE.or (.ite .non (.yes aA)) (okE.oz m)))]
 | give i x y a=>rwa[(okE.m _ _ _).or ((okE.named _ _ _ _ _ _).or (okE.oz m))]
 | pay x y b a=>rwa[(okE.m _ _ _).or ((okE.m _ _ _).or ((okE.named _ _ _ _ _ _).or (okE.oz m)))]
def QR(F:List ZK)(m:Mo)(day a:Int)(f:Str->Int)(c e:jJ)(d:CD):okE (eCD F m day a f c e d):=by
 let b:okE (Ax m a f c e):=.ite (.yes aA) (.ite (.yes aA) ((okE.oz m).or (.ite (.yes aA) (okE.or (okE.find λ_=>.ite (.yes aA) .non) (.ite (.yes aA) .non)))));cases d with
 | wer x y a=>rwa[(okE.m _ _ _).or ((okE.m _ _ _).or ((okE.m _ _ _).or ((okE.named _ _ _ _ _ _).or b)))]
 | clm x i=>rwa[(okE.m _ _ _).or ((okE.m _ _ _).or ((okE.named _ _ _ _ _ _).or b))]
 | acc i n=>rwa[(okE.m _ _ _).or ((okE.m _ _ _).or ((okE.named _ _ _ _ _ _).or (b.or (.ite .non (.yes aA)))))]
section
def Wj{a:Type _}(l:List a)(x:a):(l ++ [x]).9=l.9+1:=by rw[xG];rfl
def XG(h:WY m)(i:Nat):(m.o8.getD i []).9<=m.ip.9:=by
 rw[xT];cases e:m.o8[i]? with
 | none=>rwa[yJ _]
 | some c=>rwa[h.hl c (xN e)]
theorem Mj(h:WY m):∀q∈m.o8.set i (m.o8.getD i [] ++ [x]),q.9<=m.ip.9+1:=λq a=>by
 rcases List.mem_or_eq_of_mem_set a with z | z
 .rwa[wD (h.hl q z)]
 .rw[z,Wj];rwa[mj (XG h i)]
def hX(m:Mo)(d:SD):(m.sd d).ip.9=m.ip.9+1:=by ext d<;>rwa[Wj _ _]
def WY.sd(h:WY m)(d:SD):WY (m.sd d):=by
 let c:∀q∈m.o8,q.9<=m.ip.9+1:=λq z=>wD (h.hl q z);let f:=wD h.ql;let dl:=hX m d;cases d with
 | bring n a =>
  erw[h.ok,h.dl,λi e b=>?_,h.le,h.vl,?_,?_,dl▸f]
  .change (m.ia ++ [_])[i]?=_s e at b;rcases Nat.lt_or_ge i m.ia.9 with z | z
   .rw[wF z] at b;rwa[h.br i e b]
   .rw[List.getElem?_append_right z] at b;cases xV.mp (xN b);rwa[n,a,rfl]
  .show (m.o8 ++ [_]).9=(m.ia ++ [_]).9;rw[Wj,Wj,h.hb]
  .rw[dl];intro q z;rcases xK.mp z with z | z
   .rwa[c q z]
   .grind
 | give i x y a=>rwa[h.ok,h.dl,h.br,h.le,h.vl,(List.length_set ..).trans h.hb,dl▸Mj h,dl▸f]
 | pay x y b a=>rwa[h.ok,h.dl,h.br,h.le,h.vl,h.hb,dl▸c,dl▸(Wj m.ik _).6▸mj h.ql]
 | _=>rwa[h.ok,h.dl,h.br,h.le,h.vl,h.hb,dl▸c,dl▸f]
def WY.iq(h:WY m)(i:m.oX.9<60)(e:YY (Yi f o1))(g:YY (Yi f o2))(b:1<=need)(c:need<=12000)(d:CD):WY (m.iq day need f o1 o2 d):=by
 let j:∀q∈m.o8,q.9<=m.ip.9+1:=λq z=>wD (h.hl q z);let k:=wD h.ql;let dl:(m.iq day need f o1 o2 d).ip.9=m.ip.9+1:=by ext d<;>rwa[Wj _ _]
 let a:∀n:Option (Int×Str),(∀t∈m.oX ++ [(Yi f o1,Yi f o2,need,n)],Uu t)/\(m.days ++ [day]).9=(m.oX ++ [((Yi f o1,Yi f o2,need,n):ZV)]).9/\(m.oX ++ [((Yi f o1,Yi f o2,need,n):ZV)]).9<=60/\(Yd [] 0 (m.oX ++ [(Yi f o1,Yi f o2,need,n)])).1.9=(m.oX ++ [((Yi f o1,Yi f o2,need,n):ZV)]).9:=λn =>
  (λt l=>(xK.mp l).elim (h.ok t) (λz=>by rw[xV.mp z];rwa[e,g,b,c]),by rw[Wj,Wj,h.dl],by rw[Wj];rwa[i],Ec ..)
 cases d with
 | wer x y b=>let(b,c,e,g):=a _n;rwa[b,c,h.br,e,g,h.hb,dl▸j,dl▸(Wj m.ik _).6▸mj h.ql]
 | clm x i=>let(b,c,e,g):=a _n;rwa[b,c,h.br,e,g,(List.length_set ..).trans h.hb,dl▸Mj h,dl▸k]
 | acc i n=>let(b,c,e,g):=a (_s (i,n));rwa[b,c,h.br,e,g,h.hb,dl▸j,dl▸k]
structure Wk (ns:jJ) (as:List AD):Prop where
 g:VB as
 fo:Fo (Zg as).1
 ok:WY (Zg as).2
 ln:(Zg as).1.9<=as.9
 pn:(Zg as).2.oH<=as.9
 su:∀t∈(Zg as).2.oX,(Uu t/\0<t.ones.9)/\∀n∈(t.ones++t.others).map (·.1),n∈ns
 cl:(as.filter isC).9=(Zg as).2.oX.9
 dy:∀x∈as.filter isC,∃d day need o1 o2 f,x=.c d day need o1 o2 f/\0<=day/\day<=9999
 nn:∀n∈ns,Vm n
 nd:ns.Nodup
 n0:0<ns.9
 n1:ns.9<=1000
variable{ns:jJ}{as:List AD}
theorem Wk.nil(d:∀n∈ns,Vm n)(c:ns.Nodup)(a:0<ns.9)(b:ns.9<=1000):Wk ns [] :=
 ((yJ _,λi p h=>by ext h),Fo.nil,(λt h=>(nomatch h),S,λi e h=>(nomatch h),yJ _,S,S,λq h=>(nomatch h),yJ _),yJ _,yJ _,λt h=>(nomatch h),S,λx h=>(nomatch h),d,c,a,b)
def Wk.wok(h:Wk ns as):FR ns as (as.filter isC) (Zg as).2.oX:=by
 have:=h.g.1;have:=h.ok.le;rwa[(),(),h.cl,λt a=>(h.su t a).1,λt a=>(h.su t a).2,h.dy,λn d=>h.fo.bd n d,h.nd,h.n0,h.n1]
def dOk(ns:jJ):SD->Prop
 | .come n a b=>n∈ns/\okI a/\okI b
 | .rise n a b=>n∈ns/\okI a/\okI b
 | .die n b a=>n∈ns/\b∈ns/\okI a
 | .pen n=>n∈ns
 | .bring n a=>n∈ns/\okI a
 | .give i x y a=>x∈ns/\y∈ns/\okI i/\0<=i/\okI a
 | .pay x y b a=>x∈ns/\y∈ns/\okI b/\okI a
def Vh(h:0<=i)(h':i<=1000000):okI i:=by unfold okI;lia
def QL(h:FQ ns nb d)(a:nb<=1000):dOk ns d:=by
 cases d with
 | come n a b=>rwa[h.elim]
 | rise n a b=>rwa[h.1,Vh (by have:=h.2.1.1;lia) (by have:=h.2.1.2;lia),Vh (by have:=h.2.2.1;lia) (by have:=h.2.2.2;lia)]
 | die n b a=>rwa[h.1,h.2.1,Vh (by have:=h.2.2.1;lia) (by have:=h.2.2.2;lia)]
 | pen n=>rwa[h]
 | bring n a=>rwa[h.1,Vh (by have:=h.2.1;lia) (by have:=h.2.2;lia)]
 | give i x y a=>rwa[h.1,h.2.1,Vh h.2.2.1 (by have:=h.2.2.2.1;lia),h.2.2.1,Vh (by have:=h.2.2.2.2.1;lia) (by have:=h.2.2.2.2.2;lia)]
 | pay x y b a=>rwa[h.1,h.2.1,Vh (by have:=h.2.2.1;lia) (by have:=h.2.2.2.1;lia),Vh (by have:=h.2.2.2.2.1;lia) (by have:=h.2.2.2.2.2;lia)]
theorem QP(h:Vm n):okN n:=(by have:=h.2.2;lia,λx a=>by have:=h.1 x a;lia)
def Wk.sdOk(h:Wk ns as)(a:dOk ns d):sdOk (Zg as).1 (Zg as).2 d:=by
 let c:∀{n:Str},n∈ns->n.9<=100:=λb=>by have:=(h.nn _ b).2.2;lia
 have:=h.g.1;have:=h.ln;have:=h.pn;have:=h.ok.le;cases d with
 | come n b e=>rwa[(),QP (h.nn n a.1),a.2.1,a.2.2]
 | rise n b e=>rwa[(),c a.1,a.2.1,a.2.2]
 | die n e b=>rwa[(),c a.1,c a.2.1,a.2.2]
 | pen n=>rwa[c a,(),()]
 | bring n b=>rwa[h.ok,c a.1,a.2]
 | give i x y b=>rwa[h.ok,c a.1,c a.2.1,a.2.2.1,a.2.2.2.2]
 | pay x y e b=>rwa[h.ok,c a.1,c a.2.1,a.2.2.1,a.2.2.2]
def PP(h:eSD F m d=_n):m.ip.9<400:=by
 apply JW;ext d<;>simp only[eSD,yF] at h<;>simp_all
def Wk.snoc(h:Wk ns as)(o:dOk ns d)(e:eSD (Zg as).1 (Zg as).2 d=_n):Wk ns (as ++ [.s d]):=by
 let p:=PP e;rw[CW] at p;let f:Im d:=by
  cases d with
  | give i x y a=>rwa[o.2.2.2.1]
  | _=>trivial
 let m:(as ++ [AD.s d]).filter isC=as.filter isC:=by rw[zM];rwa[yC _]
 let v:=h.ln;let w:=h.pn;let c:=JH as (.s d);let r:(Zg (as ++ [.s d])).2.oX=(Zg as).2.oX:=by rw[c];ext d<;>rfl
 erw[h.g.snoc p (h.sdOk o,e,f),?_,by rw[c];rwa[h.ok.sd d],?_,?_,by rw[r];rwa[h.su],by rw[m,r];rwa[h.cl],by rw[m];rwa[h.dy],h.nn,h.nd,h.n0,h.n1]
 .rw[AC];cases d with
  | come n a k =>
   let e:((Ut (Zg as).1 n a k).or (Wd (Zg as).2))=none:=e;let(_,(l,s),(g,j),b,_):=Gw (yF.mp e).1;rwa[h.fo.come b l s g j]
  | rise n a k =>
   let e:((A7 (Zg as).1 n a k).or (Wd (Zg as).2))=none:=e;let((l,_),(g,j),(t,b,_),_):=Hn (yF.mp e).1;rwa[h.fo.rise b l g j]
  | die n u a=>rwa[h.fo.die]
  | _=>rwa[h.fo]
 .rw[AC,Wj];ext d<;>simp only[fdS,sdF,xG,wB]<;>lia
 .rw[c,Wj];cases d with
  | pen n=>show (Zg as).2.oH+1<=_;lia
  | _=>show (Zg as).2.oH<=_;lia
def SV(h:eCD F m day need f o1 o2 d=_n):(0<=day/\day<=9999)/\(1<=need/\need<=12000)/\(∀n∈o1++o2,∃dd,Zp F n=_s dd/\dd<=day)/\m.oX.9<60/\m.ip.9<400:=by
 cases d with
 | wer x y a =>
  simp only[eCD,B3,yF] at h;let(_,a,b,c,e):=h;rwa[Vj a,Vj b,λn g=>(Aw c).1 n (by rw[yX];rwa[xO _ g]),JL e]
 | clm x i =>
  simp only[eCD,En,yF] at h;let(a,b,c,e):=h;rwa[Vj a,Vj b,λn g=>(Aw c).1 n (by rw[yX];rwa[xO _ g]),JL e]
 | acc i n =>
  simp only[eCD,Ef,yF] at h;let(a,b,c,e,_):=h;rwa[Vj a,Vj b,(Aw c).1,JL e]
def cOk(ns:jJ):CD->Prop
 | .wer x y a=>x∈ns/\y∈ns/\okI a
 | .clm x i=>x∈ns/\okI i/\0<=i
 | .acc i n=>n∈ns/\okI i
def fA(h:Do ns nb nc day dy d)(a:nb<=1000)(a:nc<=1000):cOk ns d:=by
 cases d with
 | wer x y a=>rwa[h.1,h.2.1,Vh (by have:=h.2.2.1;lia) h.2.2.2.1]
 | clm x i=>rwa[h.1,Vh h.2.1 (by have:=h.2.2.1;lia),h.2.1]
 | acc i n=>rwa[h.1,Vh h.2.1 (by have:=h.2.2.1;lia)]
def SN(h:Do ns nb nc day dy d)(a:A3 day):0<=dy/\dy<=9999:=by
 have:=a.1;have:=a.2;cases d with
 | wer x y a=>have:=h.2.2.2.2;lia
 | clm x i=>have:=h.2.2.2;lia
 | acc i n=>have:=h.2.2.2;lia
abbrev wf(as:List AD)(day:Int):Str->Int:=λn=>wg (Zg as).1 n day
theorem Wk.cs(h:Wk ns as){day:Int}{a b:jJ}(c:∀n∈a++b,n∈ns):∀n∈a++b,n.9<=100/\∀d,Zp (Zg as).1 n=_s d->d<=day->AN (kw (Zg as).1 n) day (wf as day n)/\1<=wf as day n/\wf as day n<=1000 :=
 λn a=>(by have:=(h.nn n (c n a)).2.2;lia,λd a b=>h.fo.isW a b)
def Wk.cdOk(h:Wk ns as)(a:cOk ns d):cdOk d:=by
 let b:∀{n:Str},n∈ns->n.9<=100:=λc=>by have:=(h.nn _ c).2.2;lia
 cases d with
 | wer x y c=>rwa[b a.1,b a.2.1,a.2.2]
 | clm x i=>rwa[b a.1,a.2.1]
 | acc i n=>rwa[b a.1,a.2]
def Wk.snocC(h:Wk ns as)(s:cOk ns d)(u:∀n∈o1++o2,n∈ns)(w:0<o1.9)(m:o1.9<=60)(r:o2.9<=60)(e:eCD (Zg as).1 (Zg as).2 day need (wf as day) o1 o2 d=_n):Wk ns (as ++ [.c d day need o1 o2 (wf as day)]):=by
 let((v,A),(k,l),j,b,t):=SV e;rw[CW] at t;let f:MO d:=by
  cases d with
  | clm x i=>rwa[s.2.2]
  | _=>trivial
 let c:∀{o:jJ},(∀n∈o,n∈o1++o2)->o.9<=60->YY (Yi (wf as day) o):=λy o=>(λp g=>by
  let(n,a,S):=zD.mp g;let(p,g,i):=j n (y n a)
  rwa[(h.fo.isW g i).2],by rw[xA];rwa[o])
 let g:YY (Yi (wf as day) o1):=c (λn a=>yP _ a) m;let i:YY (Yi (wf as day) o2):=c (λn a=>xO _ a) r;let j:(as ++ [AD.c d day need o1 o2 (wf as day)]).filter isC=as.filter isC ++ [.c d day need o1 o2 (wf as day)]:=by rw[zM];rfl
 let c:=h.ln;let c:=h.pn;let c:=JH as (.c d day need o1 o2 (wf as day));let o:(Zg (as ++ [.c d day need o1 o2 (wf as day)])).2.oX=(Zg as).2.oX ++ [(Yi (wf as day) o1,Yi (wf as day) o2,need,DQ d)]:=by rw[c];ext d<;>rfl
 erw[h.g.snoc t (h.cdOk s,h.ok,by have:=h.g.1;lia,m,r,Vh v (),Vh () (),h.cs u,e,f),by rw[AC];rwa[h.fo],by rw[c];rwa[h.ok.iq b g i k l d],by rw[AC,Wj];show (Zg as).1.9<=_;lia,?_,λt b=>?_,by rw[j,o,Wj,Wj,h.cl],λx f=>?_,h.nn,h.nd,h.n0,h.n1]
 .rw[c,Wj];ext d<;>(show (Zg as).2.oH<=_;lia)
 .rw[o] at b;rcases xK.mp b with z | z
  .rwa[h.su t z]
  .rw[xV.mp z];erw[((g,i,k,l),by show 0<(o1.map _).9;rw[xA];rwa[w]),λn a=>?_];rw[<- xL,mL] at a;let(y,b,S):=zD.mp a;rwa[u _ b]
 .rw[j] at f;rcases xK.mp f with z | z
  .rwa[h.dy x z]
  .rw[xV.mp z];rwa[_,_,_,_,_,_,S,v,A]
end
section
variable{w:jR}{C CM:jP}{c:jL}
theorem ZD.oI(h:ZD C CM H M F wa L m qs)(e:H b=_s (.tup t)):¬mo M F wa L qs b:=λa=>by
 rcases a with z | z | z | z | z
 .let(d,a):=h.ob;rw[z,a] at e;ext e
 .let(k,a,_):=h.pn;rw[z,a] at e;ext e
 .let(a,y):=h.lst z;rw[e] at y;ext y
 .let(a,y):=h.xl b z;rw[e] at y;ext y
 .let(o,a,_,d):=h.fk.there z;rw[e] at a;ext a;rwa[d t S]
def YE.oI(h:YE C CM H p F m O)(e:H b=_s (.tup t)):¬O b:=by
 let(M,d,L,a,_,W,S):=h;rwa[W.oI e]
def YE.keep(h:YE C CM H p F m O)(k:∀b o,O b->H b=_s o->J b=_s o)(a:YB H J):YE C CM J p F m O:=by
 let(M,f,L,d,e,W,S):=h;rwa[M,f,L,d,e,W.keep k a,rfl]
structure Ww (C CM p s la nl:jP) (W:WL) (ns:jJ) (H:Hp) (fx:jM) (st:U8) (as:List AD) (O:jP->Prop):Prop where
 w:YE C CM H p st.1 st.2 O
 sr:ZL H s la
 wd:ZY s H fx W as (as.filter isC) (Zg as).2.oX
 nm:H nl=_s (.lst (ns.map V.str))
 o:∀b∈s::la::nl::W.wl::W.dl::W.sl::W.tl::fx,¬O b/\∃v,H b=_s (.lst v)
 nn:nl ∉ [s,W.dl,W.sl,W.tl]
 nl:la ∉ [s,W.dl,W.sl,W.tl]
variable{p s la nl:jP}{W:WL}{ns:jJ}{H J:Hp}{fx gx:jM}{st st':U8}{as:List AD}{O O':jP->Prop}
def Ww.step(h:Ww C CM p s la nl W ns H fx st as O)(k:YE C CM J p st'.1 st'.2 O')(f:YK O H O' J):Ww C CM p s la nl W ns J fx st' as O':=by
 let m:∀{b:jP}{o:HO},H b=_s o->¬O b->¬O' b:=λe n z=>(f.2 _ z).elim n (λy=>by rw[e] at y;ext y);let(l,i,j,st,cnt,a,b,c,d):=id h.sr;let g:=h.o;erw[k,(l,i,j,st,cnt,f.1 _ _ a (g s (by simp)).1,f.1 _ _ b (g la (by simp)).1,c,d),h.wd.keep (λb u e=>f.1 _ _ e (h.w.oI e)) (λb a o e=>f.1 _ _ e (g b (xM _ (xM _ (xM _ a)))).1),f.1 _ _ h.nm (g nl (by simp)).1,λx a=>?_,h.nn,h.nl];let(n,v,e):=g x a;rwa[m e n,v,f.1 _ _ e n]
def Ww.x(h:Ww C CM p s la nl W ns H fx st as O)(hs:ZL J s la)(k:ZF s H J):Ww C CM p s la nl W ns J fx st as O:=by
 let(_,_,_,_,_,a,_):=id h.sr;let b:nl≠s:=λz=>h.nn (by rw[z];simp);erw[h.w.x a (h.o s (by simp)).1 k,hs,h.wd.x h.sr k,k _ _ b h.nm,λx a=>?_,h.nn,h.nl];let(n,v,e):=h.o x a
 by_cases z:x=s
 .let(_,_,_,_,_,y,_):=hs;rw[z];rwa[z▸n,_,y]
 .rwa[n,v,k _ _ z e]
theorem Ww.same(h:Ww C CM p s la nl W ns H fx st as O)(k:ZC H J):Ww C CM p s la nl W ns J fx st as O:=h.step (h.w.same k) (YK.same k)
theorem Ww.more(h:Ww C CM p s la nl W ns H fx st as O)(d:∀b∈gx,(¬O b/\∃v,H b=_s (.lst v))/\b ∉ [s,W.dl,W.sl,W.tl]):Ww C CM p s la nl W ns H (gx++fx) st as O :=
 (h.w,h.sr,h.wd.more (λb a z=>(d b a).2 (by rw[z];simp)) (λb a z=>(d b a).2 (xM _ z)),h.nm,λb a=>by
  let a:b∈gx\/b∈s::la::nl::W.wl::W.dl::W.sl::W.tl::fx:=by
   simp only[xD,xK] at a |-
   grind
  rcases a with z | z
  .rwa[(d b z).1]
  .rwa[h.o b z],h.nn,h.nl)
theorem Ww.new(h:Ww C CM p s la nl W ns H fx st as O){b:jP}(e:H b=_n):b ∉ [s,W.dl,W.sl,W.tl]:=λz=>by
 have:b∈s::la::nl::W.wl::W.dl::W.sl::W.tl::fx:=by
  simp only[xD,xW,or_false] at z |-
  grind
 let(_,v,y):=h.o b this;rw[e] at y;ext y
def Ww.tryS(U:Ww C CM p s la nl W ns H fx (Zg as) as O)(k:Wk ns as){q:jP}{d:SD}(e:H q=_s (.tup (sdV d)))(b:dOk ns d){Q:V->Hp->Prop}{E:XK}(g:∀ (l:jP) (a:aG) (J:Hp) (O':jP->Prop),J l=_s (.lst a)->YK O H O' J->(a=[]/\eSD (Zg as).1 (Zg as).2 d≠_n/\Ww C CM p s la nl W ns J fx (Zg as) as O')\/(a=[sdR (Zg as).2 d]/\eSD (Zg as).1 (Zg as).2 d=_n/\Ww C CM p s la nl W ns J fx (Zg (as ++ [.s d])) as O')->Q (.ref l) J) :
  (Sp.or (WR C CM) (WT C CM)) [.ref p,.ref q] H Q E:=by
 erw[.inl (p,_,_,O,q,d,S,U.w,e,k.sdOk b,Qf _ _ _,λO' l J b a _ f=>?_)];cases e:eSD (Zg as).1 (Zg as).2 d with
 | none =>
  rw[e] at b f;rwa[g l _ J O' f a (.inr (S,e,by rw[JH];rwa[U.step b a]))]
 | some x =>
  rw[e] at b f;rwa[g l _ J O' f a (.inl (S,(λz=>by rw[e] at z;ext z),U.step b a))]
def Ww.tryC(U:Ww C CM p s la nl W ns H fx (Zg as) as O)(k:Wk ns as){q e h:jP}{d:CD}{day a:Int}{b f:jJ}(u:H q=_s (.tup (cdV day a e h d)))(m:H e=_s (.lst (b.map V.str)))(o:H h=_s (.lst (f.map V.str)))(r:cOk ns d)(t:∀n∈b++f,n∈ns)(v:b.9<=60)(x:f.9<=60)(j:okI day)(y:okI a){Q:V->Hp->Prop}{E:XK}(g:∀ (l:jP) (i:aG) (J:Hp) (O':jP->Prop),J l=_s (.lst i)->YK O H O' J->(i=[]/\eCD (Zg as).1 (Zg as).2 day a (wf as day) b f d≠_n/\Ww C CM p s la nl W ns J fx (Zg as) as O')\/(i=[.int (Zg as).2.oX.9]/\eCD (Zg as).1 (Zg as).2 day a (wf as day) b f d=_n/\Ww C CM p s la nl W ns J fx (Zg (as ++ [.c d day a b f (wf as day)])) as O')->Q (.ref l) J) :
  (Sp.or (WR C CM) (WT C CM)) [.ref p,.ref q] H Q E:=by
 erw[.inr (p,_,_,O,q,d,day,a,e,h,b,f,wf as day,S,U.w,u,(k.ok,by have:=k.ln;have:=k.g.1;lia,m,o,v,x,j,y,k.cs t),k.cdOk r,QR _ _ _ _ _ _ _ _,λO' l J i h _ j=>?_)];cases e:eCD (Zg as).1 (Zg as).2 day a (wf as day) b f d with
 | none =>
  rw[e] at i j;rwa[g l _ J O' j h (.inr (S,e,by rw[JH];rwa[U.step i h]))]
 | some x =>
  rw[e] at i j;rwa[g l _ J O' j h (.inl (S,(λz=>by rw[e] at z;ext z),U.step i h))]
def Ww.keep{x:AD}{v:V}(U:Ww C CM p s la nl W ns H fx (Zg (as ++ [x])) as O)(k:Wk ns as)(kx:kss as (Zg as).2.oX x=(Zg (as ++ [x])).2.oX)(re:YA (fz fx H) (adT x) v)(Z:∀d day r F G f,x=.c d day r F G f->F.9<=60/\G.9<=60){Q:V->Hp->Prop}{E:XK}(g:∀ (h:jM) (J:Hp),Ww C CM p s la nl W ns J h (Zg (as ++ [x])) (as ++ [x]) O->(∀b o,b ∉ [W.dl,W.sl,W.tl]->H b=_s o->J b=_s o)->(∀b∈h,b∈fx\/H b=_n)->Q .non J):VY [.ref W.wl,v] H Q E:=by
 let T:=k.g.1;let Y:=k.ok.le;let(_,_,_,_,_,X,_):=id U.sr;erw[v,s,W,fx,as,as.filter isC,(Zg as).2.oX,x,S,U.wd,re,(),xX (yQ _ _) (),(),Z,(_,X),λh J l j B=>?_];let R:as.filter isC++(if isC x then [x] else [])=(as ++ [x]).filter isC:=by grind
 rw[R,kx] at l;let sn:s ∉ [W.dl,W.sl,W.tl]:=λz=>by
  have:=U.wd.ne;simp only[xD,xW,or_false] at z;rcases z with z | z | z
  .rwa[this W.dl (by simp) z.6]
  .rwa[this W.sl (by simp) z.6]
  .rwa[this W.tl (by simp) z.6]
 let oO:∀b,O b->b ∉ [W.dl,W.sl,W.tl]:=λb m z=>(U.o b (by simp only[xD,xW,or_false] at z |-;grind)).1 m
 let kt:YB H J:=λb u e=>j _ _ (λz=>by
  let(_,I,y):=U.o b (by simp only[xD,xW,or_false] at z |-;grind)
  rw[e] at y;ext y) e
 let ln:la ∉ [W.dl,W.sl,W.tl]:=λz=>U.nl (xM _ z);let(ks,i,A,st,cnt,a,b,K,L):=id U.sr;erw[g h J (U.w.keep (λb o m e=>j _ _ (oO b m) e) kt,(ks,i,A,st,cnt,j _ _ sn a,j _ _ ln b,K,L),l,j _ _ (λz=>U.nn (xM _ z)) U.nm,λy n=>?_,U.nn,U.nl) j (λb m=>(B b m).imp id λz=>z.1)];let t:∀y∈s::la::nl::W.wl::W.dl::W.sl::W.tl::fx,¬O y/\∃v,J y=_s (.lst v):=λy n=>by
  let(no,I,e):=U.o y n;erw[no,?_]
  by_cases z:y ∈ [W.dl,W.sl,W.tl]
  .let(u1,M,_):=l.d;let(u2,N,_):=l.u;let(u3,P,_):=l.t;simp only[xD,xW,or_false] at z;rcases z with rfl | rfl | rfl
   .rwa[_,M]
   .rwa[_,N]
   .rwa[_,P]
  .rwa[I,j _ _ z e]
 let n:y∈s::la::nl::W.wl::W.dl::W.sl::W.tl::fx\/y∈h:=by
  simp only[xD] at n |-
  grind
 rcases n with z | z
 .rwa[t y z]
 .rcases B y z with z | ⟨e,vs,e'⟩
  .rwa[t y (by simp[z])]
  .rwa[U.w.out e,vs,e']
end
section
variable{C CM:jP}
variable{p s la nl:jP}{W:WL}{ns:jJ}{H J:Hp}{fx:jM}{as:List AD}{O O':jP->Prop}
def Ww.put(h:Ww C CM p s la nl W ns H fx st as O)(e:H r=_s (.lst vs))(a:¬O r)(g:r∉s::la::nl::W.wl::W.dl::W.sl::W.tl::fx):Ww C CM p s la nl W ns (upd H r (.lst us)) fx st as O:=by
 let d:ZF r H (upd H r (.lst us)):=ZF.upd;let f:∀b∈s::la::nl::W.wl::W.dl::W.sl::W.tl::fx,b≠r:=λb c z=>g (z▸c);erw[h.w.x e a d,h.sr.oj d (f s (by simp)).symm (f la (by simp)).6,h.wd.keep (λb u y=>d _ _ (λz=>by rw[z,e] at y;ext y) y) (λb c o y=>d _ _ (f b (xM _ (xM _ (xM _ c)))) y),d _ _ (f nl (by simp)) h.nm,λb c=>?_,h.nn,h.nl];let(a,v,y):=h.o b c;rwa[a,v,d _ _ (f b c) y]
theorem Ww.fresh(h:Ww C CM p s la nl W ns H fx st as O)(e:H r=_n):¬O r/\r∉s::la::nl::W.wl::W.dl::W.sl::W.tl::fx:=(h.w.out e,λz=>by
 let(_,v,y):=h.o r z
 rw[e] at y;ext y)
abbrev Jo(F:List SD):List D:=F.map λd=>adT (.s d)
def Rw.x(h:WD H [] r (Jo F))(hs:ZL H s la)(k:ZF s H J)(n:r≠s):WD J [] r (Jo F):=by
 let(_,_,_,_,_,a,_):=hs;rwa[h.mono (λo e=>k _ _ n e) (Wu (λb u e=>k _ _ (λz=>by rw[z,a] at e;ext e) e) (λx a=>by ext a) λ_ z=>z)]
theorem Rw.same(h:WD H [] r (Jo F))(k:ZC H J):WD J [] r (Jo F):=h.mono (λo e=>k _ _ e) (Wu (λ_ _ e=>k _ _ e) (λx a=>by ext a) λ_ z=>z)
def Rw.add{r q:jP}(h:WD H [] r (Jo F))(e:H r=_s (.lst us))(a:H q=_s (.tup (sdV d))):WD (upd H r (.lst (us ++ [.ref q]))) [] r (Jo (F ++ [d])):=by
 let c:ZF r H (upd H r (.lst (us ++ [.ref q]))):=ZF.upd;let f:ZC (fz [] H) (fz [] (upd H r (.lst (us ++ [.ref q])))):=Wu (λb u y=>c _ _ (λz=>by rw[z,e] at y;ext y) y) (λx b=>by ext b) λ_ z=>z;show WD _ [] r ((F ++ [d]).map _);rw[xL];rwa[h.snoc e f (q,_,S,Wi a,BP _ d)]
def IZ(ns:jJ):SD->Prop
 | .come n a b=>n∈ns/\0<=a/\a<=3/\1<=b/\b<=1000
 | .bring n a=>n∈ns/\3<=a/\a<=5
 | _=>False
structure AM (ns:jJ) (k:Nat) (F:List ZK):Prop where
 cm:Vr F=ns.take k
 com:∀n,n∈ns.take k->∃d,Zp F n=_s d/\0<=d/\d<=3
 no:∀n,n∉ns.take k->Zp F n=_n
def cmN:SD->List Str
 | .come n _ _=>[n]
 | _=>[]
def SW{ns:jJ}{F:List SD}{i:Nat}{d:SD}(h:F.flatMap cmN=ns)(a:F[i]?=_s d):∃B,ns=(F.take i).flatMap cmN++(cmN d++B):=by
 let b:=(xH.mp a).1;let e:F=F.take i++d::F.drop (i+1):=by
  have:=(xH.mp a).2;rw[<- this,<- zO b,yZ]
 rwa[(F.drop (i+1)).flatMap cmN,by rw[<- h];conv=>lhs;rw[e,wK,List.flatMap_cons]]
def AM.come(h:AM ns k F)(a:ns[k]?=_s n)(c:ns.Nodup)(d:0<=day)(e:day<=3):n∉ns.take k/\AM ns (k+1) (F ++ [.come n day wt]):=by
 let b:ns.take (k+1)=ns.take k ++ [n]:=by rw[xQ,a];rfl
 let a:n∉ns.take k:=λz=>by
  have:=c.sublist (List.take_sublist (k+1) ns);rw[b] at this;rwa[(List.nodup_append.mp this).2.2 n z n (by simp) S]
 let c:=h.no n a;erw[a,by rw[Dl,h.cm,b];rfl,λm a=>?_,λm a=>?_]
 .rw[Dx c]
  by_cases z:m=n
  .rw[_j z];rwa[day,S,d,e]
  .rw[_i z];rw[b] at a;rwa[h.com m ((xK.mp a).elim id λy=>_a (xV.mp y) z)]
 .rw[b] at a;rw[Dx c,_i (λz=>a (by rw[z];simp))];rwa[h.no m λz=>a (yP _ z)]
inductive UV(C CM:jP)(vs:aG)(H:Hp)(Q:VK)(a:XK):Prop
 |mk(p s la nl:jP) (W:WL) (ns:jJ) (fx:jM) (O:jP->Prop)(_:vs=[.ref s,.ref p,.ref W.wl,.ref nl])(_:Ww C CM p s la nl W ns H fx (Zg []) [] O)(_:Wk ns [])(_:ns.9<=40)(_:∀(a:jM)(as:List AD)(O':jP->Prop)(J:Hp),Ww C CM p s la nl W ns J a (Zg as) as O'->Wk ns as->AM ns ns.length (Zg as).1->as.9<=ns.9+2->Q .non J)
abbrev KY:Stmt:=top 83
def iU(b:YC K mg "_law_start" KY)(T:Txt mg)(a:Fn P w K mg Z "_law_next" lp 1 YI)(c:Fn P w K mg Z "_law_try" lO 9 (Sp.or (WR C CM) (WT C CM)))(d:Fn P w K mg Z "_law_keep" lN 2 VY):Fn P w K mg Z "_law_start" lu 10 (UV C CM):=by
 erw[b.fq ["_law_src_here","_law_moot","_law_world","_law_names_here","_law_rows","_law_name","_law_k","_law_deed_here"] λH e Q E b h=>?_];let(p,s,la,nl,W,ns,fx,O,S,U,hk,b,k):=h;erw[rfl,_,(Zc (Zw 4 (Yn Zb)) (Zc (Y5 mO S (Ys Q3) (Z8 5) (Zf (Zl (Yz aD aE aF Y1 Q4 (Za (Z7 (Za Z9 (Za Q5 (Za (Zk a (Za Q0 (Za Ze Zb))) (Za (Z0 Y7 Ze (Zk a (Za Q0 (Za (Zh Yg (Yn (Za Ze (Za Ze (Za Ze Zb)))) (Zk a (Za Q0 (Za Ze Zb)))) Zb)))) Zb))))) Zb))))) (Zc (Y5 mO S (Au T.range (Za (Z0 Y7 Ze (Zk a (Za Q0 (Za Ze Zb)))) Zb)) (Z8 6) (Zf (Zl (Yz aD aE aF Y1 Q4 (Za (Z7 (Za Z9 (Za (Zh Yg Q3 (Zk a (Za Q0 (Za (Z1 Yu T.len Ym (Za Q3 Zb)) Zb)))) (Za (Z0 Y7 Ze (Zk a (Za Q0 (Za Ze Zb)))) Zb)))) Zb))))) (Zf (Y5 mO S (Ys Q4) (Z8 7) (Zf (Zs (Zn J8 (Z1 Yu T.len Ym (Za (Zk c (Za Q1 (Za Q7 Zb))) Zb)) Ze (Zo _)) (Zf (Zl (Zk d (Za Q2 (Za Q7 Zb))))) Zr))))))),?_];let a:=aC
 let a:=hk.n0;let a:nl≠s:=λz=>U.nn (by rw[z];simp);erw[aB S,λa b=>?_];let(nr,I):=U.fresh b;let U1:=U.same (ZC.new (o:=.lst []) b);let b:WD (upd H a (.lst [])) [] a (Jo []):=([],Zi,S);generalize (upd H a (.lst []))=c at U1 b |-;let rs:a≠s:=λz=>I (by rw[z];simp);erw[Yb ?_]
 try dsimp only [Y0]
 erw[_,S,nl,S,(_,ZG.of U1.nm),?_];erw[Ws (ns.map V.str) (λi Y J=>∃(v5:Option V)(F:List SD),Y=[_s (.ref s),_s (.ref p),_s (.ref W.wl),_s (.ref nl),_s (.ref a),v5,_n,_n]/\Ww C CM p s la nl W ns J fx (Zg []) [] O/\WD J [] a (Jo F)/\(∀d∈F,IZ ns d)/\F.flatMap cmN=ns.take i/\F.9=i) (_n,[],S,U1,b,(λd h=>nomatch h),S,S) (λi Y J _ ⟨_,_,_,U,_,_,_,_⟩=>ZG.of U.nm) ?_ ?_]
 .rintro i v Y H2 hv hI;erw[opq λD0 r _ _ _=>?_];let(v5,F,S,M,r2,g,c,f):=hI;rw[xF] at hv;let(n,hn,S):=xS.mp hv;let B:=xN hn;let(us,hu,G):=id r2;let E:=G.9;rw[xA] at E;let a5:=(xH.mp hn).1;erw[_,S,.inl (S,_,ZG.of hu),_,S,_,S,s,la,4,S,M.sr,aA,aA,λX H3 a3 a4 y j=>?_];let U3:=M.x y j;let r3:=Rw.x r2 M.sr j rs;erw[_,S,aB S,λe b=>?_];let l:=ZC.new (o:=.lst [.int 9,.int 30,.int 1000]) b;let u:(upd H3 e (.lst [.int 9,.int 30,.int 1000])) e=_s (.lst [.int 9,.int 30,.int 1000]):=Zi;let o:e≠s:=(y.ne b).1;generalize (upd H3 e (.lst [.int 9,.int 30,.int 1000]))=H4 at l u |-;let A:=U3.same l;let r4:=Rw.same r3 l;erw[_,S,s,la,3,S,A.sr,aA,aA,λm H5 b t a0 l=>?_];let t:=A.x a0 l;let r5:=Rw.x r4 A.sr l rs;obtain⟨b,N,x⟩:∃b:Int,atI [V.int 9,V.int 30,V.int 1000] m=_s (.int b)/\0<b/\b<=1000:=by
   rcases(show m=0\/m=1\/m=2 by lia) with rfl | rfl | rfl
   .rwa[9,S,aA,aA]
   .rwa[30,S,aA,aA]
   .rwa[1000,S,aA,aA]
  erw[e,_,_,.int b,S,S,ZG.of (l _ _ o u),N,s,la,b,S,t.sr,(),(),λm L Q R a1 x=>?_];let N:=t.x a1 x;let r6:=Rw.x r5 t.sr x rs;erw[_,_,S,S,aB S,λq hq=>?_];let R:=ZC.new (o:=.tup [.str "come", .str n,.int X,.int (1+m)]) hq;let k7:(upd L q (.tup [.str "come", .str n,.int X,.int (1+m)])) q=_s (.tup (sdV (.come n X (1+m)))):=Zi;generalize (upd L q (.tup [.str "come", .str n,.int X,.int (1+m)]))=H7 at R k7 |-;let U7:=N.same R;let r7:=Rw.same r6 R;let(a2,e,u):=id r7;let o:=u.9;rw[xA] at o;erw[a,a2,.ref q,S,S,e,(),?_];erw[r _ _ (_,F ++ [.come n X (1+m)],S,U7.put e nr I,Rw.add r7 e k7,λd Q=>?_,?_,by rw[Wj,f])]
  .rcases xK.mp Q with z | z
   .rwa[g d z]
   .rw[xV.mp z];rwa[B,a3,(),(),()]
  .rw[wK,c,xQ,hn];rfl
 rintro Y H2 ⟨v5,F,rfl,M,r2,g,c,f⟩;rw[xA] at c f;rw[xR] at c;erw[_,S,s,la,2,S,M.sr,aA,aA,λX H3 a3 a4 y j=>?_];let U3:=M.x y j;let r3:=Rw.x r2 M.sr j rs;erw[_,_,S,S,_,S,(),(),?_];erw[Bl (1+X).toNat () (λi Y J=>∃(m:Option V)(F:List SD),Y=[_s (.ref s),_s (.ref p),_s (.ref W.wl),_s (.ref nl),_s (.ref a),v5,m,_n]/\Ww C CM p s la nl W ns J fx (Zg []) [] O/\WD J [] a (Jo F)/\(∀d∈F,IZ ns d)/\F.flatMap cmN=ns/\F.9=ns.9+i) (_n,F,S,U3,r3,g,c,()) ?_ ?_]
 .rintro i Y H4 j hI;erw[opq λD0 r _ _ _=>?_];let(m,F,S,A,r4,g,c,f):=hI;let(us,hu,G):=id r4;erw[_,S,.inl (S,_,ZG.of hu),_,S,_,S,_,S,nl,_,S,.inl (ZG.of A.nm),s,la,_,S,A.sr,by rw[xA];lia,by rw[xA];lia,λj H5 y X a0 l=>?_];rw[xA] at X;let t:=A.x a0 l;let r5:=Rw.x r4 A.sr l rs;let(j,S):=yL y;let l:j<ns.9:=by lia
  erw[nl,_,_,.str ns[j],S,S,ZG.of t.nm,Yy (by rw[xF,xC l];rfl),?_];let B:ns[j]∈ns:=zH l;generalize ns[j]=n at B;erw[_,S,s,la,3,S,t.sr,aA,aA,λz L j l a1 x=>?_];let N:=t.x a1 x;let r6:=Rw.x r5 t.sr x rs;erw[_,_,S,S,aB S,λq hq=>?_];let R:=ZC.new (o:=.tup [.str "bring", .str n,.int (3+z)]) hq;let k7:(upd L q (.tup [.str "bring", .str n,.int (3+z)])) q=_s (.tup (sdV (.bring n (3+z)))):=Zi;generalize (upd L q (.tup [.str "bring", .str n,.int (3+z)]))=H7 at R k7 |-;let U7:=N.same R;let r7:=Rw.same r6 R;let(a2,e,u):=id r7;let o:=u.9;rw[xA] at o;erw[a,a2,.ref q,S,S,e,(),?_];erw[r _ _ (_,F ++ [.bring n (3+z)],S,U7.put e nr I,Rw.add r7 e k7,λd Q=>?_,?_,by rw[Wj,f];lia)]
  .rcases xK.mp Q with y | y
   .rwa[g d y]
   .rw[xV.mp y];rwa[B,(),()]
  .rw[wK,c];rwa[yC _]
 rintro Y H4 ⟨m,F,rfl,A,r4,g,c,f⟩;clear U U1 M U3 r2 r3;let(us,hu,G):=id r4;let E:=G.9;rw[xA] at E;erw[_,S,a,S,(_,ZG.of hu),?_];erw[Ws us (λi Y J=>∃(v7:Option V)(j:jM)(as:List AD)(O':jP->Prop),Y=[_s (.ref s),_s (.ref p),_s (.ref W.wl),_s (.ref nl),_s (.ref a),v5,m,v7]/\Ww C CM p s la nl W ns J j (Zg as) as O'/\Wk ns as/\AM ns ((F.take i).flatMap cmN).length (Zg as).1/\as.9<=i/\¬O' a/\a∉s::la::nl::W.wl::W.dl::W.sl::W.tl::j/\WD J [] a (Jo F)/\J a=_s (.lst us)) (_n,fx,[],O,S,A,hk,(S,(λn h=>nomatch h),λn _=>rfl),xE _,nr,I,r4,hu) (λi Y J _ ⟨_,_,_,_,_,_,_,_,_,_,_,_,e⟩=>ZG.of e) ?_ ?_]
 .rintro i v Y H5 hv hI;erw[opq λD0 r _ _ _=>?_];let(v7,j,as,O',S,t,m,v,al5,G,h,r5,A):=hI;let(o,f,l):=id r5;rw[A] at f;ext f;let(u,f,o):=l.get hv;rw[xF] at f;let(d,Q,S):=xS.mp f;let f:=g d (xN Q);let(q,S,hq):=BI o;let U:dOk ns d:=by
   cases d with
   | come n g M=>rwa[f.1,Vh f.2.1 (by have:=f.2.2.1;lia),Vh (by have:=f.2.2.2.1;lia) (by have:=f.2.2.2.2;lia)]
   | bring n g=>rwa[f.1,Vh (by have:=f.2.1;lia) (by have:=f.2.2;lia)]
   | _=>rwa[f.elim]
  let et:F.take (i+1)=F.take i ++ [d]:=by rw[xQ,Q];rfl
  let a5:=(xH.mp Q).1;erw[_,S,_,S,t.tryS m hq U λl o L O6 kl R hc=>?_];let X:¬O6 a:=λz=>(R.2 a z).elim G (λy=>by rw[A] at y;ext y);let r6:WD L [] a (Jo F):=r5.mono (λo e=>R.1 _ _ e G) (Wu (λb u e=>R.1 _ _ e (t.w.oI e)) (λx hx=>by ext hx) λ_ z=>z);let I:=R.1 _ _ A G;let(B,hB):=SW c Q;let B:∀n,cmN d=[n]->ns[((F.take i).flatMap cmN).9]?=_s n:=λn e=>by grind
  rw[et,wK] at r;let Q:[d].flatMap cmN=cmN d:=by simp
  rw[Q,xG] at r;let gr:eSD (Zg as).1 (Zg as).2 d=_n->AM ns (((F.take i).flatMap cmN).9+(cmN d).9) (Zg (as ++ [.s d])).1:=λ_=>by
   rw[AC];cases d with
   | come n g M=>rwa[(v.come (B n S) m.nd f.2.1 f.2.2.1).2]
   | bring n g=>rwa[v]
   | _=>rwa[f.elim]
  rcases hc with⟨rfl,i,N⟩ | ⟨rfl,he,N⟩
  .erw[l,_,S,.inl (ZG.of kl),_,_,S,S,_,S,Zy (λz=>_a z aA) (λ_=>r _ _ (_,j,as,O6,S,N,m,?_,(),X,h,r6,I))];cases d with
   | come n g M =>
    exfalso;apply i;let i:=B n S;let B:=(xH.mp i).1;let B:(Vr (Zg as).1).9<40:=by rw[v.cm,xY];lia
    let Q:=v.no n (v.come (wt:=M) i m.nd f.2.1 f.2.2.1).1;let i:=m.g.1;let y1:=f.2.1;let i:=f.2.2.1;let y3:=f.2.2.2.1;let y4:=f.2.2.2.2
    show ((Ut (Zg as).1 n g M).or (Wd (Zg as).2))=_n;let em:Wd (Zg as).2=none:=_j (by rw[CW];lia);let i:Ut (Zg as).1 n g M=none:=by
     unfold Ut;rw[_i (by rw[gZ (m.nn n f.1)];decide),_j Q,_j B,show eM 0 9999 g=_n from _j (y1,()),show eM 1 1000 M=_n from _j (y3,y4)];rfl
    rw[i,em];rfl
   | bring n g=>rwa[v]
   | _=>rwa[f.elim]
  .let f:YA (fz j L) (adT (.s d)) (.ref q):=(q,_,S,Wi (R.1 _ _ hq (t.w.oI hq)),BP _ d);erw[l,_,S,.inl (ZG.of kl),_,_,S,S,_,S,Zy (λ_=>?_) (λz=>_a (show (0:Int)<1 by decide) z)];erw[_,S,_,S,?_];dsimp only [Vu];erw[N.keep m (by rw[JH];ext d<;>rfl) f (λ_ _ _ _ _ _ z=>by ext z) λf H7 U7 g l=>?_];let i:a ∉ [W.dl,W.sl,W.tl]:=λz=>h (by simp only[xD,xW,or_false] at z |-;grind);erw[r _ _ (_,f,as ++ [.s d],O6,S,U7,m.snoc U he,gr he,by rw[Wj];lia,X,?_,?_,g _ _ i I)]
   .intro z;rcases xD.mp (show a∈s::la::nl::W.wl::W.dl::W.sl::W.tl::f from z) with y | y
    .rwa[h (by rw[y];simp)]
    .have:a∈s::la::nl::W.wl::W.dl::W.sl::W.tl::j\/a∈f:=by
      simp only[xD] at z |-
      grind
     rcases this with y | y
     .rwa[h y]
     .rcases l a y with y | y
      .rwa[h (by simp[y])]
      .rw[I] at y;ext y
   .erw[r6.mono (λo e=>g _ _ i e) (Wu (λb u e=>g _ _ (λz=>?_) e) (λx hx=>by ext hx) λ_ z=>z)];let(_,a,y):=N.o b (by simp only[xD,xW,or_false] at z |-;grind);rw[e] at y;ext y
 .rintro Y H5 ⟨v7,j,as,O',rfl,t,m,v,al5,G,h,r5,A⟩;rw[E,xR,c] at v;rwa[k j as O' H5 t m v ()]
end
def X0(s:U8)(x:AD):∃r,(Ji s x).1=s.1++r:=by
 cases x with
 | s d=>ext d<;>first | rwa[_,rfl]| rwa[[],(yC _).6]
 | c d b a c e f=>rwa[[],(yC _).6]
theorem Hy:∀(bs:List AD)(s:U8),∃r,(bs.foldl Ji s).1=s.1++r
 | [],s=>([],(yC _).6)
 | x::bs,s=>by
  let(c,a):=X0 s x;let(d,b):=Hy bs (Ji s x);rwa[c++d,by rw[zX,b,a,yX]]
def Ic(as:List AD)(i:Nat):∃r,(Zg as).1=(Zg (as.take i)).1++r:=by
 let(r,e):=Hy (as.drop i) (Zg (as.take i));erw[r,?_];rw[<- e];unfold Zg;rw[<- zQ,yZ]
def Hm(h:Zp (Zg (as.take i)).1 n=_s d):Zp (Zg as).1 n=_s d:=by
 let(r,e):=Ic as i;rw[e,Cw,h];rfl
def MD(h:Z2 (Zg (as.take i)).1 n=_s d):Z2 (Zg as).1 n=_s d:=by
 let(r,e):=Ic as i;rw[e,Cz,h];rfl
def XM(h:Yx x="die"):∃n a d,x=.s (.die n a d):=by
 cases x with
 | s d=>ext d<;>first | rwa[_,_,_,rfl]| rwa[_a h (by dsimp only [Yx];decide +kernel)]
 | c d b a c e f=>ext d<;>rwa[_a h (by dsimp only [Yx];decide +kernel)]
def MA(h:Z2 F n=_n):Z2 (fdS F x) n=(match x with
  | .s (.die m a d)=>if m=n then _s (d,a) else _n
  | _=>_n):=by
 cases x with
 | s d =>
  cases d with
  | come m d b=>rwa[(DF n).trans h]
  | rise m d b=>rwa[(Dq n).trans h]
  | die m a d=>show Z2 (F ++ [_]) n=_;rw[Cz,h];rfl
  | _=>rwa[h]
 | c d b a e g f=>rwa[h]
def fZ(H:Hp):Option (Int×Str)->V->Prop
 | none,v=>v=.non
 | some (d,b),v=>∃a,v=.ref a/\H a=_s (.tup [.int d,.str b])
inductive VR(vs:aG)(H:Hp)(Q:VK)(a:XK):Prop
 |mk(q) (fx) (as) (n)(_:vs=[.ref q,.str n])(_:WD H fx q (as.map adT))(_:∀v J,ZC H J->fZ J (Z2 (Zg as).1 n) v->Q v J)
abbrev HX:Stmt:=top 73
def PU(l:YC K mg "_law_death" HX)(T:Txt mg):Fn P w K mg Z "_law_death" i3 1 VR:=by
 erw[l.fq ["_law_deeds","_law_name","_law_deed_here"] λH B Q E X h=>?_];let(q,W,o,n,S,(B,u,d),k):=h;erw[rfl,_,(Zc (Y5 mO S (Ys Q0) (Z8 2) (Zf (Zs (QW.pt (Vo (Zn Yp (Zh Zq Q2 Ze) Z9 (Zo _)) (V9 (Zn Yp (Zh Zq Q2 Ze) Q1 (Zo _))))) (Zf (Zv (Z7 (Za (Zh Zq Q2 Ze) (Za (Zh Zq Q2 Ze) Zb))))) Zr))) (Zf (Zv Wa))),?_];let hz:=aC
 let g:=d.9;rw[xA] at g;erw[_,S,q,S,(_,ZG.of u),?_];erw[Ws B (λi Y J=>∃s:Option V,Y=[_s (.ref q),_s (.str n),s]/\J=H/\Z2 (Zg (o.take i)).1 n=_n) (_n,S,S,S) (λi Y J _ ⟨_,_,e,_⟩=>by rw[e];rwa[ZG.of u]) ?_ ?_]
 .rintro i v Y J N ⟨s,rfl,rfl,c⟩;let(x0,j,A):=d.get N;rw[xF] at j;let(x,R,S):=xS.mp j;let I:o.take (i+1)=o.take i ++ [x]:=by rw[xQ,R];rfl
  let f:=MA (x:=x) c;rw[<- AC,<- I] at f;let(a,us,S,r,O):=B8 A;erw[_,S,a,_,0,.str (Yx x),S,S,ZR.of r,Yy O,S,_,S,Zy (λz=>?_) (λz=>Zz ?_)]
  .let(m,L,C,S):=XM (by injection z);let(U,F,b):=BI A;ext F;rw[b] at r;ext r;erw[_,S,a,_,1,.str m,S,S,ZR.of b,S,_,S,S,_,S,Zy (λt=>?_) (λt=>?_)]
   .let G:m=n:=by injection t
    let f:=f.trans (_j G);have:=MD f;rw[this] at k;erw[_,S,a,_,2,.int C,S,S,ZR.of b,S,_,S,a,_,3,.str L,S,S,ZR.of b,S,aB S,λp M=>k _ _ (ZC.new M) (p,S,Zi)]
   .erw[_,S,S,f.trans (_i λy=>t (by rw[y]))]
  .erw[_,S,S,f.trans ?_];split
   .rwa[_a S z]
   .rfl
 .rintro Y J ⟨s,rfl,rfl,c⟩;rw[g,xR] at c;rw[c] at k;rwa[k _ _ (ZC.refl _) S]
inductive UG(vs:aG)(H:Hp)(Q:VK)(a:XK):Prop
 |mk(q) (fx) (as) (n) (day)(_:vs=[.ref q,.str n,.int day])(_:WD H fx q (as.map adT))(_:∀J,ZC H J->Q (.bl (V2 (Zg as).1 n day)) J)
abbrev Lj:Stmt:=top 74
def Rf(a:YC K mg "_law_is_dead" Lj)(T:Txt mg)(b:Fn P w K mg Z "_law_death" i3 1 VR):Fn P w K mg Z "_law_is_dead" lB 2 UG:=by
 erw[a.fq ["_law_deeds","_law_name","_law_day","_law_death_here"] λH c Q E a h=>?_];let(q,d,a,n,c,S,e,k):=h;erw[rfl,_,(Zc (Zw 3 (Zk b (Za Q0 (Za Q1 Zb)))) (Zf (Zv (AK (Jq Az Q3 Wa (Zo _)) (Bu (Jq Wr (Zh Zq Q3 Ze) Q2 (Zo _))))))),?_];erw[_,S,_,S,q,d,a,n,S,e,λv c d b=>?_];erw[Yb ?_];let k:=k c d;unfold V2 at k;cases e:Z2 (Zg a).1 n with
 | none =>
  rw[e] at b k;let b:v=.non:=b;subst b;rwa[_,S,S,_,S,Zz k]
 | some x =>
  let(d,a):=x;rw[e] at b k;let(a,S,c):=b;erw[_,S,S,_,S,Z6 ?_];rwa[_,S,a,_,0,.int d,S,S,ZR.of c,S,_,S,_,_,S,S,k]
section
variable{C:jP}
inductive YH (F:List ZK) (day:Int):Nat->Str->Str->Prop where
 | here {n:Str}:V2 F n day=_x->YH F day 0 n n
 | step {n m:Str}{x:Int×Str}{k:Nat}:Z2 F n=_s x->V2 F n day=_t->YH F day k x.2 m->YH F day (k+1) n m
def OL{F:List ZK}{r:Str->Nat}(h:∀n x,Z2 F n=_s x->r x.2<r n)(day:Int):∀b n,r n<=b->∃k m,YH F day k n m/\k<=b:=by
 intro b
 induction b with
 | zero =>
  intro n c;cases e:V2 F n day with
  | false=>rwa[0,n,.here e,yJ _]
  | true =>
   unfold V2 at e;cases a:Z2 F n with
   | none=>rw[a] at e;ext e
   | some x=>have:=h n x a;lia
 | succ b f =>
  intro n c;cases e:V2 F n day with
  | false=>rwa[0,n,.here e,yJ _]
  | true =>
   let d:=e;unfold V2 at e;cases a:Z2 F n with
   | none=>rw[a] at e;ext e
   | some x =>
    have:=h n x a;let(k,m,c,e):=f x.2 ();rwa[k+1,m,.step a d c,()]
def YJ(F:List ZK)(i:Nat):Prop:=∃r:Str->Nat,(∀n x,Z2 F n=_s x->r x.2<r n)/\(∀n,Z2 F n=_n->r n=0)/\∀n,r n<=i
def YJ.die(R:YJ F i)(b:Z2 F n=_n)(a:Z2 F h=_n)(a:h≠n):YJ (F ++ [.die n d h]) (i+1):=by
 let(r,a,c,e):=R;erw[λx=>if x=n then 1 else match Z2 F x with | some _=>r x+1 | none=>0,λm x a=>?_,λm a=>?_,λm=>?_]
 .rw[DV b] at a
  by_cases e:m=n
  .grind
  .grind
 .rw[DV b] at a
  by_cases e:m=n
  .rw[_j e] at a;ext a
  .grind
 .grind
inductive VN(C:jP)(vs:aG)(H:Hp)(Q:VK)(a:XK):Prop
 |mk(L) (F) (n m) (day) (b)(_:vs=[.ref L.p,.str n,.int day])(_:ZZ C H L F)(_:YH F day b n m)(_:Q (.str m) H)
abbrev Kf:Stmt:=Yr (top 43) 10
def RZ(b:ZU K C "stand_in" "Folk.stand_in" Kf)(f:VI K C)(a:Mt P w K mg Z C "died_by" lj 1 (VH C)) :
  Mt P w K mg Z C "stand_in" lj 2 (VN C):=by
 erw[b.mq lj λH b Q E g h=>?_];let(L,F,n,m,c,b,S,d,e,k):=h;erw[rfl,_,(Zc (PC mO (Wq (Ve Q0 f.cl a (Za Q1 (Za Q2 Zb)))) (Zf (Zw 1 (BB g (Z3 Q0) Q1 (λ_ _=>rfl))))) (Zf (Zv Q1))),?_];let(i,l):=d.ob;let(U,a,g,o):=d.h;erw[λj Y J=>∃x,Y=[_s (.ref L.p),_s (.str x),_s (.int c)]/\J=H/\YH F c j x m,(b,n,S,S,e),?_];rintro j Y J ⟨x,rfl,rfl,b⟩;erw[_,S,L.p,i,_,S,l,Y4 _ _ _ _ aA,_,S,_,S,L,F,x,c,S,d,?_];erw[_,S,?_];cases b with
 | here e =>
  rw[e];rwa[Zz (_,S,k)]
 | step b e j =>
  rename_i y d;rw[e];let g:=YD.k (k:=Sum.inr x) a;rw[o,b] at g;erw[Z6 (λb a=>∃e,e<d+1/\∃x,b=[_s (.ref L.p),_s (.str x),_s (.int c)]/\a=J/\YH F c e x m,λ_ _ h=>h,?_)];rwa[_,S,L.p,C,i,_,_,S,l,f.cl,f.nh,GH _ _ _ _,_,S,L.dh,.str y.2,S,g,d,(),y.2,S,S,j]
inductive TH(vs:aG)(H:Hp)(Q:VK)(a:XK):Prop
 |mk(q) (fx) (as) (n m) (day) (b)(_:vs=[.ref q,.str n,.int day])(_:WD H fx q (as.map adT))(_:YH (Zg as).1 day b n m)(_:b<=40)(_:∀J,ZC H J->Q (.str m) J)
abbrev Io:Stmt:=top 76
def gJ(a:YC K mg "_law_heir" Io)(T:Txt mg)(d:Fn P w K mg Z "_law_death" i3 1 VR)(c:Fn P w K mg Z "_law_is_dead" lB 2 UG) :
  Fn P w K mg Z "_law_heir" lB 3 TH:=by
 erw[a.fq ["_law_deeds","_law_name","_law_day","_law_k"] λH b Q E a h=>?_];let(q,l,f,n,m,a,b,S,p,g,e,k):=h;erw[rfl,_,(Zc (Y5 mO S (Au T.range (Za Ze Zb)) (Z8 3) (Zc (Zs (Ur (Wq (Zk c (Za Q0 (Za Q1 (Za Q2 Zb)))))) (Zf (Zv Q1)) Zr) (Zf (Zw 1 (Zh Zq (Zk d (Za Q0 (Za Q1 Zb))) Ze))))) (Zf (Zv Q1))),?_];erw[_,S,aA,aA,?_];erw[Bl 41 aA (λi Y J=>∃x j h,Y=[_s (.ref q),_s (.str x),_s (.int a),h]/\ZC H J/\YH (Zg f).1 a j x m/\i+j<=40) (n,b,_n,S,λ_ _ e=>e,g,()) ?_ ?_]
 .rintro i Y J d ⟨x,j,h,rfl,b,g,c⟩;erw[_,S,_,S,_,S,q,l,f,x,a,S,p.mono (b _) (Wu (λ_ _ e=>b _ _ e) (λx _ o e=>b _ _ e) λ_ z=>z),λa d=>(_,S,?_)];cases g with
  | here e =>
   rw[e];rwa[Z6 (_,S,k a (b.trans d))]
  | step i a k =>
   rename_i y m;rw[a];erw[Zz ?_];let a:=b.trans d;erw[_,S,_,S,q,l,f,x,S,p.mono (a _) (Wu (λ_ _ e=>a _ _ e) (λx _ o e=>a _ _ e) λ_ z=>z),λv e f a=>?_];rw[i] at a;let(p,S,e):=a;rwa[p,_,1,.str y.2,S,S,ZR.of e,S,y.2,m,_,S,(b.trans d).trans f,k,()]
 .rintro Y J ⟨x,j,h,rfl,b,g,c⟩;lia
end
def YJ.oQ(R:YJ F i)(a:i<=40)(n:Str)(day:Int):∃k m,YH F day k n m/\k<=40:=by
 let(r,c,a,d):=R;let(k,m,a,b):=OL c day i n (d n);rwa[k,m,a,()]
def YJ.more(R:YJ F i)(h:∀n,Z2 ds' n=Z2 F n):YJ ds' (i+1):=by
 let(r,a,b,c):=R;rwa[r,λn x e=>a n x (by rw[<- h];rwa[e]),λn e=>b n (by rw[<- h];rwa[e]),λn=>wD (c n)]
def YJ.sd(R:YJ F i)(e:eSD F m d=_n):YJ (sdF F d) (i+1):=by
 cases d with
 | come n a b=>rwa[R.more λx=>DF x]
 | rise n a b=>rwa[R.more λx=>Dq x]
 | die n c a =>
  simp only[eSD,Af,yF] at e;let((_,_,_,_,_,a,b),_):=e;let a:Z2 F n=none:=by
   unfold Ar at a
   by_cases z:Z2 F n=_n
   .rwa[z]
   .rw[_i z] at a;ext a
  let b:¬(c=n\/Z2 F c≠_n):=λz=>by rw[_j z] at b;ext b
  rwa[R.die a (Classical.byContradiction λz=>b (.inr z)) (λz=>b (.inl z))]
 | _=>rwa[R.more λ_=>rfl]
def VB.ranked(h:VB as):YJ (Zg as).1 as.9:=by
 let g:∀i,i<=as.9->YJ (Zg (as.take i)).1 i:=by
  intro i
  induction i with
  | zero=>rwa[λ_=>(λ_=>0,λn x e=>(by ext e),λ_ _=>rfl,λ_=>xE _)]
  | succ i b =>
   intro a;obtain⟨x,a⟩:∃x,as[i]?=_s x:=(_,xC ());let R:=b ();let b:=h.2 i x a;rw[show as.take (i+1)=as.take i ++ [x] by rw[xQ,a];rfl,JH];cases x with
   | s d=>rwa[R.sd b.2.1]
   | c d b a e i f=>rwa[R.more λ_=>rfl]
 have:=g as.length (xE _)
 (rw[xR] at this;assumption)
def SR(as:List AD):(Zg as).2.j9=(Yd [] 0 (Zg as).2.oX).1:=by
 suffices h:∀(as:List AD)(s:U8),s.2.j9=(Yd [] 0 s.2.oX).1->(as.foldl Ji s).2.j9=(Yd [] 0 (as.foldl Ji s).2.oX).1 from h as _ S
 intro as
 induction as with
 | nil=>rwa[λs h=>h]
 | cons a as b =>
  intro s h;rw[zX];erw[b _ ?_];cases a with
  | s d=>ext d<;>rwa[h]
  | c d b a e g f=>ext d<;>rfl
theorem LC{t u:TS}{D:YF}{Y:St}{H:Hp}(h:∀b:YF,(∀ a J,u D a J->b.nx a J)->(∀v J,D.rt v J->b.rt v J)->t b Y H):Ug t u D Y H:=h {D with nx:=u D } (λ_ _ h=>h) λ_ _ h=>h
inductive VO(vs:aG)(H:Hp)(Q:VK)(a:XK):Prop
 |mk(l) (ss)(_:vs=[.ref l])(_:ZT H ss l)(_:ss.9<=1000)(_:∀a J,J a=_s (.lst ((Yd [] 0 ss).1.map V.bl))->ZC H J->Q (.ref a) J)
theorem GC(a:List Bm):∀k b i,(Yd a i b).1.drop k=(Yd a (i+k) (b.drop k)).1
 | 0,b,i=>rfl
 | k+1,[],i=>by rw[List.drop_nil,Yd,Yd,List.drop_nil]
 | k+1,t::r,i=>by
  rw[Yd,List.drop_succ_cons,List.drop_succ_cons,GC a k r (i+1)];have:i+1+k=i+(k+1):=by lia
  rw[this]
theorem Ih(a:List Bm)(x:Bm):∀(r:List ZV)(i:Nat),x∈(Yd a i r).2↔x∈a\/∃(j:Nat)(t:ZV),r[j]?=_s t/\(Yd a i r).1[j]?=_s _t/\t.named=_s x
 | [],i=>by rw[Yd];rwa[.inl,λh=>h.elim id λ⟨j,t,e,_,_⟩=>by simp at e]
 | t::r,i=>by
  let g:=Ih a x r (i+1);rw[Yd];generalize decide (0<=U0 (λc n=>decide ((c,n)∈(Yd a (i+1) r).2)) i t)=b;dsimp only;let d:(∃(j:Nat)(u:ZV),(t::r)[j]?=_s u/\(b::(Yd a (i+1) r).1)[j]?=_s _t/\u.named=_s x)↔(b=_t/\t.named=_s x)\/∃(j:Nat)(u:ZV),r[j]?=_s u/\(Yd a (i+1) r).1[j]?=_s _t/\u.named=_s x:=by
   constructor
   .rintro⟨j,u,a,c,f⟩;cases j with
    | zero =>
     let a:_s t=_s u:=a;let c:_s b=_s true:=c;ext a;rwa[.inl (ma c,f)]
    | succ j=>rwa[.inr (j,u,a,c,f)]
   .rintro(⟨rfl,e⟩ | ⟨j,u,a,c,f⟩)
    .rwa[0,t,S,S,e]
    .rwa[j+1,u,a,c,f]
  rw[d];cases b with
  | false =>
   rw[_i xJ,g];rwa[λh=>h.imp id .inr,λh=>h.imp id λz=>z.elim (λq=>nomatch q.1) id]
  | true =>
   rw[_j S,xK,g,Option.mem_toList];constructor
   .grind
   .grind
def SH{b:List ZV}{c:Nat}{t:ZV}(d:b[c]?=_s t):∃br:Int->Str->Bool,(∀n,br c n=_t↔KP (Yd [] 0 b).1 b c n)/\(Yd [] 0 b).1[c]?=_s (decide (0<=U0 br c t)):=by
 let a:=(xH.mp d).1;let f:b.drop c=t::b.drop (c+1):=by
  have:=zO a;rw[this];let e:=xC a;rw[d] at e;rw[ma e]
 erw[λa n=>decide ((a,n)∈(Yd [] (c+1) (b.drop (c+1))).2),λn=>?_,?_]
 .rw[wN,Ih];let a:=GC [] (c+1) b 0;rw[Nat.zero_add] at a;rw[<- a];constructor
  .rintro(h | ⟨j,u,a,d,e⟩)
   .ext h
   .rw[List.getElem?_drop] at a d;rwa[c+1+j,u,(),a,d,e]
  .rintro⟨j,u,g,a,d,e⟩;erw[.inr (j - (c+1),u,?_,?_,e)]
   .grind
   .grind
 .let e0:=GC [] c b 0;rw[Nat.zero_add,f,Yd] at e0;have:(Yd [] 0 b).1[c]?=((Yd [] 0 b).1.drop c)[0]?:=by rw[List.getElem?_drop,Nat.add_zero]
  rw[this,e0];rfl
def IT{br:Int->Str->Bool}{c:Int}{a:Va}{i:Nat}{p:Str×Int}(h:a[i]?=_s p):Ue br c (a.take (i+1))=Ue br c (a.take i)+(if br c p.1 then 0 else p.2):=by
 unfold Ue wts;rw[LR h,xL,List.sum_append];cases br c p.1<;>simp
def SB(m:Nat)(d:n=m)(Pv:Nat->List V->Hp->Prop)(b:Pv 0 [] H)(e:m<=1000000)(a:∀i ys H,Pv i ys H->ys.9<=i)(step:∀i ys H,i<m->Pv i ys H->Vd nl fv g tt te (.int (lo+i)) H (λy J=>Pv (i+1) (ys ++ [y]) J) λJ=>Pv (i+1) ys J)(c:∀ys H,Pv m ys H->∀l,H l=_n->Q (.ref l) (upd H l (.lst ys))):Vz (JD lo n) nl fv g tt te Q H:=by
 subst d;rwa[KR Pv b e a step c]
def Nd{a:List (Option V)}(h:a.9=1):∃w,a=[w]:=by
 match a,h with
 | [w],_=>rwa[w,rfl]
def JB(H:Hp)(bs:List Bool)(e:List ZV)(c k:Nat)(vs:aG):Prop :=
 (∀v∈vs,v=.non\/∃a b d,v=.ref a/\H a=_s (.tup [.int b,.str d]))/\∀n:Str,(∃a,V.ref a∈vs/\H a=_s (.tup [.int c,.str n]))↔∃j t,c<j/\j<k/\e[j]?=_s t/\bs[j]?=_s _t/\t.named=_s ((c:Int),n)
def JB.mono(h:JB H bs ss c k vs)(S:ZC H J):JB J bs ss c k vs:=by
 erw[λv a=>(h.1 v a).imp id λ⟨a,b,d,e,x⟩=>(a,b,d,e,S _ _ x),λn=>?_];rw[<- h.2 n];constructor
 .rintro⟨a,m,e⟩;rcases h.1 _ m with z | ⟨a2,b,d,z,x⟩
  .ext z
  .ext z;rw[S _ _ x] at e;rwa[a,m,by rw[x];rwa[e]]
 .rintro⟨a,m,e⟩;rwa[a,m,S _ _ e]
def JB.skip(h:JB H bs ss c k vs)(g:bs[k]?=_s _x):JB H bs ss c (k+1) vs:=by
 erw[h.1,λn=>?_];rw[h.2 n];constructor
 .rintro⟨j,t,a,b,r,d,e⟩;rwa[j,t,a,(),r,d,e]
 .rintro⟨j,t,a,b,e,d,f⟩;erw[j,t,a,?_,e,d,f]
  by_cases z:j=k
  .subst z;rw[g] at d;ext d
  .lia
def JB.add(h:JB H bs ss c k vs)(A:c<k)(s:ss[k]?=_s t)(w:bs[k]?=_s _t)(e:YA H (Br t.named) u):JB H bs ss c (k+1) (vs ++ [u]):=by
 let g:(u=.non/\t.named=_n)\/∃a b f,u=.ref a/\H a=_s (.tup [.int b,.str f])/\t.named=_s (b,f):=by
  cases i:t.named with
  | none=>rw[i] at e;ext e;rwa[.inl (S,S)]
  | some o =>
   rw[i] at e;let(b,f):=o;let(d,j,S,r,(v,l,S,m,(x,o,S,n,p))):=e;ext m;ext n;ext p;rwa[.inr (d,b,f,S,r,S)]
 erw[λv d=>?_,λn=>?_]
 .rcases xK.mp d with z | z
  .rwa[h.1 v z]
  .cases xV.mp z;rwa[g.imp (·.1) λ⟨a,b,f,e,x,_⟩=>(a,b,f,e,x)]
 .constructor
  .rintro⟨a,m,e⟩;rcases xK.mp m with z | z
   .let(j,p,d,v,r,l,o):=(h.2 n).mp (a,z,e);rwa[j,p,d,(),r,l,o]
   .let z:=xV.mp z;rcases g with⟨y,_⟩ | ⟨a',b,f,y,x,i⟩
    .rw[y] at z;ext z
    .rw[y] at z;ext z;rw[x] at e;ext e;rwa[k,t,A,(),s,w,i]
  .rintro⟨j,p,d,v,l,r,o⟩
   by_cases z:j=k
   .subst z;rw[s] at l;ext l;rcases g with⟨_,y⟩ | ⟨a',b,f,y,x,i⟩
    .rw[y] at o;ext o
    .grind
   .let(a,m,e):=(h.2 n).mpr (j,p,d,(),l,r,o);rwa[a,yP _ m,e]
abbrev Ap:Stmt:=top 89
theorem MW:ZP lA ["_law_suits"] (Zm Ap):=fsc
theorem PB:Nm (Zm Ap) "_law_lost" .local:=aA
theorem Cd:Nm (Zm Ap) "_law_suits" .cell:=aA
theorem Dh:Nm (Zm Ap) "_law_told" .cell:=aA
theorem Qe:Nm (Zm Ap) "range" .globalImplicit:=aA
theorem Pi:Nm (Zm Ap) "reversed" .globalImplicit:=aA
def gT(a:YC K mg "_law_settled" Ap)(T:Txt mg):Fn P w K mg Z "_law_settled" ["_law_suits"] 3 VO:=by
 erw[a.fq lA λH a Q E b h=>?_];let(l,f,rfl,k,a,q):=h
 refine(rfl,_,(Zc (MH (i:=1) MW.nd Dh (Z0 Nb (Yn (Za V0 Zb)) (Z1 Yu T.len Ym (Za (qvC 0 Cd) Zb)))) (Zc (Y5 mO rfl (fV Pi.1 T.reversed Qe.1 T.range (Za (Z1 Yu T.len Ym (Za (qvC 0 Cd) Zb)) Zb)) (Z8 2) (Zc (Jl (Zh Yg (qvC 0 Cd) Q2) (JA (by rfl) (Ye (Z8 3) (Ye (Z8 4) (Ye (Z8 5) (Ye (Z8 6) Vf))))))
 (Zc (DS (locs:=["_law_later"]) (fr:=[("_law_suits", 0),("_law_told", 1)]) (rfl,aA,aA,aA,aA,aA) (.ij Cd (.ij Dh .nil)) rfl (Ol T.range (Za (Z0 Y7 Q2 Ze) (Za (Z1 Yu T.len Ym (Za (qvC 0 Cd) Zb)) Zb))) ⟨λ_ _ _ _ _ _=>by
  let a:(inN ["_law_later"] [("_law_suits", 0),("_law_told", 1)]).Nodup:=aA
  rwa[(Y6 0 a),(Jb (Wq (Zh C6 (Wx 2) (Yj 0)))),(Zh JS (Zh C6 (Wx 1) (Yj 0)) Ze)]⟩ MW.nd PB (by rfl) (i:=7))
 (Zc (Zw 8 (Z0 Ub Ze Q5))
 (Zc (Y5 mO rfl (Ys Q3) (JA (by rfl) (Ye (Z8 9) (Ye (Z8 10) Vf)))
 (Zf (Zs (Zn (Iv b) (Z7 (Za Q2 (Za (qvN 9) Zb))) Q7 rfl) (Zf (Zw 8 (Z0 Y7 Q8 (qvN 10)))) Zr)))
 (Zc (Y5 mO rfl (Ys Q4) (JA (by rfl) (Ye (Z8 9) (Ye (Z8 10) Vf)))
 (Zf (Zs (Zn (Iv b) (Z7 (Za Q2 (Za (qvN 9) Zb))) Q7 rfl) (Zf (Zw 8 (Z0 Ub Q8 (qvN 10)))) Zr)))
 (Zf (Jl (Jq AE Q8 Ze (Zo _)) (Bh (qvC 1 Dh) Q2 Bs)))))))))
 (Zf (Zv (qvC 1 Dh))))),?_)
 let Q:(2000000:Nat)<=sizeLine:=by decide
 let(c,j,a):=id k;let d:c.9=f.9:=by rw[a.9,xA]
 erw[Yq λa g=>?_];erw[aB rfl,λi a=>?_];let e:=ZC.new (o:=.lst [.bl _x]) a;erw[_,rfl,l,c,rfl,.inl (ZG.of (e _ _ j)),i,_,_,rfl,rfl,Zi,(),(),?_,λr b=>?_]
 .show 1 * _<=_;lia
 let m:=ZC.new (o:=.lst (List.replicate (c.9:Int).toNat [V.bl _x]).flatten) b;let n:(upd (upd H i (.lst [.bl _x])) r (.lst (List.replicate (c.9:Int).toNat [V.bl _x]).flatten)) r=_s (.lst ((List.replicate f.length _x).map V.bl)):=by
  rw[Zi,d,yI,List.flatten_replicate_singleton,List.map_replicate]
 let a:=e.trans m;let p:H r=none:=e.free b;generalize (upd (upd H i (.lst [.bl _x])) r (.lst (List.replicate (c.9:Int).toNat [V.bl _x]).flatten))=m at n a |-;erw[Yb (g _ _ ?_)];let N:∀{J:Hp},ZF r m J->ZC H J:=λ{J} E b o e=>E b o (Zj e p) (a _ _ e);erw[Yq λg a1=>?_];erw[_,rfl,l,c,rfl,.inl (ZG.of (a _ _ j)),f.9,by rw[d],(),?_];refine Kt f.length rfl (λi Y J=>∃(v2 v3 v4 v5 v6 v7 v8 o d:Option V)(u:List Bool),Y=[_s (.ref l),_s (.ref r),v2,v3,v4,v5,v6,v7,v8,o,d]/\J r=_s (.lst (u.map V.bl))/\u.9=f.9/\(∀j,f.9 - i<=j->u[j]?=(Yd [] 0 f).1[j]?)/\ZF r m J)
  (_n,_n,_n,_n,_n,_n,_n,_n,_n,List.replicate f.length _x,rfl,n,zZ,(λj hj=>by rw[wU (by rw[zZ];lia),wU (by rw[Ec];lia)]),ZF.refl) ?_ ?_
 .rintro i Y J c a;erw[opq λc a3 _ _ _=>?_];let(v2,v3,v4,v5,v6,v7,v8,o,d,u,rfl,g,C,A,E):=a;obtain⟨c,a⟩:∃c,c=f.9 - 1 - i:=(_,rfl);let a:(f.9:Int) - 1 - (i:Nat)=((c:Nat):Int):=by lia
  rw[a];let a:c<f.9:=by lia
  obtain⟨t,v⟩:∃t,f[c]?=_s t:=(_,xC a);let(s,X,a):=SH v;let p:=k.mono (N E);let(k,m,a):=id p;let n:k.9=f.9:=by rw[a.9,xA]
  let(x,B,H,u4,y,n,(U,w1,rfl,I,F),(W,w2,rfl,M,G),z):=ZT.get (l:=l) a v;erw[Yq λv a=>?_];erw[_,rfl,_,rfl,l,k,c,.ref x,rfl,rfl,ZG.of m,Yy y,x,_,rfl,ZR.of n,rfl,_,_,rfl,_,_,rfl,_,_,rfl,_,_,rfl,rfl,a _ _ ?_];erw[Yq λa a2=>?_];erw[_,rfl,_,_,rfl,rfl,_,rfl,l,k,rfl,.inl (ZG.of m),_,_,rfl,((),(),(),()),?_];erw[SB (f.9 - (c+1)) () (λk B z=>ZC J z/\JB z u f c (c+1+k) B/\B.9<=k) (ZC.refl _,((λv a=>nomatch a),λn=>((λ⟨a,m,_⟩=>nomatch m),λ⟨j,t,x,y,_,_,_⟩=>by lia)),xE _) () (λk B z h=>h.2.2) ?_ ?_]
  .rintro k B z v ⟨y,L,yl⟩ H m;let(v,rfl):=Nd m;let m:((c:Int)+1+(k:Nat))=((c+1+k:Nat):Int):=by lia
   rw[m];obtain⟨m,H⟩:∃t,f[c+1+k]?=_s t:=(_,xC ());obtain⟨b,v⟩:∃b,u[c+1+k]?=_s b:=(_,xC ());let(a6,a0,m):=p.mono y;let(O,_,_,a5,a4,p,_,_,R):=ZT.get (l:=l) m H;erw[([_],rfl,rfl),?_];erw[_,rfl,_,rfl,r,_,(c+1+k:Nat),.bl b,rfl,rfl,ZG.of (y _ _ g),Yy (by rw[xF,v];rfl),b,rfl,?_];cases b with
   | false=>rwa[Zz (y,L.skip v,())]
   | true=>rwa[Z6 (_,rfl,_,rfl,l,a6,(c+1+k:Nat),.ref O,rfl,rfl,ZG.of a0,Yy a4,O,_,3,a5,rfl,rfl,ZR.of p,rfl,y,L.add () H v R,by rw[xG];show _+1<=_;lia)]
  rintro B z ⟨y,L,yl⟩ lo k;erw[nw (o:=.lst B) k λR m k3=>?_];let O:=L.mono m;rw[show c+1+(f.9 - (c+1))=f.9 by lia] at O;let k:=y.trans m;let H:∀{y:Hp}(S:ZC R y) (z:Bool) (n:Str),(z=_t↔∃a,V.ref a∈B/\y a=_s (.tup [.int c,.str n]))->z=s c n:=λ{y} S z n h=>by
   let e:z=_t↔s c n=true:=by
    rw[h,(O.mono S).2 n,X];unfold KP;constructor
    .rintro⟨j,t,h,p,a,m,n⟩;rwa[j,t,h,a,by rw[<- A j ()];rwa[m],n]
    .rintro⟨j,t,h,a,m,n⟩;rwa[j,t,h,(xH.mp a).1,a,by rw[A j ()];rwa[m],n]
   rwa[zF.mpr e]
  erw[Yb (a2 _ _ ?_)];erw[Yq λh a=>?_];erw[_,rfl,_,_,rfl,rfl,a _ _ ?_];erw[Yq λa L=>?_];erw[_,rfl,U,rfl,(_,ZG.of (k _ _ I)),?_];erw[Ws w1 (λi Y J=>∃o d,Y=[_s (.ref l),_s (.ref r),_s (.int c),_s (.ref U),_s (.ref W),_s (.int t.need),_s u4,_s (.ref lo),_s (.int (0 - t.need+Ue s c (t.ones.take i))),o,d]/\ZC R J) (o,d,by unfold Ue wts keep;rw[List.take_zero,List.filter_nil,wR,List.sum_nil,zJ];rfl,ZC.refl _) (λi Y J _ ⟨_,_,_,e⟩=>ZG.of (e _ _ (k _ _ I))) ?_ ?_]
  .rintro i x Y y hx ⟨o,d,rfl,h⟩;let(p,b,I,rfl,v):=F.get hx;erw[b,_,rfl,ZR.of (h _ _ (k _ _ v)),rfl,_,_,rfl,_,_,rfl,rfl,?_];erw[_,rfl,_,rfl,aB rfl,λq X=>?_];erw[nw (o:=.tup [.int c,.str p.1]) X λH5 n k5=>?_];let a:=h.trans n;erw[_,rfl,q,lo,c,p.1,B,rfl,k5,rfl,ZG.of (a _ _ k3),(O.mono a).1,λz Q=>?_];let e:=H a z p.1 Q;let m:=IT (br:=s) (c:=c) I;rw[<- e] at m;erw[_,rfl,?_];cases z with
   | true=>rwa[Zz (_,_,by rw[m,_j rfl,zJ];rfl,a)]
   | false=>rwa[Z6 (_,rfl,_,rfl,_,_,rfl,rfl,_,_,by rw[m,_i xJ,<- Int.add_assoc];rfl,a)]
  rintro Y y ⟨o,d,rfl,h⟩;rw[F.len,xR];erw[L _ _ ?_];erw[Yq λL F=>?_];erw[_,rfl,W,rfl,(_,ZG.of (h _ _ (k _ _ M))),?_];erw[Ws w2 (λi Y J=>∃o d,Y=[_s (.ref l),_s (.ref r),_s (.int c),_s (.ref U),_s (.ref W),_s (.int t.need),_s u4,_s (.ref lo),_s (.int (0 - t.need+Ue s c t.ones - Ue s c (t.others.take i))),o,d]/\ZC R J) (o,d,by unfold Ue wts keep;rw[List.take_zero,List.filter_nil,wR,List.sum_nil,Int.sub_zero],h) (λi Y J _ ⟨_,_,_,e⟩=>ZG.of (e _ _ (k _ _ M))) ?_ ?_]
  .rintro i x Y y hx ⟨o,d,rfl,h⟩;let(p,b,I,rfl,v):=G.get hx;erw[b,_,rfl,ZR.of (h _ _ (k _ _ v)),rfl,_,_,rfl,_,_,rfl,rfl,?_];erw[_,rfl,_,rfl,aB rfl,λq X=>?_];erw[nw (o:=.tup [.int c,.str p.1]) X λH5 n k5=>?_];let a:=h.trans n;erw[_,rfl,q,lo,c,p.1,B,rfl,k5,rfl,ZG.of (a _ _ k3),(O.mono a).1,λz Q=>?_];let e:=H a z p.1 Q;let m:=IT (br:=s) (c:=c) I;rw[<- e] at m;erw[_,rfl,?_];cases z with
   | true=>rwa[Zz (_,_,by rw[m,_j rfl,zJ];rfl,a)]
   | false=>rwa[Z6 (_,rfl,_,rfl,_,_,rfl,rfl,_,_,by rw[m,_i xJ,<- Int.sub_sub];rfl,a)]
  rintro Y H5 ⟨o,d,rfl,n⟩;rw[G.len,xR,show 0 - t.need+Ue s c t.ones - Ue s c t.others=U0 s c t by unfold U0;lia];erw[F _ _ ?_];let a:=k.trans n;erw[_,rfl,_,_,rfl,rfl,_,rfl,_,rfl,r,_,_,c,rfl,rfl,a _ _ g,?_,?_]
  .unfold ixN;rw[xA,C,_j (),_j (),yI]
  .erw[a3 _ _ (_,_,_,_,_,_,_,_,_,u.set c (decide (0<=U0 s c t)),rfl,?_,by rw[List.length_set];rwa[C],λj hj=>?_,(E.trans a.x).trans ZF.upd)]
   .rw[Zi,List.map_set]
   .grind
 .rintro Y J ⟨v2,v3,v4,v5,v6,v7,v8,o,d,u,rfl,g,C,A,E⟩;let a:u=(Yd [] 0 f).1:=List.ext_getElem? λj=>A j ();rw[a] at g;rwa[a1 _ _ (_,rfl,q r J g (N E))]
structure VE where
 at_:Int
 d:Str
 c:Str
 m:Int
def Vn(e:VE):D:=.tup [.int e.at_,.str e.d,.str e.c,.int e.m]
abbrev WV:=Str×Str×Int
def Vb(r:WV):D:=.tup [.str r.1,.str r.2.1,.int r.2.2]
def Jg(r:WV):List ZN:=[.inr r.1,.inr r.2.1,.inl r.2.2]
def Vy(a b x y:Str)(m:Int):Int:=(if x=a/\y=b then m else 0) - (if x=b/\y=a then m else 0)
def Sk(a b x y:Str)(m:Int):Vy b a x y m = - Vy a b x y m:=by unfold Vy;lia
def V5(f:Str->Str)(day:Int)(e:VE)(a b:Str):Int:=if e.at_<=day then Vy a b (f e.d) (f e.c) e.m else 0
def net(f:Str->Str)(day:Int)(es:List VE)(a b:Str):Int:=(es.map λe=>V5 f day e a b).sum
def LS{f:Str->Str}{day:Int}{es:List VE}{i:Nat}{e:VE}(h:es[i]?=_s e)(a b:Str):net f day (es.take (i+1)) a b=net f day (es.take i) a b+V5 f day e a b:=by
 unfold net;rw[xQ,h,xL,List.sum_append];simp
theorem LW(f:Str->Str)(day:Int)(a b:Str):∀es:List VE,net f day es b a = - net f day es a b
 | []=>rfl
 | e::es=>by
  let c:=LW f day a b es;unfold net at c |-;rw[yD,yD,wL,wL,c];have:V5 f day e b a = - V5 f day e a b:=by unfold V5;rw[Sk];split<;>lia
  lia
theorem IE:∀{es:List VE},net f day es a b≠0->∃e∈es,(f e.d=a/\f e.c=b)\/(f e.d=b/\f e.c=a)
 | [],h=>_a S h
 | e::es,h=>by
  by_cases c:(f e.d=a/\f e.c=b)\/(f e.d=b/\f e.c=a)
  .rwa[e,xZ,c]
  .let z:V5 f day e a b=0:=by
    unfold V5 Vy;rw[_i (λq=>c (.inl q)),_i (λq=>c (.inr q))];simp
   have:net f day (e::es) a b=net f day es a b:=by
    unfold net;rw[yD,wL,z,Int.zero_add]
   rw[this] at h;let(d,g,i):=IE h;rwa[d,xM _ g,i]
def ER(g:Str->Str->Int)(r:WV):Prop:=r.1≠r.2.1/\0<r.2.2/\g r.1 r.2.1=r.2.2
def Gr(a:List WV):Prop:=a.Pairwise λa b=>ltK (Jg b) (Jg a)=_x
structure YM (g:Str->Str->Int) (rs:List WV):Prop where
 up:Gr rs
 nd:rs.Nodup
 mem:∀r,r∈rs↔ER g r
def gG(h:Jg a=Jg b):a=b:=by
 let(c,d,e):=a;let(c,d,e):=b;unfold Jg at h;injection h with e c
 injection c with c d
 injection d with d _
 ext e;ext c;ext d;rfl
def YM.eq(h:YM g rs)(h':YM g rs'):rs=rs':=by
 erw[List.Perm.eq_of_pairwise (λa b _ _ x y=>?_) h.up h'.up ((List.perm_ext_iff_of_nodup h.nd h'.nd).mpr λr=>by rw[h.mem,h'.mem])];rwa[gG (EO _ _ S y x)]
def bU(h:rs.Pairwise λa b=>ltK (Jg a) (Jg b)=_t)(c:∀r,r∈rs↔ER g r):YM g rs:=by
 erw[h.imp λ{a b} q=>?_,h.imp λ{a b} q z=>?_,c]
 .cases e:ltK (Jg b) (Jg a) with
  | false=>rfl
  | true =>
   have:=DR _ _ _ q e;rw[Ck] at this;ext this
 .rw[z,Ck] at q;ext q
structure YV (U:List (List ZN×V)) (g:Str->Str->Int):Prop where
 key:∀p∈U,∃a b v,p=([.inr a,.inr b],.int v)/\ltS a b=_t
 nd:(U.map (·.1)).Nodup
 val:∀a b,ltS a b=_t->Zx U [.inr a,.inr b]=_s (.int (g a b))\/(Zx U [.inr a,.inr b]=_n/\g a b=0)
theorem YV.nil:YV [] (λ_ _=>0):=((λp a=>nomatch a),wS,λa b _=>.inr (S,S))
def NK{U:List (List ZN×V)}{k:List ZN}{v:V}(h:(U.map (·.1)).Nodup):((Z4 U k v).map (·.1)).Nodup:=by
 cases e:Zx U k with
 | none=>rwa[cO v h e]
 | some x =>
  unfold Z4;have:(U.any λa=>decide (a.1=k))=true:=by rw[AH,e];rfl
  rw[_j this,mL];let b:((λx:List ZN×V=>x.1)∘λa=>if a.1=k then (a.1,v) else a)=λa=>a.1:=by grind
  rw[b];rwa[h]
def YV.at(h:YV U g)(c:ltS a b=_t):(Zx U [.inr a,.inr b]).getD (.int 0)= .int (g a b):=by
 rcases h.val a b c with e | ⟨e,e2⟩
 .rw[e];rfl
 .rw[e,e2];rfl
def key2:([.inr a,.inr b]:List ZN)= [.inr x,.inr y]↔a=x/\b=y:=by grind
def Dd(h:ltS a b=_t):ltS b a=false:=by
 cases e:ltS b a with
 | false=>rfl
 | true=>have:=GZ h e;rw[Gm] at this;ext this
theorem AU(h:ltS a b=_t):a≠b:=λz=>by rw[z,Gm] at h;ext h
def YV.put(h:YV U g)(f:ltS x y=_t)(c:v=g' x y)(i:∀a b,ltS a b=_t->¬(a=x/\b=y)->g' a b=g a b):YV (Z4 U [.inr x,.inr y] (.int v)) g':=by
 erw[λp d=>?_,NK h.nd,λa b c=>?_]
 .rcases KA d with rfl | d
  .rwa[x,y,v,S,f]
  .rwa[h.key p d]
 .rw[Ui]
  by_cases e:a=x/\b=y
  .grind
  .rw[_i (λz=>e (key2.mp z)),i a b c e];rwa[h.val a b c]
theorem YV.eqv(h:YV U g)(d:∀a b,ltS a b=_t->g' a b=g a b):YV U g' :=
 (h.key,h.nd,λa b c=>by rw[d a b c];rwa[h.val a b c])
def tri(a b:Str)(v:Int):WV:=if 0<v then (a,b,v) else (b,a,-v)
def An:List ZN×V->Option WV
 | ([.inr a,.inr b],.int v)=>if v=0 then _n else _s (tri a b v)
 | _=>_n
def Gg(h:An ([.inr a,.inr b],.int v)=_s r):v≠0/\r=tri a b v:=by
 let h:(if v=0 then _n else _s (tri a b v))=_s r:=h
 by_cases c:v=0
 .rw[_j c] at h;ext h
 .grind
def Iu{U:List (List ZN×V)}{k:List ZN}{v:V}(h:Zx U k=_s v):(k,v)∈U:=by
 unfold Zx at h;let(p,b,e):=xS.mp h;let a:=List.find?_some b;let c:=List.mem_of_find?_eq_some b;let a:p.1=k:=zR a;rw[<- a,<- e];rwa[c]
theorem Hv:∀{U:List (List ZN×V)}{p:List ZN×V},(U.map (·.1)).Nodup->p∈U->Zx U p.1=_s p.2
 | q::U,p,hn,hp=>by
  rw[yD,yK] at hn;rcases xD.mp hp with rfl | hp
  .rwa[Uh S]
  .rw[Ux (λz=>hn.1 (by rw[z];rwa[zD.mpr (p,hp,S)]))];rwa[Hv hn.2 hp]
def Pp(e:∀a b,g b a = - g a b)(d:ltS a b=_t)(c:g a b≠0):ER g (tri a b (g a b)):=by
 unfold tri
 by_cases c:0<g a b
 .rw[_j c];rwa[AU d,c,rfl]
 .rw[_i c];rwa[(AU d).6,by show 0 < - g a b;lia,e a b]
def QU(h:ltS a b=_t)(h':ltS a' b'=_t)(e:tri a b v=tri a' b' v'):a=a'/\b=b':=by
 unfold tri at e
 by_cases c:0<v<;>by_cases g:0<v'
 .grind
 .rw[_j c,_i g] at e;injection e with f d;injection d with d _;rw[f,d,Dd h'] at h;ext h
 .rw[_i c,_j g] at e;injection e with f d;injection d with d _;rw[f,d,Dd h'] at h;ext h
 .grind
def YV.oJ(h:YV U g)(n:∀a b,g b a = - g a b)(c:rs.Perm (U.filterMap An))(i:Gr rs):YM g rs:=by
 let f:∀p∈U,∃a b,p=([.inr a,.inr b],.int (g a b))/\ltS a b=true:=λp c=>by
  let(a,b,v,S,d):=h.key p c;let e:=Hv h.nd c;erw[a,b,?_,d];rcases h.val a b d with z | ⟨z,_⟩
  .grind
  .grind
 erw[i,c.nodup_iff.mpr ?_,λr=>?_]
 .let j:=h.nd;unfold List.Nodup at j |-;rw[List.pairwise_map] at j;rw[List.pairwise_filterMap];erw[List.Pairwise.imp_of_mem ?_ j];intro p q c j k r l i m e;let(a,b,S,d):=f p c;let(o,s,S,i):=f q j;let o:=(Gg l).2;let j:=(Gg m).2;have:=QU d i (o.symm.trans (e.trans j));rwa[k (key2.mpr this)]
 .rw[c.mem_iff,yV];constructor
  .rintro⟨p,c,l⟩;let(a,b,S,d):=f p c;let(c,S):=Gg l;rwa[Pp n d c]
  .let(x,y,v):=r;rintro⟨f,i,d⟩;let f:x≠y:=f;let i:0<v:=i;let d:g x y=v:=d
   by_cases c:ltS x y=_t
   .rcases h.val x y c with z | ⟨_,z⟩
    .erw[_,Iu z,?_];show (if g x y=0 then _n else _s (tri x y (g x y)))=_s (x,y,v);rw[d,_i ()];unfold tri;rw[_j i]
    .lia
   .let i:ltS y x=true:=by
     cases e:ltS y x with
     | true=>rfl
     | false =>
      let k:ltS x y=false:=by cases j:ltS x y with | false=>rfl | true=>rwa[_a j c]
      rwa[_a (DJ k e) f]
    let c:=n x y;rcases h.val y x i with z | ⟨_,z⟩
    .erw[_,Iu z,?_];show (if g y x=0 then _n else _s (tri y x (g y x)))=_s (x,y,v);rw[c,d,_i ()];unfold tri;rw[_i (),Int.neg_neg]
    .lia
def Bf(n:Str)(r:WV):Int:=(if r.2.1=n then r.2.2 else 0) - (if r.1=n then r.2.2 else 0)
def bal(a:List WV)(n:Str):Int:=(a.map (Bf n)).sum
def bK{a:List WV}{i:Nat}{r:WV}(h:a[i]?=_s r)(n:Str):bal (a.take (i+1)) n=bal (a.take i) n+Bf n r:=by
 unfold bal;rw[xQ,h,xL,List.sum_append];simp
section
variable{C:jP}
inductive Ao(vs:aG)(H:Hp)(Q:VK)(a:XK):Prop
 |mk(g) (U) (G) (x y) (m)(_:vs=[.ref g,.str x,.str y,.int m])(_:H g=_s (.dT U))(_:YV U G)(_:U.9<=1000)(_:∀c J,J g=_s (.dT c)->YV c (λa b=>G a b+Vy a b x y m)->c.9<=U.9+1->ZF g H J->Q .non J)
def EL(c:¬(x=a/\y=b))(d:¬(x=b/\y=a)):Vy a b x y m=0:=by
 unfold Vy;rw[_i c,_i d];rfl
abbrev MP:Stmt:=top 26
def SE(a:YC K mg "set_against" MP):Fn P w K mg Z "set_against" lR 1 Ao:=by
 erw[a.fq lR λH b Q E a h=>?_];let(g,U,G,x,y,m,S,p,u,b,k):=h;erw[rfl,_,(Zf (Zs (Zn Kb Q1 Q2 (Zo _)) (Zf (Jf a Q0 (Z7 (Za Q1 (Za Q2 Zb))) (Z0 Y7 (E1 a Q0 (Z7 (Za Q1 (Za Q2 Zb))) Ze) Q3))) (Zf (Zs (Zn Kb Q2 Q1 (Zo _)) (Zf (Jf a Q0 (Z7 (Za Q2 (Za Q1 Zb))) (Z0 Ub (E1 a Q0 (Z7 (Za Q2 (Za Q1 Zb))) Ze) Q3))) Zr)))),?_];let a:=aC
 let s:∀(a b:Str)(v:Int)(h f:Hp)(q:jP),ltS a b=_t->ZC H h->f q=_s (.tup [.str a,.str b])->ZC h f->v=G a b+Vy a b x y m->(∀l i,ltS l i=_t->¬(l=a/\i=b)->Vy l i x y m=0)->
   YU f g (.ref q) (.int v) (upd f g (.dT (Z4 U [.inr a,.inr b] (.int v))))/\∀R:VK,(∀(c:List (List ZN×V))(J:Hp),J g=_s (.dT c)->YV c (λa b=>G a b+Vy a b x y m)->c.9<=U.9+1->ZF g H J->R .non J)->R .non (upd f g (.dT (Z4 U [.inr a,.inr b] (.int v)))):=by
  intro a b v h f q d c r j n e;erw[YU.t (j _ _ (c _ _ p)) (k:=[.inr a,.inr b]) r (),λR e=>?_];erw[e _ _ Zi (u.put d n λl i n t=>?_) (Vv _ _ _) λi o v e=>?_]
  .grind
  .rw[Zd v];rwa[j _ _ (c _ _ e)]
 erw[_,S,_,S,x,y,S,S,_,S,Zy (λc=>?_) (λc=>?_)]
 .let d:ltS x y=true:=yE c;erw[_,S,g,S,.inr (U,.inl p),_,S,_,S,aB S,λq r=>?_];erw[nw (o:=.tup [.str x,.str y]) r λh o B=>?_];erw[_,YD.t (o _ _ p) (k:=[.inr x,.inr y]) B,_,S,?_];erw[G x y,m,u.at d,S,?_];erw[_,S,_,S,_,S,aB S,λJ j=>?_];erw[nw (o:=.tup [.str x,.str y]) j λf v E=>?_];let(F,I):=s x y (G x y+m) h f J d o E v (by unfold Vy;rw[_j (S,S),_i (λz=>AU d z.1)];lia) (λl i n t=>EL (λz=>t (z.1.6,z.2.6)) (λz=>by rw[<- z.1,<- z.2,Dd d] at n;ext n));rwa[g,_,S,F,I _ k]
 .erw[_,S,_,S,y,x,S,S,_,S,Zy (λA=>?_) (λA=>?_)]
  .let d:ltS y x=true:=yE A;erw[_,S,g,S,.inr (U,.inl p),_,S,_,S,aB S,λq r=>?_];erw[nw (o:=.tup [.str y,.str x]) r λh o B=>?_];erw[_,YD.t (o _ _ p) (k:=[.inr y,.inr x]) B,_,S,?_];erw[G y x,m,u.at d,S,?_];erw[_,S,_,S,_,S,aB S,λJ j=>?_];erw[nw (o:=.tup [.str y,.str x]) j λf v E=>?_];let(F,I):=s y x (G y x - m) h f J d o E v (by unfold Vy;rw[_i (λz=>AU d z.1.6),_j (S,S)];lia) (λl i n t=>EL (λz=>by rw[<- z.1,<- z.2,Dd d] at n;ext n) (λz=>t (z.2.6,z.1.6)));rwa[g,_,S,F,I _ k]
  .let e:x=y:=DJ (yM c) (yM A);erw[k U H p (u.eqv λa b d=>?_) () (λ_ _ _ e=>e)];rw[EL (λz=>AU d (z.1.symm.trans (e.trans z.2))) (λz=>AU d (z.2.symm.trans (e.symm.trans z.1))),zJ]
inductive UL(vs:aG)(H:Hp)(Q:VK)(a:XK):Prop
 |mk(b) (x y) (v)(_:vs=[.ref b,.int v])(_:H b=_s (.tup [.str x,.str y]))(_:∀p J,J p=_s (.tup [.str (tri x y v).1,.str (tri x y v).2.1,.int (tri x y v).2.2])->ZC H J->Q (.ref p) J)
abbrev KW:Stmt:=top 27
def Ql(a:YC K mg "triple" KW):Fn P w K mg Z "triple" i4 1 UL:=by
 erw[a.fq i4 λH b Q E a h=>?_];let(b,x,y,v,S,a,k):=h;erw[rfl,_,(Zc (Zs (Zn J8 Q1 Ze (Zo _)) (Zf (Zv (Z7 (Za (Zh Zq Q0 Ze) (Za (Zh Zq Q0 Ze) (Za Q1 Zb)))))) Zr) (Zf (Zv (Z7 (Za (Zh Zq Q0 Ze) (Za (Zh Zq Q0 Ze) (Za (Jx Jv Q1) Zb))))))),?_];let c:=aC
 unfold tri at k;erw[_,S,_,_,S,S,_,S,Zy (λc=>?_) (λc=>?_)]
 .rw[_j c] at k;rwa[_,S,b,_,0,.str x,S,S,ZR.of a,S,_,S,b,_,1,.str y,S,S,ZR.of a,S,_,S,aB S,λp d=>k p _ Zi (ZC.new d)]
 .rw[_i c] at k;rwa[_,S,b,_,1,.str y,S,S,ZR.of a,S,_,S,b,_,0,.str x,S,S,ZR.of a,S,_,S,_,S,aB S,λp d=>k p _ Zi (ZC.new d)]
def C4(h:YA H (Vb r) v):∃a,v=.ref a/\H a=_s (.tup [.str r.1,.str r.2.1,.int r.2.2]):=by
 let(a,l,e,g,(x,i,S,b,(y,j,S,c,(z,k,S,d,f)))):=h;ext b;ext c;ext d;ext f;rwa[a,e,g]
theorem Cf(h:H a=_s (.tup [.str r.1,.str r.2.1,.int r.2.2])):YA H (Vb r) (.ref a):=(a,_,S,h,(_,_,S,S,(_,_,S,S,(_,_,S,S,S))))
def Gf(h:YA H (Vn e) v):∃a,v=.ref a/\H a=_s (.tup [.int e.at_,.str e.d,.str e.c,.int e.m]):=by
 let(a,o,i,j,(x,k,S,b,(y,l,S,c,(z,m,S,d,(u,n,S,f,g))))):=h;ext b;ext c;ext d;ext f;ext g;rwa[a,i,j]
theorem Lg(h:H a=_s (.tup [.int e.at_,.str e.d,.str e.c,.int e.m])):YA H (Vn e) (.ref a):=(a,_,S,h,(_,_,S,S,(_,_,S,S,(_,_,S,S,(_,_,S,S,S)))))
def Ey{a:Type}{b:a->D}{H:Hp}{L:List a}{vs:aG}{i:Nat}{v:V}(h:ZI H (L.map b) vs)(c:vs[i]?=_s v):∃x,L[i]?=_s x/\YA H (b x) v:=by
 let(d,a,b):=h.get c;rw[xF] at a;let(x,c,e):=xS.mp a;rwa[x,c,by rw[e];rwa[b]]
def A4{a:Type}{b:a->D}{L:List a}(h:ZI H (L.map b) vs):vs.9=L.9:=by
 have:=h.9;rw[xA] at this;rwa[this]
def AV:List ZN->WV
 | [.inr a,.inr b,.inl v]=>(a,b,v)
 | _=>(e0,e0,0)
def Fj(h:shp k=[_x,_x,_t]):Jg (AV k)=k:=by
 match k,h with
 | [.inr a,.inr b,.inl v],_=>rfl
theorem GK:∀{os:List WV}{vs:aG},ZI H (os.map Vb) vs->∃b:List (jP×List ZN),vs=b.map (λp=>V.ref p.1)/\b.map (λp=>AV p.2)=os/\∀p∈b,L2.WI H p/\shp p.2=[_x,_x,_t]
 | [],vs,h=>by ext h;rwa[[],S,S,λ_ z=>nomatch z]
 | o::os,vs,⟨v,r,e,h1,h2⟩=>by
  let(a,S,f):=C4 h1;let(b,S,c,d):=GK h2;subst e;erw[(a,Jg o)::b,S,by rw[yD,c];rfl,λp a=>?_];rcases xD.mp a with rfl | a
  .rwa[f,rfl]
  .rwa[d p a]
theorem KH:∀a:List (jP×List ZN),(∀p∈a,L2.WI H p/\shp p.2=[_x,_x,_t])->ZI H ((a.map λp=>AV p.2).map Vb) (a.map λp=>V.ref p.1)
 | [],_=>rfl
 | p::a,h=>by
  let(b,c):=h p xZ;erw[.ref p.1,_,S,Cf ?_,KH a λq a=>h q (xM _ a)];let e:p.2.map kV=[.str (AV p.2).1,.str (AV p.2).2.1,.int (AV p.2).2.2]:=by rw[<- Fj c];rfl
  unfold L2.WI at b;rw[<- e];rwa[b]
def A5(F:List ZK)(day:Int)(f:Str->Str):Prop:=∀n,∃b,b<=40/\YH F day b n (f n)
inductive UR(C:jP)(vs:aG)(H:Hp)(Q:VK)(a:XK):Prop
 |mk(L) (F) (le) (us) (es) (day) (f)(_:vs=[.ref le,.ref L.p,.int day])(_:ZZ C H L F)(_:H le=_s (.lst us))(_:ZI H (es.map Vn) us)(_:A5 F day f)(_:es.9<64)(_:∀a c b J,H a=_n->J a=_s (.lst c)->ZI J (b.map Vb) c->YM (net f day es) b->b.9<64->ZC H J->Q (.ref a) J)
abbrev ID:Stmt:=top 22
def jC(b4:YC K mg "owed" ID)(T:Txt mg)(Tc:VI K C)(d:Mt P w K mg Z C "stand_in" lj 2 (VN C))(b2:Fn P w K mg Z "set_against" lR 1 Ao)(b3:Fn P w K mg Z "triple" i4 1 UL):Fn P w K mg Z "owed" i5 3 (UR C):=by
 erw[b4.fq ["entries","folk","day","sums","since","debtor","creditor","many"] λH vs Q E hr h=>?_];let(L,F,le,us,es,j,f,S,F0,a4,a1,a8,c5,k):=h
 refine(S,_,(Zc (Zw 3 Fs) (Zc (Y5 mO S (Ys Q0) (JA (by rfl) (Ye (Z8 4) (Ye (Z8 5) (Ye (Z8 6) (Ye (Z8 7) Vf)))))
 (Zf (Zs (Zn Wr Q4 Q2 (Zo _)) (Zf (Zl (Zk b2 (Za Q3 (Za (Ve Q1 Tc.cl d (Za Q5 (Za Q2 Zb))) (Za (Ve Q1 Tc.cl d (Za Q6 (Za Q2 Zb))) (Za Q7 Zb))))))) Zr)))
 (Zf (Zv (Z1 Og T.sorted FY (Za (NU (Vg (locs:=i4) (fr:=[]) (S,aA,aA,aA,aA,aA) .nil S (XQ Q3) ⟨λ_ _ _ _ _ _=>by
  let a0:(inN i4 []).Nodup:=aA
  rwa[(AW 2 (by rfl) (Ye (Y6 0 a0) (Ye (Y6 1 a0) Vf))),(Jb (Zn BA (Yj 1) Ze (Zo _))),(Zk b3 (Za (Yj 0) (Za (Yj 1) Zb)) (n:=nmC))]⟩)) Zb)))))),?_)
 let hz:=aC
 let a9:us.9=es.9:=A4 a1;intro g hg;let S0:ZC H (upd H g (.dT [])):=ZC.new hg;erw[_,S,le,S,(_,ZG.of (S0 _ _ a4)),?_];refine Ws us (λi Y J=>∃(U:List (List ZN×V))(v4 v5 v6 v7:Option V),Y=[_s (.ref le),_s (.ref L.p),_s (.int j),_s (.ref g),v4,v5,v6,v7]/\J g=_s (.dT U)/\YV U (net f j (es.take i))/\U.9<=i/\ZC H J)
  ([],_n,_n,_n,_n,S,Zi,YV.nil,xE _,S0) (λi Y J _ ⟨_,_,_,_,_,_,_,_,_,e⟩=>ZG.of (e _ _ a4)) ?_ ?_
 .rintro i x Y J hx ⟨U,v4,v5,v6,v7,rfl,I,W,a3,sm⟩;let hi:=(xH.mp hx).1;let(e,he,b9):=Ey a1 hx;let(a,S,A):=Gf b9;let et:=λa b=>LS (f:=f) (day:=j) he a b;erw[a,_,S,ZR.of (sm _ _ A),S,_,_,S,_,_,S,_,_,S,_,_,S,S,?_];erw[_,S,_,S,_,_,S,S,_,S,Zy (λc=>?_) (λc=>?_)]
  .let F1:=F0.keep (ZC.n sm);let(dx,ob):=F1.ob;let(b1,_,c2):=a8 e.d;let(b2,_,c3):=a8 e.c;erw[_,S,_,S,L.p,dx,_,S,ob,Y4 _ _ _ _ aA,_,S,_,S,L,F,e.d,f e.d,j,b1,S,F1,c2,?_];erw[_,S,L.p,dx,_,S,ob,Y4 _ _ _ _ aA,_,S,_,S,L,F,e.c,f e.c,j,b2,S,F1,c3,?_];erw[_,S,g,U,net f j (es.take i),f e.d,f e.c,e.m,S,I,W,(),λb0 N s b6 O m=>?_];erw[b0,_,_,_,_,S,s,b6.eqv λa b _=>?_,(),λb o e'=>m b o (λz=>by rw[z,hg] at e';ext e') (sm _ _ e')];rw[et a b];unfold V5;rw[_j c]
  .erw[U,_,_,_,_,S,I,W.eqv λa b _=>?_,(),sm];rw[et a b];unfold V5;rw[_i c,zJ]
 .rintro Y H1 ⟨U,v4,v5,v6,v7,rfl,b7,W,a3,c1⟩;rw[a9,xR] at W;rw[a9] at a3;erw[g,U,b7,λo=>?_];erw[_,S,g,o,U,S,Zi,?_];let fr:∀b u,b≠g->H1 b=_s u->(upd H1 g (.frz o (.dT U))) b=_s u:=λb u R e=>by rw[Zd R];rwa[e]
  erw[Of (λi G J=>J g=_s (.frz o (.dT U))/\ZF g H1 J/\ZI J (((U.take i).filterMap An).map Vb) G) (Zi,λb u R e=>fr b u R e,S) () (λi G J _ h=>h.1) ?_ ?_ ?_]
  .rintro i G J ⟨_,_,h⟩;rw[A4 h];erw[xX (zA _ _) ?_];rw[xY];lia
  .rintro i x a p G J hx A ⟨I,sx,hr⟩ X ls b8;let(w1,w2,S):=BG b8;let(xa,xb,B,S,c4):=W.key x (xN hx);erw[nw (o:=.tup [.ref a,.int B]) X λN Sp kp=>?_];let a2:=Sp _ _ I;let m:ZF g H1 N:=λb u R e=>Sp _ _ (sx b u R e);erw[p,_,S,ZR.of kp,S,_,_,S,_,_,S,S,([_,_],S,S),?_];let e9:(U.take (i+1)).filterMap An=(U.take i).filterMap An++(if B=0 then [] else [tri xa xb B]):=by
    rw[xQ,hx,yT];have:An ([.inr xa,.inr xb],.int B)=if B=0 then _n else _s (tri xa xb B):=rfl
    by_cases c:B=0
    .rw[_j c] at this |-;simp[this]
    .rw[_i c] at this |-;simp[this]
   erw[_,S,S,_,S,Vi (λc=>?_) (λc=>?_)]
   .let c':B≠0:=λz=>c (by rw[z]);erw[_,S,_,S,a,xa,xb,B,S,Sp _ _ A,λt H3 ht s3=>?_];erw[s3 _ _ a2,λb u R e=>s3 _ _ (m b u R e),?_];rw[e9,_i c',xL];rwa[ZI.snoc (Cf ht) ((hr.oA Sp).oA s3)]
   .let c':B=0:=by injection c
    erw[a2,m,?_];rw[e9,_j c',yC];rwa[hr.oA Sp]
  .rintro G N ⟨s,m,a6⟩ l hl;rw[xR] at a6;let b1:g≠l:=λz=>by rw[<- z,s] at hl;ext hl
   erw[by rw[Zd b1];rwa[s],?_];let tt:∀{rs:List WV}{vs:aG},ZI N (rs.map Vb) vs->ZI (upd (upd N l (.lst G)) g (.dT U)) (rs.map Vb) vs:=by
    intro rs
    induction rs with
    | nil=>intro vs h;rwa[h]
    | cons r rs ih =>
     rintro vs ⟨v,r',e,h1,h2⟩;let(a,S,A):=C4 h1;erw[.ref a,r',e,Cf ?_,ih h2];rw[Zd (λz=>by rw[z,s] at A;ext A),Zd (Zj A hl)];rwa[A]
   let a7:=tt a6;let S3:ZC H (upd (upd N l (.lst G)) g (.dT U)):=λb u e=>by
    let ng:b≠g:=λz=>by rw[z,hg] at e;ext e
    let e1:=m b u ng (c1 _ _ e);rw[Zd ng,Zd (Zj e1 hl)];rwa[e1]
   let kl:(upd (upd N l (.lst G)) g (.dT U)) l=_s (.lst G):=by rw[Zd b1.6,Zi]
   generalize (upd (upd N l (.lst G)) g (.dT U))=H3 at a7 S3 kl |-;let(ps,S,b5,a5):=GK a7;let c8:ps.9=(U.filterMap An).9:=by rw[<- b5,xA]
   let c6:=zA An U;erw[l,ps,[_x,_x,_t],S,ZG.of kl,(),a5,(λz=>nomatch z),λl2 ms O y c0=>?_];let S4:=ZC.new (o:=.lst (ms.map λp=>V.ref p.1)) O;let M:∀p∈ms,L2.WI H3 p/\shp p.2=[_x,_x,_t]:=λp X=>a5 p (y.mem_iff.mp X);let c7:=y.length_eq;erw[k l2 (ms.map λp=>V.ref p.1) (ms.map λp=>AV p.2) _ (S3.free O) Zi (KH ms λp X=>(S4 _ _ (M p X).1,(M p X).2)) ?_ (by rw[xA];lia) (S3.trans S4)];erw[W.oJ (λa b=>LW f j a b es) ?_ ?_]
   .grind
   .unfold Gr;rw[List.pairwise_map];erw[List.Pairwise.imp_of_mem ?_ c0];intro a b A hb h;rw[Fj (M a A).2,Fj (M b hb).2];rwa[h]
inductive Am(C:jP)(vs:aG)(H:Hp)(Q:VK)(a:XK):Prop
 |mk(L) (F) (le) (us) (es) (day) (f) (n)(_:vs=[.ref le,.ref L.p,.int day,.str n])(_:ZZ C H L F)(_:H le=_s (.lst us))(_:ZI H (es.map Vn) us)(_:A5 F day f)(_:es.9<64)(_:∀a J,YM (net f day es) a->ZC H J->Q (.int (bal a n)) J)
abbrev MV:Stmt:=top 24
def OE(a:YC K mg "balance" MV)(c:Fn P w K mg Z "owed_dues" i5 3 (UR C)):Fn P w K mg Z "balance" ["entries","folk","day","name"] 4 (Am C):=by
 erw[a.fq ["entries","folk","day","name","told","debtor","creditor","many"] λH a Q E p h=>?_];let(L,F,j,m,l,b,f,n,S,i,e,d,g,a,k):=h
 refine(S,_,(Zc (Zw 4 Ze) (Zc (Y5 mO S (Ys (Zk c (Za Q0 (Za Q1 (Za Q2 Zb))))) (JA (by rfl) (Ye (Z8 5) (Ye (Z8 6) (Ye (Z8 7) Vf))))
 (Zc (Zs (Zn Yp Q6 Q3 (Zo _)) (Zf (Lo 4 Q7 fW)) Zr)
 (Zf (Zs (Zn Yp Q5 Q3 (Zo _)) (Zf (Lo 4 Q7 dE)) Zr))))
 (Zf (Zv Q4)))),?_)
 erw[_,S,_,S,_,S,L,F,j,m,l,b,f,S,i,e,d,g,a,λl d f e g c a s i h=>(l,S,(_,ZG.of c),?_)];let g:d.9=f.9:=A4 a;erw[Ws d (λi Y J=>∃(l m o:Option V),Y=[_s (.ref j),_s (.ref L.p),_s (.int b),_s (.str n),_s (.int (bal (f.take i) n)),l,m,o]/\J=e) (_n,_n,_n,S,S) (λi Y J _ ⟨_,_,_,_,e⟩=>by rw[e];rwa[ZG.of c]) ?_ ?_]
 .rintro i x Y J d ⟨l,m,o,rfl,rfl⟩;let(r,p,c):=Ey a d;let(a,S,e):=C4 c;let d:=bK p n;unfold Bf at d;erw[a,_,S,ZR.of e,S,_,_,S,_,_,S,_,_,S,S,?_];dsimp only [Y0];erw[Jy (λY a=>Y=[_s (.ref j),_s (.ref L.p),_s (.int b),_s (.str n),_s (.int (bal (f.take i) n+(if r.2.1=n then r.2.2 else 0))),_s (.str r.1),_s (.str r.2.1),_s (.int r.2.2)]/\a=J) ?_ ?_]
  .rintro Y a ⟨rfl,rfl⟩;erw[_,S,_,S,S,_,S,Zy (λc=>?_) (λc=>?_)]
   .let a:r.1=n:=by injection c
    rw[_j a] at d;erw[_,S,_,S,_,_,S,S,_s (.str r.1),_s (.str r.2.1),_s (.int r.2.2),?_,rfl];rw[d,<- Int.add_sub_assoc];rfl
   .let b:¬r.1=n:=λz=>c (by rw[z]);rw[_i b,Int.sub_zero] at d;rwa[_,_,_,by rw[d],rfl]
  .intro d b _ _ _;erw[_,S,_,S,S,_,S,Zy (λc=>?_) (λc=>?_)]
   .let a:r.2.1=n:=by injection c
    erw[_,S,_,S,_,_,S,S,b _ _ (by rw[_j a];rfl,S)]
   .rwa[b _ _ (by rw[_i (λz=>c (by rw[z])),zJ];rfl,S)]
 .rintro Y J ⟨l,m,o,rfl,rfl⟩;rw[g,xR];rwa[_,S,k f J s h]
end
section
variable{C CM:jP}
def Tz(bs:List Bool):D->Option D
 | .tup [.non,e]=>_s e
 | .tup [.int i,e]=>if bs.getD i.toNat _x=_t then _s e else _n
 | _=>_n
def CK(bs:List Bool)(a:List D):Prop:=∀r∈a,∃e:D,r=.tup [.non,e]\/∃i:Nat,r=.tup [.int i,e]/\i<bs.9
theorem MM:∀{bs:List Bool}{vs:aG},ZI H (bs.map D.bl) vs->vs=bs.map V.bl
 | [],_,h=>h
 | _::_,_,⟨_,_,e,f,h⟩=>by ext f;rw[e,MM h];rfl
inductive UA(C CM:jP)(vs:aG)(H:Hp)(Q:VK)(a:XK):Prop
 |mk(M) (F) (wa) (L) (m) (qs) (lr) (us) (rows)(_:vs=[.ref M.p,.ref lr])(_:ZD C CM H M F wa L m qs)(_:H lr=_s (.lst us))(_:ZI H rows us)(_:CK m.j9 rows)(_:rows.9<=1000)(_:∀l a J,H l=_n->J l=_s (.lst a)->ZI J (rows.filterMap (Tz m.j9)) a->ZC H J->Q (.ref l) J)
abbrev F7:Stmt:=Yr (top 64) 36
theorem hU:Nm (Zm F7) "self" .cell:=aA
def SI(a:ZU K CM "counting" "Moot.counting" F7)(Tm:ZQ K CM):Mt P w K mg Z CM "counting" i9 1 (UA C CM):=by
 erw[a.mq i9 λH a Q E n h=>?_];let(M,F,f,L,m,a,d,e,c,S,W,b,n,j,u,k):=h
 refine(S,_,(Zf (Zv (Vg (locs:=["case","told"]) (fr:=[("self", 0)]) (S,aA,aA,aA,aA,aA) (.ij hU .nil) S (Ys Q1) ⟨λ_ _ _ _ _ _=>by
  let a:(inN ["case","told"] [("self", 0)]).Nodup:=aA
  rwa[(AW 2 (by rfl) (Ye (Y6 0 a) (Ye (Y6 1 a) Vf))),(Jb (QW.pt (Gq (Zn E2 (Yj 0) Wa (Zo _)) (Ff (Wq (Zh C6 (Hk (Wx 2)) (Yj 0))))))),(Yj 1)]⟩))),?_)
 let a:=aC
 let(A,B):=W.ob;let(f,l,a,_):=(W.ls (M.lv,m.j9.map D.bl) (by simp[Mo.at_])).get;dsimp only at l;rw[MM a] at l;let x:=n.9;erw[_,S,d,S,(_,ZG.of b),?_];erw[Uy (L:=e) (λi h J=>ZC H J/\ZI J ((c.take i).filterMap (Tz m.j9)) h) (ZC.refl _,S) () (λi h J _ ⟨e,_⟩=>ZG.of (e _ _ b)) (λi h J ⟨_,e⟩=>by rw[e.9];rwa[xX (zA ..) (by rw[xY];lia)]) ?_ ?_]
 .rintro i v h J b ⟨f,d⟩ g a;let(g,p,S):=BG a;let(r,g,y):=n.get b;let(e,t):=j r (xN g);rcases t with rfl | ⟨j,rfl,t⟩
  .let(a,v,S,s,(G,z,S,b,(H,E,S,p,r))):=y;ext b;ext r;let n:(c.take (i+1)).filterMap (Tz m.j9)=(c.take i).filterMap (Tz m.j9)++[e]:=by
    rw[xQ,g,yT];rfl
   rw[n];erw[a,_,S,ZR.of (f _ _ s),S,_,_,S,_,_,S,S,([_,_],S,S),?_];rwa[_,S,S,_,S,Z6 (_,S,f,d.snoc (YA.mono f _ _ p))]
  let(a,v,S,s,(G,z,S,b,(H,E,S,p,r))):=y;ext b;ext r;obtain⟨b,r⟩:∃b,m.j9[j]?=_s b:=(_,xC t);let n:(c.take (i+1)).filterMap (Tz m.j9)=(c.take i).filterMap (Tz m.j9)++(if b=_t then [e] else []):=by
   rw[xQ,g,yT];congr 1;let c:Tz m.j9 (.tup [.int j,e])=if b=_t then _s e else none:=by
    show (if m.j9.getD (j:Int).toNat _x=_t then _s e else _n)=_;rw[yI,xT,r];rfl
   show List.filterMap (Tz m.j9) [D.tup [.int j,e]]=_;rw[zT,c];ext b<;>rfl
  rw[n];erw[a,_,S,ZR.of (f _ _ s),S,_,_,S,_,_,S,S,([_,_],S,S),?_];erw[_,S,S,_,S,Zy (λz=>nomatch z) (λ_=>?_)];erw[_,S,M.p,CM,A,_,_,S,f _ _ B,Tm.cl,Tm.nv,GW _,_,S,M.lv,_,j,.bl b,S,S,ZG.of (f _ _ l),Yy (by rw[xF,r];rfl),b,S,?_];cases b with
  | true=>rwa[Z6 (_,S,f,d.snoc (YA.mono f _ _ p))]
  | false=>rwa[Zz (f,by rw[_i aA,yC];rwa[d])]
 .rintro h J ⟨f,d⟩ l u;rw[x,xR] at d;let a:=ZC.new (o:=.lst h) u;rwa[k l h _ (f.free u) Zi (d.oA a) (f.trans a)]
inductive Tp(C CM:jP)(vs:aG)(H:Hp)(Q:VK)(a:XK):Prop
 |mk(p) (F) (m) (O) (day) (es) (f)(_:vs=[.ref p,.int day])(_:YE C CM H p F m O)(_:0<=day)(_:day<=9999)(_:CK m.j9 m.ik)(_:m.ik.9<=1000)(_:m.ik.filterMap (Tz m.j9)=es.map Vn)(_:A5 F day f)(_:es.9<64)(_:∀a c b J,H a=_n->J a=_s (.lst c)->ZI J (b.map Vb) c->YM (net f day es) b->b.9<64->ZC H J->Q (.ref a) J)
abbrev Kg:Stmt:=Yr (top 64) 32
def RH(b:ZU K CM "owed" "Moot.owed" Kg)(Tm:ZQ K CM)(e:WA P w K mg Z "check_day" 1 (VC 0 9999 c))(a:Mt P w K mg Z CM "counting" i9 1 (UA C CM))(d:Fn P w K mg Z "owed_dues" i5 3 (UR C)):Mt P w K mg Z CM "owed" ["self","day"] 4 (Tp C CM):=by
 erw[b.mq ["self","day"] λH f Q E b h=>?_];let(_,F,m,_,b,j,f,S,(M,s,L,p,S,W,S),r,t,i,l,n,o,g,k):=h;erw[rfl,_,(Zc (Zl (Wm Xq.never e (Za Q1 Zb))) (Zf (Zv (Zk d (Za (Ve Q0 Tm.cl a (Za (Z3 Q0) Zb)) (Za (Z3 Q0) (Za Q1 Zb))))))),?_];erw[_,S,b,S,(by unfold okI;lia),due.of (_j (r,t)) ?_];let(e,a):=W.ob;let(r,d,h,_):=(W.ls (M.lq,m.ik) (by simp[Mo.at_])).get;dsimp only at d h;erw[_,S,M.p,e,_,S,a,Yk _ aA,_,S,M.p,CM,e,_,_,S,a,Tm.cl,Tm.nq,Di _,M,F,s,L,m,p,M.lq,r,m.ik,S,W,d,h,i,l,λl h p r m i d=>?_];rw[n] at i;rwa[_,S,M.p,CM,e,_,_,S,d _ _ a,Tm.cl,Tm.nf,Vx _,_,S,M.L,F,l,h,j,b,f,S,(W.same d).fk.f,m,i,o,g,λi j m a e h l g f b=>k i j m a (d.free e) h l g f (d.trans b)]
inductive TN(C CM:jP)(vs:aG)(H:Hp)(Q:VK)(a:XK):Prop
 |mk(p) (F) (m) (O) (n) (d0 day) (es) (f)(_:vs=[.ref p,.str n,.int day])(_:YE C CM H p F m O)(_:0<=day)(_:day<=9999)(_:Zp F n=_s d0)(_:CK m.j9 m.ik)(_:m.ik.9<=1000)(_:m.ik.filterMap (Tz m.j9)=es.map Vn)(_:A5 F day f)(_:es.9<64)(_:∀a J,YM (net f day es) a->ZC H J->Q (.int (bal a n)) J)
abbrev Hx:Stmt:=Yr (top 64) 33
def cA(d:ZU K CM "balance" "Moot.balance" Hx)(l:VI K C)(Tm:ZQ K CM)(o:WA P w K mg Z "check_day" 1 (VC 0 9999 c))(a:ZX P w K mg Z C "check_known" 1 (YO C c))(b:Mt P w K mg Z CM "counting" i9 1 (UA C CM))(e:Fn P w K mg Z "balance_dues" ["entries","folk","day","name"] 4 (Am C)):Mt P w K mg Z CM "balance" lj 5 (TN C CM):=by
 erw[d.mq lj λH f Q E d h=>?_];let(_,F,m,_,n,z,d,p,f,S,(M,x,L,u,S,W,S),v,y,j,i,t,r,s,g,k):=h;erw[rfl,_,(Zc (Zl (Wm Xq.never o (Za Q2 Zb))) (Zc (Zl (Yh Xq.never (Z3 Q0) l.cl a (Za Q1 Zb))) (Zf (Zv (Zk e (Za (Ve Q0 Tm.cl b (Za (Z3 Q0) Zb)) (Za (Z3 Q0) (Za Q2 (Za Q1 Zb))))))))),?_];erw[_,S,d,S,(by unfold okI;lia),due.of (_j (v,y)) ?_];let(b,a):=W.ob;let(l,o):=W.fk.f.ob;let(v,e,h,_):=(W.ls (M.lq,m.ik) (by simp[Mo.at_])).get;dsimp only at e h;erw[_,S,M.p,CM,b,_,_,S,a,Tm.cl,Tm.nf,Vx _,M.L.p,l,_,S,o,Y4 _ _ _ _ aA,_,S,M.L,F,n,S,W.fk.f,λz=>(by rw[j] at z;ext z),due.of (_i (by rw[j];intro z;ext z)) ?_];erw[_,S,M.p,b,_,S,a,Yk _ aA,_,S,M.p,CM,b,_,_,S,a,Tm.cl,Tm.nq,Di _,M,F,x,L,m,u,M.lq,v,m.ik,S,W,e,h,i,t,λl h m o j i e=>?_];rw[r] at i;rwa[_,S,M.p,CM,b,_,_,S,e _ _ a,Tm.cl,Tm.nf,Vx _,_,S,_,S,M.L,F,l,h,p,d,f,n,S,(W.same e).fk.f,j,i,s,g,λf a d b=>k f a d (e.trans b)]
end
theorem Fh{q:jP}(h:WD H fx q F)(k:ZC H J):WD J fx q F:=h.mono (k _) (Wu (λ_ _ e=>k _ _ e) (λ_ _ _ e=>k _ _ e) λ_ z=>z)
inductive J0(vs:aG)(H:Hp)(Q:VK)(c:XK):Prop
 |mk(q le) (fx) (as) (us) (es) (day) (f) (a b)(_:vs=[.ref q,.ref le,.int day,.str a,.str b])(_:WD H fx q (as.map adT))(_:H le=_s (.lst us))(_:ZI H (es.map Vn) us)(_:A5 (Zg as).1 day f)(_:∀J,ZC H J->Q (.int (net f day es a b)) J)
def eJ:V5 f day e a b=(if e.at_<=day/\f e.d=a/\f e.c=b then e.m else 0) - (if e.at_<=day/\f e.d=b/\f e.c=a then e.m else 0):=by
 unfold V5 Vy
 by_cases h:e.at_<=day
 .grind
 .grind
abbrev Ib:Stmt:=top 90
def dR(B:YC K mg "_law_owes" Ib)(u:Fn P w K mg Z "_law_heir" lB 3 TH):Fn P w K mg Z "_law_owes" lM 4 J0:=by
 erw[B.fq ["_law_deeds","_law_entries","_law_day","_law_one_here","_law_other","_law_found","_law_at","_law_debtor","_law_creditor","_law_many","_law_pair"] λH vs Q E hr h=>?_];let(q,T,fx,as,us,F,d,f,a,b,S,hq,y,v,A,k):=h
 refine(S,_,(Zc (Zw 5 Ze) (Zc (Y5 mO S (Ys Q1) (JA (by rfl) (Ye (Z8 6) (Ye (Z8 7) (Ye (Z8 8) (Ye (Z8 9) Vf)))))
 (Zc (Zw 10 (Z7 (Za (Zk u (Za Q0 (Za Q7 (Za Q2 Zb)))) (Za (Zk u (Za Q0 (Za Q8 (Za Q2 Zb)))) Zb))))
 (Zc (Zs (QW.pt (Vo (Zn Wr Q6 Q2 (Zo _)) (V9 (Zn (Kd hr) (qvN 10) (Z7 (Za Q3 (Za Q4 Zb))) (Zo _))))) (Zf (Zw 5 (Z0 Y7 Q5 (qvN 9)))) Zr)
 (Zf (Zs (QW.pt (Vo (Zn Wr Q6 Q2 (Zo _)) (V9 (Zn (Kd hr) (qvN 10) (Z7 (Za Q4 (Za Q3 Zb))) (Zo _))))) (Zf (Zw 5 (Z0 Ub Q5 (qvN 9)))) Zr)))))
 (Zf (Zv Q5)))),?_)
 let hz:=aC
 let O:us.9=F.9:=A4 v;erw[_,S,T,S,(_,ZG.of y),?_];refine Ws us (λi Y J=>∃(v6 v7 v8 v9 s:Option V),Y=[_s (.ref q),_s (.ref T),_s (.int d),_s (.str a),_s (.str b),_s (.int (net f d (F.take i) a b)),v6,v7,v8,v9,s]/\ZC H J)
  (_n,_n,_n,_n,_n,S,λ_ _ e=>e) (λi Y J _ ⟨_,_,_,_,_,_,e⟩=>ZG.of (e _ _ y)) ?_ ?_
 .rintro i x Y J hx ⟨v6,v7,v8,v9,s,rfl,t⟩;let(e,he,N):=Ey v hx;let(ea,S,L):=Gf N;let m:=LS (f:=f) (day:=d) he a b;rw[eJ] at m;let(b1,G,W):=A e.d;let(b2,I,X):=A e.c;erw[ea,_,S,ZR.of (t _ _ L),S,_,_,S,_,_,S,_,_,S,_,_,S,S,?_];erw[_,S,_,S,_,S,q,fx,as,e.d,f e.d,d,b1,S,Fh hq t,W,G,λH1 s1=>?_];erw[_,S,_,S,_,S,q,fx,as,e.c,f e.c,d,b2,S,Fh hq (t.trans s1),X,I,λH2 s2=>?_];erw[aB S,λp hp=>?_];erw[nw (o:=.tup [.str (f e.d),.str (f e.c)]) hp λH3 S3 k3=>?_];let r:=((t.trans s1).trans s2).trans S3;erw[Yb ?_];dsimp only;erw[Jy (λY J=>Y=[_s (.ref q),_s (.ref T),_s (.int d),_s (.str a),_s (.str b),_s (.int (net f d (F.take i) a b+(if e.at_<=d/\f e.d=a/\f e.c=b then e.m else 0))),_s (.int e.at_),_s (.str e.d),_s (.str e.c),_s (.int e.m),_s (.ref p)]/\ZC H3 J) ?_ ?_]
  .rintro Y H4 ⟨rfl,g⟩;erw[_,S,_,S,_,_,S,S,_,S,Zy (λc=>?_) (λc=>Zz ?_)]
   .erw[_,S,_,S,_,S,aB S,λU n=>?_];erw[nw (o:=.tup [.str b,.str a]) n λH5 j R=>?_];erw[U,[.inr b,.inr a],S,R,.inr (p,[.inr (f e.d),.inr (f e.c)],S,j _ _ (g _ _ k3),_,S,Zy (λl=>?_) (λl=>?_))]
    .let C:e.at_<=d/\f e.d=b/\f e.c=a:=(c,key2.mp l);rw[_j C] at m;erw[_,S,_,S,_,_,S,S,_s (.int e.at_),_s (.str e.d),_s (.str e.c),_s (.int e.m),_s (.ref p),?_,(r.trans g).trans j];rw[m,<- Int.add_sub_assoc];rfl
    .rw[_i (λz:e.at_<=d/\f e.d=b/\f e.c=a=>l (key2.mpr z.2)),Int.sub_zero] at m;rwa[_,_,_,_,_,by rw[m],(r.trans g).trans j]
   .rw[_i (λz:e.at_<=d/\f e.d=b/\f e.c=a=>c z.1),Int.sub_zero] at m;rwa[_,_,_,_,_,by rw[m],r.trans g]
  .intro D' M _ _ _;erw[_,S,_,S,_,_,S,S,_,S,Zy (λc=>?_) (λc=>Zz ?_)]
   .erw[_,S,_,S,_,S,aB S,λU n=>?_];erw[nw (o:=.tup [.str a,.str b]) n λH5 j R=>?_];erw[U,[.inr a,.inr b],S,R,.inr (p,[.inr (f e.d),.inr (f e.c)],S,j _ _ k3,_,S,Zy (λl=>?_) (λl=>?_))]
    .let C:e.at_<=d/\f e.d=a/\f e.c=b:=(c,key2.mp l);rwa[_,S,_,S,_,_,S,S,M _ _ (by rw[_j C];rfl,j)]
    .rwa[M _ _ (by rw[_i (λz:e.at_<=d/\f e.d=a/\f e.c=b=>l (key2.mpr z.2)),zJ];rfl,j)]
   .rwa[M _ _ (by rw[_i (λz:e.at_<=d/\f e.d=a/\f e.c=b=>c z.1),zJ];rfl,λ_ _ e=>e)]
 .rintro Y J ⟨v6,v7,v8,v9,s,rfl,t⟩;rw[O,xR];rwa[_,S,k J t]
def A6(g:Str->Str->Int)(a b:Str):Option WV:=if a≠b/\0<g a b then _s (a,b,g a b) else _n
def Ag(g:Str->Str->Int)(a:Str)(T:jJ):List WV:=T.filterMap (A6 g a)
def TZ(g:Str->Str->Int)(S T:jJ):List WV:=S.flatMap λa=>Ag g a T
def Cp(h:A6 g a b=_s r):r=(a,b,g a b)/\a≠b/\0<g a b:=by
 unfold A6 at h
 by_cases c:a≠b/\0<g a b
 .grind
 .rw[_i c] at h;ext h
theorem LH(g:Str->Str->Int)(a:Str)(T:jJ):(Ag g a T).9<=T.9:=zA _ _
theorem Ii(g:Str->Str->Int)(T:jJ):∀S:List Str,(TZ g S T).9<=S.9 * T.9
 | []=>yJ _
 | a::S=>by
  let b:=Ii g T S;have:=LH g a T;unfold TZ at b |-;rw[List.flatMap_cons,xG,yH,Nat.add_mul,Nat.one_mul];lia
def Pd{g:Str->Str->Int}{S T:jJ}{i:Nat}{a:Str}(h:S[i]?=_s a):TZ g (S.take (i+1)) T=TZ g (S.take i) T++Ag g a T:=by
 unfold TZ;rw[xQ,h,wK];simp
def iT{g:Str->Str->Int}{T:jJ}{a b:Str}{j:Nat}(h:T[j]?=_s b):Ag g a (T.take (j+1))=Ag g a (T.take j)++(if a≠b/\0<g a b then [(a,b,g a b)] else []):=by
 unfold Ag;rw[xQ,h,yT]
 by_cases c:a≠b/\0<g a b
 .have:A6 g a b=_s (a,b,g a b):=by unfold A6;rw[_j c]
  rw[_j c];simp[this]
 .have:A6 g a b=none:=by unfold A6;rw[_i c]
  rw[_i c];simp[this]
def HF(h:ltS a a'=_t):ltK (.inr a::r) (.inr a'::t)=true:=by
 rw[ltK,_i (AU h)];rwa[h]
def Om(h:ltK r t=_t):ltK (.inr a::r) (.inr a::t)=true:=by
 rw[ltK,_j S];rwa[h]
def Xi(c:Q.Pairwise λx y=>ltS x y=_t)(f:∀a b,g a b≠0->a∈Q/\b∈Q):YM g (TZ g Q Q):=by
 erw[bU ?_ λr=>?_]
 .unfold TZ;rw[List.pairwise_flatMap];erw[λa _=>?_,c.imp λ{a d} h x i y j=>?_]
  .unfold Ag;rw[List.pairwise_filterMap];erw[c.imp λ{b e} h r c k d=>?_];rw[(Cp c).1,(Cp d).1];rwa[Om (HF h)]
  .let(b,_,c):=yV.mp i;let(e,_,d):=yV.mp j;rw[(Cp c).1,(Cp d).1];rwa[HF h]
 .unfold TZ;rw[List.mem_flatMap];constructor
  .rintro⟨a,_,c⟩;let(b,_,c):=yV.mp c;let(S,d,e):=Cp c;rwa[d,e,rfl]
  .let(x,y,v):=r;rintro⟨d,e,c⟩;let d:x≠y:=d;let e:0<v:=e;let c:g x y=v:=c;let(e,h):=f x y ();erw[x,e,yV.mpr (y,h,?_)];unfold A6;rw[_j (d,()),c]
def QF{S:jJ}(h:S.Pairwise λx y=>ltS y x=_x)(c:S.Nodup):S.Pairwise λx y=>ltS x y=true:=by
 erw[List.Pairwise.imp₂ (λ{x y} a b=>?_) h c];cases e:ltS x y with
 | true=>rfl
 | false=>rwa[_a (DJ e a) b]
theorem ZI.rowT(k:YB H J):∀{a:List WV}{vs:aG},ZI H (a.map Vb) vs->ZI J (a.map Vb) vs
 | [],vs,h=>h
 | o::os,vs,⟨v,r,e,h1,h2⟩=>by
  let(a,S,b):=C4 h1;rwa[.ref a,r,e,Cf (k _ _ b),ZI.rowT k h2]
inductive Tb(vs:aG)(H:Hp)(Q:VK)(a:XK):Prop
 |mk(q b g:jP) (i:jM) (a:List AD) (h:aG) (e:List VE) (c:jJ) (d:Int) (f:Str->Str)(_:vs=[.ref q,.ref b,.ref g,.int d])(_:WD H i q (a.map adT))(_:H b=_s (.lst h))(_:ZI H (e.map Vn) h)(_:H g=_s (.lst (c.map V.str)))(_:c.Nodup)(_:c.9<=40)(_:A5 (Zg a).1 d f)(_:(∀a b,net f d e a b≠0->a∈c/\b∈c))(_:∀(a:jP)(b:aG)(c:List WV)(J:Hp),H a=_n->J a=_s (.lst b)->ZI J (c.map Vb) b->YM (net f d e) c->ZC H J->Q (.ref a) J)
theorem Fy(h:ZC H J):YB H J:=λb L e=>h _ _ e
abbrev Mv:Stmt:=top 91
def iC(b1:YC K mg "_law_owed" Mv)(T:Txt mg)(b0:Fn P w K mg Z "_law_owes" lM 4 J0):Fn P w K mg Z "_law_owed" lP 5 Tb:=by
 erw[b1.fq ["_law_deeds","_law_entries","_law_names_here","_law_day","_law_rows","_law_one_here","_law_other","_law_many"] λH n Q E hr h=>?_];let(q,le,na,fx,as,us,v,t,l,f,rfl,hq,b5,b3,a5,b6,c3,b7,b4,k):=h;erw[rfl,_,(Zc (Zw 4 (Yn Zb)) (Zc (Y5 mO rfl (Ys (Z1 IH T.sorted FY (Za Q2 Zb))) (Z8 5) (Zf (Y5 mO rfl (Ys (Z1 IH T.sorted FY (Za Q2 Zb))) (Z8 6) (Zc (Zw 7 (Zk b0 (Za Q0 (Za Q1 (Za Q3 (Za Q5 (Za Q6 Zb))))))) (Zf (Zs (QW.pt (Vo (Zn BA Q5 Q6 (Zo _)) (V9 (Zn J8 Q7 Ze (Zo _))))) (Zf (Zl (Yz aD aE aF Y1 Q4 (Za (Z7 (Za Q5 (Za Q6 (Za Q7 Zb)))) Zb)))) Zr)))))) (Zf (Zv Q4)))),?_];let hz:=aC
 erw[aB rfl,λu W=>?_];erw[nw (o:=.lst []) W λH0 S0 k0=>?_];erw[_,rfl,na,t,rfl,ZG.of (S0 _ _ a5),(),λls S U m a7=>?_];let S1:=ZC.new (o:=.lst (S.map V.str)) U;let k1:(upd H0 ls (.lst (S.map V.str))) ls=_s (.lst (S.map V.str)):=Zi;let c0:ls≠u:=λz=>by rw[z,k0] at U;ext U
 generalize (upd H0 ls (.lst (S.map V.str)))=H1 at S1 k1 |-;let a4:S.Nodup:=m.nodup_iff.mpr b6;let c1:S.9=t.9:=m.length_eq;let a2:∀{J:Hp},ZF u H1 J->ZC H J:=λsx b o e=>sx b o (λz=>by rw[z,W] at e;ext e) (S1 _ _ (S0 _ _ e));erw[ls,rfl,(_,ZG.of k1),?_];let b2:∀i:Nat,(S.take i).9 * S.9<=1600:=λi=>by
  let h1:(S.take i).9<=40:=by rw[xY];lia
  let h2:S.9<=40:=by lia
  rwa[xX (Nat.mul_le_mul h1 h2) aA]
 refine Ws (S.map V.str) (λi Y J=>∃(v5 M N:Option V)(n:aG),Y=[_s (.ref q),_s (.ref le),_s (.ref na),_s (.int l),_s (.ref u),v5,M,N]/\J u=_s (.lst n)/\ZI J ((TZ (net f l v) (S.take i) S).map Vb) n/\ZF u H1 J)
  (_n,_n,_n,[],rfl,S1 _ _ k0,rfl,λ_ _ _ e=>e) (λi Y J _ ⟨_,_,_,_,_,_,_,e⟩=>ZG.of (e _ _ c0 k1)) ?_ ?_
 .rintro i x Y J hx ⟨v5,M,N,n,rfl,C,G,sx⟩;obtain⟨a,ha,rfl⟩:∃a,S[i]?=_s a/\x=.str a:=by grind
  let sH:=a2 sx;erw[_,rfl,na,t,rfl,ZG.of (sH _ _ a5),(),λl2 s R B a8=>?_];let eS:s=S:=List.Perm.eq_of_pairwise (λa b _ _ x y=>DJ y x) a8 a7 (B.trans m.6);subst eS;let S3:=ZC.new (o:=.lst (s.map V.str)) R;let k3:(upd J l2 (.lst (s.map V.str))) l2=_s (.lst (s.map V.str)):=Zi;let b9:l2≠u:=λz=>by rw[z,C] at R;ext R
  let a6:(upd J l2 (.lst (s.map V.str))) u=_s (.lst n):=S3 _ _ C;let L:=G.oA S3;generalize (upd J l2 (.lst (s.map V.str)))=H3 at S3 k3 a6 L |-;erw[l2,rfl,(_,ZG.of k3),?_];refine Ws (s.map V.str) (λj Y O=>∃(M N:Option V)(n:aG),Y=[_s (.ref q),_s (.ref le),_s (.ref na),_s (.int l),_s (.ref u),_s (.str a),M,N]/\O u=_s (.lst n)/\ZI O ((TZ (net f l v) (s.take i) s++Ag (net f l v) a (s.take j)).map Vb) n/\ZF u H3 O)
   (M,N,n,rfl,a6,by rw[List.take_zero];show ZI H3 ((_ ++ []).map Vb) n;rw[yC];rwa[L],λ_ _ _ e=>e) (λj Y J _ ⟨_,_,_,_,_,_,e⟩=>ZG.of (e _ _ b9 k3)) ?_ ?_
  .rintro j y Y H4 hy ⟨M,N,n,rfl,X,p,I⟩;obtain⟨b,hb,rfl⟩:∃b,s[j]?=_s b/\y=.str b:=by grind
   let a9:ZF u H1 H4:=λb o nb e=>I b o nb (S3 _ _ (sx b o nb e));let a1:=a2 a9;erw[_,rfl,_,rfl,_,rfl,_,rfl,_,rfl,q,le,fx,as,us,v,l,f,a,b,rfl,Fh hq a1,a1 _ _ b5,b3.oA a1,b7,λH5 s5=>?_];let et:=iT (g:=net f l v) (a:=a) hb;let F:=s5 _ _ X;let A:ZF u H3 H5:=λb o nb e=>s5 _ _ (I b o nb e);let a3:(¬(a≠b/\0<net f l v a b))->ZI H5 ((TZ (net f l v) (s.take i) s++Ag (net f l v) a (s.take (j+1))).map Vb) n:=λc=>by
    rw[et,_i c,yC];rwa[p.oA s5]
   erw[_,rfl,_,rfl,rfl,_,rfl,Vi (λc=>?_) (λc=>Zz ?_)]
   .let c':a≠b:=λz=>c (by rw[z]);erw[_,rfl,_,_,rfl,rfl,_,rfl,Zy (λc2=>?_) (λc2=>?_)]
    .erw[_,rfl,.inl (rfl,_,ZG.of F),_,rfl,_,rfl,_,rfl,aB rfl,λd hd=>?_];erw[nw (o:=.tup [.str a,.str b,.int (net f l v a b)]) hd λH6 Sd kd=>?_];let a0:=Sd _ _ F;let b8:=A4 p;rw[xG] at b8;let l1:=Ii (net f l v) s (s.take i);let c4:=b2 i;let l3:=LH (net f l v) a (s.take j);let l4:(s.take j).9<=40:=by rw[xY];lia
     erw[u,n,.ref d,rfl,rfl,a0,(),?_];let tt:YB H4 (upd H6 u (.lst (n ++ [.ref d]))):=((Fy s5).trans (Fy Sd)).trans (Bj a0);erw[_,_,n ++ [.ref d],rfl,Zi,?_,λx o nx e=>?_]
     .rw[et,_j (c',c2),<- yX,xL];rwa[ZI.snoc (Cf (r:=(a,b,net f l v a b)) (Bj a0 _ _ kd)) (ZI.rowT tt p)]
     .rw[Zd nx];rwa[Sd _ _ (A x o nx e)]
    .rwa[_,_,n,rfl,F,a3 λz=>c2 z.2,A]
   .let c':a=b:=by injection c
    rwa[_,_,n,rfl,F,a3 λz=>z.1 c',A]
  .rintro Y H4 ⟨M,N,n,rfl,X,p,I⟩;rw[xA,xR,<- Pd ha] at p;rwa[_,_,_,n,rfl,X,p,λb o nb e=>I b o nb (S3 _ _ (sx b o nb e))]
 .rintro Y J ⟨v5,M,N,n,rfl,C,G,sx⟩;rw[xA,xR] at G;erw[_,rfl,k u n _ J W C G (Xi (QF a7 a4) λa b h=>?_) (a2 sx)];let(h1,h2):=b4 a b h;rwa[m.mem_iff.mpr h1,m.mem_iff.mpr h2]
def O4(a:List WV):(D.lst (a.map Vb)).deep<=4:=by
 have:∀a:List WV,Jm (a.map Vb)<=1:=by
  intro a
  induction a with
  | nil=>rwa[yJ _]
  | cons b r c=>rw[yD,Jm];show max (max 0 (max 0 (max 0 0))+1) _<=1;lia
 show Jm _+1<=4;have:=this a;lia
theorem RL(h:H l=_n)(S:ZC H J):ZC H (upd J l o):=λb u e=>by
 rw[Zd (λz=>by rw[z,h] at e;ext e)];rwa[S _ _ e]
def Cm(ns:jJ)(F:List ZK):Prop:=(∀n∈ns,∃d,Zp F n=_s d)/\∀n,n∉ns->Zp F n=_n
theorem Cm.of(t:AM ns ns.length F):Cm ns F :=
 (λn a=>let ⟨d,e,_,_⟩:=t.com n (by rw[xR];rwa[a]);(d,e),λn a=>t.no n (by rw[xR];rwa[a]))
def Cm.snoc(h:Cm ns (Zg as).1)(i:∀d,x=.s d->dOk ns d/\eSD (Zg as).1 (Zg as).2 d=_n):Cm ns (Zg (as ++ [x])).1:=by
 let b:∀n,Zp (Zg (as ++ [x])).1 n=Zp (Zg as).1 n:=by
  rw[JH];cases x with
  | c d a e g j f=>rwa[λ_=>rfl]
  | s d =>
   let(g,e):=i d S;cases d with
   | come n a f =>
    let e:((Ut (Zg as).1 n a f).or (Wd (Zg as).2))=none:=e;let(_,_,_,b,_):=Gw (yF.mp e).1;let(x,z):=h.1 n g.1;rw[b] at z;ext z
   | rise n a f=>rwa[λx=>EU x]
   | die n e a=>rwa[λx=>EZ x]
   | _=>rwa[λ_=>rfl]
 rwa[λn a=>by rw[b];rwa[h.1 n a],λn a=>by rw[b];rwa[h.2 n a]]
section
variable{c:jL}
def owE(bs:List Bool)(c:Nat):AD->Option VE
 | .s (.pay x y a b)=>_s (b,y,x,a)
 | .c (.wer x y a) b _ _ _ _=>if bs.getD c _x=_t then _s (b,y,x,a) else _n
 | _=>_n
def TB(bs:List Bool)(u:List VE×Nat)(a:AD):List VE×Nat:=(u.1++(owE bs u.2 a).toList,u.2+if isC a=_t then 1 else 0)
def Wv(bs:List Bool)(as:List AD):List VE×Nat:=as.foldl (TB bs) ([],0)
structure VP (bs:List Bool) (m:Mo) (u:List VE×Nat):Prop where
 d:m.ik.filterMap (Tz bs)=u.1.map Vn
 n:u.2=m.oX.9
 r:∀r∈m.ik,∃e:D,r=.tup [.non,e]\/∃i:Nat,r=.tup [.int i,e]/\i<m.oX.9
def VP.step(h:VP bs s.2 u)(a:AD):VP bs (Ji s a).2 (TB bs u a):=by
 let(k,g,l):=h;let m:u.1++(none:Option VE).toList=u.1:=yC _;let n:∀{t:ZV} r,r∈s.2.ik->∃e:D,r=.tup [.non,e]\/∃i:Nat,r=.tup [.int i,e]/\i<(s.2.oX ++ [t]).9:=λr j=>(l r j).imp λe z=>z.imp id λ⟨i,a,b⟩=>(i,a,by rw[Wj];lia);cases a with
 | s d =>
  ext d
  case pay x y many b =>
   erw[?_,g,λr j=>?_]
   .show (s.2.ik ++ [_]).filterMap _=(u.1 ++ [_]).map _;rw[yT,k,xL];rfl
   .rcases xK.mp j with z | z
    .rwa[l r z]
    .grind
  all_goals rwa[k.trans (congrArg (List.map Vn) m.6),g,l]
 | c d b i o p f =>
  ext d
  case wer x y many =>
   erw[?_,(congrArg (· + 1) g).trans (Wj _ _).6,λr j=>?_]
   .show (s.2.ik ++ [_]).filterMap _=(u.1++(if bs.getD u.2 _x=_t then _ else none:Option VE).toList).map _;rw[yT,k,xL,g];congr 1;let b:∀e:D,Tz bs (.tup [.int (s.2.oX.9:Nat),e])=if bs.getD s.2.oX.length _x=_t then _s e else none:=λe=>by
     show (if bs.getD (s.2.oX.9:Int).toNat _x=_t then _s e else _n)=_;rw[yI]
    rw[zT,b]
    by_cases y:bs.getD s.2.oX.length _x=_t
    .rw[_j y,_j y];rfl
    .rw[_i y,_i y];rfl
   .rcases xK.mp j with z | z
    .rwa[n r z]
    .cases xV.mp z;rwa[_,.inr (_,S,by show _<(_ ++ [_]).9;rw[Wj];lia)]
  all_goals rwa[k.trans (congrArg (List.map Vn) m.6),(congrArg (· + 1) g).trans (Wj _ _).6,n]
def Gv(bs:List Bool)(as:List AD):VP bs (Zg as).2 (Wv bs as):=by
 suffices h:∀(as:List AD)(s:U8)(u:List VE×Nat),VP bs s.2 u->VP bs (as.foldl Ji s).2 (as.foldl (TB bs) u) from h as _ _ (S,S,λ_ z=>nomatch z)
 intro as
 induction as with
 | nil=>rwa[λs u h=>h]
 | cons a as b=>rwa[λs u h=>b _ _ (h.step a)]
theorem Fu:∀{as:List AD}{u:List VE×Nat},e∈(as.foldl (TB bs) u).1->e∈u.1\/∃a∈as,∃c,owE bs c a=_s e
 | [],_,h=>.inl h
 | a::as,u,h=>by
  rcases Fu (as:=as) h with z | ⟨b,hb,z⟩
  .rcases xK.mp z with y | y
   .rwa[.inl y]
   .grind
  .grind
theorem Gd:∀{as:List AD}{u:List VE×Nat},(as.foldl (TB bs) u).1.9<=u.1.9+as.9
 | [],u=>xE _
 | a::as,u=>by
  let b:=Gd (bs:=bs) (as:=as) (u:=TB bs u a);let b:(TB bs u a).1.9<=u.1.9+1:=by
   show (u.1++_).9<=_;rw[xG];cases owE bs u.2 a<;>simp
  rw[zX,yH];lia
def gA(g:VB as)(b:e∈(Wv bs as).1):(∃d,Zp (Zg as).1 e.d=_s d)/\∃d,Zp (Zg as).1 e.c=_s d:=by
 rcases Fu b with z | ⟨a,ha,k,z⟩
 .ext z
 .let(i,b):=wE ha;let j:=g.2 i a b;let l:∀{f:jJ}{b:Int},Vs (Zg (as.take i)).1 (Zg (as.take i)).2 b f _n _n=_n->∀n∈f,∃d,Zp (Zg as).1 n=_s d:=λh n f=>((Aw h).1 n f).imp λd y=>Hm y.1;cases a with
  | s d =>
   ext d
   case pay x y many b =>
    ext z;let h:=j.2.1;simp only[eSD,yF] at h;have:=l h.2.2.1;rwa[this y (by simp),this x (by simp)]
   all_goals ext z
  | c d b i m n f =>
   ext d
   case wer x y many =>
    unfold owE at z;dsimp only at z;split at z
    .ext z;let(_,_,_,_,_,_,_,_,h,_):=j;simp only[eCD,B3,yF] at h;have:=l h.2.2.2.1;rwa[this y (by simp),this x (by simp)]
    .ext z
   all_goals ext z
def Sm(g:VB as)(h:Z2 (Zg as).1 n=_s x):∃d,Zp (Zg as).1 x.2=_s d:=by
 let b:∀i,i<=as.9->Z2 (Zg (as.take i)).1 n=_s x->∃d,Zp (Zg as).1 x.2=_s d:=by
  intro i
  induction i with
  | zero=>exact λ_ z=>by ext z
  | succ i k =>
   intro a h;obtain⟨a,f⟩:∃a,as[i]?=_s a:=(_,xC ());let j:as.take (i+1)=as.take i ++ [a]:=by rw[xQ,f];rfl
   cases e:Z2 (Zg (as.take i)).1 n with
   | some z =>
    let y:=MD (as:=as.take (i+1)) (i:=i) (n:=n) (d:=z) (by rw[List.take_take,mE (zV i)];rwa[e]);rw[h] at y;ext y;rwa[k () e]
   | none =>
    rw[j,AC,MA e] at h;let e:=g.2 i a f;split at h
    .split at h
     .ext h;let h:=e.2.1;simp only[eSD,Af,yF] at h;let((_,_,h,_),_):=h;unfold Vp at h;split at h
      .ext h
      .rename_i z;rwa[(Option.ne_none_iff_exists'.mp z).imp λd y=>Hm y]
     .ext h
    .ext h
 rwa[b as.length (xE _) (by rw[xR];rwa[h])]
def N9(h:YH F day b n m)(a:∀n x,Z2 F n=_s x->∃d,Zp F x.2=_s d):(∃d,Zp F n=_s d)->∃d,Zp F m=_s d:=by
 induction h with
 | here _=>rwa[id]
 | step e _ _ f=>rwa[λ_=>f (a _ _ e)]
def iR(g:VB as)(d:as.9<=40)(day:Int):∃f,A5 (Zg as).1 day f:=by
 let R:∀n,∃m,∃b,b<=40/\YH (Zg as).1 day b n m:=λn=>let ⟨k,m,a,b⟩:=g.ranked.oQ d n day;(m,k,b,a)
 rwa[λn=>(R n).choose,λn=>(R n).choose_spec]
def RJ(g:VB as)(j:Cm ns (Zg as).1)(e:A5 (Zg as).1 day f)(a b:Str)(h:net f day (Wv bs as).1 a b≠0):a∈ns/\b∈ns:=by
 let i:∀n,(∃d,Zp (Zg as).1 n=_s d)->f n∈ns:=λn l=>by
  let(k,_,st):=e n;let(d,e):=N9 st (λn x=>Sm g) l;exact Classical.byContradiction λz=>by rw[j.2 _ z] at e;ext e
 let(e,j,z):=IE h;let(d,e):=gA g j;rcases z with⟨rfl,rfl⟩ | ⟨rfl,rfl⟩
 .rwa[i _ d,i _ e]
 .rwa[i _ e,i _ d]
end
theorem Le:∀{as:List AD}{u:List VE×Nat},u.2<=(as.foldl (TB bs) u).2
 | [],_=>xE _
 | a::as,u=>xX (Nat.le_add_right _ _) (Le (as:=as) (u:=TB bs u a))
def OO(c:¬Yx x="pay")(e:¬Yx x="wergild"):owE bs k x=none:=by
 cases x with
 | s d=>ext d<;>first | rfl | rwa[_a S c]
 | c d b a g h f=>ext d<;>first | rfl | rwa[_a S e]
def fM(h:Yx x="pay"):∃a b m d,x=.s (.pay a b m d):=by
 cases x with
 | s d=>ext d<;>first | rwa[_,_,_,_,rfl]| (rwa[_a h (by simp only[Yx];decide +kernel)])
 | c d e c g i f=>ext d<;>rwa[_a h (by simp only[Yx];decide +kernel)]
def cI(h:Yx x="wergild"):∃a b m day e g i f,x=.c (.wer a b m) day e g i f:=by
 cases x with
 | s d=>ext d<;>rwa[_a h (by simp only[Yx];decide +kernel)]
 | c d day e g i f=>ext d<;>first | rwa[_,_,_,_,_,_,_,_,rfl]| (rwa[_a h (by simp only[Yx];decide +kernel)])
theorem ZI.enrT(k:YB H J):∀{es:List VE}{vs:aG},ZI H (es.map Vn) vs->ZI J (es.map Vn) vs
 | [],_,h=>h
 | _::_,_,⟨v,r,e,h1,h2⟩=>by
  let(a,S,b):=Gf h1;rwa[.ref a,r,e,Lg (k _ _ b),ZI.enrT k h2]
inductive Jw(vs:aG)(H:Hp)(Q:VK)(a:XK):Prop
 |mk(s) (W) (fx) (as bs)(_:vs=[.ref W.wl])(_:ZY s H fx W as bs (Zg as).2.oX)(_:WY (Zg as).2)(_:as.9<=1000)(_:∀l a J,H l=_n->J l=_s (.lst a)->ZI J ((Wv (Zg as).2.j9 as).1.map Vn) a->ZC H J->Q (.ref l) J)
abbrev IS:Stmt:=top 92
def Oj(Zkr:YC K mg "_law_moot_entries" IS)(T:Txt mg)(Zj4:Fn P w K mg Z "_law_is_case" lF 1 Ja)(Z4v:Fn P w K mg Z "_law_settled" ["_law_suits"] 3 VO):Fn P w K mg Z "_law_moot_entries" ["_law_world"] 4 Jw:=by
 erw[Zkr.fq ["_law_world","_law_told","_law_entries","_law_case","_law_deed_here"] λH vs Q E hr h=>?_];let(s,W,fx,as,bs,rfl,hW,ok,al,k):=h;erw[rfl,_,(Zc (Zw 1 (Zk Z4v (Za (Zh Yg Q0 Ze) Zb))) (Zc (Zw 2 (Yn Zb)) (Zc (Zw 3 (Jx Jv Ze)) (Zc (Y5 mO rfl (Ys (Zh Yg Q0 Ze)) (Z8 4) (Zc (Zs (Wq (Zk Zj4 (Za Q4 Zb))) (Zf (Zw 3 (Z0 Y7 Q3 Ze))) Zr) (Zc (Zs (Zn Yp (Zh Zq Q4 Ze) Z9 (Zo _)) (Zf (Zl (Yz aD aE aF Y1 Q2 (Za (Z7 (Za (Zh Zq Q4 Ze) (Za (Zh Zq Q4 Ze) (Za (Zh Zq Q4 Ze) (Za (Zh Zq Q4 Ze) Zb))))) Zb)))) Zr) (Zf (Zs (QW.pt (Vo (Zn Yp (Zh Zq Q4 Ze) Z9 (Zo _)) (V9 (Wq (Zh Yg Q1 Q3))))) (Zf (Zl (Yz aD aE aF Y1 Q2 (Za (Z7 (Za (Zh Zq Q4 Ze) (Za (Zh Zq Q4 Ze) (Za (Zh Zq Q4 Ze) (Za (Zh Zq Q4 Ze) Zb))))) Zb)))) Zr))))) (Zf (Zv Q2)))))),?_];let hz:=aC
 let(vs,hv,hvr):=id hW.d;let hvl:=hvr.9;rw[xA] at hvl;let(us,hu,hur):=id hW.u;let tl:=ok.le;let su:ZT H (Zg as).2.oX W.sl:=(us,hu,hur.oA Df);erw[Yq λD1 hn1=>?_];erw[_,rfl,W.wl,_,1,.ref W.sl,rfl,rfl,ZG.of hW.e,rfl,W.sl,_,rfl,su,(),λl2 H1 k1 S1=>Yb (hn1 _ _ ?_)];rw[<- SR] at k1;let vl:=ok.vl;generalize hbs:(Zg as).2.j9=vb at k1 vl k;erw[Yq λD2 hn2=>?_];erw[aB rfl,λq0 hq0=>Yb (hn2 _ _ ?_)];let hq00:=S1.free hq0;erw[nw (o:=.lst []) hq0 λH2 S2 k2=>?_];let S02:=S1.trans S2;erw[Yq λD3 hn3=>(_,rfl,hn3 _ _ ?_)];erw[Yq λD4 hn4=>?_];erw[_,rfl,W.wl,_,0,.ref W.dl,rfl,rfl,ZG.of (S02 _ _ hW.e),rfl,W.dl,rfl,(_,ZG.of (S02 _ _ hv)),?_];let toH:∀{J:Hp},ZF q0 H2 J->ZC H J:=λsx b o e=>sx b o (λz=>by rw[z] at e;rw[S1 _ _ e] at hq0;ext hq0) (S02 _ _ e);let nq2:l2≠q0:=λz=>by rw[z,hq0] at k1;ext k1
 erw[Ws vs (λi Y J=>∃(v5:Option V)(cz:Int)(ms:aG),Y=[_s (.ref W.wl),_s (.ref l2),_s (.ref q0),_s (.int cz),v5]/\cz+1=((Wv vb (as.take i)).2:Int)/\J q0=_s (.lst ms)/\ZI J ((Wv vb (as.take i)).1.map Vn) ms/\ZF q0 H2 J) (_n,-1,[],rfl,rfl,k2,rfl,λ_ _ _ e=>e) (λi Y J _ ⟨_,_,_,_,_,_,_,sx⟩=>ZG.of (toH sx _ _ hv)) ?_ ?_]
 .rintro i y Y J hy hI;erw[opq λD0 hnx _ _ _=>?_];let(v5,cz,ms,rfl,hc,kq,rp,sx):=hI;let S:=toH sx;let hvr':ZI (fz fx J) (as.map adT) vs:=by
   let(vs',e,r):=(hW.same S).d;rw[S _ _ hv] at e;ext e;rwa[r]
  let(x0,hx0,re):=hvr'.get hy;rw[xF] at hx0;let(x1,hx1,rfl):=xS.mp hx0;let et:Wv vb (as.take (i+1))=TB vb (Wv vb (as.take i)) x1:=by
   unfold Wv;rw[xQ,hx1];rwa[zQ ..]
  let ul:(Wv vb (as.take i)).1.9<=i:=by
   have:(Wv vb (as.take i)).1.9<=0+(as.take i).9:=Gd;rw[xY] at this;lia
  let un:=(Gv vb (as.take i)).n;let hi:i<as.9:=(xH.mp hx1).1;let hc2:(Wv vb (as.take (i+1))).2<=vb.9:=by
   let h1:=(Gv vb as).n;let h2:Wv vb as=(as.drop (i+1)).foldl (TB vb) (Wv vb (as.take (i+1))):=by unfold Wv;rw[<- zQ,yZ]
   rw[vl,<- h1,h2];rwa[Le]
  rw[et] at hnx hc2;generalize Wv vb (as.take i)=u at hc rp ul un hnx hc2;let ml:=A4 rp;erw[Yb ?_];erw[opq λD5 hn5 _ _ _=>?_];let app:∀{e:VE}{H4:Hp}{d:jP},ZC J H4->H4 d=_s (.tup [.int e.at_,.str e.d,.str e.c,.int e.m])->H4 q0=_s (.lst ms)/\ZI (upd H4 q0 (.lst (ms ++ [.ref d]))) ((u.1 ++ [e]).map Vn) (ms ++ [.ref d])/\ZF q0 H2 (upd H4 q0 (.lst (ms ++ [.ref d]))):=λ{e H4 d} S4 hd=>by
   let kq4:=S4 _ _ kq;erw[kq4,?_,λb o n e=>by rw[Zd n];rwa[S4 _ _ (sx b o n e)]];rw[xL];rwa[ZI.snoc (Lg (e:=e) (Bj kq4 _ _ hd)) (ZI.enrT ((Fy S4).trans (Bj kq4)) rp)]
  by_cases wp:Yx x1="pay"
  .let(a,b,m,d,rfl):=fM wp;let(q,rfl,hq):=BI re;erw[_,rfl,_,fx,_,rfl,re,λH3 S3=>(_,rfl,Zz (hn5 _ _ ?_))];dsimp only;erw[Yq λD6 hn6=>?_];let hq3:=ZR.of (K:=K) (S3 _ _ hq);erw[_,rfl,q,_,0,.str "pay", rfl,rfl,hq3,rfl,rfl,_,rfl,Zy (λ_=>?_) (λz=>_a rfl z)];erw[_,rfl,.inl (rfl,_,ZG.of (S3 _ _ kq)),_,rfl,q,_,4,.int d,rfl,rfl,hq3,rfl,_,rfl,q,_,2,.str b,rfl,rfl,hq3,rfl,_,rfl,q,_,1,.str a,rfl,rfl,hq3,rfl,_,rfl,q,_,3,.int m,rfl,rfl,hq3,rfl,aB rfl,λp hp=>?_];erw[nw (o:=.tup [.int d,.str b,.str a,.int m]) hp λH4 S4 k4=>?_];let(a1,a2,a3):=app (e:=(d,b,a,m)) (S3.trans S4) k4;erw[q0,ms,.ref p,rfl,rfl,a1,(),hn6 _ _ ?_];erw[_,rfl,q,_,0,.str "pay", rfl,rfl,ZR.of (Bj a1 _ _ (S4 _ _ (S3 _ _ hq))),rfl,rfl,_,rfl,Zy (λz=>_a z (fK aA)) (λ_=>Zz (hnx _ _ ?_))];rwa[_,cz,_,rfl,hc,Zi,a2,a3]
  let fin:∀{cz':Int}{ms':aG}{H3:Hp}{es:List VE}{v5:Option V},cz'=cz+(if isC x1=_t then 1 else 0)->(owE vb u.2 x1).toList=es->H3 q0=_s (.lst ms')->ZI H3 ((u.1++es).map Vn) ms'->ZF q0 H2 H3->D0.nx [_s (.ref W.wl),_s (.ref l2),_s (.ref q0),_s (.int cz'),v5] H3:=λ{cz' ms' H3 es v5} e1 e2 h1 h2 h3=>by
   erw[hnx _ _ (_,cz',_,rfl,?_,h1,by unfold TB;rw[e2];rwa[h2],h3)];rw[e1];show _=((u.2+(if isC x1=_t then 1 else 0):Nat):Int);split<;>lia
  let(q,us',rfl,hq,hw):=B8 re;erw[_,rfl,_,fx,x1,rfl,re,λH3 S3=>(_,rfl,?_)];let hq3:=ZR.of (K:=K) (S3 _ _ hq);let next:∀cz':Int,cz'=cz+(if isC x1=_t then 1 else 0)->D5.nx [_s (.ref W.wl),_s (.ref l2),_s (.ref q0),_s (.int cz'),_s (.ref q)] H3:=λcz' ez=>by
   erw[hn5 _ _ ?_];dsimp only;erw[Yq λD6 hn6=>?_];erw[_,rfl,q,_,0,.str (Yx x1),rfl,rfl,hq3,Yy hw,rfl,_,rfl,Zy (λz=>_a (by injection z) wp) (λ_=>hn6 _ _ ?_)];erw[_,rfl,q,_,0,.str (Yx x1),rfl,rfl,hq3,Yy hw,rfl,_,rfl,Zy (λz=>?_) (λz=>Zz ?_)]
   .let wq:Yx x1="wergild" := by injection z
    let(a,b,m,day,need,o1,o2,f,rfl):=cI wq;let(q',l1',l2',e',hqq,_):=Ep re;ext e';let hu2:u.2<vb.9:=hc2;obtain⟨bb,hb⟩:∃bb,vb[u.2]?=_s bb:=(_,xC hu2);let hg:vb.getD u.2 _x=bb:=by rw[xT,hb];rfl
    let ow:owE vb u.2 (.c (.wer a b m) day need o1 o2 f)=if bb=_t then _s (day,b,a,m) else none:=by unfold owE;rw[hg]
    erw[_,rfl,_,rfl,l2,_,u.2,.bl bb,rfl,congrArg V.int (by rw[ez];show cz+1=_;lia),ZG.of (S3 _ _ (sx _ _ nq2 (S2 _ _ k1))),Yy (by rw[xF,hb];rfl),bb,rfl,?_];cases bb with
    | false=>rwa[Zz (fin (es:=[]) ez (by rw[ow];rfl) (S3 _ _ kq) (by rw[yC];rwa[rp.oA S3]) (λb o n e=>S3 _ _ (sx b o n e)))]
    | true =>
     erw[Z6 ?_];let hq3:=ZR.of (K:=K) (S3 _ _ hqq);erw[_,rfl,.inl (rfl,_,ZG.of (S3 _ _ kq)),_,rfl,q,_,4,.int day,rfl,rfl,hq3,rfl,_,rfl,q,_,2,.str b,rfl,rfl,hq3,rfl,_,rfl,q,_,1,.str a,rfl,rfl,hq3,rfl,_,rfl,q,_,3,.int m,rfl,rfl,hq3,rfl,aB rfl,λp hp=>?_];erw[nw (o:=.tup [.int day,.str b,.str a,.int m]) hp λH4 S4 k4=>?_];let(a1,a2,a3):=app (e:=(day,b,a,m)) (S3.trans S4) k4;rwa[q0,ms,.ref p,rfl,rfl,a1,(),fin ez (by rw[ow];rfl) Zi a2 a3]
   .rwa[fin (es:=[]) ez (by rw[OO wp (λy=>z (by rw[y]))];rfl) (S3 _ _ kq) (by rw[yC];rwa[rp.oA S3]) (λb o n e=>S3 _ _ (sx b o n e))]
  cases ic:isC x1 with
  | true =>
   erw[Z6 (_,rfl,_,_,rfl,rfl,next _ ?_)];rw[ic];rfl
  | false =>
   erw[Zz (next _ ?_)];rw[ic];rwa[(zJ _).6]
 .rintro Y J ⟨v5,cz,ms,rfl,hc,kq,rp,sx⟩;rw[hvl,xR] at rp;erw[hn4 _ _ (_,rfl,?_)];rwa[k q0 ms J hq00 kq rp (toH sx)]
section
variable{C CM:jP}
def Xn(g:VB as)(b:e∈(Wv bs as).1):e.m<=1000000/\1<=e.m:=by
 rcases Fu b with z | ⟨a,ha,k,z⟩
 .ext z
 .let(i,b):=wE ha;let j:=g.2 i a b;let i:∀{m:Int},eM 1 1000000 m=_n->m<=1000000/\1<=m:=λ{m} h=>by
   unfold eM at h;split at h
   .rename_i y;rwa[y.2,y.1]
   .ext h
  cases a with
  | s d =>
   ext d
   case pay x y many b =>
    ext z;let h:=j.2.1;simp only[eSD,yF] at h;rwa[i h.1]
   all_goals ext z
  | c d b l n o f =>
   ext d
   case wer x y many =>
    unfold owE at z;dsimp only at z;split at z
    .ext z;let(_,_,_,_,_,_,_,_,h,_):=j;simp only[eCD,B3,yF] at h;rwa[i h.1]
    .ext z
   all_goals ext z
theorem Md:∀{es:List VE},(∀e∈es,e.m<=1000000/\1<=e.m)->net f day es a b<=es.9 * 1000000
 | [],_=>by show (0:Int)<=(0:Nat) * 1000000;lia
 | e::es,h=>by
  let c:=Md (f:=f) (day:=day) (a:=a) (b:=b) λc d=>h c (xM _ d);let c:=h e xZ;let c:V5 f day e a b<=e.m:=by
   unfold V5 Vy;split
   .split<;>split<;>lia
   .lia
  show V5 f day e a b+net f day es a b<=_;rw[yH];lia
def pk(b:Bool)(n:Str)(r:WV):Option Int:=if (if b then r.2.1 else r.1)=n then _s r.2.2 else _n
theorem Lq(n:Str):∀a:List WV,(a.filterMap (pk _t n)).sum - (a.filterMap (pk _x n)).sum=bal a n
 | []=>rfl
 | r::a=>by
  let b:=Lq n a;show _=Bf n r+bal a n;let c:∀b,((r::a).filterMap (pk b n)).sum=(if (if b then r.2.1 else r.1)=n then r.2.2 else 0)+(a.filterMap (pk b n)).sum:=λb=>by
   let h:pk b n r=if (if b then r.2.1 else r.1)=n then _s r.2.2 else none:=rfl
   rw[zT,h]
   by_cases z:(if b then r.2.1 else r.1)=n
   .rw[_j z,_j z];rfl
   .grind
  rw[c,c];unfold Bf;simp only[if_true,zB,if_false];lia
theorem FO{g:Str->Int}:∀{l:jJ},(∀x∈l,g x=0)->(l.map g).sum=0
 | [],_=>rfl
 | x::l,h=>by
  let e:g x+(l.map g).sum=0:=by rw[h x xZ,FO λy a=>h y (xM _ a)];rfl
  rwa[e]
theorem FW{n:Str}{m:Int}:∀{ns:jJ},ns.Nodup->n∈ns->(ns.map λx=>if n=x then m else 0).sum=m
 | [],_,h=>nomatch h
 | x::ns,nd,h=>by
  let(a,b):=yK.mp nd;let e:(if n=x then m else 0)+(ns.map λx=>if n=x then m else 0).sum=m:=by
   by_cases z:n=x
   .rw[_j z,FO λy c=>_i λe=>a (by rw[<- z,e];rwa[c])];rwa[zJ _]
   .rw[_i z,FW b ((xD.mp h).resolve_left z)];rwa[Int.zero_add _]
  rwa[e]
theorem MI{ns:jJ}(c:ns.Nodup):∀{a:List WV},(∀r∈a,r.1∈ns/\r.2.1∈ns)->(ns.map (bal a)).sum=0
 | [],_=>FO λ_ _=>rfl
 | r::a,h=>by
  let b:=MI c λr d=>h r (xM _ d);let(d,f):=h r xZ;let e:∀l:List Str,(l.map (bal (r::a))).sum=((l.map λx=>if r.2.1=x then r.2.2 else 0).sum - (l.map λx=>if r.1=x then r.2.2 else 0).sum)+(l.map (bal a)).sum:=λl=>by
   induction l with
   | nil=>rfl
   | cons x l b =>
    simp only[yD,wL,b];have:bal (r::a) x=Bf x r+bal a x:=rfl;rw[this];unfold Bf;lia
  rw[e,FW c f,FW c d,b];lia
theorem QY(hs:ZL H s la)(k:ZF s H J):YB H J:=λb L e=>by
 let(f,i,d,st,c,a,_):=hs;rwa[k b _ (λz=>by rw[z,a] at e;ext e) e]
def RV{b:Bool}{n:Str}{a:List WV}{i:Nat}{r:WV}(h:a[i]?=_s r):(a.take (i+1)).filterMap (pk b n)=(a.take i).filterMap (pk b n)++(pk b n r).toList:=by
 let e:List.filterMap (pk b n) [r]=(pk b n r).toList:=by grind
 rw[xQ,h,yT];rwa[congrArg _ e]
def Hi{H:Hp}{c:List WV}{a:jP}{vs:aG}{d:St}{Q:VK}{n:Str}(b:Bool)(e:d=[_s (.str n)])(g:H a=_s (.lst vs))(f:ZI H (c.map Vb) vs)(h:c.9<64)(h:∀l,H l=_n->Q (.ref l) (upd H l (.lst ((c.filterMap (pk b n)).map V.int)))) :
  Vz (JJ K a) 1 d (Wl 0) (BH (T8 Ci (T8 (Tx K) (YL 0) (tC (V.int (if b then 1 else 0)))) (YL 1))) (T8 (Tx K) (YL 0) (tC (V.int 2))) Q H:=by
 subst e;let d:=A4 f;erw[Uy (L:=vs) (λi d J=>J=H/\d=((c.take i).filterMap (pk b n)).map V.int) (S,S) () (λi d J _ ⟨e,_⟩=>by rw[e];rwa[ZG.of g]) ?_ ?_ ?_]
 .rintro i d J ⟨_,rfl⟩;rw[xA];rwa[xX (zA ..) (by rw[xY];lia)]
 .rintro i x d J e ⟨rfl,rfl⟩ g c;let(d,S):=Nd c;let(r,d,g):=Ey f e;let(q,S,c):=C4 g;let c:=ZR.of (K:=K) c;rw[RV d];erw[([_],S,S),?_];cases b with
  | true =>
   erw[_,S,q,_,1,.str r.2.1,S,S,c,S,_,S,S,_,S,Zy (λz=>?_) (λz=>?_)]
   .let z:r.2.1=n:=by injection z
    erw[_,S,q,_,2,.int r.2.2,S,S,c,S,S,?_];rw[show pk _t n r=_s r.2.2 from _j z,xL];rfl
   .let z:¬r.2.1=n:=λy=>z (by rw[y]);erw[rfl,?_];rw[show pk _t n r=_n from _i z];rwa[congrArg _ (yC _).6]
  | false =>
   erw[_,S,q,_,0,.str r.1,S,S,c,S,_,S,S,_,S,Zy (λz=>?_) (λz=>?_)]
   .let z:r.1=n:=by injection z
    erw[_,S,q,_,2,.int r.2.2,S,S,c,S,S,?_];rw[show pk _x n r=_s r.2.2 from _j z,xL];rfl
   .let z:¬r.1=n:=λy=>z (by rw[y]);erw[rfl,?_];rw[show pk _x n r=_n from _i z];rwa[congrArg _ (yC _).6]
 .grind
inductive UZ(C CM:jP)(vs:aG)(H:Hp)(Q:VK)(a:XK):Prop
 |mk(p s la nl) (W) (ns) (fx) (as) (O)(_:vs=[.ref s,.ref p,.ref W.wl,.ref nl])(_:Ww C CM p s la nl W ns H fx (Zg as) as O)(_:Wk ns as)(_:Cm ns (Zg as).1)(_:ns.9<=40)(_:as.9<=40)(_:∀J,Ww C CM p s la nl W ns J fx (Zg as) as O->Q (.bl _t) J)
abbrev DB:Stmt:=top 93
theorem iK:ZP lz lu (Zm DB):=fsc
theorem DP:Nm (Zm DB) "_law_name" .cell:=aA
def cL(c4:YC K mg "_law_right" DB)(T:Txt mg)(Tm:ZQ K CM)(Yc:Fn P w K mg Z "_law_next" lp 1 YI)(c3:Fn P w K mg Z "_law_moot_entries" ["_law_world"] 4 Jw)(c2:Fn P w K mg Z "_law_owed" lP 5 Tb)(A:Mt P w K mg Z CM "owed" ["self","day"] 4 (Tp C CM))(g:Mt P w K mg Z CM "balance" lj 5 (TN C CM))(a7:Fn P w K mg Z "_law_same" lH 6 (UB 4)):Fn P w K mg Z "_law_right" lu 7 (UZ C CM):=by
 erw[c4.fq lz λH vs Q E hr h=>?_];let(p,s,la,nl,W,ns,fx,c,O,S,U,R,cm,e5,hl,k):=h
 refine(S,_,(Zc (Zw 4 (Zk c3 (Za Q2 Zb))) (Zc (Y5 mO S (Ys (Yn (Za (Zk Yc (Za Q0 (Za Ze Zb))) (Za Ze Zb)))) (Z8 5) (Zc (Zw 6 (Zk c2 (Za (Zh Yg Q2 Ze) (Za Q4 (Za Q3 (Za Q5 Zb)))))) (Zc (Zw 7 (Ve Q1 Tm.cl A (Za Q5 Zb))) (Zc (Zs (Ur (Wq (Zk a7 (Za Q7 (Za Q6 Zb))))) (Zf (Zv V0)) Zr) (Zc (Zl (Yz aD aE aF Y1 Q7 (Za (Z7 (Za Z9 (Za Z9 (Za Ze Zb)))) Zb))) (Zc (Zw 8 Ze) (Zc (Y5 mO S (Ys Q3) (Ip (i:=9) iK.nd DP) (Zc (Zw 10 (Z0 Ub (Z1 (B4 (by rfl)) T.sum BC (Za (Vg (locs:=["_law_row"]) (fr:=[("_law_name", 9)]) (S,aA,aA,aA,aA,aA) (.ij DP .nil) S (Ys Q6) ⟨λ_ _ _ _ _ _=>by
  let a2:(inN ["_law_row"] [("_law_name", 9)]).Nodup:=aA
  rwa[(Y6 0 a2),(Jb (Zn Yp (Zh JS (Yj 0) Ze) (Wx 1) (Zo _))),(Zh JS (Yj 0) Ze)]⟩) Zb)) (Z1 (B4 (by rfl)) T.sum BC (Za (Vg (locs:=["_law_row"]) (fr:=[("_law_name", 9)]) (S,aA,aA,aA,aA,aA) (.ij DP .nil) S (Ys Q6) ⟨λ_ _ _ _ _ _=>by
  let a2:(inN ["_law_row"] [("_law_name", 9)]).Nodup:=aA
  rwa[(Y6 0 a2),(Jb (Zn Yp (Zh JS (Yj 0) Ze) (Wx 1) (Zo _))),(Zh JS (Yj 0) Ze)]⟩) Zb))))
 (Zc (Zw 8 (Z0 Y7 Q8 (qvN 10)))
 (Zf (Zs (Ur (Wq (Zk a7 (Za (Ve Q1 Tm.cl g (Za (qvC 9 DP) (Za Q5 Zb))) (Za (qvN 10) Zb))))) (Zf (Zv V0)) Zr)))))
 (Zf (Zs (Zn BA Q8 Ze (Zo _)) (Zf (Zv V0)) Zr)))))))))
 (Zf (Zv V0)))),?_)
 let hz:=aC
 erw[Yq λD1 d1=>?_];erw[_,S,s,W,fx,c,c.filter isC,S,U.wd,R.ok,(),λle us H1 a9 e4 e6 S1=>Yb (d1 _ _ ?_)];let U1:=U.same S1;let b4:le≠s:=λz=>by
  let(_,_,_,_,_,q,_):=id U.sr;rw[z,q] at a9;ext a9
 erw[_,S,s,la,28,S,U1.sr,aA,aA,λd H2 d0 d1 e3 a5=>?_];let U2:=U1.x e3 a5;let b0:=a5 _ _ b4 e4;let b6:=ZI.enrT (QY U1.sr a5) e6;erw[aB S,λdq d0=>?_];erw[nw (o:=.lst [.int d,.int 9999]) d0 λH3 S3 k3=>?_];let U3:=U2.same S3;let b1:=S3 _ _ b0;let b7:=b6.oA S3;let(M,wa,L,qs,eM,WM,_):=id U3.w;let(dm,a4):=WM.ob;rw[eM] at a4;generalize a3:([.int d,.int 9999]:aG)=a0 at k3;let c9:∀(j:Nat)(v:V),a0[j]?=_s v->∃x:Int,v=.int x/\0<=x/\x<=9999:=by
  rw[<- a3];intro j v I
  match j,I with
  | 0,I=>ext I;rwa[_,S,(),()]
  | 1,I=>ext I;rwa[_,S,(),()]
  | j+2,I=>simp at I
 erw[dq,S,(_,ZG.of k3),?_];erw[Ws a0 (λj Y J=>∃v5 v6 v7 v8 v9 y,Y=[_s (.ref s),_s (.ref p),_s (.ref W.wl),_s (.ref nl),_s (.ref le),v5,v6,v7,v8,v9,y]/\ZC H3 J) (_n,_n,_n,_n,_n,_n,S,λ_ _ e=>e) (λj Y J _ ⟨_,_,_,_,_,_,_,e⟩=>ZG.of (e _ _ k3)) ?_ ?_]
 .rintro j v Y H4 I ⟨v5,v6,v7,v8,v9,y,rfl,S4⟩;let(t,S,y0,y1):=c9 j v I;let U4:=U3.same S4;let(f,hf):=iR R.g hl t;let E:=Gv (Zg c).2.j9 c;let f0:(Wv (Zg c).2.j9 c).1.9<=0+c.9:=Gd;let b5:=RJ (bs:=(Zg c).2.j9) R.g cm hf;let em:∀a b,net f t (Wv (Zg c).2.j9 c).1 a b<=((Wv (Zg c).2.j9 c).1.9:Int) * 1000000:=λa b=>Md λe he=>Xn R.g he;let ql:(Zg c).2.ik.9<=1000:=by have:=R.ok.ql;have:=CW c;lia
  let dr:CK (Zg c).2.j9 (Zg c).2.ik:=by rw[CK,R.ok.vl];rwa[E.r]
  let ed:=E.d;let b2:=S4 _ _ b1;let b8:=b7.oA S4;generalize (Wv (Zg c).2.j9 c).1=es at *;erw[Yq λD2 d2=>?_];erw[_,S,W.wl,_,0,.ref W.dl,S,S,ZG.of U4.wd.e,S,_,S,_,S,_,S,W.dl,le,nl,fx,c,us,es,ns,t,f,S,U4.wd.d,b2,b8,U4.nm,R.nd,e5,hf,b5,λld md rs H5 fld u N ho S5=>Yb (d2 _ _ ?_)];let U5:=U4.same S5;erw[Yq λD3 d3=>?_];erw[_,S,p,dm,_,S,(S4.trans S5) _ _ a4,Yk _ aA,_,S,p,_,_,O,t,es,f,S,U5.w,y0,y1,dr,ql,ed,hf,(),λlf mf X H6 c6 b3 b9 e1 _ S6=>Yb (d3 _ _ ?_)];let e2:=e1.eq ho;subst e2;let U6:=U5.same S6;erw[LC λD4 d4 _=>?_];erw[_,S,_,S,.ref lf,.ref ld,.lst (X.map Vb),S,(lf,_,S,b3,b9),(ld,_,S,S6 _ _ u,N.oA S6),O4 _,λH7 S7=>(_,S,Zz (d4 _ _ ?_))];erw[Yq λD5 d5=>?_];let a1:=S7 _ _ b3;let f4:=A4 b9;erw[_,S,.inl (S,_,ZG.of a1),aB S,λdd c8=>?_];erw[nw (o:=.tup [.str "x", .str "y", .int 1]) c8 λH8 S8 _=>?_];erw[lf,mf,.ref dd,S,S,S8 _ _ a1,(),d5 _ _ ?_];let l:=RL (o:=.lst (mf ++ [.ref dd])) c6 ((S6.trans S7).trans S8);generalize (upd H8 lf (.lst (mf ++ [.ref dd])))=H9 at l |-;erw[Yq λD6 d6=>Yb (d6 _ _ ?_)];let U9:=U5.same l;let e8:=l _ _ u;let e9:=N.oA l;let c0:=S5.trans l;erw[LC λD7 d7 f3=>?_];erw[_,S,nl,S,(_,ZG.of U9.nm),?_];erw[Ws (ns.map V.str) (λi Y J=>∃v9 y,Y=[_s (.ref s),_s (.ref p),_s (.ref W.wl),_s (.ref nl),_s (.ref le),_s (.int t),_s (.ref ld),_s (.ref lf),_s (.int ((ns.take i).map (bal X)).sum),v9,y]/\ZC H9 J) (v9,y,S,λ_ _ e=>e) (λi Y J _ ⟨_,_,_,e⟩=>ZG.of (e _ _ U9.nm)) ?_ ?_]
  .rintro i x Y Hb hx ⟨w9,e7,rfl,Sb⟩;obtain⟨n,hn,rfl⟩:∃a,ns[i]?=_s a/\x=.str a:=by grind
   erw[Yq λD8 d8=>?_];let F:=l.trans Sb;erw[_,S,ld,S,(_,ZG.of (F _ _ u)),?_];let a8:∀b,∀m∈X.filterMap (pk b n),-1000000000<=m/\m<=1000000000:=λb m hm=>by
    let(r,hr,e):=yV.mp hm;let(_,h1,h2):=(ho.mem r).mp hr;let h3:=em r.1 r.2.1;let e:(if (if b then r.2.1 else r.1)=n then _s r.2.2 else _n)=_s m:=e
    by_cases z:(if b then r.2.1 else r.1)=n
    .rw[_j z] at e;ext e;lia
    .rw[_i z] at e;ext e
   let bl:∀b,(X.filterMap (pk b n)).9<=1000000:=λb=>xX (zA ..) ();erw[Hi _t S (F _ _ u) (N.oA F) () λl1 f1=>?_];erw[nw f1 λHc Sc kc=>?_];erw[l1,_,S,ZG.of kc,a8 _t,bl _t,?_];let G:=F.trans Sc;erw[_,S,ld,S,(_,ZG.of (G _ _ u)),?_];erw[Hi _x S (G _ _ u) (N.oA G) () λl2 f2=>?_];erw[nw f2 λHd Sd kd=>?_];erw[l2,_,S,ZG.of kd,a8 _x,bl _x,?_];erw[_,_,S,S,d8 _ _ ?_];rw[Lq];erw[Yq λD9 d9=>?_];let c1:=G.trans Sd;let Ud:=U9.same ((Sb.trans Sc).trans Sd);erw[_,S,_,S,_,_,S,S,d9 _ _ ?_];let(c5,c7):=cm.1 n (xN hn);let a6:=S4.trans (S5.trans c1);erw[_,S,p,dm,_,S,a6 _ _ a4,Yk _ aA,_,S,_,S,p,_,_,O,n,c5,t,es,f,S,Ud.w,y0,y1,c7,dr,ql,ed,hf,(),λB He e2 Se=>?_];let e3:=e2.eq ho;subst e3;erw[_,S,.int (bal B n),.int (bal B n),.int (bal B n),S,S,S,yJ _,λHf Sf=>(_,S,Zz (_s (.str n),_s (.int (bal B n)),?_,(((Sb.trans Sc).trans Sd).trans Se).trans Sf))];rw[xQ,hn,xL,List.sum_append];show _=[_,_,_,_,_,_,_,_,_s (V.int (_+(bal B n+0))),_,_];rw[zJ];rfl
  .rintro Y Hb ⟨w9,e7,rfl,Sb⟩;erw[d7 _ _ ?_];rw[xA,xR,MI R.nd λr hr=>?_]
   .erw[_,S,S,_,S,Vi (λz=>_a S z) (λ_=>?_)];rwa[_,_,_,_,_,_,S,S4.trans (c0.trans Sb)]
   .let(_,h1,h2):=(ho.mem r).mp hr;rwa[b5 r.1 r.2.1 ()]
 .rintro Y H4 ⟨v5,v6,v7,v8,v9,y,rfl,S4⟩;rwa[k _ (U3.same S4)]
end
section
variable{C CM p s la nl:jP}{W:WL}{ns:jJ}{H J:Hp}{fx:jM}{as:List AD}{O O':jP->Prop}{q:jP}
def IK(ns:jJ)(O:jP->Prop)(s:jP)(W:WL)(H:Hp)(q:jP):Prop :=
 (∃d,H q=_s (.tup (sdV d))/\dOk ns d)\/
 ∃c e d b a f g,H q=_s (.tup (cdV b a c e d))/\H c=_s (.lst (f.map V.str))/\H e=_s (.lst (g.map V.str))/\cOk ns d/\DE ns a f g/\(0<=b/\b<=9999)/\∀b ∈ [c,e],¬O b/\b ∉ [s,W.dl,W.sl,W.tl]
def gC(ns:jJ)(as:List AD)(H:Hp)(fx:jM)(q:jP)(x:AD):Prop :=
 Wk ns (as ++ [x])/\kss as (Zg as).2.oX x=(Zg (as ++ [x])).2.oX/\YA (fz fx H) (adT x) (.ref q)/\∀d b a c e f,x=.c d b a c e f->c.9<=60/\e.9<=60
def Ww.tryD(U:Ww C CM p s la nl W ns H fx (Zg as) as O)(k:Wk ns as)(h:IK ns O s W H q){Q:V->Hp->Prop}{E:XK}(g:∀ (l:jP) (e:aG) (J:Hp) (O':jP->Prop),J l=_s (.lst e)->YK O H O' J->(e=[]/\Ww C CM p s la nl W ns J fx (Zg as) as O')\/(∃ (v:V) (x:AD) (c:jM),e=[v]/\Ww C CM p s la nl W ns J c (Zg (as ++ [x])) as O'/\gC ns as J c q x/\(∀b∈c,b∈fx\/∃u,H b=_s (.lst u))/\((∃d,x=.s d/\v=sdR (Zg as).2 d/\dOk ns d/\eSD (Zg as).1 (Zg as).2 d=_n)\/∃d day a G I f,x=.c d day a G I f/\v=.int (Zg as).2.oX.9))->Q (.ref l) J) :
  (Sp.or (WR C CM) (WT C CM)) [.ref p,.ref q] H Q E:=by
 rcases h with⟨d,c,i⟩ | ⟨A,B,d,day,a,G,I,c,K,L,i,P,R,M⟩
 .erw[U.tryS k c i λl e n j y F o=>g l e n j y F (o.imp (λz=>(z.1,z.2.2)) λ⟨t,m,r⟩=>(_,.s d,fx,t,r,(k.snoc i m,?_,?_,?_),λb w=>.inl w,.inl (d,S,S,i,m)))]
  .rw[JH];ext d<;>rfl
  .rwa[q,_,S,Wi (F.1 _ _ c (U.w.oI c)),BP _ d]
  .exact λ_ _ _ _ _ _ z=>by ext z
 .let(Y,Z,N,s3,T,X):=P;rw[xG] at X;erw[U.tryC k c K L i N () () (Vh R.1 ()) (Vh () ()) λl e n j y F o=>g l e n j y F (o.imp (λz=>(z.1,z.2.2)) λ⟨t,m,r⟩=>?_)];let e:=M A (by simp);let n:=M B (by simp);let M:=F.1 _ _ K e.1;let K:=F.1 _ _ L n.1;let e:∀{b:jP}{o:HO},H b=_s o->¬O b->¬j b:=λe n z=>(F.2 _ z).elim n (λy=>by rw[e] at y;ext y);let e:=r.more (gx:=[A,B]) λb w=>by grind
  erw[_,.c d day a G I (wf as day),[A,B]++fx,t,e,(k.snocC i N T () () m,?_,?_,?_),λb w=>?_,.inr (_,_,_,_,_,_,S,S)]
  .rw[JH];ext d<;>rfl
  .rwa[q,_,S,Wi (F.1 _ _ c (U.w.oI c)),LF (Uf (by simp) M) (Uf (by simp) K) d]
  .grind
  .grind
def Ww.drawn(U:Ww C CM p s la nl W ns H fx (Zg as) as O)(k:Wk ns as){Q:V->Hp->Prop}{E:XK}(g:∀ (q:jP) (J:Hp),Ww C CM p s la nl W ns J fx (Zg as) as O->IK ns O s W J q->Q (.ref q) J):UT [.ref s,.ref W.wl,.ref nl] H Q E:=by
 let a:=k.wok.al;let x:=k.wok.sl;let h:(as.filter Vq).9<=1000:=xX (yQ _ _) a;erw[s,la,nl,ns,W,fx,as,as.filter isC,(Zg as).2.oX,S,U.sr,U.wd,k.wok,U.nm,λz=>U.nn (by rw[z];simp),λq d J a m c e f=>g q J (U.x e f) (.inl (d,c,QL a h)),λq t u d j l a v w J b i r m y z c n o e f=>g q J (U.x e f) (.inr (t,u,d,l,a,v,w,c,n,o,fA i h x,r,SN i b,λb a=>?_))];let a:H b=none:=by grind
 rwa[U.w.out a,U.new a]
end
section
variable{C CM:jP}
inductive Jk(C CM:jP)(vs:aG)(H:Hp)(Q:VK)(a:XK):Prop
 |mk(p s la nl) (W) (ns) (fx) (as) (O) (n)(_:vs=[.ref s,.ref p,.ref W.wl,.ref nl,.int n])(_:Ww C CM p s la nl W ns H fx (Zg as) as O)(_:Wk ns as)(_:Cm ns (Zg as).1)(_:0<=n)(_:n<=1000)(_:as.9+n<=300)(_:∀b a c J,Ww C CM p s la nl W ns J b (Zg a) a c->Wk ns a->Cm ns (Zg a).1->a.9<=as.9+n->Q .non J)
abbrev Lm:Stmt:=top 82
def eV(t:YC K mg "_law_play" Lm)(T:Txt mg)(m:Fn P w K mg Z "_law_deed" lU 5 UT)(o:Fn P w K mg Z "_law_try" lO 9 (Sp.or (WR C CM) (WT C CM)))(r:Fn P w K mg Z "_law_keep" lN 2 VY):Fn P w K mg Z "_law_play" lJ 10 (Jk C CM):=by
 erw[t.fq ["_law_src_here","_law_moot","_law_world","_law_names_here","_law_many","_law_k","_law_deed_here"] λH vs Q E hr h=>?_];let(p,s,la,N,W,B,b,L,O,n,S,U,R,c,n0,n1,hl,k):=h;erw[rfl,_,(Zf (Y5 mO S (Au T.range (Za Q4 Zb)) (Z8 5) (Zc (Zw 6 (Zk m (Za Q0 (Za Q2 (Za Q3 Zb))))) (Zf (Zs (Zn J8 (Z1 Yu T.len Ym (Za (Zk o (Za Q1 (Za Q6 Zb))) Zb)) Ze (Zo _)) (Zf (Zl (Zk r (Za Q2 (Za Q6 Zb))))) Zr))))),?_];erw[_,S,n,S,(),(),?_];erw[Bl n.toNat () (λi Y J=>∃(F G:Option V)(b:jM)(a:List AD)(O:jP->Prop),Y=[_s (.ref s),_s (.ref p),_s (.ref W.wl),_s (.ref N),_s (.int n),F,G]/\Ww C CM p s la N W B J b (Zg a) a O/\Wk B a/\Cm B (Zg a).1/\a.9<=L.9+i) (_n,_n,b,L,O,S,U,R,c,xE _) ?_ ?_]
 .rintro i Y J hi hI;erw[opq λD0 g _ _ _=>?_];let(F,G,b,a,O,S,U,R,c,y):=hI;erw[Yq λD7 A=>?_];erw[_,S,_,S,_,S,?_];dsimp only [Vu];erw[U.drawn R λq H1 X dr=>A _ _ ?_];erw[_,S,_,S,X.tryD R dr λl tv H3 I M F3 hc=>?_];rcases hc with⟨rfl,j⟩ | ⟨v,x,fx3,rfl,j,kp,_,hx⟩
  .rwa[l,_,S,.inl (ZG.of M),_,_,S,S,_,S,Zy (λz=>_a z aA) (λ_=>g _ _ (_,_,b,a,I,S,j,R,c,()))]
  .erw[l,_,S,.inl (ZG.of M),_,_,S,S,_,S,Zy (λ_=>?_) (λz=>_a (show (0:Int)<1 by decide) z)];erw[_,S,_,S,?_];dsimp only [Vu];erw[j.keep R kp.2.1 kp.2.2.1 kp.2.2.2 λu H7 U7 f7 g7=>g _ _ (_,_,u,_,I,S,U7,kp.1,c.snoc λd e=>?_,by rw[Wj];lia)];rcases hx with⟨d,rfl,_,hd,he⟩ | ⟨d,day,need,o1,o2,f,rfl,_⟩
   .ext e;rwa[hd,he]
   .ext e
 .rintro Y J ⟨F,G,b,a,O,rfl,U,R,c,y⟩;rwa[k b a O J U R c ()]
end
abbrev B6:Stmt:=top 94
theorem cK:ZP ["_law_script","_law_src_here","_law_moot","_law_world","_law_names_here","_law_k"] ["_law_script"] (Zm B6):=fsc
def NB(F_law:Th K "law" "law" B6 f fd)(T:Txt mg)(Tm:ZQ K CM)(Z44:Fn P w K mg Z "_law_src" ["_law_script"] 1 (AA K))(Yc:Fn P w K mg Z "_law_next" lp 1 YI)(Z45:Fn P w K mg Z "_law_names" lI 3 Tg)(M_Moot:DZ P w K mg Z CM "Moot" 3 (Tf C CM))(Z46:Fn P w K mg Z "_law_start" lu 10 (UV C CM))(Z47:Fn P w K mg Z "_law_play" lJ 10 (Jk C CM))(Zsk:Fn P w K mg Z "_law_right" lu 7 (UZ C CM)):YG P w K mg Z VG 12 f fd ["_law_script"] (Da K):=by
 erw[F_law.okQ cK (λvs H Q E h=>?_) (λcdv A outer s0 H vs Q E hr h=>?_)]
 .let(a,ns,S,_):=h;rfl
 .let(a0,ks,S,hS,hlen,k):=h;erw[_,(Zc (Zw 1 (Zk Z44 (Za Q0 Zb))) (Zc (Zw 2 (Ky M_Moot)) (Zc (Zw 3 (Yn (Za (Yn Zb) (Za (Yn Zb) (Za (Yn Zb) Zb))))) (Zc (Zw 4 (Zk Z45 (Za Q1 (Za (Z0 Y7 Ze (Zk Yc (Za Q1 (Za Ze Zb)))) Zb)))) (Zc (Zl (Zk Z46 (Za Q1 (Za Q2 (Za Q3 (Za Q4 Zb)))))) (Zc (Y5 mO S (Au T.range (Za (Zk Yc (Za Q1 (Za Ze Zb))) Zb)) (Z8 5) (Zc (Zl (Zk Z47 (Za Q1 (Za Q2 (Za Q3 (Za Q4 (Za (Zk Yc (Za Q1 (Za Ze Zb))) Zb))))))) (Zf (Zs (Ur (Wq (Zk Zsk (Za Q1 (Za Q2 (Za Q3 (Za Q4 Zb))))))) (Zf (Zv V0)) Zr)))) (Zf (Zv (Zk Zsk (Za Q1 (Za Q2 (Za Q3 (Za Q4 Zb))))))))))))),?_];let hz:=aC
  erw[Yq λD1 hn1=>?_];erw[_,S,a0,ks,S,hS,λs la H1 hs hla hs1 sm1=>hn1 _ _ ?_];erw[Yq λD2 hn2=>?_];intro p dx nx ndx nex;erw[p,dx,S,Zi,λM H2 hM W2 kp fr=>(S,hn2 _ _ ?_)];let sm2:ZC H1 H2:=λb o e=>kp b o (by rw[Zd (Zj e nx),Zd (Zj e ndx)];rwa[e]) (Zj e nx);let no2:∀b o,H1 b=_s o->¬mo M [] (λ_=>0) [] [] b:=λb o e z=>by
   rcases fr b z with y | y
   .rw[y,nx] at e;ext e
   .let nb:b≠p:=λz=>by rw[z,nx] at e;ext e
    rw[Zd nb,Zd (Zj e ndx),e] at y;ext y
  let(_,_,_,_,_,hq1,hq2,_):=id hs1;let W3:YE C CM H2 p (Zg []).1 (Zg []).2 (mo M [] (λ_=>0) [] []):=(M,_,[],[],hM,W2,S);let ns1:=no2 _ _ hq1;let ns2:=no2 _ _ hq2;let hs2:=hs1.keep sm2;generalize mo M [] (λ_=>0) [] []=O3 at W3 ns1 ns2;clear W2 kp fr nex no2;erw[Yq λD3 hn3=>?_];erw[aB S,λdl hdl=>(aB S,λsl hsl=>(aB S,λtl htl=>(aB S,λwl hwl=>Yb (hn3 _ _ ?_))))];let S1:=ZC.new (o:=.lst []) hdl;let k1:(upd H2 dl (.lst [])) dl=_s (.lst []):=Zi;generalize (upd H2 dl (.lst []))=Ha at *;let S2:=ZC.new (o:=.lst []) hsl;let k2:(upd Ha sl (.lst [])) sl=_s (.lst []):=Zi;generalize (upd Ha sl (.lst []))=Hb at *;let S3:=ZC.new (o:=.lst []) htl;let k3:(upd Hb tl (.lst [])) tl=_s (.lst []):=Zi;generalize (upd Hb tl (.lst []))=Hc at *;let S4:=ZC.new (o:=.lst [.ref dl,.ref sl,.ref tl]) hwl;let k4:(upd Hc wl (.lst [.ref dl,.ref sl,.ref tl])) wl=_s (.lst [.ref dl,.ref sl,.ref tl]):=Zi;generalize (upd Hc wl (.lst [.ref dl,.ref sl,.ref tl]))=Hd at *;let S34:=S3.trans S4;let S24:=S2.trans S34;let S14:=S1.trans S24;let s2:=sm2 _ _ hq1;let l2:=sm2 _ _ hq2;let d1:dl≠s:=Zj s2 hdl |>.symm
  let d2:sl≠s:=Zj (S1 _ _ s2) hsl |>.symm
  let d3:tl≠s:=Zj ((S1.trans S2) _ _ s2) htl |>.symm
  let d4:wl≠s:=Zj (((S1.trans S2).trans S3) _ _ s2) hwl |>.symm
  let e1:dl≠la:=Zj l2 hdl |>.symm
  let e2:sl≠la:=Zj (S1 _ _ l2) hsl |>.symm
  let e3:tl≠la:=Zj ((S1.trans S2) _ _ l2) htl |>.symm
  let f1:sl≠dl:=Zj k1 hsl |>.symm
  let f2:tl≠dl:=Zj (S2 _ _ k1) htl |>.symm
  let f3:wl≠dl:=Zj ((S2.trans S3) _ _ k1) hwl |>.symm
  let f4:tl≠sl:=Zj k2 htl |>.symm
  let f5:wl≠sl:=Zj (S3 _ _ k2) hwl |>.symm
  let f6:wl≠tl:=Zj k3 hwl |>.symm
  let wd0:ZY s Hd [] (wl,dl,sl,tl) [] [] []:=by
   erw[k4,([],S24 _ _ k1,S),([],S34 _ _ k2,S),([],S4 _ _ k3,S),?_,?_,λb hb=>nomatch hb]
   .intro b hb;simp only[xD,xW,or_false] at hb;rcases hb with rfl | rfl | rfl | rfl<;>assumption
   .simp only[yK,xD,xW,or_false,not_or,not_false_eq_true,wS,and_true];rwa[(f3,f5,f6),(f1.6,f2.6),f4.6]
  erw[Yq λD4 hn4=>?_];erw[_,S,_,S,s,la,5,S,hs2.keep S14,aA,aA,λz H4 z0 z1 hs4 sx4=>(_,_,S,S,s,la,2+z,S,hs4,(),(),λnl ns H5 hnl hnd hnm fnl knl hs5 sx5=>Yb (hn4 _ _ ?_))];let up:∀{b:jP}{o:HO},Hd b=_s o->b≠s->H5 b=_s o:=λe n=>sx5 _ _ n (sx4 _ _ n e);let g1:nl≠dl:=Zj (sx4 _ _ d1 (S24 _ _ k1)) fnl |>.symm
  let g2:nl≠sl:=Zj (sx4 _ _ d2 (S34 _ _ k2)) fnl |>.symm
  let g3:nl≠tl:=Zj (sx4 _ _ d3 (S4 _ _ k3)) fnl |>.symm
  let W4:=W3.same S14;let(_,_,_,_,_,q4,_):=id (hs2.keep S14);let W5:YE C CM H5 p (Zg []).1 (Zg []).2 O3:=by
   let(_,_,_,_,_,q5,_):=id hs4;rwa[YE.x (YE.x W4 q4 ns1 sx4) q5 ns1 sx5]
  let U:Ww C CM p s la nl (wl,dl,sl,tl) ns H5 [] (Zg []) [] O3:=by
   let o1:=W3.out hdl;let o2:=(W3.same S1).out hsl;let o3:=(W3.same (S1.trans S2)).out htl;let o4:=(W3.same ((S1.trans S2).trans S3)).out hwl;let o5:=(YE.x W4 q4 ns1 sx4).out fnl;let(_,_,_,_,_,q5,q6,_,q7):=id hs5;let g0:nl≠s:=λz=>by let(_,_,_,_,_,q5,_):=id hs4;rw[z,q5] at fnl;ext fnl
   let u1:=up (S24 _ _ k1) d1;let u2:=up (S34 _ _ k2) d2;let u3:=up (S4 _ _ k3) d3;let u4:=up k4 d4;erw[W5,hs5,(u4,([],u1,S),([],u2,S),([],u3,S),?_,?_,λb hb=>nomatch hb),knl,?_,?_,?_]
   .intro b hb;simp only[xD,xW,or_false] at hb;rcases hb with rfl | rfl | rfl | rfl<;>assumption
   .simp only[yK,xD,xW,or_false,not_or,not_false_eq_true,wS,and_true];rwa[(f3,f5,f6),(f1.6,f2.6),f4.6]
   .intro b hb;simp only[xD,xW,or_false] at hb;rcases hb with rfl | rfl | rfl | rfl | rfl | rfl | rfl
    .rwa[ns1,_,q5]
    .rwa[ns2,_,q6]
    .rwa[o5,_,knl]
    .rwa[o4,_,u4]
    .rwa[o1,_,u1]
    .rwa[o2,_,u2]
    .rwa[o3,_,u3]
   .simp only[xD,xW,or_false,not_or];rwa[g0,g1,g2,g3]
   .simp only[xD,xW,or_false,not_or];rwa[q7,e1.6,e2.6,e3.6]
  let K0:Wk ns []:=Wk.nil hnm hnd () ();generalize hW:((wl,dl,sl,tl):WL)=W at U;let hw:wl=W.wl:=by rw[<- hW]
  erw[Yq λD5 hn5=>?_];erw[_,S,_,S,_,S,_,S,p,s,la,nl,W,ns,[],O3,by rw[<- hw],U,K0,(),λfx as O H6 V6 K6 T6 l6=>hn5 _ _ ?_];let nls:nl≠s:=λz=>U.nn (by rw[z];simp);let nsl:ns.9<=8:=by lia
  let cm6:=Cm.of T6;clear U K0 T6;erw[Yq λD6 hn6=>?_];erw[_,S,s,la,4,S,V6.sr,aA,aA,λm H7 m0 m1 hs7 sx7=>?_];let V7:=V6.x hs7 sx7;erw[_,S,(),(),?_];erw[Bl m.toNat () (λi Y J=>∃(v5:Option V)(fx:jM)(as:List AD)(O:jP->Prop),Y=[_s (.ref a0),_s (.ref s),_s (.ref p),_s (.ref W.wl),_s (.ref nl),v5]/\Ww C CM p s la nl W ns J fx (Zg as) as O/\Wk ns as/\Cm ns (Zg as).1/\as.9<=ns.9+2+8 * i) (_n,fx,as,O,by rw[<- hw];rfl,V7,K6,cm6,()) ?_ ?_]
  .rintro i Y J hi hI;erw[opq λD0 hnx _ _ _=>?_];let(v5,fx,as,O,S,U,R,cm,hl):=hI;erw[Yq λD7 hn7=>?_];erw[_,S,_,S,_,S,_,S,_,S,s,la,9,S,U.sr,aA,aA,λn H8 n0 n1 hs8 sx8=>?_];erw[p,s,la,nl,W,ns,fx,as,O,n,S,U.x hs8 sx8,R,cm,n0,(),(),λfx' as' O' H9 U9 R9 cm9 l9=>hn7 _ _ ?_];erw[_,S,_,S,_,S,_,S,p,s,la,nl,W,ns,fx',as',O',S,U9,R9,cm9,(),(),λHa Ua=>(_,S,Zz (hnx _ _ (_,fx',as',O',S,Ua,R9,cm9,())))]
  .rintro Y J ⟨v5,fx,as,O,rfl,U,R,cm,hl⟩;rwa[hn6 _ _ (_,S,_,S,_,S,_,S,p,s,la,nl,W,ns,fx,as,O,S,U,R,cm,(),(),λHa _=>k Ha)]
def cE(x:Str):jP:=(([("MootError", 38),("NoName", 58),("NoMeasure", 77),("Unknown", 96),("Taken", 115),("NoThing", 134),("NoCase", 153),("NoOath", 172),("NotYet", 191),("Dead", 210),("NoHeir", 229),("TooMany", 248),("SwornTwice", 267),("Forsworn", 286),("TooLight", 305),("Broken", 324),("NoDeed", 343)]:List (Str×jP)).lookup x).getD 0
local macro_rules | `(tactic| walk_at "k")=>`(tactic| ((repeat' (refine And.intro ?_ ?_))<;>kernel_rfl))
def all_mk{g:jQ}{w:jR}{h:Heap}{mg:jI}{a:jP}(X:(KK w.params).In h)(G:h.Ns _g mg)(b:mg "law"=_s (.ref a)) :
  ∃c:FuncData,(∀(s:jN)(v:jO),BindsTo s c ([v],[]) [("_law_script", v)])/\∀Z:Heap,(KK w.params).In Z->Z.Ns _g mg->YG g w (KK w.params) mg Z VG 40 a c ["_law_script"] (Da (KK w.params)):=by
 let e:_s (Value.ref a)=_s (.ref 1131):=b.symm.trans (mg_of X G (by kernel_rfl));ext e;let A:=FM (K:=KK w.params) (x:="law") (qual:="law") (st:=B6) (f:=1131) (oc:=.type "function") (od:=_n) (an:=_n) (osl:=#[]) (kV:=.none) (doc:=.none) (pm:=(.str "law_forsworn_k37_dues_of_a_moot" 1422)) (cdv:=(.ref 1130)) (ct:=.none) (by kernel_rfl) (by kernel_rfl) (by kernel_rfl);let b:Sz (KK w.params) 571:=by
  erw[(?_,?_,?_,?_),?_,?_,?_,?_]<;>(show _=_;kernel_rfl)
 let u:makesIn (KK w.params) 571=true:=by kernel_rfl
 let r:keepIn (KK w.params) (.ref 571)=true:=by kernel_rfl
 let o:mg "Folk"=_s (.ref 571):=mg_of X G (by kernel_rfl);let a:ZQ (KK w.params) 944:=by
  erw[(?_,?_,?_,?_),?_,?_,?_,?_,?_,?_,?_,?_,?_]<;>(show _=_;kernel_rfl)
 let y:makesIn (KK w.params) 944=true:=by kernel_rfl
 let t:keepIn (KK w.params) (.ref 944)=true:=by kernel_rfl
 let p:mg "Moot"=_s (.ref 944):=mg_of X G (by kernel_rfl);let l:Er (KK w.params) mg cE errs:=SJ X G (by kernel_rfl);let d:mg "owed_dues"=mg "owed" := (mg_of X G (by kernel_rfl):mg "owed_dues"=_s (.ref 357)).trans (mg_of X G (by kernel_rfl):mg "owed"=_s (.ref 357)).6;let e:mg "balance_dues"=mg "balance" := (mg_of X G (by kernel_rfl):mg "balance_dues"=_s (.ref 364)).trans (mg_of X G (by kernel_rfl):mg "balance"=_s (.ref 364)).6;let c:mg "breakers_stands"=mg "breakers" := (mg_of X G (by kernel_rfl):mg "breakers_stands"=_s (.ref 596)).trans (mg_of X G (by kernel_rfl):mg "breakers"=_s (.ref 596)).6;let m:mg "ONES"=_s (.int 0 907):=mg_of X G (by kernel_rfl);let k:mg "OTHERS"=_s (.int 1 909):=mg_of X G (by kernel_rfl);let j:mg "NAMED"=_s (.int 3 913):=mg_of X G (by kernel_rfl);let T:Txt mg:=by constructor<;>rwa[PySem.W.mg_none_of X G (by kernel_rfl)]
 exact(fnOf "law" "law" (Vc B6) (Yw B6) (Zm B6) .none .none .none (.str "law_forsworn_k37_dues_of_a_moot" 1422) _n (.ref 1130) .none,λs v=>.of_eq S,λZ _ _=>by
  let n:=iV (P:=g) (w:=w) (Z:=Z) (hQ "_law_next" Hw 962 961 pm7 X G) T;let i:=On (P:=g) (w:=w) (Z:=Z) (hQ "check_day" GI 385 384 pm2 X G) (_,(mg_of X G (by kernel_rfl):mg "LAST_DAY"=_s (.int 9999 644))) l;let C:=Rg (P:=g) (w:=w) (Z:=Z) (hQ "check_weight" Nt 392 391 pm2 X G) (_,(mg_of X G (by kernel_rfl):mg "MOST_WEIGHT"=_s (.int 1000 646))) l;let E:=OC (P:=g) (w:=w) (Z:=Z) (hQ "check_money" Ia 406 405 pm2 X G) (_,(mg_of X G (by kernel_rfl):mg "MOST_MONEY"=_s (.int 1000000 650))) l;let z:=Xm (P:=g) (w:=w) (Z:=Z) (hQ "check_need" Ma 399 398 pm2 X G) (_,(mg_of X G (by kernel_rfl):mg "MOST_NEED"=_s (.int 12000 648))) l;let L:=dJ (P:=g) (w:=w) (mg:=mg) (Z:=Z) (hMQ (K:=KK w.params) 571 "died_by" "Folk.died_by" HW 505 504 pm4) b;let B:=dO (P:=g) (w:=w) (Z:=Z) (hMQ (K:=KK w.params) 571 "check_known" "Folk.check_known" Kk 547 546 pm4) b l;let F:=Qy (P:=g) (w:=w) (Z:=Z) (hMQ (K:=KK w.params) 571 "check_there" "Folk.check_there" HD 554 553 pm4) b l;let H:=dB (hMQ (K:=KK w.params) 571 "check_living" "Folk.check_living" Ln 561 560 pm4) b l L;let N:=cG (P:=g) (w:=w) (Z:=Z) (hMQ (K:=KK w.params) 571 "check_untold" "Folk.check_untold" Ng 568 567 pm4) b l;let O:=PL (hMQ (K:=KK w.params) 571 "check_coming" "Folk.check_coming" GE 526 525 pm4) T b (_,(mg_of X G (by kernel_rfl):mg "MOST_FOLK"=_s (.int 40 698))) l (iW (P:=g) (w:=w) (Z:=Z) (hQ "is_name" Hg 411 410 pm3 X G) T (_,(mg_of X G (by kernel_rfl):mg "LONGEST_NAME"=_s (.int 12 682)))) i C;let Q:=gP (hMQ (K:=KK w.params) 571 "check_rise" "Folk.check_rise" LO 533 532 pm4) b i C B F H;let R:=bE (hMQ (K:=KK w.params) 571 "check_death" "Folk.check_death" KG 540 539 pm4) b l i B F N;let I:=QZ (hQ "settled" Mh 582 581 pm5 X G) T (XW (hQ "settled_with" HJ 589 588 pm5 X G) T (_,j) (RO (hQ "margin_without" Lb 627 626 pm5 X G) T (_,m) (_,k) (_,(mg_of X G (by kernel_rfl):mg "NEED"=_s (.int 2 911))) (dX (P:=g) (w:=w) (Z:=Z) (hQ "kept_weight" DK 632 631 pm5 X G) T)));let J:=RG (hQ "check_oath" Kw 620 619 pm5 X G) T (_,m) (_,k) l (dD (P:=g) (w:=w) (Z:=Z) (hQ "check_case" KS 615 614 pm5 X G) T l);let k:=λC=>Qb (P:=g) (w:=w) (Z:=Z) (C:=C) (hMQ (K:=KK w.params) 944 "check_moments" "Moot.check_moments" Ml 941 940 pm6) T a l (_,(mg_of X G (by kernel_rfl):mg "MOST_MOMENTS"=_s (.int 400 999)));let M:=λC=>bS (P:=g) (w:=w) (Z:=Z) (C:=C) (hMQ (K:=KK w.params) 944 "check_thing" "Moot.check_thing" Lc 927 926 pm6) T a l;let m:=dY (hMQ (K:=KK w.params) 944 "check_named" "Moot.check_named" LV 920 919 pm6) b a l B F H (M _) J;let M:=fP (hMQ (K:=KK w.params) 944 "weighed" "Moot.weighed" DH 906 905 pm6) b a (Qn (hMQ (K:=KK w.params) 571 "weight" "Folk.weight" EV 470 469 pm4) T b i B F);let H:=λC=>iQ (P:=g) (w:=w) (mg:=mg) (Z:=Z) (C:=C) (hMQ (K:=KK w.params) 944 "forsworn_names" "Moot.forsworn_names" GY 901 900 pm6) T a (_,j);let F:=fB (hMQ (K:=KK w.params) 944 "check_sides" "Moot.check_sides" Ir 934 933 pm6) T a l (_,(mg_of X G (by kernel_rfl):mg "MOST_CASES"=_s (.int 60 995))) (_,(mg_of X G (by kernel_rfl):mg "MOST_SWEARERS"=_s (.int 12 997))) (k _) (H _) M (NC (P:=g) (w:=w) (Z:=Z) (hQ "total" HE 416 415 pm3 X G) T);let H:=NX (hMQ (K:=KK w.params) 944 "try_case" "Moot.try_case" L7 913 912 pm6) T a M I;let R2:=cW (hQ "_law_try" Gn 1040 1039 pm7 X G) T l (NW (P:=g) (w:=w) (Z:=Z) (hQ "_law_hand" GJ 1035 1034 pm7 X G) T) (Sx (hQ "done" Fm 352 351 pm0 X G) a l (bG (hMQ (K:=KK w.params) 944 "come" "Moot.come" Ni 653 652 pm6) b a O (OK (hMQ (K:=KK w.params) 571 "come" "Folk.come" IR 437 436 pm4) b O) (k _)) (NZ (hMQ (K:=KK w.params) 944 "rise" "Moot.rise" LJ 660 659 pm6) b a Q (cM (hMQ (K:=KK w.params) 571 "rise" "Folk.rise" Mq 444 443 pm4) b Q) (k _)) (iA (hMQ (K:=KK w.params) 944 "die" "Moot.die" La 667 666 pm6) b a R (Xy (hMQ (K:=KK w.params) 571 "die" "Folk.die" Ms 451 450 pm4) b R) (k _)) (NP (hMQ (K:=KK w.params) 944 "penance" "Moot.penance" Ke 674 673 pm6) T b a B N (k _)) (Sh (hMQ (K:=KK w.params) 944 "bring" "Moot.bring" IG 681 680 pm6) T a (_,(mg_of X G (by kernel_rfl):mg "MOST_THINGS"=_s (.int 40 993))) l i m (k _)) (Rl (hMQ (K:=KK w.params) 944 "give" "Moot.give" GG 688 687 pm6) a i m (k _)) (fX (hMQ (K:=KK w.params) 944 "pay" "Moot.pay" Mx 695 694 pm6) a E i m (k _)) (PQ (hMQ (K:=KK w.params) 944 "claim" "Moot.claim" HN 702 701 pm6) T a i z m F H) (Xw (hMQ (K:=KK w.params) 944 "wergild" "Moot.wergild" Mm 709 708 pm6) T a E i z m F H) (NQ (hMQ (K:=KK w.params) 944 "accuse" "Moot.accuse" HU 716 715 pm6) T a l i z m F (Fn.alias (Rb (hQ "breakers" Hr 596 595 pm5 X G) T J (XO (hQ "breaking" Nn 601 600 pm5 X G) T I (Rc (P:=g) (w:=w) (Z:=Z) (hQ "naming" LM 608 607 pm5 X G) T (_,j)))) c) H));let k:=XZ (hQ "_law_one" Ny 1073 1072 pm7 X G) T n;let l:=iZ (P:=g) (w:=w) (Z:=Z) (hQ "_law_weighs" MK 1016 1015 pm7 X G) T;let m:=Rr (P:=g) (w:=w) (Z:=Z) (hQ "_law_is_case" Ll 1047 1046 pm7 X G) T;let z:=Pb (hQ "_law_keep" AO 1052 1051 pm7 X G) T m l;let c:=PU (P:=g) (w:=w) (Z:=Z) (hQ "_law_death" HX 1002 1001 pm7 X G) T;let j:=Rf (hQ "_law_is_dead" Lj 1009 1008 pm7 X G) T c;let F:=gJ (hQ "_law_heir" Io 1023 1022 pm7 X G) T c j;let H:=gT (P:=g) (w:=w) (Z:=Z) (hQ "_law_settled" Ap 1098 1097 pm7 X G) T;let c:=SE (P:=g) (w:=w) (Z:=Z) (hQ "set_against" MP 371 370 pm1 X G);let E:=Ql (P:=g) (w:=w) (Z:=Z) (hQ "triple" KW 378 377 pm1 X G);let j:=jC (hQ "owed" ID 357 356 pm1 X G) T b (RZ (hMQ (K:=KK w.params) 571 "stand_in" "Folk.stand_in" Kf 498 497 pm4) b L) c E;let E:=OE (hQ "balance" MV 364 363 pm1 X G) (Fn.alias j d);let c:=λC=>SI (P:=g) (w:=w) (mg:=mg) (Z:=Z) (C:=C) (hMQ (K:=KK w.params) 944 "counting" "Moot.counting" F7 894 893 pm6) a;let C:=RH (hMQ (K:=KK w.params) 944 "owed" "Moot.owed" Kg 868 867 pm6) a i (c _) (Fn.alias j d);let d:=cA (hMQ (K:=KK w.params) 944 "balance" "Moot.balance" Hx 875 874 pm6) b a i B (c _) (Fn.alias E e);let c:=dR (hQ "_law_owes" Ib 1105 1104 pm7 X G) F;let e:=iC (hQ "_law_owed" Mv 1112 1111 pm7 X G) T c;let c:=Oj (hQ "_law_moot_entries" IS 1119 1118 pm7 X G) T m H;let i:=cL (hQ "_law_right" DB 1124 1123 pm7 X G) T a n c e C d (KJ (hQ "_law_same" CI 976 975 pm7 X G) T (cV (P:=g) (w:=w) (Z:=Z) (hQ "_law_whole" MB 969 968 pm7 X G) T) 4);let c:=eV (hQ "_law_play" Lm 1059 1058 pm7 X G) T (Oo (hQ "_law_deed" Li 1093 1092 pm7 X G) T n k (XT (hQ "_law_case_deed" MZ 1088 1087 pm7 X G) T n k (RM (hQ "_law_sides" Dk 1078 1077 pm7 X G) T n (Od (hQ "_law_pick" Mu 1030 1029 pm7 X G) T n) l) (Pq (hQ "_law_accused" Et 1083 1082 pm7 X G) T n))) R2 z
  rwa[(NB A T a (NI (P:=g) (w:=w) (Z:=Z) (hQ "_law_src" Ij 955 954 pm7 X G) T) n (cJ (hQ "_law_names" HG 995 994 pm7 X G) T n (bR (hQ "_law_word" CA 988 987 pm7 X G) T n) (XF (P:=g) (w:=w) (Z:=Z) (hQ "_law_unlike" Mg 983 982 pm7 X G) T)) ((bQ (hMQ (K:=KK w.params) 944 "__init__" "Moot.__init__" Iz 646 645 pm6) a ((Rq (P:=g) (w:=w) (mg:=mg) (Z:=Z) (hMQ (K:=KK w.params) 571 "__init__" "Folk.__init__" GF 430 429 pm4) b).mks u r o)).mks y t p) (iU (hQ "_law_start" KY 1066 1065 pm7 X G) T n R2 z) c i).mono aA])
end Law
end
open PySem PySem.W PyProof.Rows
set_option maxRecDepth 100000 in
set_option maxHeartbeats 0 in
theorem PySem.Challenge.cw_forsworn_k37_dues_of_a_moot_holds : PySem.Challenge.rw_forsworn_k37_dues_of_a_moot.Holds := by
 w_on;o_law
 refine holds_open (q:=Law.q) (loose:=["owed_dues","balance_dues","breakers_stands"]) (Xt:=λs=>xlAt Law.q [] s&&recOk (RowW.records PySem.Challenge.rw_forsworn_k37_dues_of_a_moot.row.toRowW) s) (XP:=XL Law.q []) (Yf:=Law.HK.obs) (Ya:=Law.HK.val) (YP:=Law.HK.says) (N:=12794) Law.left Law.HK.of Law.HK.keeps (λs e=>xl_of s (Bool.and_eq_true_iff.mp e).1) XL.keeps (by rfl) (by rfl) (by rfl) (λs e=>recFacts_of (Bool.and_eq_true_iff.mp e).2) (by rfl) (by first | assumption | decide +kernel) (by decide +kernel) ⟨rfl,rfl,rfl,rfl,rfl,by decide +kernel⟩ ?hw ?hc
 case hw=>w_witness2
 refine L2.walkLaw (l:=PySem.Challenge.rw_forsworn_k37_dues_of_a_moot) rfl rfl (λw h Y=>PySem.W.kIn_of (K:=Law.KK) Y) λw mg fa h KX G hmg=>Law.all_mk KX G hmg
namespace Law
end Law
