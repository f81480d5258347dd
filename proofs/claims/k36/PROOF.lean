
import PyProof.Rows.All
import Wide.All
import OpenK.AllK
import Wide.FinOn
import Lean
import PyProof.EqAt
import PyProof.EqKinds
import PyProof.TupleCall
import KE.KSortTup
import PyProof.NeKinds
import KE.KDictSum
import KE.KLam
import KE.KNestM
import KE.KSortKey
import PyProof.Rows.TupAdd
import KE.KRevIter
import PyProof.Rows.TupDisplay
import KE.KDictOf
import PyProof.ExcArgsOwn
import PyProof.ExcAttrAll.ValueError
import KE.KIsAll
import KE.KIntText
import PyProof.Rows.StrNews
import PyProof.Rows.StrSplitCount
import PyProof.Rows.SetFrom
import PyProof.Conv_int_bool
import PySem.Challenge.RW_forsworn_k36_things_of_a_moot
set_option Elab.async false
set_option linter.all false
set_option maxRecDepth 100000
set_option maxHeartbeats 4000000
open PySem.W (fnOf Hook kHook view xlAt recOk RowW instObj methodObj hideAll hideAll_get of_hideAll hideAll_none lookIn InstAt plainGet hasDictIn handedIn plainGet_of isFn plainOver takerIn Looks makesIn typeIn emptyDict keepIn kitOne kia_one kitx_list kitx_dict callWith_K methodCall_KW callWith_K0 cellsFrom_some codeIn codeRec_of nsIn mg_of subIn looks_subIn codeHdIn)
open PyProof.Rows (callWith_builtin1 callWith_type1 callWith_kw kws_cons kws_nil)
open PySem (Value Str Addr Program World OsState mem_of_lookup IsL)
section
inductive Ex2{α β}(p:α→β→Prop):Prop|mk(x y)(h:p x y)
inductive Ex3{α β γ}(p:α→β→γ→Prop):Prop|mk(x y z)(h:p x y z)
inductive Ex4{α β γ δ}(p:α→β→γ→δ→Prop):Prop|mk(x y z u)(h:p x y z u)
inductive Ex5{α β γ δ ε}(p:α→β→γ→δ→ε→Prop):Prop|mk(x y z u v)(h:p x y z u v)
inductive An3(a b c:Prop):Prop|mk(x:a)(y:b)(z:c)
inductive An4(a b c d:Prop):Prop|mk(x:a)(y:b)(z:c)(u:d)
inductive An5(a b c d e:Prop):Prop|mk(x:a)(y:b)(z:c)(u:d)(v:e)
inductive An6(a b c d e f:Prop):Prop|mk(x:a)(y:b)(z:c)(u:d)(v:e)(w:f)
theorem S{α}{a:α}:a=a:=rfl
open Option renaming some→_s,none→_n
open Bool renaming true→_t,false→_x
open Unit renaming unit→_u
open PySem renaming wpAny_bind→_b,wpAny_pure→_p,sizeLine→_z,bootBuiltins→_o,model→_m,mainGlobals→_g,compareOp→_c,starEach→_e,wpAny_field→_d,wpAny→_w
abbrev _i:=@if_neg
abbrev _j:=@if_pos
abbrev _a:=@absurd
set_option compiler.extract_closed false
section
open Lean Parser Tactic
def yAz:Nat→Syntax→List Syntax|n+1,s=>if s.isOfKind ``«term_∧_» then s[0]::yAz n s[2] else [s]|_,s=>[s]
def yBz(p q:String)(k n:Nat)(l:List Syntax):Syntax:=.node .none ``Term.app #[mkCIdent (.mkSimple (if n=k then q else p++n.repr)),mkNullNode l.toArray]
def yCz:Nat→List Syntax→Syntax|_,[s]=>s|n+1,l=>if l.length<7 then yBz "An" "And" 2 l.length l else yBz "An" "" 2 6 (l.take 5++[yCz n (l.drop 5)])|_,_=>.missing
def yDz:Nat→Nat→Nat→Syntax→Syntax|f+1,0,n,s=>if n=0 then s else yBz "Ex" "Exists" 1 (n.min 5) [yDz f (n.min 5) (n-5) s]|f+1,k+1,n,s=>let t:=s[1][0];t.setArg 1 (t[1].setArg 3 (yDz f k n t[1][3]))|_,_,_,s=>s
def yEz:Nat→Syntax→Syntax→Nat|f+1,h,s=>if s[0]==h then yEz f h s[1][0][1][3]+1 else 0|_,_,_=>0
def yFz:Macro:=fun s=>do
 let c:=yAz 99 s[3]
 let r←expandExplicitBinders ``Nat s[1] (yCz 99 c)
 let n:=yEz 99 r[0] r
 if n<2&&c.length<3 then Macro.throwUnsupported
 return yDz 99 0 n r
def yXz(l:Array Syntax):Array Syntax:=let h:Syntax:=.node .none ``Term.hole #[.atom .none "_"];let r:=mkIdent `S;let q:=mkIdent `rfl;l.foldl (λa s=>if s.isOfKind `num then s[0].getAtomVal.foldl (λa c=>a++match c with|'1'=>#[h,r]|'2'=>#[h]|'3'=>#[r]|'4'=>#[h,h,r,r]|'5'=>#[.node .none ``Term.syntheticHole #[.atom .none "?",.atom .none "_"]]|'6'=>#[.node .none ``Term.tuple #[.atom .none "(",mkNullNode,.atom .none ")"]]|'8'=>#[h,q]|_=>#[q]) a else a.push s) #[]
def yHz:Nat→Syntax→Syntax
|n+1,s=>
 let f:=λ l:Array Syntax=>.node .none ``rcasesPat.tuple #[.atom .none "⟨",mkNullNode (mkSepArray (l.map λx=>.node .none ``rcasesPatLo #[.node .none ``rcasesPatMed #[mkNullNode #[yHz n x]],mkNullNode]) (.atom .none ",")),.atom .none "⟩"]
 if s.isOfKind ``Term.hole then .node .none ``rcasesPat.ignore #[s[0]] else if s.isOfKind ``Term.tuple then f (yXz (#[s[1][0]]++s[1][2].getSepArgs)) else if s.isOfKind ``Term.anonymousCtor then f s[1].getSepArgs else .node .none ``rcasesPat.one #[if s.getId==`S then mkIdent `rfl else s]
|_,s=>s
def yIz:Macro:=λs=>let d:=s[2][0];if d.isOfKind ``Term.letPatDecl then `(tactic|obtain $(⟨.node .none ``rcasesPatMed #[mkNullNode #[yHz 99 d[0]]]⟩):rcasesPatMed := $(⟨d[4]⟩):term) else return .node .none ``tacticHave__ #[.atom .none "have",s[1],s[2]]
def yJz(s:Syntax):Term:=let l:=yXz (s[1].getSepArgs.map λx=>x[1]);⟨if l.size=1 then l[0]! else .node .none ``Term.anonymousCtor #[.atom .none "⟨",mkNullNode (mkSepArray l (.atom .none ",")),.atom .none "⟩"]⟩
def yTz:Macro:=λs=>if s[1].getNumArgs=0 then `(by lia) else return .node .none ``Term.anonymousCtor #[.atom .none "⟨",mkNullNode (mkSepArray (yXz (#[s[1][0]]++s[1][2].getSepArgs)) (.atom .none ",")),.atom .none "⟩"]
def yMz:Macro:=λs=>match s[0].isNatLit? with
|some n=>let a:=s[1].getArgs;let p f (a:Array Syntax):Syntax:=.node .none ``Term.app #[f,mkNullNode a]
 if n=0 then return a.foldr (λx t=>p (mkIdent `Za) #[x,t]) (mkIdent `Zb) else if n=10 then return p a[0]! (#[mkIdent `P,mkIdent `w,mkIdent `K,mkIdent `mg,mkIdent `Z]++a.extract 1 a.size) else if n=11 then return a.pop.foldr (λx t=>p (mkIdent `Zc) #[x,t]) (p (mkIdent `Zf) #[a.back!]) else match [`inl,`inr,`ref,`int,`str,`lst,`tup][n-1]? with|some i=>return p (.node .none ``Term.dotIdent #[.atom .none ".",mkIdent i]) a|_=>return p (mkIdent (if n=8 then `some else `ZG.of)) a
|_=>Macro.throwUnsupported
def yGz:Macro:=λs=>do
 let d:=s[1];let u:=s[0]
 if d.isOfKind ``Command.inductive&&d[2][1][0][1].getId==`Sp then
  let b(x t:Name):Syntax:=.node .none ``Term.explicitBinder #[.atom .none "(",mkNullNode #[mkIdent x],mkNullNode #[.atom .none ":",mkIdent t],mkNullNode,.atom .none ")"]
  let g(x:Syntax):Array Syntax:=if x.isOfKind ``Term.explicitBinder&&x[1][0].isOfKind ``Term.hole then ((yAz 99 x[2][1]).map λt=>x.setArg 2 (x[2].setArg 1 t)).toArray else #[x]
  let c:=d[4].getArgs.map λc=>c.setArg 4 (c[4].setArg 0 (mkNullNode (c[4][0].getArgs.flatMap g)))
  return s.setArg 1 ((d.setArg 2 ((d[2].setArg 0 (mkNullNode (d[2][0].getArgs++#[b `vs `aG,b `H `Hp,b `Q `VK,b `E `XK]))).setArg 1 (d[2][1].setArg 0 (d[2][1][0].setArg 1 (.node .none ``Term.prop #[.atom .none "Prop"]))))).setArg 4 (mkNullNode c))
 if d.isOfKind ``Command.definition&&[``Term.byTactic,``Term.paren].contains d[3][1].getKind&&d[2][1].getNumArgs>0&&d[0].getAtomVal=="def" then return s.setArg 1 (.node .none ``Command.theorem #[.atom .none "theorem",d[1],.node .none ``Command.declSig #[d[2][0],d[2][1][0]],d[3]]) else if u[4].getNumArgs=0&&["def","abbrev"].contains d[0].getAtomVal then return s.setArg 0 (u.setArg 4 (mkNullNode #[.node .none ``Command.noncomputable #[.atom .none "noncomputable"]])) else Macro.throwUnsupported
def yKz:Macro:=λs=>match(["9","8","7","6","5","4"].zip [`length,`heap.objs.size,`objs.size,`symm,`size,`toArray]).lookup (s[2][0].getAtomVal) with|some n=>return s.setArg 2 (mkIdent n)|_=>Macro.throwUnsupported
def y1z:Syntax:=(Unhygienic.run `(tacticSeq|rfl)).raw
def y2z:Syntax:=(Unhygienic.run `(tacticSeq|kernel_rfl)).raw
def y3z:Syntax:=(Unhygienic.run `(tacticSeq|decide)).raw
def y4z:Syntax:=(Unhygienic.run `(tacticSeq|decide +kernel)).raw
def y5z:Syntax:=(Unhygienic.run `(tacticSeq|intro _;rfl)).raw
end
local macro_rules(kind:=«term∃_,_»)|s=>yFz s
local macro_rules(kind:=Lean.Parser.Command.declaration)|s=>yGz s
local macro_rules(kind:=Lean.Parser.Tactic.tacticLet__)|s=>yIz s
local macro_rules(kind:=Lean.Parser.Tactic.tacticErw___)|s=>`(tactic|refine $(yJz s[2]))
local macro_rules(kind:=Lean.Parser.Tactic.tacticRwa__)|s=>`(tactic|exact $(yJz s[1]))
local macro_rules(kind:=Lean.Elab.Tactic.Ext.ext)|s=>`(tactic|cases $(⟨s[1][0][0][0]⟩):term)
abbrev m8:=@Prod.ext
abbrev m9:=@PySem.Paired.length
abbrev ma:=@Option.some.inj
abbrev md:=@Nat.lt_succ_self
abbrev me:=@Nat.le_succ
abbrev mh:=@List.any_cons
abbrev mi:=@Nat.succ_le_succ
abbrev mj:=@Option.isSome_map
abbrev mm:=@PySem.F.slot_dict_get
abbrev mn:=@PySem.Calls.callWith_builtin
abbrev mr:=@PySem.Calls.evalArgs_plain
abbrev mv:=@PySem.Calls.spliced_cons
abbrev mw:=@PySem.Calls.spliced_nil
abbrev mB:=@Nat.succ.inj
abbrev mD:=@List.drop_zero
abbrev mE:=@Nat.min_eq_left
abbrev mF:=@PySem.Heap.SameBut.update
abbrev mG:=@PySem.Around.under_plainId
abbrev mH:=@PyProof.Rows.F.plain_set_update_loop
abbrev mI:=@PySem.Obj.data_mapFields
abbrev mJ:=@List.eq_nil_of_length_eq_zero
abbrev mK:=@List.map_map
abbrev mL:=@PySem.PassesOwn.never
abbrev mO:=@PySem.Str.length_append
abbrev mP:=@Option.getD_some
theorem aA{p:Prop}[Decidable p](h:autoParam (decide p=true) y2z):p:=of_decide_eq_true h
abbrev aD:=@PySem.F.plainAttrs_list
abbrev aE:=@PySem.F.slot_list_append
abbrev aF:=@PySem.F.type_list_append
abbrev jQ:=Value->PySem.Shared->Prop
abbrev jR:=Str->Option Value
abbrev jS:=List Str
abbrev jT:=List Value
abbrev jU:=Str->Addr
abbrev jV:=List Addr
abbrev jW:=PySem.Shared
abbrev jX:=Value
abbrev jY:=Addr
abbrev jZ:=Program
abbrev kB:=World
abbrev kD:=PySem.Around
abbrev xA:=@List.length_map
abbrev xB:=@List.getElem?_eq_getElem
abbrev xC:=@PySem.Heap.get?_push_of_some
abbrev xD:=@Nat.le_refl
abbrev xE:=@List.mem_cons
abbrev xF:=@List.getElem?_eq_some_iff
abbrev xG:=@List.getElem?_map
abbrev xH:=@List.map_append
abbrev xI:=@List.length_append
abbrev xJ:=@List.mem_append_right
abbrev xK:=@Bool.false_ne_true
abbrev xL:=@List.mem_append
abbrev xM:=@List.mem_of_getElem?
abbrev xN:=@PySem.Heap.get?_push_size
abbrev xO:=@PySem.Heap.lt_size
abbrev xP:=@List.mem_cons_of_mem
abbrev xQ:=@List.take_add_one
abbrev xR:=@List.getD_eq_getElem?_getD
abbrev xS:=@Option.map_eq_some_iff
abbrev xT:=@List.append_nil
abbrev xU:=@List.mem_singleton
abbrev xV:=@List.not_mem_nil
abbrev xW:=@List.size_toArray
abbrev xX:=@Nat.le_trans
abbrev xY:=@List.length_take
abbrev xZ:=@List.take_length
abbrev yC:=@List.mem_cons_self
abbrev yD:=@decide_eq_true
abbrev yE:=@List.length_filter_le
abbrev yF:=@Nat.ne_of_lt
abbrev yG:=@Nat.lt_of_lt_of_le
abbrev yH:=@Option.or_eq_none_iff
abbrev yI:=@Nat.zero_le
abbrev yJ:=@Int.toNat_natCast
abbrev yK:=@Int.eq_ofNat_of_zero_le
abbrev yL:=@List.cons_append
abbrev yM:=@List.nodup_cons
abbrev yN:=@List.length_cons
abbrev yO:=@List.map_cons
abbrev yP:=@decide_eq_false
abbrev yQ:=@List.filter_append
abbrev yR:=@List.mem_append_left
abbrev yS:=@Bool.and_eq_true
abbrev yT:=@Nat.lt_of_le_of_lt
abbrev yU:=@List.mem_range
abbrev yV:=@List.length_range
abbrev yW:=@List.append_assoc
abbrev yX:=@of_decide_eq_true
abbrev yY:=@List.getElem_mem
abbrev yZ:=@List.getElem?_zip_eq_some
abbrev zA:=@List.replicate_succ
abbrev zB:=@List.foldl_append
abbrev zC:=@Nat.le_of_lt
abbrev zD:=@List.take_append_drop
abbrev zE:=@Option.bind_some
abbrev zF:=@Nat.lt_irrefl
abbrev zG:=@PySem.Heap.size_push
abbrev zH:=@List.of_mem_zip
abbrev zI:=@Bool.eq_iff_iff
abbrev zJ:=@Bool.false_eq_true
abbrev zK:=@Option.none_or
abbrev zL:=@List.foldl_cons
abbrev zM:=@List.nil_append
abbrev zN:=@List.mem_filter
abbrev zO:=@Array.length_toList
abbrev zP:=@List.mem_map
abbrev zQ:=@PySem.Heap.get?_update_other
abbrev zR:=@List.take_of_length_le
abbrev zS:=@List.getElem?_append_left
abbrev zT:=@List.drop_eq_getElem_cons
abbrev zU:=@Nat.le_succ_of_le
abbrev zV:=@List.getElem?_range
abbrev zW:=@List.length_reverse
abbrev zX:=@PySem.Heap.get?_update_ne
abbrev zY:=@List.all_eq_true
abbrev zZ:=@Array.getD_eq_getD_getElem?
abbrev wA:=@List.find?_cons
abbrev wB:=@List.range_succ
abbrev wC:=@List.length_replicate
abbrev wD:=@PySem.Heap.get?_update_self
abbrev wE:=@List.filterMap_append
abbrev wF:=@List.length_singleton
abbrev wG:=@List.getElem?_append_right
abbrev wH:=@Array.getElem?_eq_some_iff
abbrev wI:=@Nat.lt_succ_of_lt
abbrev wJ:=@Bool.false_and
abbrev wK:=@List.map_nil
abbrev wL:=@List.length_drop
abbrev wM:=@List.filterMap_cons
abbrev wN:=@List.map_congr_left
abbrev wO:=@List.flatMap_append
abbrev wP:=@List.filter_cons_of_pos
abbrev wQ:=@List.filter_cons_of_neg
abbrev wR:=@Option.map_some
abbrev wS:=@List.length_set
abbrev wT:=@decide_eq_true_iff
abbrev wU:=@List.drop_of_length_le
abbrev wV:=@List.flatten_cons
abbrev wW:=@Nat.ne_of_gt
abbrev wX:=@Nat.le_of_eq
abbrev wY:=@List.getElem?_eq_none
abbrev wZ:=@List.lookup_cons
abbrev uFg:=PySem.W.Frag
namespace L2
open PySem PySem.W
def topRunT(b:String->Option Builtin)(p:jZ)(w:kB)(m:Nat)(a:Option jX):Nat->SharedT->Thread->Option SharedT
 | 0,_,_=>none
 | n+1,s,t=>match through t with
  | true=>some s
  | false=>match stepOk m a t with
   | false=>none
   | true=>match stepT (denote b) p w s t with
    | some x=>topRunT b p w m a n x.1 x.2
    | none=>none
theorem Gi{d:String->Option Builtin}{p:jZ}{w:kB}{m:Nat}{c:Option jX}:∀{n:Nat}{s r:SharedT}{t:Thread},topRunT d p w m c n s t=some r->topRun d p w m c n s.abs t=some r.abs
 | 0,s,r,t,h=>by cases h
 | n+1,s,r,t,h=>by
  unfold topRunT at h;unfold topRun;cases a:through t with
  | true=>rw[a] at h;cases h;rfl
  | false =>
   rw[a] at h;cases b:stepOk m c t with
   | false=>rw[b] at h;cases h
   | true =>
    rw[b] at h;cases c:stepT (denote d) p w s t with
    | none=>rw[c] at h;cases h
    | some x=>obtain⟨a,b⟩:=x;rw[c] at h;dsimp only at h |-;rw[stepT_spec c];exact Gi h
def Ex:List Obj->Nat->BT->BT
 | [],_,t=>t
 | o::r,i,t=>Ex r (i+1) (t.ins i o)
noncomputable def s0T (P:Params) (os:OsState):SharedT:=⟨Ex (boot_heap P).objs.toList 0 .nil,11,(boot_heap P).life,#[],boot_drawn,boot_toks,os⟩
noncomputable def seenT {a:Type}(p q:jZ) (loose:jS) (Xt:jW->Bool) (Yf:jW->a) (P:Params) (s:jW) :=
 (staticsOk (importedModules p.main.body) (boot_heap P) s.heap&&namesBound p s.heap&&gensDone s&&laidKept (boot_heap P) s.heap,openSeen q loose (importedModules p.main.body) Xt true s,Yf s)
theorem Nb(P:Params)(os:OsState):(s0T P os).abs=⟨boot_heap P,#[],boot_drawn,boot_toks,os⟩:=by kernel_rfl
theorem Hi(P:Params):((boot_heap P).isNs mainGlobals&&(#[]:Array GenState).size==0,(boot_heap P).objs.size,(boot_heap P).nsMap mainGlobals "__annotations__")=(true,11,some (.ref 6)):=by kernel_rfl
theorem jN{p q:jZ}{loose:jS}{Xt:jW->Bool}{a:Type}{Yf:jW->a}{Ya:kB->a}{N:Nat}(e:opening p=plainProg p.main.scope.names)(g:Nat.ble 600 N=true)(f:∀s,fenceModules? p s=some s)(run:∀ (w:kB) (os:OsState),(topRunT treeTable p w 11 (some (.ref 6)) N (s0T w.params os) (topStub p)).map (λs=>seenT p q loose Xt Yf w.params s.abs)=some (true,openGood q loose,Ya w)):LeftO p q loose Xt Yf Ya N:=λw=>by
 obtain⟨⟨h,c,d,k,os⟩,b,a⟩:=xS.mp (boot_open e g f w);obtain⟨rfl,rfl,rfl,rfl⟩:h=boot_heap w.params/\c=#[]/\d=boot_drawn/\k=boot_toks:=by simpa using a
 obtain⟨s,h,a⟩:=xS.mp (run w os);unfold seenT at a;obtain⟨c,d,g⟩:_/\_/\_:=by simpa only [Prod.mk.injEq] using a
 have r:=Gi h;rw[Nb] at r;obtain⟨a,h,i⟩:_/\_/\_:=by simpa only [Prod.mk.injEq] using Hi w.params
 have t:topFrom treeTable p w N ⟨boot_heap w.params,#[],boot_drawn,boot_toks,os⟩=some s.abs:=by
  unfold topFrom;dsimp only;rw[a,h,i,r];show (match staticsOk (importedModules p.main.body) (boot_heap w.params) s.abs.heap&&namesBound p s.abs.heap&&gensDone s.abs&&laidKept (boot_heap w.params) s.abs.heap with | true=>some s.abs | false=>none)=_;rw[c]
 unfold openEnds;rw[b];show (topFrom treeTable p w N _).map _=_;rw[t];exact congrArg some (m8 d g)
def Zp(p:jZ)(i:Nat):Stmt:=p.main.body.getD i (.Pass ⟨0,0,0,0⟩)
def hIn(s:Stmt)(j:Nat):Stmt:=match s with
 | .ClassDef _ _ _ b _ _ _ _ _ _ _=>b.getD j (.Pass ⟨0,0,0,0⟩)
 | _=>s
def Ma(s:Stmt):Arguments:=match s with
 | .FunctionDef _ a _ _ _ _ _ _ _ _=>a
 | _=>⟨[],[],none,[],[],none,[]⟩
def HV(s:Stmt):List Stmt:=match s with
 | .FunctionDef _ _ b _ _ _ _ _ _ _=>b
 | _=>[]
def Kt(s:Stmt):Scope:=match s with
 | .FunctionDef _ _ _ _ _ _ c _ _ _=>c
 | _=>{kind:=.function,names:=[],isGenerator:=false,isCoroutine:=false }
def de(P:Params)(n:Str)(t:Tok)(v:jX):DictEntry:=⟨PyData.keyHash P n,.str n t,v⟩
def kFn(n q:Str)(st:Stmt)(pm:jX)(c:jY):Obj:=⟨.type "function", none,.func (fnOf n q (Ma st) (HV st) (Kt st) .none .none .none pm none (.ref c) .none),#[]⟩
def kC(n q:Str)(t l a u:Nat)(r s v x y:jX):Obj:=⟨.type "code", none,.fields #[.str n t,.str q (t+1),.str "/claim/cut.py" (t+2),.int l 0,.int a 0,.int 0 0,.int 0 0,.int 3 0,r,.bool true,.int 181 0,s,.none,v,x,y,.int u 0,.int l 0,.str "/claim/cut.py" (u+1)],#[]⟩
def kg(c:Nat)(n q:Str)(t l a u:Nat)(st:Stmt)(pm:jX)(r:uFg):uFg:=(c,kC n q t l a u (.ref (c - 5)) (.ref (c - 4)) (.ref (c - 3)) (.ref (c - 2)) (.ref (c - 1)))::(c+1,kFn n q st pm c)::r
def kg0(c:Nat)(n q:Str)(t l a u:Nat)(st:Stmt)(pm:jX)(r:uFg):uFg:=(c,kC n q t l a u (.ref (c - 3)) (.ref (c - 2)) .none .none (.ref (c - 1)))::(c+1,kFn n q st pm c)::r
def kE(P:Params)(a:Nat)(n:Str)(l t:Nat)(r:uFg):uFg:=(a,⟨.type "dict", none,.dict #[de P "__module__" t (.str "forsworn.errors" 194),de P "__firstlineno__" (t+4) (.int l (t+3)),de P "called" (t+11) (.ref (a - 2)),de P "__static_attributes__" (t+12) (.ref (a - 1)),de P "__doc__" (t+13) .none] 2,#[]⟩)::(a+1,⟨.type "type", none,.cls {name:=n,bases:=[.ref 38],mro:=[.ref (a+1),.ref 38,.type "ValueError", .type "Exception", .type "BaseException", .type "object"],ns:=a,qualname:=n,hasDict:=true,slotNames:=[],subclasses:=[],abstract:=false,collection:=none,hasDel:=false },#[some (.ref (a - 15)),none,some (.str n (t - 7)),some (.str n (t+1)),some (.builtin "ValueError.__new__"),some (.bool true)]⟩)::r
def kpO(x:jY×Obj)(r:uFg):uFg:=x::r
def kf(c:Nat)(n:Str):=kg c n n
def kf0(c:Nat)(n:Str):=kg0 c n n
end L2
namespace PySem.W.Fast
noncomputable def tw14598715356260435866:PySem.Params->PySem.Obj:=PySem.W.boot_o_0
theorem te14598715356260435866:PySem.W.boot_o_0=tw14598715356260435866:=rfl
end PySem.W.Fast
lay_quick L2.topRunT L2.s0T L2.seenT
namespace L2
open PySem PySem.W PyProof.Rows
abbrev p0:Pos:=⟨0,0,0,0⟩
def C8(p:jZ):Env:={scope:=p.main.scope,locals:=mainNs,globals:=mainNs,cells:=[],code:=.ref 13,frame:=some 14 }
def cP(p:jZ):Code:=.body (behindTheImports p) (C8 p)
def E3(b:String->Option Builtin)(p:jZ)(w:kB)(m:Nat)(a:Option jX):Nat->SharedT->Thread->Option (SharedT×Thread)
 | 0,s,t=>some (s,t)
 | n+1,s,t=>match through t with
  | true=>none
  | false=>match stepOk m a t with
   | false=>none
   | true=>match stepT (denote b) p w s t with
    | some x=>E3 b p w m a n x.1 x.2
    | none=>none
theorem MY{d:String->Option Builtin}{p:jZ}{w:kB}{m:Nat}{c:Option jX}:∀{n:Nat}{s r:SharedT}{t u:Thread},E3 d p w m c n s t=some (r,u)->topGo d p w m c n s.abs t=some (r.abs,u)
 | 0,s,r,t,u,h=>by cases h;rfl
 | n+1,s,r,t,u,h=>by
  unfold E3 at h;unfold topGo;cases a:through t with
  | true=>rw[a] at h;cases h
  | false =>
   rw[a] at h;cases b:stepOk m c t with
   | false=>rw[b] at h;cases h
   | true =>
    rw[b] at h;cases c:stepT (denote d) p w s t with
    | none=>rw[c] at h;cases h
    | some x=>obtain⟨a,b⟩:=x;rw[c] at h;dsimp only at h |-;rw[stepT_spec c];exact MY h
def preP(p:jZ)(w:kB)(s:SharedT):Option (SharedT×Thread):=E3 treeTable p w 11 (some (.ref 6)) 12 s (topStub p)
def stubT(p:jZ):Thread:=⟨denote treeTable (cP p),cP p,p0,[topFrame p0]⟩
def blkP(p:jZ)(w:kB)(s:SharedT):Option (Flow×SharedT×Code×Pos):=segRunT treeTable p w 11 (some (.ref 6)) 1 1 s (blockOf (behindTheImports p) (C8 p) (cP p) p0 [topFrame p0])
def segP(p:jZ)(w:kB)(n k j:Nat)(pos:Pos)(s:SharedT):Option (Flow×SharedT×Code×Pos):=segRunT treeTable p w 11 (some (.ref 6)) 1 n s (piecesOf (((behindTheImports p).drop k).take j) (C8 p) (cP p) pos [topFrame p0])
def topQ(p:jZ)(w:kB)(n k:Nat)(pos:Pos)(s:SharedT):Option SharedT:=topRunT treeTable p w 11 (some (.ref 6)) n s (restOf ((behindTheImports p).drop k) (C8 p) (cP p) pos [topFrame p0])
def vI(n:Nat):jX:=.int n 0
def tuO(l:jT):Obj:=⟨.type "tuple", none,.seq l.toArray 0,#[]⟩
def fdO(c:jX)(l:jT):Obj:=⟨c,none,.fields l.toArray,#[]⟩
def diO(l:List DictEntry)(n:Nat):Obj:=⟨.type "dict", none,.dict l.toArray n,#[]⟩
def cut(t:Nat):jX:=.str "/claim/cut.py" t
def mdl:jX:=.str "forsworn.errors" 194
def cdO(n q:Str)(b l:Nat)(d e:Nat)(c:Bool)(a:Nat)(r:jT):Obj:=fdO (.type "code") ([.str n b,.str q (b+1),cut (b+2),vI l,vI d,vI 0,vI 0,vI e,.ref a,.bool c,vI 181,.ref (a+1)]++r ++ [vI (if c then b+4 else b+3),vI l,cut (if c then b+5 else b+4)])
def fn0(n q:Str)(st:Stmt):Obj:=⟨.none,none,.func {name:=n,qualname:=q,params:=Ma st,body:=.stmts (HV st),scope:=Kt st,globals:=0,closure:=[],defaults:=.none,kwdefaults:=.none },#[]⟩
def LW(P:Params)(a b l:Nat)(st:Stmt)(bs:jX)(g:Nat)(c:List DictEntry)(f:Obj)(n q:Str)(h:List Obj)(i:List Obj):List Obj :=
 let d:=[de P "__module__" (b+7) mdl]
 let e:=[de P "__firstlineno__" (b+11) (.int l (b+10)),de P "called" (b+18) (.ref (a+13)),de P "__static_attributes__" (b+19) (.ref (a+14))]
 h ++ [tuO [bs],fdO (.type "builtin_function_or_method") [.builtin "type.__prepare__", .type "type"],diO (d ++ [de P "__qualname__" (b+9) (.str n (b+8))]++e) 5,tuO [],fdO .none [vI (l+2),vI 4,.ref (a+12)],
  cdO n n (b+2) l 0 0 false (a+3) [.none,.none,.none,.none],⟨.type "frame", none,.plain,#[some (.ref (a+5)),some (.ref 3),some (.ref (a+2)),none,some mdl,none,some (.ref 0)]⟩,
  tuO [],fdO .none [],tuO [.str "self" (b+15)],tuO [],fn0 "called" q st,cdO "called" q (b+12) (l+2) 1 3 true (a+7) [.none,.ref (a+9),.ref (a+10),.ref (a+11)],
  kFn "called" q st mdl (a+12),tuO [],diO (d++e++c) g,f]++i ++ [fdO (.type "super") [.ref (a+16),.ref (a+16),.ref (a+16)],fdO (.type "builtin_function_or_method") [.builtin "object.__init_subclass__", .ref (a+16)]]
def tyO(a b:Nat)(n:Str)(bs:jT)(c:jT)(sub:jT):Obj:=⟨.type "type", none,.cls {name:=n,bases:=bs,mro:=.ref (a+16)::c,ns:=a+15,qualname:=n,hasDict:=true,slotNames:=[],subclasses:=sub,abstract:=false,collection:=none,hasDel:=false },
 #[some (.ref a),none,some (.str n b),some (.str n (b+8)),some (.builtin "ValueError.__new__"),some (.bool true)]⟩
def GV:List jX:=[.type "ValueError", .type "Exception", .type "BaseException", .type "object"]
def fH(P:Params)(p:jZ)(j:Nat)(x:Str×Str):List Obj:=let a:=42+19 * j;let b:=221+23 * j;let l:=9+4 * j
 LW P a b l (hIn (Zp p (3+j)) 0) (.ref 38) 2 [de P "__doc__" (b+20) .none] (tyO a b x.1 [.ref 38] (.ref 38::GV) []) x.1 x.2 [] []
def num{a:Type}:Nat->List a->List (Nat × a)
 | _,[]=>[]
 | i,x::r=>(i,x)::num (i+1) r
noncomputable def Sx (p:jZ) (P:Params) (ns:List (Str×Str)):List Obj:=let w:=Zp p 0
  [boot_o_0 P,boot_o_1 P,boot_o_2 P,
   diO ([de P "__name__" 165 mdl,de P "__doc__" 166 .none,de P "__package__" 167 .none,de P "__loader__" 168 (.builtin "__main__.__loader__#opaque"),de P "__spec__" 169 .none,de P "__annotations__" 170 (.ref 6),de P "__builtins__" 171 (.ref 4),de P "__file__" 173 (cut 172),de P "__cached__" 174 .none,de P "_wall" 193 (.ref 21),de P "MootError" 220 (.ref 38)]++(num 0 ns).map λx=>de P x.2.1 (243+23 * x.1) (.ref (58+19 * x.1))) (11+ns.length),
   boot_o_4 P,boot_o_5 P,boot_o_6 P,boot_o_7 P,boot_o_8 P,boot_o_9 P,boot_o_10 P,tuO [],fdO .none ([vI 1,vI 0,.ref 20,vI 5,vI 0,.ref 27]++((num 0 ns).map λx=>[vI (9+4 * x.1),vI 0,.ref (47+19 * x.1)]).flatten),
   cdO "<module>" "<module>" 182 1 0 0 false 11 [.none,.none,.none,.none],⟨.type "frame", none,.plain,#[some (.ref 13),some (.ref 3),some (.ref 3),none,some (.str "__main__" 164),none,some (.ref 0)]⟩,
   tuO [],fdO .none [],tuO [.str "k" 190],tuO [],fn0 "_wall" "_wall" w,cdO "_wall" "_wall" 187 1 1 3 true 15 [.none,.ref 17,.ref 18,.ref 19],kFn "_wall" "_wall" w (.str "__main__" 164) 20] ++
  LW P 22 196 5 (hIn (Zp p 2) 0) (.type "ValueError") 3 [de P "__weakref__" 217 (.ref 39),de P "__doc__" 218 .none] (tyO 22 196 "MootError" [.type "ValueError"] GV ((num 0 ns).map λx=>.ref (58+19 * x.1))) "MootError" "MootError.called" [] [fdO (.type "getset_descriptor") [.str "__weakref__" 216,.ref 38,.builtin "ExceptionGroup.__weakref__", .none]] ++
  ((num 0 ns).map λx=>fH P p x.1 x.2).flatten
noncomputable def errS (p:jZ) (ns:List (Str×Str)) (P:Params) (os:OsState):SharedT:=⟨Ex (Sx p P ns) 0 .nil,42+19 * ns.length,(boot_heap P).life,#[],boot_drawn,221+23 * ns.length,os⟩
noncomputable def stubS (P:Params) (os:OsState):SharedT:=⟨Ex ((boot_heap P).objs.toList ++ [tuO [],fdO .none [],cdO "<module>" "<module>" 182 1 0 0 false 11 [.none,.none,.none,.none],⟨.type "frame", none,.plain,#[some (.ref 13),some (.ref 3),some (.ref 3),none,some (.str "__main__" 164),none,some (.ref 0)]⟩]) 0 .nil,15,(boot_heap P).life,#[],boot_drawn,187,os⟩
def VC(p:jZ)(w:kB)(os:OsState)(M:Nat)(s:SharedT)(k:Nat)(pos:Pos):Prop:=∀(N:Nat)(r:jW),
 topRun treeTable p w 11 (some (.ref 6)) N s.abs (restOf ((behindTheImports p).drop k) (C8 p) (cP p) pos [topFrame p0])=some r->topRun treeTable p w 11 (some (.ref 6)) (M+N) (s0T w.params os).abs (topStub p)=some r
theorem VC.zero{p:jZ}{w:kB}{os:OsState}(h:preP p w (s0T w.params os)=some (stubS w.params os,stubT p))(b:blkP p w (stubS w.params os)=some (.next,stubS w.params os,cP p,p0)):VC p w os 13 (stubS w.params os) 0 p0:=λN r k=>by
 have a:=go_top (MY h) (piece_block (segRun_of b) k)
 rwa [<- Nat.add_assoc] at a
theorem VC.step{p:jZ}{w:kB}{os:OsState}{M k:Nat}{s b:SharedT}{pos a:Pos}(R:VC p w os M s k pos)(n j:Nat)(h:segP p w n k j pos s=some (.next,b,cP p,a)):VC p w os (M+n) b (k+j) a:=λN r x=>by
 rw[Nat.add_assoc];refine R _ r ?_;rw[<- zD j ((behindTheImports p).drop k),List.drop_drop];exact piece_app (segRun_of h) x
section
variable(p q:jZ)(loose:jS)(Xt:jW->Bool)
noncomputable def sn0 (P:Params) (s:SharedT):Bool:=staticsOk (importedModules p.main.body) (boot_heap P) s.abs.heap&&namesBound p s.abs.heap&&gensDone s.abs&&laidKept (boot_heap P) s.abs.heap
def sn1(s:SharedT):=(seen ((recsOf q).map (·.name)) (ownsOf q) [] {s.abs with gens:=#[] },s.abs.heap.bltView)
def sn2(s:SharedT):Bool:=s.abs.heap.keysOk (looseW q loose) ((recsOf q).map (·.name)) ((litsOf q).map (·.1)) ((clssOf q (looseW q loose)).map (·.name))&&s.abs.heap.accountedOkI (importedModules p.main.body)&&s.abs.heap.isNs mainGlobals&&s.abs.heap.isNs builtinsNs&&tablesOk q s.abs.heap&&Xt s.abs&&(if true then s.abs.gens.size==0 else !leftWithCleanup s.abs.gens)
def sn3(s:SharedT):Bool:=tabsOk q s.abs
def sn4(s:SharedT):=pinSeenD q (drecsOf q) s.abs
def sn9(i:Nat)(s:SharedT):=(((plainsOf q (looseW q loose)).drop i).take 1).map λc=>s.abs.heap.plainShapeAt c.withCmp
def snA(i:Nat)(s:SharedT):=((plainsOf q (looseW q loose)).drop i).map λc=>s.abs.heap.plainShapeAt c.withCmp
def sn5(s:SharedT):=plainSeenD q loose s.abs
def sn8(s:SharedT):=wideSeen q s.abs
def sn6(s:SharedT):=clsSeenW q loose s.abs
end
def gd9(q:jZ)(loose:jS)(i:Nat):=(((plainsOf q (looseW q loose)).drop i).take 1).map λc=>some c.withCmp.plainShape
def gdA(q:jZ)(loose:jS)(i:Nat):=((plainsOf q (looseW q loose)).drop i).map λc=>some c.withCmp.plainShape
theorem KS{c d:Type}(f:c->d)(l:List c):l.map f=((l.drop 0).take 1).map f++(((l.drop 1).take 1).map f++(l.drop 2).map f):=by
 rcases l with _ | ⟨a,_ | ⟨b,l⟩⟩<;>rfl
theorem O8{p q:jZ}{loose:jS}{Xt:jW->Bool}{a:Type}{Yf:jW->a}{Ya:kB->a}{M N k:Nat}{s:kB->OsState->SharedT}{pos:Pos}(e:opening p=plainProg p.main.scope.names)(c:Nat.ble 600 (M+N)=true)(f:∀s,fenceModules? p s=some s)(R:∀ (w:kB) (os:OsState),VC p w os M (s w os) k pos)(g:∀ (w:kB) (os:OsState),(topQ p w N k pos (s w os)).map (sn0 p w.params)=some true)(i:∀ (w:kB) (os:OsState),(topQ p w N k pos (s w os)).map (sn1 q)=some (expectedOf q,bltViewBooted))(j:∀ (w:kB) (os:OsState),(topQ p w N k pos (s w os)).map (sn2 p q loose Xt)=some true)(l:∀ (w:kB) (os:OsState),(topQ p w N k pos (s w os)).map (sn3 q)=some true)(m:∀ (w:kB) (os:OsState),(topQ p w N k pos (s w os)).map (sn4 q)=some (pinGoodD (drecsOf q)))(o:∀ (w:kB) (os:OsState),(topQ p w N k pos (s w os)).map (sn9 q loose 0)=some (gd9 q loose 0))(z:∀ (w:kB) (os:OsState),(topQ p w N k pos (s w os)).map (sn9 q loose 1)=some (gd9 q loose 1))(y:∀ (w:kB) (os:OsState),(topQ p w N k pos (s w os)).map (snA q loose 2)=some (gdA q loose 2))(n:∀ (w:kB) (os:OsState),(topQ p w N k pos (s w os)).map (sn5 q loose)=some (plainGoodD q loose))(v:∀ (w:kB) (os:OsState),(topQ p w N k pos (s w os)).map (sn8 q)=some (wideGood q))(r:∀ (w:kB) (os:OsState),(topQ p w N k pos (s w os)).map (sn6 q loose)=some (clsGoodW q loose))(t:∀ (w:kB) (os:OsState),(topQ p w N k pos (s w os)).map (λs=>Yf s.abs)=some (Ya w)):LeftO p q loose Xt Yf Ya (M+N):=λw=>by
 obtain⟨⟨h,b,d,k,os⟩,u,a⟩:=xS.mp (boot_open e c f w);obtain⟨rfl,rfl,rfl,rfl⟩:h=boot_heap w.params/\b=#[]/\d=boot_drawn/\k=boot_toks:=by simpa using a
 obtain⟨s,x,b⟩:=xS.mp (g w os);have a:=i w os;have c:=j w os;have d:=l w os;have g:=m w os;have h:=n w os;have m:=o w os;have n:=y w os;have o:=z w os;have l:=v w os;have i:=r w os;have j:=t w os;rw[x,wR,Option.some_inj] at a c d g h i j l m n o;have r:=R w os N _ (Gi x);rw[Nb] at r;obtain⟨v,x,y⟩:_/\_/\_:=by simpa only [Prod.mk.injEq] using Hi w.params
 have t:topFrom treeTable p w (M+N) ⟨boot_heap w.params,#[],boot_drawn,boot_toks,os⟩=some s.abs:=by
  unfold topFrom;dsimp only;rw[v,x,y,r];show (match staticsOk (importedModules p.main.body) (boot_heap w.params) s.abs.heap&&namesBound p s.abs.heap&&gensDone s.abs&&laidKept (boot_heap w.params) s.abs.heap with | true=>some s.abs | false=>none)=_;unfold sn0 at b;rw[b]
 unfold openEnds;rw[u];show (topFrom treeTable p w (M+N) _).map _=_;rw[t];refine congrArg some (m8 ?_ j);have b:=congrArg Prod.fst a;have j:=congrArg Prod.snd a;exact m8 b (m8 j (m8 c (m8 d (m8 g (m8 ((KS _ _).trans ((congr (congrArg _ m) (congr (congrArg _ o) n)).trans (KS _ _).symm)) (m8 h (m8 l i)))))))
end L2
lay_quick L2.preP L2.blkP L2.segP L2.topQ L2.errS L2.stubS L2.stubT L2.sn0 L2.sn1 L2.sn2 L2.sn3 L2.sn4 L2.sn5 L2.sn6 L2.sn8 L2.sn9 L2.snA L2.gd9 L2.gdA
namespace Law
open PySem L2
def pm0:jX:= .str "forsworn.deeds" 589
def pm1:jX:= .str "forsworn.measures" 600
def pm2:jX:= .str "forsworn.oaths" 638
def pm3:jX:= .str "forsworn.folk" 654
def pm4:jX:= .str "forsworn.goods" 863
def pm5:jX:= .str "forsworn.stands" 919
def pm6:jX:= .str "forsworn.moot" 1005
def pm7:jX:= .str "law_forsworn_k36_things_of_a_moot" 1433
def Kp(p:jZ)(P:Params):uFg :=
 kpO (3,⟨(.type "dict"),none,(.dict #[de P "__name__" 165 (.str "law_forsworn_k36_things_of_a_moot" 1433),de P "__doc__" 166 .none,de P "__package__" 167 .none,de P "__loader__" 168 (.builtin "__main__.__loader__#opaque"),de P "__spec__" 169 .none,de P "__annotations__" 170 (.ref 6),de P "__builtins__" 171 (.ref 4),de P "__file__" 173 (.str "/claim/cut.py" 172),de P "__cached__" 174 .none,de P "_wall" 193 (.ref 21),de P "MootError" 220 (.ref 38),de P "NoName" 243 (.ref 58),de P "NoMeasure" 266 (.ref 77),de P "Unknown" 289 (.ref 96),de P "Taken" 312 (.ref 115),de P "NoThing" 335 (.ref 134),de P "NoCase" 358 (.ref 153),de P "NoOath" 381 (.ref 172),de P "NotYet" 404 (.ref 191),de P "Dead" 427 (.ref 210),de P "NoHeir" 450 (.ref 229),de P "TooMany" 473 (.ref 248),de P "SwornTwice" 496 (.ref 267),de P "Forsworn" 519 (.ref 286),de P "TooLight" 542 (.ref 305),de P "Broken" 565 (.ref 324),de P "NoDeed" 588 (.ref 343),de P "done" 599 (.ref 352),de P "LAST_DAY" 603 (.int (9999) 602),de P "MOST_WEIGHT" 605 (.int (1000) 604),de P "MOST_NEED" 607 (.int (12000) 606),de P "MOST_MONEY" 609 (.int (1000000) 608),de P "check_day" 616 (.ref 359),de P "check_weight" 623 (.ref 366),de P "check_need" 630 (.ref 373),de P "check_money" 637 (.ref 380),de P "LONGEST_NAME" 641 (.int (12) 640),de P "is_name" 647 (.ref 385),de P "total" 653 (.ref 390),de P "MOST_FOLK" 657 (.int (40) 656),de P "Folk" 862 (.ref 545),de P "DAY" 866 (.int (0) 865),de P "WORD" 868 (.int (1) 867),de P "GIVER" 870 (.int (2) 869),de P "TAKER" 872 (.int (3) 871),de P "road" 878 (.ref 554),de P "road_goods" 879 (.ref 554),de P "holder" 890 (.ref 561),de P "holder_goods" 891 (.ref 561),de P "by_day" 898 (.ref 568),de P "leave_on" 909 (.ref 575),de P "pass_on" 918 (.ref 582),de P "ONES" 922 (.int (0) 921),de P "OTHERS" 924 (.int (1) 923),de P "NEED" 926 (.int (2) 925),de P "NAMED" 928 (.int (3) 927),de P "settled" 935 (.ref 589),de P "settled_with" 947 (.ref 596),de P "breakers" 956 (.ref 603),de P "breakers_stands" 957 (.ref 603),de P "breaking" 963 (.ref 608),de P "naming" 974 (.ref 615),de P "check_case" 982 (.ref 622),de P "check_oath" 988 (.ref 627),de P "margin_without" 998 (.ref 634),de P "kept_weight" 1004 (.ref 639),de P "MOST_THINGS" 1008 (.int (40) 1007),de P "MOST_CASES" 1010 (.int (60) 1009),de P "MOST_SWEARERS" 1012 (.int (12) 1011),de P "MOST_MOMENTS" 1014 (.int (400) 1013),de P "Moot" 1432 (.ref 949),de P "_law_src" 1441 (.ref 960),de P "_law_next" 1451 (.ref 967),de P "_law_whole" 1458 (.ref 974),de P "_law_same" 1468 (.ref 981),de P "_law_unlike" 1479 (.ref 988),de P "_law_word" 1485 (.ref 993),de P "_law_names" 1499 (.ref 1000),de P "_law_death" 1508 (.ref 1007),de P "_law_is_dead" 1518 (.ref 1014),de P "_law_weighs" 1530 (.ref 1021),de P "_law_pick" 1542 (.ref 1028),de P "_law_hand" 1548 (.ref 1033),de P "_law_try" 1554 (.ref 1038),de P "_law_is_case" 1561 (.ref 1045),de P "_law_keep" 1567 (.ref 1050),de P "_law_play" 1580 (.ref 1057),de P "_law_start" 1594 (.ref 1064),de P "_law_one" 1602 (.ref 1071),de P "_law_sides" 1608 (.ref 1076),de P "_law_accused" 1614 (.ref 1081),de P "_law_case_deed" 1620 (.ref 1086),de P "_law_deed" 1626 (.ref 1091),de P "_law_settled" 1632 (.ref 1096),de P "_law_road" 1649 (.ref 1103),de P "_law_left" 1662 (.ref 1110),de P "_law_moot_events" 1674 (.ref 1117),de P "_law_brought" 1680 (.ref 1122),de P "_law_last" 1687 (.ref 1129),de P "_law_right" 1693 (.ref 1134),de P "law" 1705 (.ref 1141)] 101),#[]⟩)<|
 kpO (4,⟨(.type "module"),(some 0),.plain,#[]⟩)<|
 kpO (37,⟨(.type "dict"),none,(.dict #[de P "__module__" 203 (.str "forsworn.errors" 194),de P "__firstlineno__" 207 (.int (5) 206),de P "called" 214 (.ref 35),de P "__static_attributes__" 215 (.ref 36),de P "__weakref__" 217 (.ref 39),de P "__doc__" 218 .none] 3),#[]⟩)<|
 kpO (38,⟨(.type "type"),none,(.cls {name:="MootError", bases:=[(.type "ValueError")],mro:=[(.ref 38),(.type "ValueError"),(.type "Exception"),(.type "BaseException"),(.type "object")],ns:=37,qualname:="MootError", hasDict:=true,slotNames:=[],subclasses:=[(.ref 58),(.ref 77),(.ref 96),(.ref 115),(.ref 134),(.ref 153),(.ref 172),(.ref 191),(.ref 210),(.ref 229),(.ref 248),(.ref 267),(.ref 286),(.ref 305),(.ref 324),(.ref 343)],abstract:=false,collection:=none,hasDel:=false }),#[some (.ref 22),none,some (.str "MootError" 196),some (.str "MootError" 204),some (.builtin "ValueError.__new__"),some (.bool true)]⟩)<|
 kE P 57 "NoName" 9 228<|
 kE P 76 "NoMeasure" 13 251<|
 kE P 95 "Unknown" 17 274<|
 kE P 114 "Taken" 21 297<|
 kE P 133 "NoThing" 25 320<|
 kE P 152 "NoCase" 29 343<|
 kE P 171 "NoOath" 33 366<|
 kE P 190 "NotYet" 37 389<|
 kE P 209 "Dead" 41 412<|
 kE P 228 "NoHeir" 45 435<|
 kE P 247 "TooMany" 49 458<|
 kE P 266 "SwornTwice" 53 481<|
 kE P 285 "Forsworn" 57 504<|
 kE P 304 "TooLight" 61 527<|
 kE P 323 "Broken" 65 550<|
 kE P 342 "NoDeed" 69 573<|
 kf 351 "done" 591 74 2 597 (Zp p 20) pm0<|
 kf 358 "check_day" 610 102 1 614 (Zp p 26) pm1<|
 kf 365 "check_weight" 617 105 1 621 (Zp p 27) pm1<|
 kf 372 "check_need" 624 108 1 628 (Zp p 28) pm1<|
 kf 379 "check_money" 631 111 1 635 (Zp p 29) pm1<|
 kf0 384 "is_name" 642 116 1 645 (Zp p 32) pm2<|
 kf0 389 "total" 648 118 1 651 (Zp p 33) pm2<|
 kg 403 "__init__" "Folk.__init__" 670 124 1 674 (hIn (Zp p 36) 0) pm3<|
 kg 410 "come" "Folk.come" 677 130 4 684 (hIn (Zp p 36) 1) pm3<|
 kg 417 "rise" "Folk.rise" 687 135 4 694 (hIn (Zp p 36) 2) pm3<|
 kg 424 "die" "Folk.die" 697 139 4 704 (hIn (Zp p 36) 3) pm3<|
 kg0 443 "weight" "Folk.weight" 722 150 3 725 (hIn (Zp p 36) 6) pm3<|
 kg 478 "died_by" "Folk.died_by" 762 171 3 768 (hIn (Zp p 36) 11) pm3<|
 kg 485 "death_day" "Folk.death_day" 771 174 2 776 (hIn (Zp p 36) 12) pm3<|
 kg 492 "heir_of" "Folk.heir_of" 779 177 2 784 (hIn (Zp p 36) 13) pm3<|
 kg 499 "check_coming" "Folk.check_coming" 787 180 4 794 (hIn (Zp p 36) 14) pm3<|
 kg 506 "check_rise" "Folk.check_rise" 797 190 4 804 (hIn (Zp p 36) 15) pm3<|
 kg 513 "check_death" "Folk.check_death" 807 197 4 814 (hIn (Zp p 36) 16) pm3<|
 kg 520 "check_known" "Folk.check_known" 817 207 2 822 (hIn (Zp p 36) 17) pm3<|
 kg 527 "check_there" "Folk.check_there" 825 211 3 831 (hIn (Zp p 36) 18) pm3<|
 kg 534 "check_living" "Folk.check_living" 834 215 3 840 (hIn (Zp p 36) 19) pm3<|
 kg 541 "check_untold" "Folk.check_untold" 843 219 2 848 (hIn (Zp p 36) 20) pm3<|
 kpO (544,⟨(.type "dict"),none,(.dict #[de P "__module__" 665 (.str "forsworn.folk" 654),de P "__firstlineno__" 669 (.int (122) 668),de P "__init__" 676 (.ref 404),de P "come" 686 (.ref 411),de P "rise" 696 (.ref 418),de P "die" 706 (.ref 425),de P "names" 713 (.ref 432),de P "came" 721 (.ref 439),de P "weight" 727 (.ref 444),de P "dead" 736 (.ref 451),de P "stands_for" 745 (.ref 458),de P "twin" 752 (.ref 465),de P "stand_in" 761 (.ref 472),de P "died_by" 770 (.ref 479),de P "death_day" 778 (.ref 486),de P "heir_of" 786 (.ref 493),de P "check_coming" 796 (.ref 500),de P "check_rise" 806 (.ref 507),de P "check_death" 816 (.ref 514),de P "check_known" 824 (.ref 521),de P "check_there" 833 (.ref 528),de P "check_living" 842 (.ref 535),de P "check_untold" 850 (.ref 542),de P "__static_attributes__" 855 (.ref 543),de P "__dict__" 857 (.ref 546),de P "__weakref__" 859 (.ref 547),de P "__doc__" 860 .none] 4),#[]⟩)<|
 kpO (545,⟨(.type "type"),none,(.cls {name:="Folk", bases:=[(.type "object")],mro:=[(.ref 545),(.type "object")],ns:=544,qualname:="Folk", hasDict:=true,slotNames:=[],subclasses:=[],abstract:=false,collection:=none,hasDel:=false }),#[none,none,some (.str "Folk" 658),some (.str "Folk" 666),some (.builtin "object.__new__"),some (.bool true)]⟩)<|
 kf0 553 "road" 873 227 4 876 (Zp p 42) pm4<|
 kf 560 "holder" 880 238 4 888 (Zp p 44) pm4<|
 kf 567 "by_day" 892 242 1 896 (Zp p 46) pm4<|
 kf 574 "leave_on" 899 244 3 907 (Zp p 47) pm4<|
 kf 581 "pass_on" 910 249 2 916 (Zp p 48) pm4<|
 kf 588 "settled" 929 258 1 933 (Zp p 54) pm5<|
 kf 595 "settled_with" 936 260 2 945 (Zp p 55) pm5<|
 kf 602 "breakers" 948 270 3 954 (Zp p 56) pm5<|
 kf0 607 "breaking" 958 274 1 961 (Zp p 58) pm5<|
 kf 614 "naming" 964 276 2 972 (Zp p 59) pm5<|
 kf 621 "check_case" 975 283 2 980 (Zp p 60) pm5<|
 kf0 626 "check_oath" 983 286 3 986 (Zp p 61) pm5<|
 kf 633 "margin_without" 989 290 3 996 (Zp p 62) pm5<|
 kf0 638 "kept_weight" 999 293 3 1002 (Zp p 63) pm5<|
 kg 652 "__init__" "Moot.__init__" 1027 302 1 1031 (hIn (Zp p 69) 0) pm6<|
 kg 659 "come" "Moot.come" 1034 313 4 1041 (hIn (Zp p 69) 1) pm6<|
 kg 666 "rise" "Moot.rise" 1044 319 4 1051 (hIn (Zp p 69) 2) pm6<|
 kg 673 "die" "Moot.die" 1054 325 4 1061 (hIn (Zp p 69) 3) pm6<|
 kg 680 "penance" "Moot.penance" 1064 331 2 1069 (hIn (Zp p 69) 4) pm6<|
 kg 687 "bring" "Moot.bring" 1072 338 3 1078 (hIn (Zp p 69) 5) pm6<|
 kg 694 "give" "Moot.give" 1081 349 5 1089 (hIn (Zp p 69) 6) pm6<|
 kg 701 "pay" "Moot.pay" 1092 356 5 1100 (hIn (Zp p 69) 7) pm6<|
 kg 708 "claim" "Moot.claim" 1103 364 7 1114 (hIn (Zp p 69) 8) pm6<|
 kg 715 "wergild" "Moot.wergild" 1117 374 8 1129 (hIn (Zp p 69) 9) pm6<|
 kg 722 "accuse" "Moot.accuse" 1132 385 7 1142 (hIn (Zp p 69) 10) pm6<|
 kg 853 "holder" "Moot.holder" 1285 451 3 1291 (hIn (Zp p 69) 29) pm6<|
 kg 860 "road" "Moot.road" 1294 456 3 1300 (hIn (Zp p 69) 30) pm6<|
 kg0 865 "holds" "Moot.holds" 1303 461 3 1306 (hIn (Zp p 69) 31) pm6<|
 kg0 898 "counting" "Moot.counting" 1341 478 2 1344 (hIn (Zp p 69) 36) pm6<|
 kg 905 "forsworn_names" "Moot.forsworn_names" 1347 481 1 1355 (hIn (Zp p 69) 37) pm6<|
 kg0 910 "weighed" "Moot.weighed" 1358 489 3 1361 (hIn (Zp p 69) 38) pm6<|
 kg 917 "try_case" "Moot.try_case" 1364 492 6 1373 (hIn (Zp p 69) 39) pm6<|
 kg 924 "check_named" "Moot.check_named" 1376 498 5 1385 (hIn (Zp p 69) 40) pm6<|
 kg 931 "check_thing" "Moot.check_thing" 1388 514 2 1393 (hIn (Zp p 69) 41) pm6<|
 kg 938 "check_sides" "Moot.check_sides" 1396 518 5 1406 (hIn (Zp p 69) 42) pm6<|
 kg 945 "check_moments" "Moot.check_moments" 1409 533 1 1413 (hIn (Zp p 69) 43) pm6<|
 kpO (948,⟨(.type "dict"),none,(.dict #[de P "__module__" 1022 (.str "forsworn.moot" 1005),de P "__firstlineno__" 1026 (.int (300) 1025),de P "__init__" 1033 (.ref 653),de P "come" 1043 (.ref 660),de P "rise" 1053 (.ref 667),de P "die" 1063 (.ref 674),de P "penance" 1071 (.ref 681),de P "bring" 1080 (.ref 688),de P "give" 1091 (.ref 695),de P "pay" 1102 (.ref 702),de P "claim" 1116 (.ref 709),de P "wergild" 1131 (.ref 716),de P "accuse" 1144 (.ref 723),de P "now" 1151 (.ref 730),de P "roll" 1158 (.ref 737),de P "names" 1165 (.ref 744),de P "weight" 1174 (.ref 751),de P "dead" 1183 (.ref 758),de P "stands_for" 1192 (.ref 765),de P "things" 1199 (.ref 772),de P "cases" 1206 (.ref 779),de P "suits" 1212 (.ref 784),de P "standing" 1219 (.ref 791),de P "stands" 1227 (.ref 798),de P "margin" 1235 (.ref 805),de P "breakers" 1244 (.ref 812),de P "chain" 1252 (.ref 819),de P "bearing" 1260 (.ref 826),de P "paper" 1268 (.ref 833),de P "fewest" 1276 (.ref 840),de P "forsworn" 1284 (.ref 847),de P "holder" 1293 (.ref 854),de P "road" 1302 (.ref 861),de P "holds" 1308 (.ref 866),de P "owed" 1316 (.ref 873),de P "balance" 1325 (.ref 880),de P "twin" 1332 (.ref 887),de P "then" 1340 (.ref 894),de P "counting" 1346 (.ref 899),de P "forsworn_names" 1357 (.ref 906),de P "weighed" 1363 (.ref 911),de P "try_case" 1375 (.ref 918),de P "check_named" 1387 (.ref 925),de P "check_thing" 1395 (.ref 932),de P "check_sides" 1408 (.ref 939),de P "check_moments" 1415 (.ref 946),de P "__static_attributes__" 1425 (.ref 947),de P "__dict__" 1427 (.ref 950),de P "__weakref__" 1429 (.ref 951),de P "__doc__" 1430 .none] 4),#[]⟩)<|
 kpO (949,⟨(.type "type"),none,(.cls {name:="Moot", bases:=[(.type "object")],mro:=[(.ref 949),(.type "object")],ns:=948,qualname:="Moot", hasDict:=true,slotNames:=[],subclasses:=[],abstract:=false,collection:=none,hasDel:=false }),#[none,none,some (.str "Moot" 1015),some (.str "Moot" 1023),some (.builtin "object.__new__"),some (.bool true)]⟩)<|
 kf 959 "_law_src" 1435 537 1 1439 (Zp p 71) pm7<|
 kf 966 "_law_next" 1442 539 2 1449 (Zp p 72) pm7<|
 kf 973 "_law_whole" 1452 554 1 1456 (Zp p 73) pm7<|
 kf 980 "_law_same" 1459 556 2 1466 (Zp p 74) pm7<|
 kf 987 "_law_unlike" 1469 573 2 1477 (Zp p 75) pm7<|
 kf0 992 "_law_word" 1480 581 2 1483 (Zp p 76) pm7<|
 kf 999 "_law_names" 1486 584 2 1497 (Zp p 77) pm7<|
 kf 1006 "_law_death" 1500 597 2 1506 (Zp p 78) pm7<|
 kf 1013 "_law_is_dead" 1509 602 3 1516 (Zp p 79) pm7<|
 kf 1020 "_law_weighs" 1519 605 3 1528 (Zp p 80) pm7<|
 kf 1027 "_law_pick" 1531 613 3 1540 (Zp p 81) pm7<|
 kf0 1032 "_law_hand" 1543 619 1 1546 (Zp p 82) pm7<|
 kf0 1037 "_law_try" 1549 621 2 1552 (Zp p 83) pm7<|
 kf 1044 "_law_is_case" 1555 631 1 1559 (Zp p 84) pm7<|
 kf0 1049 "_law_keep" 1562 633 2 1565 (Zp p 85) pm7<|
 kf 1056 "_law_play" 1568 644 5 1578 (Zp p 86) pm7<|
 kf 1063 "_law_start" 1581 649 4 1592 (Zp p 87) pm7<|
 kf 1070 "_law_one" 1595 658 2 1600 (Zp p 88) pm7<|
 kf0 1075 "_law_sides" 1603 660 4 1606 (Zp p 89) pm7<|
 kf0 1080 "_law_accused" 1609 671 2 1612 (Zp p 90) pm7<|
 kf0 1085 "_law_case_deed" 1615 678 4 1618 (Zp p 91) pm7<|
 kf0 1090 "_law_deed" 1621 689 3 1624 (Zp p 92) pm7<|
 kf0 1095 "_law_settled" 1627 706 1 1630 (Zp p 93) pm7<|
 kf 1102 "_law_road" 1633 720 4 1647 (Zp p 94) pm7<|
 kf 1109 "_law_left" 1650 735 3 1660 (Zp p 95) pm7<|
 kf 1116 "_law_moot_events" 1663 744 2 1672 (Zp p 96) pm7<|
 kf0 1121 "_law_brought" 1675 756 2 1678 (Zp p 97) pm7<|
 kf 1128 "_law_last" 1681 759 1 1685 (Zp p 98) pm7<|
 kf0 1133 "_law_right" 1688 763 4 1691 (Zp p 99) pm7<|
 kf 1140 "law" 1694 781 1 1703 (Zp p 100) pm7<|[]
def KK(P:Params):uFg:=Kp PySem.Challenge.pw_forsworn_k36_things_of_a_moot P
def OO:uFg:=[(563,⟨.none,none,.fields #[],#[]⟩)]
def Ib(p:jZ)(P:Params):uFg:=(Kp p P++OO:List (jY×Obj))
def Dw(P:Params):uFg:=Ib PySem.Challenge.pw_forsworn_k36_things_of_a_moot P
def askd:List jY:=[3,4,37,38,57,58,76,77,95,96,114,115,133,134,152,153,171,172,190,191,209,210,228,229,247,248,266,267,285,286,304,305,323,324,342,343,351,352,358,359,365,366,372,373,379,380,384,385,389,390,403,404,410,411,417,418,424,425,443,444,478,479,485,486,492,493,499,500,506,507,513,514,520,521,527,528,534,535,541,542,544,545,553,554,560,561,567,568,574,575,581,582,588,589,595,596,602,603,607,608,614,615,621,622,626,627,633,634,638,639,652,653,659,660,666,667,673,674,680,681,687,688,694,695,701,702,708,709,715,716,722,723,853,854,860,861,865,866,898,899,905,906,910,911,917,918,924,925,931,932,938,939,945,946,948,949,959,960,966,967,973,974,980,981,987,988,992,993,999,1000,1006,1007,1013,1014,1020,1021,1027,1028,1032,1033,1037,1038,1044,1045,1049,1050,1056,1057,1063,1064,1070,1071,1075,1076,1080,1081,1085,1086,1090,1091,1095,1096,1102,1103,1109,1110,1116,1117,1121,1122,1128,1129,1133,1134,1140,1141,563]
def HK:Hook:=kHook Dw askd λ_=>by kernel_rfl
def q:jZ:=view PySem.Challenge.pw_forsworn_k36_things_of_a_moot [0,2,3,4,5,6,7,8,9,10,11,12,13,14,15,16,17,18,20,22,23,24,25,26,27,28,29,31,32,33,35,36,38,39,40,41,42,43,44,45,46,47,48,50,51,52,53,54,55,56,57,58,59,60,61,62,63,65,66,67,68,69,71,72,73,74,75,76,77,78,79,80,81,82,83,84,85,86,87,88,89,90,91,92,93,94,95,96,97,98,99,100]
def ens:List (Str×Str):=[("NoName","NoName.called"),("NoMeasure","NoMeasure.called"),("Unknown","Unknown.called"),("Taken","Taken.called"),("NoThing","NoThing.called"),("NoCase","NoCase.called"),("NoOath","NoOath.called"),("NotYet","NotYet.called"),("Dead","Dead.called"),("NoHeir","NoHeir.called"),("TooMany","TooMany.called"),("SwornTwice","SwornTwice.called"),("Forsworn","Forsworn.called"),("TooLight","TooLight.called"),("Broken","Broken.called"),("NoDeed","NoDeed.called")]
end Law
namespace PySem.W.Fast
noncomputable def tw8426934753675190448:Program:=PySem.Challenge.pw_forsworn_k36_things_of_a_moot
theorem te8426934753675190448:PySem.Challenge.pw_forsworn_k36_things_of_a_moot=tw8426934753675190448:=rfl
end PySem.W.Fast
lay_quick PySem.Challenge.rw_forsworn_k36_things_of_a_moot Law.q Law.ens
namespace Law
open PySem L2 PySem.W.Fast
set_option maxRecDepth 1000000
noncomputable abbrev zqP:=(tw2368527892694137696 tw6811808857477497563).prog
theorem fL(w:kB)(os:OsState):tw14574945829899846032 zqP w (tw15095419895629540892 w.params os)=some (tw17173385231801463501 w.params os,tw17649063868247884333 zqP):=by
 kernel_rfl
theorem OU(w:kB)(os:OsState):tw897522592586576512 zqP w (tw17173385231801463501 w.params os)=some (.next,tw17173385231801463501 w.params os,cP zqP,p0):=by
 kernel_rfl
theorem RX(w:kB)(os:OsState):tw3364177927453363911 zqP w 4143 0 19 p0 (tw17173385231801463501 w.params os)=some (.next,(tw15053072615319938550 zqP (tw2665081048563830263.take 16) w.params os),cP zqP,⟨69,0,72,23⟩):=by
 kernel_rfl
abbrev zqL:List Str:=["road_goods","holder_goods","breakers_stands"]
noncomputable abbrev zqS(w:World)(os:OsState):=tw9491608239551792999 zqP w 8802 19 ⟨69,0,72,23⟩ (tw15053072615319938550 zqP (tw2665081048563830263.take 16) w.params os)
theorem N4(w:kB)(os:OsState):Option.map (tw5166864615210023351 zqP w.params) (zqS w os)=some true:=by
 kernel_rfl
theorem cU(w:kB)(os:OsState):Option.map (tw9146811602139678113 tw2797900513057943271) (zqS w os)=some (PyProof.Rows.expectedOf tw2797900513057943271,bltViewBooted):=by
 kernel_rfl
theorem RF(w:kB)(os:OsState):Option.map (tw4330636226384752446 zqP tw2797900513057943271 zqL (λs=>xlAt tw2797900513057943271 [] s&&recOk (tw2368527892694137696 tw6811808857477497563).records s)) (zqS w os)=some true:=by
 kernel_rfl
theorem Rb(w:kB)(os:OsState):Option.map (tw290884773970851577 tw2797900513057943271) (zqS w os)=some true:=by
 kernel_rfl
theorem bW(w:kB)(os:OsState):Option.map (tw9020109020722589832 tw2797900513057943271) (zqS w os)=some (pinGoodD (PyProof.Rows.drecsOf tw2797900513057943271)):=by
 kernel_rfl
theorem PC(w:kB)(os:OsState):Option.map (tw1658975667393823239 tw2797900513057943271 zqL 0) (zqS w os)=some (tw10258256380655884400 tw2797900513057943271 zqL 0):=by
 kernel_rfl
theorem fA(w:kB)(os:OsState):Option.map (tw1658975667393823239 tw2797900513057943271 zqL 1) (zqS w os)=some (tw10258256380655884400 tw2797900513057943271 zqL 1):=by
 kernel_rfl
theorem iF(w:kB)(os:OsState):Option.map (tw1671388014868620310 tw2797900513057943271 zqL 2) (zqS w os)=some (tw2047387775680494199 tw2797900513057943271 zqL 2):=by
 kernel_rfl
theorem QX(w:kB)(os:OsState):Option.map (tw11153056314078912757 tw2797900513057943271 zqL) (zqS w os)=some (PyProof.Rows.plainGoodD tw2797900513057943271 zqL):=by
 kernel_rfl
theorem Oy(w:kB)(os:OsState):Option.map (tw1743938642414776662 tw2797900513057943271) (zqS w os)=some (PySem.W.wideGood tw2797900513057943271):=by
 kernel_rfl
theorem Xu(w:kB)(os:OsState):Option.map (tw15055011524645977279 tw2797900513057943271 zqL) (zqS w os)=some (PySem.W.clsGoodW tw2797900513057943271 zqL):=by
 kernel_rfl
theorem iI(w:kB)(os:OsState):Option.map (λs=>askd.map s.abs.heap.get?) (zqS w os)=some ((Ib tw8426934753675190448 w.params).map λp=>some p.2):=by
 kernel_rfl
local macro_rules | `(tactic| walk_at "q")=>`(tactic| (intro h;simp only[zqS,← te14574945829899846032,← te897522592586576512,← te3364177927453363911,← te9491608239551792999,← te15053072615319938550,← te17173385231801463501,← te17649063868247884333,← te2665081048563830263,← te5166864615210023351,← te9146811602139678113,← te4330636226384752446,← te290884773970851577,← te9020109020722589832,← te11153056314078912757,← te15055011524645977279,← te1743938642414776662,← te1658975667393823239,← te1671388014868620310,← te10258256380655884400,← te2047387775680494199,← te15095419895629540892,← te2797900513057943271,← te2368527892694137696,← te6811808857477497563,← te14364793385576792824,← te8426934753675190448] at h;exact h))
theorem left:PySem.W.LeftO PySem.Challenge.rw_forsworn_k36_things_of_a_moot.row.prog q zqL (λs=>xlAt q [] s&&recOk (RowW.records PySem.Challenge.rw_forsworn_k36_things_of_a_moot.row.toRowW) s) HK.obs HK.val 12958:=by
 refine O8 (M:=4156) (N:=8802) (k:=19) (pos:=⟨69,0,72,23⟩) (s:=λw os=>errS PySem.Challenge.rw_forsworn_k36_things_of_a_moot.row.prog (ens.take 16) w.params os) (by kernel_rfl) aA (λs=>by kernel_rfl) (λw os=>?_)
  (λw os=>(by have h:=N4 w os;revert h;walk_at "q"))
  (λw os=>(by have h:=cU w os;revert h;walk_at "q"))
  (λw os=>(by have h:=RF w os;revert h;walk_at "q"))
  (λw os=>(by have h:=Rb w os;revert h;walk_at "q"))
  (λw os=>(by have h:=bW w os;revert h;walk_at "q"))
  (λw os=>(by have h:=PC w os;revert h;walk_at "q"))
  (λw os=>(by have h:=fA w os;revert h;walk_at "q"))
  (λw os=>(by have h:=iF w os;revert h;walk_at "q"))
  (λw os=>(by have h:=QX w os;revert h;walk_at "q"))
  (λw os=>(by have h:=Oy w os;revert h;walk_at "q"))
  (λw os=>(by have h:=Xu w os;revert h;walk_at "q"))
  (λw os=>(by have h:=iI w os;revert h;walk_at "q"))
 have R:=VC.zero (p:=PySem.Challenge.rw_forsworn_k36_things_of_a_moot.row.prog) (w:=w) (os:=os) (by have h:=fL w os;revert h;walk_at "q") (by have h:=OU w os;revert h;walk_at "q");have R:=R.step 4143 19 (by have h:=RX w os;revert h;walk_at "q");exact R
end Law
local macro_rules(kind:=Lean.Parser.Term.tuple)|s=>yTz s
local macro_rules(kind:=Lean.Parser.Term.proj)|s=>yKz s
local macro_rules(kind:=Lean.Parser.Term.app)|s=>yMz s
section
namespace L2
open PySem PySem.Spec PyProof.Rows
def aB{n:Nat}(h:Nat.ble n 5000=_t):n<=sizeLine:=(Nat.le_trans (Nat.le_of_ble_eq_true h) (by decide))
def aC:(5000:Nat)<=sizeLine:=by decide
abbrev ZV:=Sum Int Str
def B8:ZV->jX->Bool
 | .inl k,v=>Value.isInt k v
 | .inr x,v=>Value.isStrOf x v
def Rx(w:kB):ZV->Int
 | .inl k=>hashInt k
 | .inr x=>hashStr w x
theorem JZ:∀{k:ZV}{v:jX},B8 k v=_t->(∃i t,k=Sum.inl i/\v=Value.int i t)\/(∃x t,k=Sum.inr x/\v=Value.str x t)
 | .inl i,v,h=>by
  let(t,e):=Value.isInt_shape (k:=i) (v:=v) h;rwa[1 (i,t,3,e)]
 | .inr x,v,h=>by
  let(t,e):=Value.isStrOf_shape (x:=x) (v:=v) h;rwa[2 (x,t,3,e)]
def OV(i:Int)(t:Tok):B8 (1 i) (4 i t)=true:=by simp[B8,Value.isInt]
def Sw(x:Str)(t:Tok):B8 (2 x) (5 x t)=true:=by simp[B8,Value.isStrOf]
def Of(a b:Int):decide ((Sum.inl a:ZV)=Sum.inl b)=(a==b):=by grind
def Ra(a b:Str):decide ((Sum.inr a:ZV)=Sum.inr b)=decide (a=b):=by grind
def Xa(a:Int)(b:Str):decide ((Sum.inl a:ZV)=Sum.inr b)=false:=(yP (λq=>nomatch q))
def Oh(a:Str)(b:Int):decide ((Sum.inr a:ZV)=Sum.inl b)=false:=(yP (λq=>nomatch q))
def Wu(prog:jZ)(w:kB):PySem.KeyKind prog w ZV where
 is:=B8
 hash:=Rx w
 inj:=λv a b d c=>by
  rcases JZ d with⟨i,t,rfl,rfl⟩ | ⟨x,t,rfl,rfl⟩
  .rcases JZ c with⟨j,u,rfl,e⟩ | ⟨y,u,rfl,e⟩
   .injection e with a _;rw[a]
   .rwa[nomatch e]
  .rcases JZ c with⟨j,u,rfl,e⟩ | ⟨y,u,rfl,e⟩
   .rwa[nomatch e]
   .injection e with a _;rw[a]
 byValue:=λk v h=>by
  rcases JZ h with⟨i,t,rfl,rfl⟩ | ⟨x,t,rfl,rfl⟩<;>rfl
 pyHash:=λb h=>by
  rcases JZ b with⟨i,t,rfl,rfl⟩ | ⟨x,t,rfl,rfl⟩
  .rwa[wpAny_pyHash_int h]
  .rwa[wpAny_pyHash_str h]
 eqBool:=λc b h=>by
  rcases JZ c with⟨i,t,rfl,rfl⟩ | ⟨x,t,rfl,rfl⟩
  .rcases JZ b with⟨j,u,rfl,rfl⟩ | ⟨y,u,rfl,rfl⟩
   .rw[Of] at h;rwa[wpAny_eqBool_int h]
   .rw[Xa] at h;rwa[SeqAt.EqAt.int_str i t y u _ _ _ _ h]
  .rcases JZ b with⟨j,u,rfl,rfl⟩ | ⟨y,u,rfl,rfl⟩
   .rw[Oh] at h;rwa[SeqAt.EqAt.str_int x t j u _ _ _ _ h]
   .rw[Ra] at h;rwa[wpAny_eqBool_str h]
 «strs»:=λk x t v h=>by
  rcases JZ h with⟨i,u,rfl,e⟩ | ⟨y,u,rfl,e⟩
  .rwa[nomatch e]
  .injection e with a _
   subst a
   ext v<;>rfl
def gR(prog:jZ)(w:kB)(i:Int)(t:Tok):(Wu prog w).is (1 i) (4 i t)=true:=(OV i t)
def RE(prog:jZ)(w:kB)(x:Str)(t:Tok):(Wu prog w).is (2 x) (5 x t)=true:=(Sw x t)
inductive V where
 | non | bl (b:Bool) | int (i:Int) | str (x:Str) | byt (b:Array UInt8) | flt (b:UInt64) | ref (a:jY) | ty (n:String)
 deriving DecidableEq
abbrev aG:=List V
def ZH:V->jX->Prop
 | .non,u=>u=Value.none
 | .bl b,u=>u=Value.bool b
 | .int i,u=>∃t,u=Value.int i t
 | .str x,u=>∃t,u=Value.str x t
 | .byt b,u=>∃t,u=Value.bytes b t
 | .flt b,u=>∃t,u=Value.float b t
 | .ref a,u=>u=Value.ref a
 | .ty n,u=>u=Value.type n
abbrev ZJ:List V->List jX->Prop:=Paired ZH
def ZJ.length(r:ZJ L us):L.9=us.9:=(m9 r)
def ZJ.get:∀{L:aG}{us:jT}{i:Nat}{x:V},ZJ L us->L[i]?=8 x->∃u,us[i]?=8 u/\ZH x u:=(λ{L us i x} r e=>by
 induction r generalizing i with
 | nil=>ext e
 | cons r _ a=>cases i with
  | zero=>ext e;rwa[1,r]
  | succ i=>rwa[a e])
def ZJ.set(r:ZH x u):∀{L:aG}{us:jT}(i:Nat),ZJ L us->ZJ (L.set i x) (us.set i u):=(λi s=>by
 induction s generalizing i with
 | nil=>rwa[.nil]
 | cons q t a=>cases i with
  | zero=>rwa[.cons r t]
  | succ i=>rwa[.cons q (a i)])
def ZJ.append:∀{L ys:aG}{us a:jT},ZJ L us->ZJ ys a->ZJ (L++ys) (us++a):=(λr s=>by
 induction r with
 | nil=>rwa[s]
 | cons r _ a=>rwa[.cons r a])
def ZJ.take:∀{L:aG}{us:jT}(n:Nat),ZJ L us->ZJ (L.take n) (us.take n):=(λn s=>by
 induction s generalizing n with
 | nil=>ext n<;>rwa[.nil]
 | cons q t a=>cases n with
  | zero=>rwa[.nil]
  | succ i=>rwa[.cons q (a i)])
def ZJ.drop:∀{L:aG}{us:jT}(n:Nat),ZJ L us->ZJ (L.drop n) (us.drop n):=(λn s=>by
 induction s generalizing n with
 | nil=>ext n<;>rwa[.nil]
 | cons q t a=>cases n with
  | zero=>rwa[.cons q t]
  | succ i=>rwa[a i])
def ZJ.none_of:∀{L:aG}{us:jT}{i:Nat},ZJ L us->L[i]?=_n->us[i]?=none:=(λ{L us i} r e=>by
 let a:=r.9;let a:L.9<=i:=List.getElem?_eq_none_iff.mp e;rwa[List.getElem?_eq_none_iff.mpr ()])
def YU:Option V->Option jX->Prop
 | some v,_s u=>ZH v u
 | none,_n=>True
 | _,_=>False
def KV{κ:Type}:List (κ×V)->List (κ×jX)->Prop:=Paired λ(p:κ×V) (q:κ×jX)=>p.1=q.1/\ZH p.2 q.2
def kV:ZV->V
 | .inl i=>4 i
 | .inr x=>5 x
inductive HO where
 | lst (L:aG)
 | tup (L:aG)
 | dK (U:List (ZV×V)) | dT (U:List (List ZV×V))
 | set (S:Int->Bool) (n:Nat)
 | ins (C a:jY) (a:List (Str×V))
 | own (x:jY)
 | xd (a:List (Str×V))
 | met (f x:jY)
 | rng (lo a:Int)
 | frz (o:Obj) (u:HO)
 | tbl (a:Array jX)
 | ext (a:Heap->Prop)
abbrev Hp:=jY->Option HO
def upd(H:Hp)(a:jY)(o:HO):Hp:=λb=>if b=a then 8 o else H b
def Zi:upd H a o a=8 o:=by unfold upd;rw[_j S]
def Ze(h:b≠a):upd H a o b=H b:=by unfold upd;rw[_i h]
def KQ{H:Hp}{a b:jY}{o u:HO}(h:H a=8 o)(h':H b=8 u)(d:o≠u):a≠b:=by grind
def Zl{H:Hp}{a b:jY}{o:HO}(h:H a=8 o)(h':H b=_n):a≠b:=by
 intro e;subst e;rw[h] at h';ext h'
section
variable(P:jZ)(w:kB)
def ZQ(H:Hp)(h:Heap)(a:jY):HO->Prop
 | .lst L=>L.9<=_z/\∃(b:jT)(n:Nat),ZJ L b/\h.get? a=_s {cls:=.type "list", data:=.seq b.toArray n }
 | .tup L=>L.9<=_z/\∃b:List jX,ZJ L b/\IsTup h a b.4
 | .dK U=>U.9<=_z/\(a==sysModules)=_x/\∃b,KV U b/\h.DictOf (Wu P w) a b
 | .dT U=>U.9<=_z/\(a==sysModules)=_x/\∃L:List (List ZV×jY×jX),
   Paired (λ(p:List ZV×V) (q:List ZV×jY×jX)=>p.1=q.1/\H q.2.1=8 (7 (p.1.map kV))/\ZH p.2 q.2.2) U L /\
   ∃o b c,h.get? a=8 o/\o.ExactDict/\o.data=.dict b c/\b.toList=L.map (entryOfKey (tupleKind (Wu P w)))/\(L.map (·.1)).Nodup
 | .set S n=>h.SetOf (intKind P w) a S n
 | .ins C d c=>H d=8 (.own a)/\c.9<=1000/\d≠a/\h.get? a=8 (instObj C d)/\
   ∃b,h.Ns1 d b/\(∀f,YU (c.lookup f) (b f))/\PySem.Within b (c.map (·.1))
 | .own _=>∃o,h.get? a=8 o
 | .xd c=>∃b,h.Ns1 a b/\∀f,YU (c.lookup f) (b f)
 | .rng lo b=>∃t u v,h.get? a=_s {cls:=.type "range", data:=.fields #[4 lo t,4 b u,4 1 v] }
 | .frz o u=>h.get? a=8 o/\ZQ H h a u
 | .tbl b=>∃c e t,h.get? a=_s {cls:=.none,data:=.fields c }/\TriplesOk c.toList/\b[0]?=8 (5 e t)/\∀b d,codeAmong b c.toList=8 d->∃c,d=3 c/\H c=8 (.own a)/\h.CodeRec (3 c) e
 | .met f x=>h.get? a=8 (methodObj (3 f) (3 x))
 | .ext b=>b h/\(∃o,h.get? a=8 o)/\∀c d:Heap,b c->(∀o,c.get? a=8 o->d.get? a=8 o)->b d
def YT(H:Hp)(h:Heap):Prop:=∀a o,H a=8 o->ZQ P w H h a o
end
section
variable{P:jZ}{w:kB}{H:Hp}{h h':Heap}{a:jY}{o:HO}
def ZQ.lt(x:ZQ P w H h a o):a<h.7:=by
 cases o with
 | lst L=>let(2222,e):=x;rwa[xO e]
 | tup L=>let(222,p):=x;rwa[p.lt]
 | dK U=>let(2222,o,22,e,2):=x;rwa[xO e]
 | dT U=>let(2222,o,22,e,2):=x;rwa[xO e]
 | set S n=>let(o,222,e,2):=x;rwa[xO e]
 | ins C c b=>let(222,e,2):=x;rwa[xO e]
 | own y=>let(2,e):=x;rwa[xO e]
 | xd b=>let(2,(222,e,2),2):=x;rwa[xO e]
 | rng lo b=>let(222,e):=x;rwa[xO e]
 | frz b u=>let(e,2):=x;rwa[xO e]
 | tbl b=>let(222,e,2):=x;rwa[xO e]
 | met f y=>rwa[xO (show h.get? a=8 _ from x)]
 | ext b=>let(2,(2,e),2):=x;rwa[xO e]
def Paired.mapP{c d:Type}{F G:c->d->Prop}:∀{l₁:List c}{l₂:List d},Paired F l₁ l₂->(∀a b,F a b->G a b)->Paired G l₁ l₂:=(λr f=>by
 induction r with
 | nil=>rwa[.nil]
 | cons r _ c=>rwa[.cons (f _ _ r) c])
def ZQ.oP(x:ZQ P w H h a o)(k:∀b u,(b=a\/H b=8 (.own a))->h.get? b=8 u->h'.get? b=8 u)(A:∀b,H b=8 (.own a)->J b=8 (.own a))(l:∀b L,H b=8 (7 L)->J b=8 (7 L)):ZQ P w J h' a o:=by
 induction o with
 | lst L=>let(z,d,n,r,e):=x;rwa[z,d,n,r,k _ _ (1 rfl) e]
 | tup L=>let(z,d,r,f,e,c):=x;rwa[z,d,r,f,k _ _ (1 rfl) e,c]
 | dK U=>let(z,y,m,r,f,i,g,e,c):=x;rwa[z,y,m,r,f,i,g,k _ _ (1 rfl) e,c]
 | dT U =>
  let(z,y,L,r,f,i,g,e,c,d,s,j):=x;rwa[z,y,L,Paired.mapP r λp q z=>(z.1,l _ _ z.2.1,z.2.2),f,i,g,k _ _ (1 rfl) e,c,d,s,j]
 | set S n=>let(f,i,g,t,e,c):=x;rwa[f,i,g,t,k _ _ (1 rfl) e,c]
 | ins C d n =>
  let(d,z,v,e,l,(od,i,g,j,c),r,B):=x;rwa[A _ d,z,v,k _ _ (1 rfl) e,l,(od,i,g,k _ _ (2 d) j,c),r,B]
 | own y=>let(f,e):=x;rwa[f,k _ _ (1 rfl) e]
 | xd n=>let(l,(od,i,g,e,c),r):=x;rwa[l,(od,i,g,k _ _ (1 rfl) e,c),r]
 | rng lo d=>let(t,u,v,e):=x;rwa[t,u,v,k _ _ (1 rfl) e]
 | frz f u d=>let(e,q):=x;rwa[k _ _ (1 rfl) e,d q]
 | tbl d =>
  let(f,d,t,e,g,i,z):=x;erw[f,d,t,k a _ (1 rfl) e,g,i,λd f r=>?_];let(c,g,j,s,t,m,v,i,l,n):=z d f r;ext i;rwa[c,g,A _ j,c,t,m,v,7,k _ _ (2 j) l,n]
 | met f y =>
  let e:h.get? a=8 (methodObj (3 f) (3 y)):=x;show h'.get? a=8 (methodObj (3 f) (3 y));rwa[k a _ (1 rfl) e]
 | ext c=>let(p,(o,e),st):=x;rwa[st _ _ p λo q=>k _ _ (1 rfl) q,(o,k _ _ (1 rfl) e),st]
def YT.lt(x:YT P w H h)(e:H a=8 o):a<h.7:=((x a o e).lt)
def YT.fresh(x:YT P w H h)(e:h.7<=a):H a=none:=by
 cases q:H a with
 | none=>rfl
 | some u=>rwa[_a (yG (x.lt q) e) (zF _)]
def YT.kept(x:YT P w H h)(k:∀b u,h.get? b=8 u->h'.get? b=8 u):YT P w H h':=(λa o e =>
 (x a o e).oP (λb u _ q=>k b u q) (λ_ q=>q) λ_ _ q=>q)
def YT.laid(x:YT P w H h)(k:∀b u,h.get? b=8 u->h'.get? b=8 u)(d:h.7<=a)(c:ZQ P w (upd H a o) h' a o):YT P w (upd H a o) h':=(λb u e=>by
 let f:=x.fresh d
 by_cases d:b=a
 .subst d;rw[Zi] at e;ext e;rwa[c]
 .rw[Ze d] at e;exact(x b u e).oP (λc v _ q=>k c v q) (λc q=>by rw[Ze (Zl q f)];rwa[q]) λc L q=>by rw[Ze (Zl q f)];rwa[q])
end
def Rd(H:Hp)(a:jY)(u:HO):Prop:=H a=8 u\/∃o,H a=8 (.frz o u)
def Rd.ok(r:Rd H a u)(x:YT P w H h):ZQ P w H h a u:=by
 rcases r with r | ⟨o,r⟩
 .rwa[x a u r]
 .let(2,q):=x a _ r;rwa[q]
def Ce:Option HO->Prop
 | some (.lst _)=>True
 | some (.dK _)=>True
 | some (.dT _)=>True
 | some (.set _ _)=>True
 | some (.ins _ _ _)=>True
 | some (.ext _)=>True
 | _=>False
def YT.write(j:YT P w H h)(a:Ce (H x))(c:e=x\/H e=8 (.own x))(k:∀b u,b≠e->h.get? b=8 u->h'.get? b=8 u)(g:∃u,h'.get? e=8 u)(i:ZQ P w (upd H x o') h' x o'):YT P w (upd H x o') h':=(λb u q=>by
 let d:∀c y,H c=8 (.own y)->c≠x:=λc y r z=>by subst z;rw[r] at a;rwa[a]
 let f:∀c L,H c=8 (7 L)->c≠x:=λc L r z=>by subst z;rw[r] at a;rwa[a]
 by_cases a:b=x
 .subst a;rw[Zi] at q;ext q;rwa[i]
 .rw[Ze a] at q
  by_cases a:b=e
  .let i:H b=8 (.own x):=by grind
   rw[q] at i;ext i;let(v,i):=g;rwa[v,by rw[a];rwa[i]]
  .refine(j b u q).oP (λc v g r=>k c v ?_ r) (λc r=>by rw[Ze (d c b r)];rwa[r]) λc L r=>by rw[Ze (f c L r)];rwa[r]
   rcases g with rfl | g
   .rwa[a]
   .grind)
structure Un (fs ex:jV) (H J:Hp) (h h':Heap):Prop where
 keep:∀b o,h.get? b=8 o->H b=_n->b∉fs->b∉ex->h'.get? b=8 o
 slot:∀b o,h.get? b=8 o->H b=_n->b∈fs->b∉ex->∃sl,h'.get? b=_s {o with slots:=sl }
 free:∀b o,h.get? b=8 o->H b=_n->b∉ex->J b=_n
 there:∀b o,h.get? b=8 o->b∉ex->∃o',h'.get? b=8 o'
 j3:∀b L,H b=8 (7 L)->J b=8 (7 L)
 o6:∀b o u,H b=8 (.frz o u)->J b=8 (.frz o u)
 oU:∀b ps,H b=8 (.tbl ps)->∃more,J b=8 (.tbl (ps++more))
section
variable{fs ex:jV}{H:Hp}{h h':Heap}{a:jY}{o:HO}
def Un.any(u:Un fs ex H H1 h h1)(q:h.get? b=8 ob)(n:H b=_n)(d:b∉ex):∃c,h1.get? b=_s {ob with slots:=c }:=by
 by_cases c:b∈fs
 .rwa[u.slot b ob q n c d]
 .rwa[ob.slots,u.keep b ob q n c d]
def Un.kept(k:∀b u,h.get? b=8 u->h'.get? b=8 u):Un fs ex H H h h':=((λb c q _ _ _=>k b c q,λb c q _ _ _=>(c.slots,k b c q),λ_ _ _ n _=>n,λb c q _=>(c,k b c q),λ_ _ q=>q,λ_ _ _ q=>q,λ_ c q=>(#[],by rw[q];simp)))
def Un.refl:Un fs ex H H h h:=(Un.kept λ_ _ q=>q)
theorem Un.laid(k:∀b u,h.get? b=8 u->h'.get? b=8 u)(d:h.7<=a)(c:H a=_n):Un fs ex H (upd H a o) h h' where
 keep:=λb u q _ _ _=>k b u q
 slot:=λb u q _ _ _=>(u.slots,k b u q)
 free:=λb u q n _=>by rw[Ze (yF (yG (xO q) d))];rwa[n]
 there:=λb u q _=>(u,k b u q)
 j3:=λb L q=>by rw[Ze (Zl q c)];rwa[q]
 o6:=λb u L q=>by rw[Ze (Zl q c)];rwa[q]
 oU:=λb d q=>(#[],by rw[Ze (Zl q c),q];simp)
def Un.write(c:Ce (H x))(d:e=x\/H e=8 (.own x))(k:∀b u,b≠e->h.get? b=8 u->h'.get? b=8 u)(d:∃u,h'.get? e=8 u):Un fs ex H (upd H x o) h h':=by
 let i:∀b,H b=_n->b≠x:=λb n z=>by subst z;rw[n] at c;rwa[c]
 let g:∀b,H b=_n->b≠e:=λb n z=>by grind
 let f:∀b u,H b=8 u->¬Ce (8 u)->b≠x:=λb u q j z=>by subst z;rw[q] at c;rwa[j c]
 refine(λb u q n _ _=>k b u (g b n) q,λb u q n _ _=>(u.slots,k b u (g b n) q),λb u q n _=>by rw[Ze (i b n)];rwa[n],λb u q _=>?_,
  λb L q=>by rw[Ze (f b _ q λz=>z)];rwa[q],λb u L q=>by rw[Ze (f b _ q λz=>z)];rwa[q],λb c q=>(#[],by rw[Ze (f b _ q λz=>z),q];simp))
 by_cases c:b=e
 .subst c;rwa[d]
 .rwa[u,k b u c q]
end
def trk(h:Heap)(H:Hp):List jY:=(List.range h.7).filter λa=>(H a).isSome
def Ag(h:Heap)(H:Hp):Heap:=hideAll h (trk h H)
def iD(h:Heap)(H:Hp):(Ag h H).7=h.7:=(PySem.W.hideAll_size _ _)
def iY(e:h.get? b=8 o)(n:H b=_n):(Ag h H).get? b=8 o:=(hideAll_get _ e λa=>by
  let q:(H b).isSome=true:=(zN.mp a).2;rw[n] at q;simp at q)
def SC(e:(Ag h H).get? b=8 o):h.get? b=8 o/\H b=none:=by
 let a:h.get? b=8 o:=of_hideAll (trk h H) e;erw[a,5];cases q:H b with
 | none=>rfl
 | some x =>
  let c:b∈trk h H:=zN.mpr (yU.mpr (xO a),by simp[q]);let z:(Ag h H).get? b=none:=hideAll_none (trk h H) c;rw[z] at e;ext e
structure Mod (K:uFg) (mg:jR) (base:Heap):Prop where
 kin:K.In base
 glob:base.Ns _g mg
 blt:∃mb,base.Ns builtinsNs mb/\∀x:Str,x ≠ "__name__" -> mb x=_o x
 nolimit:base.NoLimit
structure Cx where
 prog:jZ
 w:kB
 K:uFg
 mg:Str->Option jX
 base:Heap
 A:kD
 N:List Str
 s₀:jW
 H₀:Hp
 env:Env
 outer:List Env
 stack:List Env
 ex:List jY
 fn:Str->Bool
 calm:Bool
 pn:List (jY×Obj)
 xe:jX->jW->Prop
def frs(l:List Env):List jY:=l.filterMap (·.frame)
abbrev Cx.fs(X:Cx):List jY:=frs X.outer
def DI(a:Scope)(x:Str):Prop:=a.names.lookup x=8 .local\/a.names.lookup x=8 .cell\/a.names.lookup x=8 .free
def DC(a:Scope)(x:Str):Prop:=a.names.lookup x=8 .local\/a.names.lookup x=8 .cell
def iU(env:Env)(h:Heap)(m:jR)(x:Str)(u:jX):Prop :=
 (env.kindOf x=8 .local/\m x=8 u)\/((env.kindOf x=8 .cell\/env.kindOf x=8 .free)/\∃c,env.cells.lookup x=8 c/\h.IsCell c (8 u))
structure Cx.Ok (X:Cx):Prop where
 mod:Mod X.K X.mg X.base
 kind:X.env.scope.kind=.function
 glob:X.env.globals=_g
 blt:X.env.builtins=builtinsNs
 above:X.s₀.8<=X.env.locals
 inj:∀x y c,X.env.cells.lookup x=8 c->X.env.cells.lookup y=8 c->x=y
 has:∀x,(X.env.kindOf x=8 .cell\/X.env.kindOf x=8 .free)->∃c,X.env.cells.lookup x=8 c
 ib:∀x c,X.fn x=_t->X.env.cells.lookup x=8 c->X.s₀.8<=c
 hd:X.calm=_t->X.A.handled=_n
 frames:X.A.frames=8 X.stack
 oQ:X.stack=X.outer\/(X.stack=X.env::X.outer/\X.env.frame=8 X.env.locals)
 exf:∀b∈X.ex,b≠X.env.locals/\∀x c,X.env.cells.lookup x=8 c->c≠b
 bs:∀b o,X.base.get? b=8 o->X.s₀.heap.get? b=8 o/\X.H₀ b=_n
 ia:X.base.7<=X.s₀.8
 oz:∀b o,X.base.get? b=8 o->b∉X.ex
 iu:∀b∈X.ex,b∉X.fs
 o7:X.s₀.heap.FunFrames X.base X.outer
 iz:∀b∈X.fs,X.H₀ b=_n
structure ZD (X:Cx) (B:List (jY×Obj)) (Y:List (Option V)) (H:Hp) (s:jW):Prop where
 ok:X.Ok
 os:s.os=X.s₀.os
 bare:AllBare s.gens
 base:Un X.fs X.ex X.H₀ H X.s₀.heap s.heap
 loc:∃m,s.heap.Ns X.env.locals m/\∀(i:Nat)(x:Str)(v:V),X.N[i]?=8 x->Y[i]?=8 (8 v)->DI X.env.scope x->∃u,ZH v u/\iU X.env s.heap m x u
 cell:∀x c,X.env.cells.lookup x=8 c->∃v,s.heap.IsCell c v
 free:H X.env.locals=_n
 iy:∀x c,X.env.cells.lookup x=8 c->H c=_n
 pin:∀p∈X.pn++B,s.heap.get? p.1=8 p.2/\H p.1=_n/\p.1≠X.env.locals/\p.1∉X.fs/\∀v,p.2.data ≠ .cell v
 og:YT X.prog X.w H s.heap
 len:Y.9=X.N.9
section
variable{X:Cx}
def Cx.Ok.nofr(c:X.Ok){b:jY}{o:Obj}(e:X.base.get? b=8 o):b∉X.fs:=(λa=>by
 have:=(c.o7.mem a).1;rw[e] at this;ext this)
def ZD.bs(I:ZD X B Y H s):∀b o,X.base.get? b=8 o->s.heap.get? b=8 o/\H b=none:=(λb o e =>
 (I.base.keep b o (I.ok.bs b o e).1 (I.ok.bs b o e).2 (I.ok.nofr e) (I.ok.oz b o e),I.base.free b o (I.ok.bs b o e).1 (I.ok.bs b o e).2 (I.ok.oz b o e)))
def ZD.bk(I:ZD X B Y H s):∀b o,X.base.get? b=8 o->s.heap.get? b=8 o:=(λb o e=>(I.bs b o e).1)
def ZD.mod(I:ZD X B Y H s):Mod X.K X.mg X.base:=(I.ok.mod)
def ZD.oi(I:ZD X B Y H s):X.K.In s.heap:=(I.ok.mod.kin.keeps I.bk)
def ZD.lt(I:ZD X B Y H s):X.env.locals<s.8:=(let ⟨_,a,_⟩:=I.loc;a.lt)
def ZD.sz(I:ZD X B Y H s):X.s₀.8<=s.8:=(xX I.ok.above (zC I.lt))
def ZD.nofs(I:ZD X B Y H s){a:jY}(h:s.8<=a):a∉X.fs:=(λb=>by
 let(2,o,c,2):=I.ok.o7.mem b;rwa[_a (yG (xO c) (xX I.sz h)) (zF _)])
def ZD.cne(I:ZD X B Y H s):∀x c,X.env.cells.lookup x=8 c->c≠X.env.locals:=(λx c e z=>by
 let(v,o,f,d):=I.cell x c e;let(m,(h,g,e,b,a,2),2):=I.loc;rw[z,b] at f;ext f;rw[a] at d;ext d)
def ZD.o7(I:ZD X B Y H s):s.heap.FunFrames X.base X.outer:=by
 let a:∀(l:List Env),(∀b∈frs l,b∈X.fs)->X.s₀.heap.FunFrames X.base l->s.heap.FunFrames X.base l:=by
  intro l
  induction l with
  | nil=>intro _ _;trivial
  | cons c r l =>
   intro f c;let(h,(L,o,d,i,j,g),k):=c;let c:L∈X.fs:=f L (by unfold frs;rw[wM,d];rwa[yC]);let(m,e):=I.base.slot L o j (I.ok.iz L c) c λz=>I.ok.iu L z c;rwa[h,(L,2,d,i,e,g),l (λb c=>f b (by unfold frs;rw[wM,d];rwa[xP _ c])) k]
 rwa[a X.outer (λ_ c=>c) I.ok.o7]
def ZD.stack(I:ZD X B Y H s):s.heap.FunFrames X.base X.stack:=by
 rcases I.ok.oQ with e | ⟨e,hf⟩
 .rw[e];rwa[I.o7]
 .rw[e];let(m,a,2):=I.loc;erw[.cons (by rw[I.ok.kind];decide) hf a ?_ I.o7];rwa[Heap.get?_none_of_le (xX I.ok.ia I.ok.above)]
def ZD.oS(I:ZD X B Y H s):∀b∈frs X.stack,b∈X.env.locals::X.fs:=(λb a=>by
 rcases I.ok.oQ with e | ⟨e,hf⟩
 .grind
 .rw[e] at a;unfold frs at a;rw[wM,hf] at a;rwa[a])
def ZD.oR(I:ZD X B Y H s):∀b∈frs X.stack,H b=none:=(λb a=>by
 rcases xE.mp (I.oS b a) with e | a
 .rw[e];rwa[I.free]
 .let(2,o,c,2):=I.ok.o7.mem a;rwa[I.base.free b o c (I.ok.iz b a) λz=>I.ok.iu b z a])
def ZD.step{g':Array GenState}{t':Nat}{d':Drawn}{ch:jV}(I:ZD X B Y H s)(g:∀b∈ch,(b∈X.ex\/X.s₀.8<=b)/\b≠X.env.locals/\(∀x c,X.env.cells.lookup x=8 c->c≠b)/\∀p∈X.pn++B,p.1≠b)(keep:∀b o,b≠X.env.locals->b∉X.fs->b∉ch->s.heap.get? b=8 o->H b=_n->h'.get? b=8 o)(l:∀b o,b≠X.env.locals->b∈X.fs->b∉ch->s.heap.get? b=8 o->H b=_n->∃K,h'.get? b=_s {o with slots:=K })(f:∀b o,b∉ch->s.heap.get? b=8 o->H b=_n->J b=_n)(t:∀b o,b∉ch->s.heap.get? b=8 o->∃C,h'.get? b=8 C)(y:∀b L,H b=8 (7 L)->J b=8 (7 L))(j:∀b o u,H b=8 (.frz o u)->J b=8 (.frz o u))(E:∀b ps,H b=8 (.tbl ps)->∃a,J b=8 (.tbl (ps++a)))(ns:∀m,s.heap.Ns X.env.locals m->h'.Ns X.env.locals m)(G:YT X.prog X.w J h')(M:AllBare g') :
  ZD X B Y J {s with heap:=h',gens:=g',drawn:=d',toks:=t' }:=by
 let A:∀b o,X.s₀.heap.get? b=8 o->b≠X.env.locals:=λb o e=>yF (yG (xO e) I.ok.above);let i:∀b o,X.s₀.heap.get? b=8 o->b∉X.ex->b∉ch:=λb o e a r=>by
  rcases(g b r).1 with z | z
  .rwa[a z]
  .rwa[_a (yG (xO e) z) (zF _)]
 let d:∀x c,X.env.cells.lookup x=8 c->∀v,s.heap.IsCell c v->h'.IsCell c v:=λx c e v ⟨o,w,F⟩=>by
  let h:c∉ch:=λz=>(g c z).2.2.1 x c e S
  by_cases n:c∈X.fs
  .let(K,q):=l c o (I.cne x c e) n h w (I.iy x c e);rwa[2,q,F]
  .rwa[o,keep c o (I.cne x c e) n h w (I.iy x c e),F]
 erw[I.ok,I.os,M,(λb o e n r a=>?_,λb o e n r a=>?_,λb o e n a=>?_,λb o e a=>?_,λb L e=>y b L (I.base.j3 b L e),λb o L e=>j b o L (I.base.o6 b o L e),λb ps e=>?_),5,λx c e=>?_,5,λx c e=>?_,λp M=>?_,G,I.len]
 .rwa[keep b o (A b o e) r (i b o e a) (I.base.keep b o e n r a) (I.base.free b o e n a)]
 .let(K,j):=I.base.slot b o e n r a;let(G,y):=l b _ (A b o e) r (i b o e a) j (I.base.free b o e n a);rwa[G,y]
 .let(C,j):=I.base.there b o e a;rwa[f b C (i b o e a) j (I.base.free b o e n a)]
 .let(C,j):=I.base.there b o e a;rwa[t b C (i b o e a) j]
 .let(a,j):=I.base.oU b ps e;let(i,y):=E b _ j;rwa[a++i,by rw[y,Array.append_assoc]]
 .let(m,a,t):=I.loc;erw[m,ns m a,λi x v j y a=>?_];let(u,r,l):=t i x v j y a;erw[u,r,5];rcases l with l | ⟨k,c,e,z⟩
  .rwa[1 l]
  .rwa[2 (k,c,e,d x c e _ z)]
 .let(v,z):=I.cell x c e;rwa[v,d x c e v z]
 .let(m,(o,22,w,2),2):=I.loc;rwa[f _ o (λz=>(g _ z).2.1 S) w I.free]
 .let(v,o,w,F):=I.cell x c e;rwa[f c o (λz=>(g c z).2.2.1 x c e S) w (I.iy x c e)]
 .let(e,n,a,i,d):=I.pin p M;let h:p.1∉ch:=λz=>(g p.1 z).2.2.2 p M S;rwa[keep p.1 p.2 a i h e n,f p.1 p.2 h e n,a,i,d]
def ZD.un(I:ZD X B Y H s)(u:Un X.fs [] H J s.heap h')(d:YT X.prog X.w J h'):ZD X B Y J {s with heap:=h',toks:=t' }:=by
 let(m,(o,b,a,f,r),2):=id I.loc;let(a,g):=u.any f I.free (by simp)
 exact I.step (g':=s.gens) (d':=s.drawn) (ch:=[]) (λ_ z=>nomatch z) (λb o _ a _ e n=>u.keep b o e n a (by simp)) (λb o _ a _ e n=>u.slot b o e n a (by simp)) (λb o _ e n=>u.free b o e n (by simp)) (λb o _ e=>u.there b o e (by simp)) u.j3 u.o6 u.oU (λa e=>by
  let(i,c,b,a,h):=e;rw[f] at a;ext a
  rwa[2,c,b,g,h]) d I.bare
def ZD.call(I:ZD X B Y H s)(u:Un (frs X.stack) ch H J s.heap h')(g:YT X.prog X.w J h')(i:AllBare g')(a:∀b∈ch,(b∈X.ex\/X.s₀.8<=b)/\b≠X.env.locals/\(∀x c,X.env.cells.lookup x=8 c->c≠b)/\∀p∈X.pn++B,p.1≠b) :
  ZD X B Y J {s with heap:=h',gens:=g',drawn:=d',toks:=t' }:=by
 let(m,(o,e,d,h,r),2):=id I.loc;let(d,f):=u.any h I.free λz=>(a _ z).2.1 S
 exact I.step (ch:=ch) a (λb o f d a e n=>u.keep b o e n (λz=>(xE.mp (I.oS b z)).elim f d) a) (λb o _ _ a e n=>u.any e n a) (λb o a e n=>u.free b o e n a) (λb o a e=>u.there b o e a) u.j3 u.o6 u.oU (λa j=>by
  let(l,e,d,a,k):=j;rw[h] at a;ext a
  rwa[2,e,d,f,k]) g i
def ZD.turned(I:ZD X B Y H s)(k:∀b o,b≠it->s.heap.get? b=8 o->h'.get? b=8 o)(a:H it=_n)(h:it≠X.env.locals)(d:it∈X.ex\/X.s₀.8<=it)(d:∀x c,X.env.cells.lookup x=8 c->c≠it)(d:∀p∈X.pn++B,p.1≠it):ZD X B Y H {s with heap:=h',toks:=t' }:=by
 let d:∀b u,H b=8 u->b≠it:=λb u e z=>by rw[z,a] at e;ext e
 refine I.step (g':=s.gens) (d':=s.drawn) (ch:=[it]) (λb a=>?_) (λb o _ _ a e _=>k b o (λz=>a (by simp[z])) e) (λb o _ _ a e _=>(o.slots,k b o (λz=>a (by simp[z])) e)) (λ_ _ _ _ n=>n)
  (λb o a e=>(o,k b o (λz=>a (by simp[z])) e)) (λ_ _ e=>e) (λ_ _ _ e=>e) (λb f e=>(#[],by rw[e];simp)) (λm i=>?_) (λb u e=>?_) I.bare
 .grind
 .let(o,g,f,j,r):=i;rwa[o,g,f,k _ o (Ne.symm h) j,r]
 .erw[(I.og b u e).oP (λc v a q=>k c v ?_ q) (λ_ q=>q) λ_ _ q=>q];rcases a with z | z
  .rw[z];rwa[d b u e]
  .rwa[d c _ z]
def ZD.tok(I:ZD X B Y H s)(t:Nat):ZD X B Y H {s with toks:=t }:=(I.un (h':=s.heap) (t':=t) Un.refl I.og)
def ZD.kept(I:ZD X B Y H s)(k:∀b u,s.heap.get? b=8 u->h'.get? b=8 u):ZD X B Y H {s with heap:=h',toks:=t' }:=(I.un (Un.kept k) (I.og.kept k))
def ZD.laid{a:jY}{o:HO}{t':Nat}(I:ZD X B Y H s)(k:∀b u,s.heap.get? b=8 u->h'.get? b=8 u)(c:s.8<=a)(d:ZQ X.prog X.w (upd H a o) h' a o) :
  ZD X B Y (upd H a o) {s with heap:=h',toks:=t' }:=(I.un (Un.laid k c (I.og.fresh c)) (I.og.laid k c d))
def ZD.write(I:ZD X B Y H s)(f:Ce (H x))(d:e=x\/H e=8 (.own x))(k:∀b u,b≠e->s.heap.get? b=8 u->h'.get? b=8 u)(a:∃u,h'.get? e=8 u)(c:ZQ X.prog X.w (upd H x o) h' x o):ZD X B Y (upd H x o) {s with heap:=h',toks:=t' }:=(I.un (Un.write f d k a) (I.og.write f d k a c))
def ZD.oI(I:ZD X B Y H s)(h:∀p∈pins',s.heap.get? p.1=8 p.2/\H p.1=_n/\p.1≠X.env.locals/\p.1∉X.fs/\∀v,p.2.data ≠ .cell v):ZD X pins' Y H s:=((I.ok,I.os,I.bare,I.base,I.loc,I.cell,I.free,I.iy,λp a=>(xL.mp a).elim (λz=>I.pin p (yR _ z)) (h p),I.og,I.len))
def Mr{N:jS}(e:N.Nodup){i j:Nat}{x:Str}(a:N[i]?=8 x)(b:N[j]?=8 x):i=j:=by
 let(d,c):=xF.mp a;let(f,d):=xF.mp b;rwa[(List.getElem_inj e).mp (c.trans d.6)]
def jC(I:ZD X B Y H s)(hN:X.N.Nodup)(R:X.N[i]?=8 x)(w:DC X.env.scope x)(r:ZH v u)(h:∀b,ZD X B (Y.set i (8 v)) H b->(∃a,Heap.SameBut a s.heap b.heap/\(a=X.env.locals\/X.env.cells.lookup x=8 a))->Q _u b)(c:X.fn x=_t\/X.env.scope.names.lookup x=8 .local:=by first | rwa[1 S]| rwa[2 S]| assumption):_w M A (storeName X.env x u) Q E s:=by
 let(m,hn,hl):=id I.loc;let g:(X.env.scope.kind==.class || (X.env.scope.kind==.module&&X.env.locals != X.env.globals))=false:=by rw[I.ok.kind];rfl
 let F:i<Y.9:=by rw[I.len];rwa[(xF.mp R).1]
 let G:=I.cne;let l:∀{a:jY}{N:Heap},(∃o,s.heap.get? a=8 o/\H a=_n)->Heap.SameBut a s.heap N->YT X.prog X.w H N:=λ{a N} c f b j e=>by
  let(22,d):=c;erw[(I.og b j e).oP (λc Z t q=>(f.2 c ?_).trans q) (λ_ q=>q) λ_ _ q=>q];rintro rfl;rcases t with rfl | t
  .rw[d] at e;ext e
  .rw[d] at t;ext t
 rcases w with O | O
 .erw[wpAny_storeName_local O hn (λN d f=>?_) g];let(z,22,k,2):=id hn;erw[h _ (I.ok,I.os,I.bare,(λb o e n J w=>?_,λb o e n J w=>?_,I.base.free,λb o e w=>?_,I.base.j3,I.base.o6,I.base.oU),(2,d,λj y v' g C e3=>?_),λy c e=>?_,I.free,I.iy,λp hp=>?_,l (z,k,I.free) f,by simpa using I.len) (2,f,1 S)]
  .rwa[(f.2 b (yF (yG (xO e) I.ok.above))).trans (I.base.keep b o e n J w)]
  .let(sl,g):=I.base.slot b o e n J w;rwa[sl,(f.2 b (yF (yG (xO e) I.ok.above))).trans g]
  .let(o',g):=I.base.there b o e w;rwa[o',(f.2 b (yF (yG (xO e) I.ok.above))).trans g]
  .by_cases L:j=i
   .subst L;rw[R] at g;ext g;rw[List.getElem?_set_self F] at C;ext C;rwa[u,r,1 (O,by simp)]
   .rw[List.getElem?_set_ne (Ne.symm L)] at C;let(u',r',q):=hl j y v' g C e3;erw[u',r',5];rcases q with⟨k,e⟩ | ⟨k,c,e,z⟩
    .erw[1 (k,5)];have:y≠x:=λe=>L (Mr hN g (e▸R));simp[this,e]
    .rwa[2 (k,c,e,z.sameBut f (G y c e))]
  .let(Z,z):=I.cell y c e;rwa[Z,z.sameBut f (G y c e)]
  .let(e,n,W,nf,d):=I.pin p hp;rwa[(f.2 p.1 W).trans e,n,W,nf,d]
 .let K:X.fn x=true:=by grind
  let(c,t):=I.ok.has x (1 O);let(Z,z):=I.cell x c t;erw[wpAny_storeName_cell I.ok.kind O t z (λN P f=>?_)];let(oc,T,U):=id z;erw[h {s with heap:=N } (I.ok,I.os,I.bare,(λb o e n J w=>?_,λb o e n J w=>?_,I.base.free,λb o e w=>?_,I.base.j3,I.base.o6,I.base.oU),(m,hn.sameBut f (Ne.symm (G x c t)),λj y v' g C e3=>?_),λy m e=>?_,I.free,I.iy,λp hp=>?_,l (oc,T,I.iy x c t) f,by simpa using I.len) (c,f,2 t)]
  .rwa[(f.2 b (yF (yG (xO e) (I.ok.ib x c K t)))).trans (I.base.keep b o e n J w)]
  .let(sl,g):=I.base.slot b o e n J w;rwa[sl,(f.2 b (yF (yG (xO e) (I.ok.ib x c K t)))).trans g]
  .let(o',g):=I.base.there b o e w;rwa[o',(f.2 b (yF (yG (xO e) (I.ok.ib x c K t)))).trans g]
  .by_cases L:j=i
   .subst L;rw[R] at g;ext g;rw[List.getElem?_set_self F] at C;ext C;rwa[u,r,2 (1 O,c,t,P)]
   .rw[List.getElem?_set_ne (Ne.symm L)] at C;let(u',r',q):=hl j y v' g C e3;erw[u',r',5];rcases q with q | ⟨k,m,e,z'⟩
    .rwa[1 q]
    .erw[2 (k,m,e,z'.sameBut f ?_)];rintro rfl;rwa[L (Mr hN g (I.ok.inj _ _ _ e t▸R))]
  .by_cases b:m=c
   .subst b;rwa[2,P]
   .let(c,g):=I.cell y m e;rwa[c,g.sameBut f b]
  .let(e,n,W,nf,d):=I.pin p hp;erw[(f.2 p.1 ?_).trans e,n,W,nf,d];intro q;rw[q,T] at e;let b:oc=p.2:=ma e;rwa[d Z (by rw[<- b];rwa[U])]
def FN(I:ZD X B Y H s)(b:X.N.Nodup)(d:X.N[i]?=8 x)(e:DC X.env.scope x)(r:ZH v u)(h:∀a,ZD X B (Y.set i (8 v)) H a->Q _u a)(c:autoParam (X.fn x=_t\/X.env.scope.names.lookup x=8 .local) jC._auto_1):_w M A (storeName X.env x u) Q E s:=(jC I b d e r (λa b _=>h a b) c)
def ZD.ie(I:ZD X B Y H s)(i:s'.os=s.os)(u:Un (frs X.stack) ch H J s.heap s'.heap)(d:YT X.prog X.w J s'.heap)(h:AllBare s'.gens)(a:∀b∈ch,(b∈X.ex\/X.s₀.8<=b)/\b≠X.env.locals/\(∀x c,X.env.cells.lookup x=8 c->c≠b)/\∀p∈X.pn++B,p.1≠b):ZD X B Y J s':=by
 let(e,g,f,k,j):=s';let e:j=s.os:=i;subst e;rwa[I.call (g':=g) (t':=k) (d':=f) u d h a]
end
abbrev XK:=jX->Option jY->Hp->Prop
abbrev St:=List (Option V)
abbrev VK:=V->Hp->Prop
abbrev TE:=St->Hp->VK->Prop
abbrev TT:=St->Hp->(Bool->Hp->Prop)->Prop
abbrev TA:=St->Hp->(List V->Hp->Prop)->Prop
structure YG where
 nx:St->Hp->Prop
 rt:VK
 bk:St->Hp->Prop:=λ_ _=>False
 ct:St->Hp->Prop:=λ_ _=>False
abbrev TS:=YG->St->Hp->Prop
def EP(X:Cx)(B:List (jY×Obj))(Y:St)(Q:VK)(u:jX)(a:jW):Prop:=∃v J,ZD X B Y J a/\ZH v u/\Q v J
def TP(X:Cx)(B:List (jY×Obj))(Y:St)(Q:Bool->Hp->Prop)(b:Bool)(a:jW):Prop:=∃J,ZD X B Y J a/\Q b J
def AP(X:Cx)(B:List (jY×Obj))(Y:St)(Q:List V->Hp->Prop)(us:jT)(b:jW):Prop:=∃a J,ZD X B Y J b/\ZJ a us/\Q a J
def SP(X:Cx)(B:List (jY×Obj))(D:YG)(f:Flow)(b:jW):Prop :=
 match f with
 | .next=>∃ a J,ZD X B a J b/\D.nx a J
 | .brk=>∃ a J,ZD X B a J b/\D.bk a J
 | .cont=>∃ a J,ZD X B a J b/\D.ct a J
 | .ret u=>∃v a J,ZD X B a J b/\ZH v u/\D.rt v J
def PE(X:Cx)(e:Expr)(t:TE):Prop :=
 ∀(B:List (jY×Obj))(s:jW)(Y:St)(H:Hp)(Q:VK),ZD X B Y H s->t Y H Q->_w (_m X.prog X.w) X.A (eval e X.env) (EP X B Y Q) X.xe s
def PT(X:Cx)(e:Expr)(t:TT):Prop :=
 ∀(B:List (jY×Obj))(s:jW)(Y:St)(H:Hp)(Q:Bool->Hp->Prop),ZD X B Y H s->t Y H Q->_w (_m X.prog X.w) X.A (isTrue e X.env (eval e X.env)) (TP X B Y Q) X.xe s
def PW(X:Cx)(e:Expr)(t:TT):Prop :=
 ∀(a:Sem jX)(B:List (jY×Obj))(s:jW)(Y:St)(H:Hp)(Q:Bool->Hp->Prop),ZD X B Y H s->t Y H Q->_w (_m X.prog X.w) X.A (isTrue e X.env a) (TP X B Y Q) X.xe s
def PW.pt(h:PW X e t):PT X e t:=(h _)
def PA(X:Cx)(es:List Expr)(t:TA):Prop :=
 ∀(a:Pos)(B:List (jY×Obj))(s:jW)(Y:St)(H:Hp)(Q:List V->Hp->Prop),ZD X B Y H s->t Y H Q->_w (_m X.prog X.w) X.A (spliced (backTo a (_e es X.env))) (AP X B Y Q) X.xe s
def PS(X:Cx)(st:Stmt)(t:TS):Prop :=
 ∀(B:List (jY×Obj))(s:jW)(Y:St)(H:Hp)(D:YG),ZD X B Y H s->t D Y H->_w (_m X.prog X.w) X.A (exec st X.env) (SP X B D) X.xe s
def AR(X:Cx)(st:List Stmt)(t:TS):Prop :=
 ∀(B:List (jY×Obj))(s:jW)(Y:St)(H:Hp)(D:YG),ZD X B Y H s->t D Y H->_w (_m X.prog X.w) X.A (execs st X.env) (SP X B D) X.xe s
def thn{c:Type}{t:Sem c}{Q b:c->jW->Prop}(h:_w M A t Q E s)(hQ:∀a s,Q a s->b a s):_w M A t b E s:=(wpAny_mono h hQ λ_ _ x=>x)
section
variable{X:Cx}
inductive YL(i:Nat)(Y:St)(H:Hp)(Q:VK):Prop
 |mk(v)(_:Y[i]?=8 (8 v))(_:Q v H)
def tC(v:V):TE:=λ_ H Q=>Q v H
def DU{i:Nat}{x:Str}{pos:Pos}(a:X.N[i]?=8 x)(j:DI X.env.scope x)(f:autoParam ((x==("__debug__":Str))=false) y3z)(d:autoParam ((x==("__classdict__":Str))=false) y3z):PE X (.Name x pos) (YL i):=by
 intro B s Y H Q I h;let(v,e,h):=h;let(m,g,b):=I.loc;let(u,r,l):=b i x v a e j;let a:EP X B Y Q u s:=(v,H,I,r,h);rcases l with⟨b,e⟩ | ⟨b,c,hc,hcell⟩
 .rwa[wpAny_Name (wpAny_loadName_local I.ok.kind b g e a) f]
 .rcases b with b | b
  .rwa[wpAny_Name (wpAny_loadName_cell I.ok.kind b hc hcell a) f]
  .rwa[wpAny_Name (wpAny_loadName_free I.ok.kind b hc hcell a d) f]
def Gl(X:Cx)(x:Str):Prop:=X.env.kindOf x=8 .globalImplicit
def BM{E:jQ}{B:List (jY×Obj)}{s:jW}{Y:St}{H:Hp}{x:Str}{u:jX}{pos:Pos}{Q:jQ}(I:ZD X B Y H s)(b:Gl X x)(c:X.mg x=8 u)(h:Q u s)(a:autoParam ((x==("__debug__":Str))=false) y3z):_w (_m X.prog X.w) X.A (eval (.Name x pos) X.env) Q E s:=(Calls.Name_function_global I.ok.kind b (Calls.loadGlobal_global (by rw[I.ok.glob];rwa[I.mod.glob.keeps I.bk]) c h) a)
def Ui{E:jQ}{B:List (jY×Obj)}{s:jW}{Y:St}{H:Hp}{x:Str}{u:jX}{pos:Pos}{Q:jQ}(I:ZD X B Y H s)(d:Gl X x)(e:X.mg x=_n)(g:_o x=8 u)(h:Q u s)(f:x ≠ "__name__" := by decide)(c:autoParam ((x==("__debug__":Str))=false) y3z):_w (_m X.prog X.w) X.A (eval (.Name x pos) X.env) Q E s:=by
 let(i,a,b):=I.mod.blt;rwa[Calls.Name_function_global I.ok.kind d (Calls.loadGlobal_builtin (by rw[I.ok.glob];rwa[I.mod.glob.keeps I.bk]) e (by rw[I.ok.blt];rwa[a.keeps I.bk]) ((b x f).trans g) h) c]
def Rc(b:Gl X x)(c:X.mg x=8 u)(r:ZH v u)(a:autoParam ((x==("__debug__":Str))=false) y3z):PE X (.Name x pos) (tC v):=(λ_ _ _ H _ I h=>BM I b c (v,H,I,r,h) a)
def X9{x:Str}{v:V}{u:jX}{pos:Pos}(b:Gl X x)(c:X.mg x=_n)(e:_o x=8 u)(r:ZH v u)(d:x ≠ "__name__" := by decide)(a:autoParam ((x==("__debug__":Str))=false) y3z):PE X (.Name x pos) (tC v):=(λ_ _ _ H _ I h=>Ui I b c e (v,H,I,r,h) d a)
variable{a b:Expr}{ta tb:TE}{pos:Pos}
inductive SE(Q:Bool->Hp->Prop)(x:V)(d:Hp):Prop
 |mk(c)(_:x=.bl c)(_:Q c d)
def tB(t:TE):TT:=λY H Q=>t Y H λx c=>SE Q x c
variable{tA tB':TT}{rest:List Expr}
def SN(t u:TT):TT:=λY H Q=>t Y H λc d=>if c=_t then u Y d Q else Q _x d
def Og(t u:TT):TT:=λY H Q=>t Y H λc d=>if c=_t then Q _t d else u Y d Q
def Po(t:TT):TT:=λY H Q=>t Y H λc d=>Q (!c) d
inductive Bz(tb:TE)(Y:St)(Q:VK)(x:V)(d:Hp):Prop
 |mk(c)(_:x=.bl c)(_:if c=_t then tb Y d Q else Q (.bl _x) d)
def jM(ta tb:TE):TE:=λY H Q=>ta Y H λx c=>Bz tb Y Q x c
inductive Bq(Q:VK)(x:V)(d:Hp):Prop
 |mk(c)(_:x=.bl c)(_:Q (.bl (!c)) d)
def Si(ta:TE):TE:=λY H Q=>ta Y H λx c=>Bq Q x c
def RB {op} (h:PE X a t):PE X (.BoolOp op [a] pos) t:=(λB s Y H Q I c=>BoolOp_one (h B s Y H Q I c))
def NC(t:TT)(ta tb:TE):TE:=λY H Q=>t Y H λc d=>if c=_t then ta Y d Q else tb Y d Q
end
def ZG(K:uFg)(H:Hp)(a:jY)(L:aG):Prop :=
 Rd H a (6 L)\/
  ∃o b n,K.lookup a=8 o/\o.cls=.type "list" /\ o.dict=_n/\o.data=.seq b n/\b.5<=_z/\ZJ L b.toList
def ZO(K:uFg)(H:Hp)(a:jY)(L:aG):Prop :=
 Rd H a (7 L)\/
  ∃o b n,K.lookup a=8 o/\o.cls=.type "tuple" /\ o.data=.seq b n/\b.5<=_z/\ZJ L b.toList
def bP:jX->Option V
 | .none=>8 .non
 | .bool b=>8 (.bl b)
 | .int i _=>8 (4 i)
 | .str x _=>8 (5 x)
 | .bytes b _=>8 (.byt b)
 | .float b _=>8 (.flt b)
 | .ref a=>8 (3 a)
 | .type n=>8 (.ty n)
 | _=>_n
def ZH.abs(r:ZH x u):bP u=8 x:=by
 cases x with
 | non=>ext r;rfl
 | bl _=>ext r;rfl
 | int _=>let(t,3):=r;rfl
 | str _=>let(t,3):=r;rfl
 | byt _=>let(t,3):=r;rfl
 | flt _=>let(t,3):=r;rfl
 | ref _=>ext r;rfl
 | ty _=>ext r;rfl
def ZH.inj(r:ZH x u)(q:ZH y u):x=y:=(ma (r.abs.symm.trans q.abs))
def ZJ.inj:∀{L ys:aG}{us:jT},ZJ L us->ZJ ys us->L=ys:=(λ{L ys us} r s=>by
 induction r generalizing ys with
 | nil=>ext s;rfl
 | cons r _ a=>cases s with | cons q t=>rw[r.inj q,a t])
section
variable{X:Cx}{B:List (jY×Obj)}{Y:St}{H:Hp}{s:jW}{a:jY}{L ys:aG}
def ZG.of{K:uFg}(h:H a=8 (6 L)):ZG K H a L:=(1 (1 h))
def ZO.of{K:uFg}(h:H a=8 (7 L)):ZO K H a L:=(1 (1 h))
def ZD.list(I:ZD X B Y H s)(h:ZG X.K H a L):∃b:List jX,ZJ L b/\PlainL s.heap a b.4/\L.9<=sizeLine:=by
 rcases h with h | ⟨o,b,n,hk,hc,hd,hs,hz,r⟩
 .let(z,b,n,r,e):=h.ok I.og;rwa[b,r,(2,n,e,333),z]
 .erw[b.toList,r,(o,n,I.oi a o hk,hc,hd,by simpa using hs),5];let e:=r.9;simp only[zO] at e;lia
def ZD.tuple(I:ZD X B Y H s)(h:ZO X.K H a L):∃b:List jX,ZJ L b/\IsTup s.heap a b.4/\L.9<=sizeLine:=by
 rcases h with h | ⟨o,b,n,hk,hc,hs,hz,r⟩
 .let(z,b,r,p):=h.ok I.og;rwa[b,r,p,z]
 .erw[b.toList,r,(o,I.oi a o hk,hc,n,by simpa using hs),5];let e:=r.9;simp only[zO] at e;lia
def ZD.oq(I:ZD X B Y H s)(h:ZG X.K H a L)(h':ZG X.K H a ys):L=ys:=by
 let(c,r,(o,n,e,22,d),2):=I.list h;let(b,i,(k,j,g,22,f),2):=I.list h';rw[e] at g;ext g;rw[d] at f;injection f with d _
 have:c=b:=by simpa using congrArg Array.toList d
 subst this;rwa[r.inj i]
def ZD.oZ(I:ZD X B Y H s)(h:ZO X.K H a L)(h':ZO X.K H a ys):L=ys:=by
 let(c,r,(o,e,2,n,d),2):=I.tuple h;let(b,i,(k,g,2,j,f),2):=I.tuple h';rw[e] at g;ext g;rw[d] at f;injection f with d _
 have:c=b:=by simpa using congrArg Array.toList d
 subst this;rwa[r.inj i]
end
abbrev Cx.ja(X:Cx)(E:jQ):Cx:={X with xe:=E }
abbrev Cx.oE(X:Cx):Cx:=X.ja λ_ _=>False
def Cx.Ok.ja{X:Cx}(a:X.Ok)(E:jQ):(X.ja E).Ok:=((a.mod,a.kind,a.glob,a.blt,a.above,a.inj,a.has,a.ib,a.hd,a.frames,a.oQ,a.exf,a.bs,a.ia,a.oz,a.iu,a.o7,a.iz))
def Cx.Ok.j7{X:Cx}{E:jQ}(a:(X.ja E).Ok):X.Ok:=((a.mod,a.kind,a.glob,a.blt,a.above,a.inj,a.has,a.ib,a.hd,a.frames,a.oQ,a.exf,a.bs,a.ia,a.oz,a.iu,a.o7,a.iz))
section
variable{X:Cx}{B:List (jY×Obj)}{Y:St}{H:Hp}{s:jW}{E:jQ}
def ZD.ja(I:ZD X B Y H s)(E:jQ):ZD (X.ja E) B Y H s:=((I.ok.ja E,I.os,I.bare,I.base,I.loc,I.cell,I.free,I.iy,I.pin,I.og,I.len))
def ZD.j7(I:ZD (X.ja E) B Y H s):ZD X B Y H s:=((I.ok.j7,I.os,I.bare,I.base,I.loc,I.cell,I.free,I.iy,I.pin,I.og,I.len))
def SP.j7(h:SP (X.ja E) B D f s'):SP X B D f s':=by
 cases f with
 | next=>let(a,J,I,q):=h;rwa[a,J,I.j7,q]
 | brk=>let(a,J,I,q):=h;rwa[a,J,I.j7,q]
 | cont=>let(a,J,I,q):=h;rwa[a,J,I.j7,q]
 | ret u=>let(v,a,J,I,r,q):=h;rwa[v,a,J,I.j7,r,q]
def AR.oE{st:List Stmt}{t:TS}(h:AR X.oE st t):AR X st t:=(λB s Y H D I a =>
 wpAny_mono (h B s Y H D (I.ja _) a) (λ_ _ q=>q.j7) λ_ _ z=>False.elim z)
end
section
variable{X:Cx}{st:Stmt}{rest:List Stmt}{t u:TS}{te:TE}
def Y7:TS:=λD Y H=>D.nx Y H
def Uu(t u:TS):TS:=λD Y H=>t {D with nx:=u D } Y H
def Sh:TS:=λD Y H=>D.ct Y H
def ZD.quiet{B:List (jY×Obj)}{Y:St}{H:Hp}{s:jW}(I:ZD X B Y H s):interactive X.env=false:=by simp[interactive,I.ok.kind]
def Fp(te:TE):TS:=λD Y H=>te Y H λ_ a=>D.nx Y a
def Sz(te:TE):TS:=λD Y H=>te Y H D.rt
def E5(c:TT)(t u:TS):TS:=λD Y H=>c Y H λb a=>if b=_t then t D Y a else u D Y a
end
abbrev TG:=V->St->Hp->(St->Hp->Prop)->Prop
abbrev Jo:=List V->St->Hp->(St->Hp->Prop)->Prop
def PG(X:Cx)(a:Expr)(t:TG):Prop :=
 ∀(B:List (jY×Obj))(s:jW)(Y:St)(H:Hp)(v:V)(u:jX)(Q:St->Hp->Prop),ZD X B Y H s->ZH v u->t v Y H Q ->
  _w (_m X.prog X.w) X.A (assign a X.env u) (λ_ b=>∃ a J,ZD X B a J b/\Q a J) X.xe s
def IM(X:Cx)(ts:List Expr)(t:Jo):Prop :=
 ∀(B:List (jY×Obj))(s:jW)(Y:St)(H:Hp)(b:aG)(a:jT)(Q:St->Hp->Prop),ZD X B Y H s->ZJ b a->t b Y H Q ->
  _w (_m X.prog X.w) X.A (assignInOrder ((assignEach ts X.env).map (·.2)) a) (λ_ b=>∃ a J,ZD X B a J b/\Q a J) X.xe s
abbrev DL:=V->V->V->Hp->(Hp->Prop)->Prop
def gK(X:Cx)(t:DL):Prop :=
 ∀(B:List (jY×Obj))(s:jW)(Y:St)(H:Hp)(o i v:V)(b a u:jX)(Q:Hp->Prop),ZD X B Y H s->ZH o b->ZH i a->ZH v u->t o i v H Q ->
  _w (_m X.prog X.w) X.A (setItem b a u) (λ_ a=>∃J,ZD X B Y J a/\Q J) X.xe s
section
variable{X:Cx}{pos:Pos}
def Wv(i:Nat):TG:=λv Y H Q=>Q (Y.set i (8 v)) H
def Ff(a:X.N.Nodup)(c:X.N[i]?=8 x)(d:DC X.env.scope x)(b:autoParam (X.fn x=_t\/X.env.scope.names.lookup x=8 .local) jC._auto_1):PG X (.Name x pos) (Wv i):=by
 intro B s Y H v u Q I r h;rwa[wpAny_assign_Name (FN I a c d r (λc a=>(2,H,a,h)) b)]
def GB:Jo:=λa Y H Q=>a=[]/\Q Y H
inductive UD(t:TG)(u:Jo)(vs:aG)(Y:St)(H:Hp)(Q:St->Hp->Prop):Prop
 |mk(v r)(_:vs=v::r)(_:t v Y H λa J=>u r a J Q)
inductive J8(K:uFg)(n:Nat)(t:Jo)(v:V)(Y:St)(H:Hp)(Q:St->Hp->Prop):Prop
 |mk(a L)(_:v=3 a)(_:ZO K H a L)(_:L.9=n)(_:t L Y H Q)
def HG{es:List Expr}{k:Nat}{t:Jo}{n:Nat}(e:X.calm=_t)(h:IM X es t)(g:autoParam ((assignEach es X.env).9=n) y1z)(b:autoParam ((assignEach es X.env).findIdx? (·.1)=none) y1z):PG X (.Tuple es k pos) (J8 X.K n t):=by
 intro B s Y H v u Q I r c;let(a,L,d,i,f,c):=c;subst d;ext r;let(j,a,d,l):=I.tuple i;erw[assign_Tuple_tuple (I.ok.hd e) d (by simp[g,<- f,a.9]) b λb f=>?_];let d:ZD X B Y H {s with heap:=b }:=I.kept (t':=s.toks) λb o e=>f b o (yF (xO e)) e;rwa[h B _ Y H L _ Q d (by simpa using a) c]
def dY(a b:TE)(t:DL):TG:=λv Y H Q=>a Y H λo a=>b Y a λi a=>t o i v a λa=>Q Y a
def JJ(te:TE)(g:TG):TS:=λD Y H=>te Y H λx a=>g x Y a D.nx
def GT{i:Nat}{x:Str}{e:Expr}{te:TE}{a:Pos}(c:X.N.Nodup)(f:X.N[i]?=8 x)(g:DC X.env.scope x)(b:PE X e te)(hs:autoParam (swapsWith e (8 (.Name x a)) pos.line X.env=pure false) y1z)(d:autoParam (X.fn x=_t\/X.env.scope.names.lookup x=8 .local) jC._auto_1) :
  PS X (.Assign [.Name x a] e pos) (JJ te (Wv i)):=by
 intro B s Y H D I h;erw[wpAny_Assign_Name (thn (b B s Y H _ I h) λv k ⟨y,a,b,j,h⟩=>?_) hs];rwa[FN b c f g j (λc b=>(2,a,b,h)) d]
end
def Sy(c:TT)(e:TS):TS:=λD Y H=>∃W:Nat->St->Hp->Prop,(∃m,W m Y H)/\∀m Y H,W m Y H ->
 c Y H λb d=>if b=_t then ∃N:St->Hp->Prop,(∀ a J,N a J->∃b,b<m/\W b a J)/\e {D with nx:=N,ct:=N,bk:=D.nx } Y d else D.nx Y d
structure It where
 go:Nat->Hp->Prop
 jb:Nat->Hp->V->Hp->Prop
 stop:Nat->Hp->Prop
def Y8(X:Cx)(B:List (jY×Obj))(H:Hp)(b:jY):Prop :=
 H b=_n/\b≠X.env.locals/\b∉X.fs/\(b∈X.ex\/X.s₀.8<=b)/\(∀x c,X.env.cells.lookup x=8 c->c≠b)/\∀p∈X.pn++B,p.1≠b
def ZD.ix{X:Cx}{B:List (jY×Obj)}{Y:St}{H J:Hp}{s:jW}{b:jY}(I:ZD X B Y H s)(a:s.8<=b)(c:J b=_n):Y8 X B J b:=by
 erw[c,wW (yG I.lt a),I.nofs a,2 (xX I.sz a),λx c e z=>?_,λp d z=>?_]
 .let(v,q):=I.cell x c e;rwa[_a (yG q.lt (by rw[z];rwa[a])) (zF _)]
 .rwa[_a (yG (xO (I.pin p d).1) (by rw[z];rwa[a])) (zF _)]
structure VL (P:jZ) (w:kB) (K:uFg) (tg:Expr) (Jqz:It) (fp:jV) (it:jY) (tn:Nat->Heap->Prop):Prop where
 mem:it∈fp
 obj:∀i h,tn i h->∀b∈fp,∃o,h.get? b=8 o/\∀v,o.data ≠ .cell v
 keep:∀i h h',tn i h->(∀b∈fp,∀o,h.get? b=8 o->h'.get? b=8 o)->tn i h'
 item:∀(X:Cx),X.prog=P->X.w=w->X.K=K->X.calm=_t->∀(i:Nat)(B:List (jY×Obj))(s:jW)(Y:St)(H:Hp)(E:jQ),ZD X B Y H s->(∀b∈fp,Y8 X B H b)->tn i s.heap->Jqz.go i H ->
  _w (_m P w) X.A (pyNext (3 it)) (λr s1=>∃u,r=8 u /\
   _w (_m P w) X.A (letOwnedTupleGo tg (3 it) u) (λ_ s2=>∃x J,ZD X B Y J s2/\ZH x u/\Jqz.jb i H x J/\tn (i+1) s2.heap/\∀b∈fp,J b=_n) E s1) E s
 done:∀(X:Cx),X.prog=P->X.w=w->X.K=K->X.calm=_t->∀(i:Nat)(B:List (jY×Obj))(s:jW)(Y:St)(H:Hp)(E:jQ),ZD X B Y H s->(∀b∈fp,Y8 X B H b)->tn i s.heap->Jqz.stop i H ->
  _w (_m P w) X.A (pyNext (3 it)) (λr s1=>r=_n/\ZD X B Y H s1) E s
 self:∀(A:kD)(i:Nat)(s:jW)(Q:jQ)(E:jQ),tn i s.heap->Q (3 it) s->_w (_m P w) A (pyIter (3 it)) Q E s
abbrev TI:=St->Hp->(It->Hp->Prop)->Prop
def Eh(X:Cx)(B:List (jY×Obj))(Y:St)(f:Expr)(R:It->Hp->Prop)(b:jX)(d:jW):Prop :=
 ∃it c e a J,b=3 it/\ZD X B Y J d/\VL X.prog X.w X.K f a c it e/\e 0 d.heap/\(∀b∈c,Y8 X B J b)/\R a J
def PI(X:Cx)(b a:Expr)(c:TI):Prop :=
 ∀(B:List (jY×Obj))(s:jW)(Y:St)(H:Hp)(R:It->Hp->Prop),ZD X B Y H s->c Y H R ->
  _w (_m X.prog X.w) X.A (eval a X.env) (λv a=>_w (_m X.prog X.w) X.A (pyIter v) (Eh X B Y b R) X.xe a) X.xe s
def BV(d:s.heap.get? it=8 o)(a:o.cls=.type n)(b:o.data=.fields vs)(c:["enumerate","zip","dict_itemiterator","dict_reverseitemiterator","odict_iterator","itertools.zip_longest","itertools.pairwise"].contains n=_x)(hQ:Q _u s):_w M A (letOwnedTupleGo tg (3 it) u) Q E s:=by
  unfold letOwnedTupleGo;ext tg<;>first
    | rwa[_p hQ]
    | (ext u<;>first
        | rwa[_p hQ]
        | (refine _b (wpAny_load d ?_)
           rw[a,b];show _w M A (if (["enumerate","zip","dict_itemiterator","dict_reverseitemiterator","odict_iterator","itertools.zip_longest","itertools.pairwise"].contains n&&vs[0]?==8 (rawInt _))=_t then _ else _) Q E s;rw[_i (by intro h;rw[c,wJ] at h;ext h)]
           rwa[_p hQ]))
def JO(K:uFg)(a:jY):It :=
 (λi H=>∃L x,ZG K H a L/\L[i]?=8 x,λi H x J=>J=H/\∀L,ZG K H a L->L[i]?=8 x,λi H=>∃L,ZG K H a L/\L.9<=i)
def Gx(K:uFg)(a:jY):It :=
 (λi H=>∃L x,ZO K H a L/\L[i]?=8 x,λi H x J=>J=H/\∀L,ZO K H a L->L[i]?=8 x,λi H=>∃L,ZO K H a L/\L.9<=i)
def JP(lo:Int)(n:Nat):It:=(λi _=>i<n,λi H x J=>J=H/\x=4 (lo+i),λi _=>n<=i)
def Pb{P:jZ}{w:kB}{K:uFg}{b:Expr}(a it:jY):VL P w K b (JO K a) [it] it (λi h=>h.IsListIter it a i) where
 mem:=by simp
 obj:=λi h st b f=>by
  let e:b=it:=by simpa using f
  subst e;let(o,e,c,d):=st;rwa[o,e,λv z=>by rw[d] at z;ext z]
 keep:=λi h j st k=>st.at λo e=>k it (by simp) o e
 item:=by
  intro X z C y M i B s Y H E I k st A;subst z C y;let(L,x,l,F):=A;let(G,J,p,Q):=I.list l;let(u,g,R):=J.get F;let(m,n,O,r,t,v):=k it (by simp);erw[wpAny_pyNext_list_item st p.isList (x:=u) (by simpa using g) λj g T=>?_];let N:ZD X B Y H {s with heap:=j }:=I.turned (t':=s.toks) (λb o f e=>(T.2 b f).trans e) m n r t v;let(o,e,c,d):=id g;rwa[u,3,BV (s:={s with heap:=j }) e c d aA (x,H,N,R,(3,λd c=>by rw[I.oq c l];rwa[F]),g,λb f=>(k b f).1)]
 done:=by
  intro X z C y M i B s Y H E I k st A;subst z C y;let(L,l,F):=A;let(G,J,p,Q):=I.list l;let(m,n,O,r,t,v):=k it (by simp);let c:=J.9;rwa[wpAny_pyNext_list_end (I.ok.hd M) st p.isList (by simp;lia) λj c=>(3,I.turned (t':=s.toks) (λb o f e=>c b o f e) m n r t v)]
 self:=λ_ _ _ _ _ st h=>wpAny_pyIter_listiter st h
def RY{P:jZ}{w:kB}{K:uFg}{b:Expr}(a it:jY):VL P w K b (Gx K a) [it] it (λi h=>h.IsTupleIter it a i) where
 mem:=by simp
 obj:=λi h st b f=>by
  let e:b=it:=by simpa using f
  subst e;let(o,e,c,d):=st;rwa[o,e,λv z=>by rw[d] at z;ext z]
 keep:=λi h l st k=>st.at λo e=>k it (by simp) o e
 item:=by
  intro X A F z M i B s Y H E I k st C;subst A F z;let(L,x,m,G):=C;let(g,J,p,Q):=I.tuple m;let(u,j,R):=J.get G;let(n,r,O,t,v,y):=k it (by simp);erw[wpAny_pyNext_tuple_item st (show s.heap.IsTuple a g.4 from p) (x:=u) (by simpa using j) λl j T=>?_];let N:ZD X B Y H {s with heap:=l }:=I.turned (t':=s.toks) (λb o f e=>(T.2 b f).trans e) n r t v y;let(o,e,c,d):=id j;rwa[u,3,BV (s:={s with heap:=l }) e c d aA (x,H,N,R,(3,λd c=>by rw[I.oZ c m];rwa[G]),j,λb f=>(k b f).1)]
 done:=by
  intro X A F z M i B s Y H E I k st C;subst A F z;let(L,m,G):=C;let(g,J,p,Q):=I.tuple m;let(n,r,O,t,v,y):=k it (by simp);let c:=J.9;rwa[wpAny_pyNext_tuple_end (I.ok.hd M) st (show s.heap.IsTuple a g.4 from p) (by simp;lia) λl c=>(3,I.turned (t':=s.toks) (λb o f e=>c b o f e) n r t v y)]
 self:=λ_ _ _ _ _ st h=>wpAny_pyIter_tupleiter st h
def So{P:jZ}{w:kB}{K:uFg}{a:Expr}(it:jY)(lo:Int)(n:Nat):VL P w K a (JP lo n) [it] it (λi h=>IsRangeIter h it (lo+(i:Nat) * 1) ((n:Int) - (i:Nat)) 1) where
 mem:=by simp
 obj:=λi h st b a=>by grind
 keep:=λi h d st k=>k it (by simp) _ st
 item:=by
  intro X r y p u i B s Y H E I f st x;subst r y p;let(g,j,A,k,l,m):=f it (by simp);let W:=Walks.range (prog:=X.prog) (w:=X.w) (I.ok.hd u) it lo 1 n;erw[W.item i s _ _ x st λv d z e c C=>?_];let(t,3):=e;let v:ZD X B Y H {s with heap:=d,toks:=z }:=I.turned (λb o a e=>C b o (by simpa using a) e) g j k l m;erw[1,BV (s:={s with heap:=d,toks:=z }) (n:="range_iterator") c S S aA (4 (lo+i),H,v,(t,5),(3,3),c,λb a=>(f b a).1)];rw[Int.mul_one]
 done:=by
  intro X r y p u i B s Y H E I f st x;subst r y p;let(g,j,A,k,l,m):=f it (by simp);rwa[wpAny_pyNext_range_end (I.ok.hd u) st (by have:n<=i:=x;lia) λd c=>(3,I.turned (t':=s.toks) (λb o a e=>c b o a e) g j k l m)]
 self:=λ_ _ _ _ _ st h=>wpAny_pyIter_rangeiter st h
section
variable{X:Cx}{tg:Expr}
inductive Bb(K:uFg)(R:It->Hp->Prop)(x:V)(b:Hp):Prop
 |mk(a)(_:x=3 a)(_:(∃L,ZG K b a L))(_:R (JO K a) b)
def jE(K:uFg)(a:TE):TI:=λY H R=>a Y H λx a=>Bb K R x a
inductive Co(K:uFg)(R:It->Hp->Prop)(x:V)(b:Hp):Prop
 |mk(a)(_:x=3 a)(_:(∃L,ZO K b a L))(_:R (Gx K a) b)
def eU(K:uFg)(a:TE):TI:=λY H R=>a Y H λx a=>Co K R x a
def IU{B:List (jY×Obj)}{Y:St}{H:Hp}{s:jW}{R:It->Hp->Prop}{E:jQ}{lo a:Int}{t u v:Tok}{tk:Nat}(I:ZD X B Y H s)(b : -(2^62)<=lo)(c:lo<2^62)(d : -(2^62)<=a)(e:a<2^62)(q:R (JP lo (a - lo).toNat) H):_w (_m X.prog X.w) X.A (pyIter (3 s.8)) (Eh X B Y tg R) E {s with heap:=s.heap.push {cls:=.type "range", data:=.fields #[4 lo t,4 a u,4 1 v] },toks:=tk }:=by
 erw[wpAny_pyIter_range (IsRange.new ..) (small_one b c d e) ?_];let c:ZD X B Y H {s with heap:=s.heap.push {cls:=.type "range", data:=.fields #[4 lo t,4 a u,4 1 v] },toks:=tk }:=I.kept λb o e=>xC _ e;erw[(s.heap.push {cls:=.type "range", data:=.fields #[4 lo t,4 a u,4 1 v] }).7,[(s.heap.push {cls:=.type "range", data:=.fields #[4 lo t,4 a u,4 1 v] }).7],22,H,3, c.kept (t':=tk) λb o e=>xC _ e,So _ lo (a - lo).toNat,5,λb g=>?_,q]
 .let d:lo+((0:Nat):Int) * 1=lo:=by simp
  let f:(((a - lo).toNat:Nat):Int) - ((0:Nat):Int)=Builtin.Range.rangeSize lo a 1:=by rw[rangeSize_one];split<;>lia
  show IsRangeIter _ _ (lo+((0:Nat):Int) * 1) ((((a - lo).toNat:Nat):Int) - ((0:Nat):Int)) 1;rw[d,f];rwa[xN _ S]
 .let e:b=(s.heap.push {cls:=.type "range", data:=.fields #[4 lo t,4 a u,4 1 v] }).7:=by simpa using g
  subst e;rwa[c.ix (xD _) (c.og.fresh (xD _))]
inductive AV(R:It->Hp->Prop)(vs:aG)(a:Hp):Prop
 |mk(j)(_:vs=[4 j])(_:-(2^62)<=j)(_:j<2^62)(_:R (JP 0 j.toNat) a)
def gN(a:TA):TI:=λY H R=>a Y H λb a=>AV R b a
inductive AM(R:It->Hp->Prop)(vs:aG)(a:Hp):Prop
 |mk(i j)(_:vs=[4 i,4 j])(_:(-(2^62)<=i/\i<2^62 /\ -(2^62)<=j/\j<2^62))(_:R (JP i (j - i).toNat) a)
def RU(a:TA):TI:=λY H R=>a Y H λb a=>AM R b a
def jO(a:TI)(g:TG)(d:TS):TS:=λD Y H=>a Y H λa b=>∃W:Nat->Nat->St->Hp->Prop,(∃m,W 0 m Y b)/\∀i m Y H,W i m Y H ->
 (a.stop i H/\D.nx Y H)\/(a.go i H/\∃N:St->Hp->Prop,(∀ b J,N b J->∃c,c<m/\W (i+1) c b J)/\∀x J,a.jb i H x J->g x Y J λa b=>d {D with nx:=N,ct:=N,bk:=D.nx } a b)
def Bm(a:jV)(h:Heap):List (jY×Obj):=a.filterMap λb=>(h.get? b).map λo=>(b,o)
def CJ(a:b∈fp)(e:h.get? b=8 o):(b,o)∈Bm fp h:=(List.mem_filterMap.mpr (b,a,by rw[e];rfl))
def HI(a:p∈Bm fp h):p.1∈fp/\h.get? p.1=8 p.2:=by
 let(b,c,e):=List.mem_filterMap.mp a;cases q:h.get? b with
 | none=>rw[q] at e;ext e
 | some o =>
  rw[q] at e;let a:(b,o)=p:=ma e;subst a;rwa[c,q]
def ZD.pinned{B:List (jY×Obj)}{Y:St}{H:Hp}{s:jW}{a:jV}(I:ZD X B Y H s)(d:∀b∈a,Y8 X B H b)(i:∀b∈a,∃o,s.heap.get? b=8 o/\∀v,o.data ≠ .cell v):ZD X (B++Bm a s.heap) Y H s:=(I.oI λp a=>(xL.mp a).elim (λz=>I.pin p (xJ _ z)) λz=>by
  let(c,e):=HI z;let(f,g,h,2):=d p.1 c;let(o,a,d):=i p.1 c;rw[e] at a;ext a;rwa[e,f,g,h,d])
def ZD.j5{B pl:List (jY×Obj)}{Y:St}{H:Hp}{s:jW}(I:ZD X (B++pl) Y H s):ZD X B Y H s:=(I.oI λp a=>I.pin p (xJ _ (yR _ a)))
end
def Oa{K:uFg}{a:jY}{L:aG}{g:TG}{e:TS}{D:YG}{Y:St}{H:Hp}(Pv:Nat->St->Hp->Prop)(f:Pv 0 Y H)(j:∀i Y H,i<=L.9->Pv i Y H->ZG K H a L)(hs:∀i x Y H,L[i]?=8 x->Pv i Y H->g x Y H λc d=>e {D with nx:=Pv (i+1),ct:=Pv (i+1),bk:=D.nx } c d)(h:∀ Y H,Pv L.length Y H->D.nx Y H) :
  ∃W:Nat->Nat->St->Hp->Prop,(∃m,W 0 m Y H)/\∀i m Y H,W i m Y H ->
   ((JO K a).stop i H/\D.nx Y H)\/((JO K a).go i H/\∃N:St->Hp->Prop,(∀ b J,N b J->∃m',m'<m/\W (i+1) m' b J)/\∀x J,(JO K a).jb i H x J->g x Y J λc d=>e {D with nx:=N,ct:=N,bk:=D.nx } c d):=by
 erw[λi m Y H=>m=L.9 - i/\i<=L.9/\Pv i Y H,(L.9,by simp,yI _,f),5];rintro i m Y H ⟨rfl,c,p⟩;let q:=j i Y H c p
 by_cases c:i<L.9
 .erw[2 ((L,L[i],q,by simp[c]),Pv (i+1),λb J d=>(L.9 - (i+1),63,c,d),λx J y=>?_)];let(e,y):=y;subst e;rwa[hs i x Y _ (y L q) p]
 .let e:i=L.9:=by lia
  subst e;rwa[1 ((L,q,xD _),h Y H p)]
def Xe{lo:Int}{n:Nat}{g:TG}{d:TS}{D:YG}{Y:St}{H:Hp}(Pv:Nat->St->Hp->Prop)(e:Pv 0 Y H)(hs:∀i Y H,i<n->Pv i Y H->g (4 (lo+i)) Y H λa c=>d {D with nx:=Pv (i+1),ct:=Pv (i+1),bk:=D.nx } a c)(f:∀ Y H,Pv n Y H->D.nx Y H) :
  ∃W:Nat->Nat->St->Hp->Prop,(∃m,W 0 m Y H)/\∀i m Y H,W i m Y H ->
   ((JP lo n).stop i H/\D.nx Y H)\/((JP lo n).go i H/\∃N:St->Hp->Prop,(∀ b J,N b J->∃m',m'<m/\W (i+1) m' b J)/\∀x J,(JP lo n).jb i H x J->g x Y J λa c=>d {D with nx:=N,ct:=N,bk:=D.nx } a c):=by
 erw[λi m Y H=>m=n - i/\i<=n/\Pv i Y H,(n,by simp,yI _,e),5];rintro i m Y H ⟨rfl,a,p⟩
 by_cases a:i<n
 .erw[2 (a,Pv (i+1),λb J c=>(n - (i+1),63,a,c),λx J y=>?_)];let(e,y):=y;subst e y;rwa[hs i Y _ a p]
 .let e:i=n:=by lia
  subst e;rwa[1 (xD _,f Y H p)]
abbrev R2:=V->V->Hp->VK->Prop
def Aw(X:Cx)(f:jX->jX->Sem jX)(r:R2):Prop :=
 ∀(B:List (jY×Obj))(s:jW)(Y:St)(H:Hp)(x y:V)(v u:jX)(Q:VK),ZD X B Y H s->ZH x v->ZH y u->r x y H Q ->
  _w (_m X.prog X.w) X.A (f v u) (EP X B Y Q) X.xe s
def RQ(X:Cx)(f:jX->Sem jX)(r:V->Hp->VK->Prop):Prop :=
 ∀(B:List (jY×Obj))(s:jW)(Y:St)(H:Hp)(x:V)(v:jX)(Q:VK),ZD X B Y H s->ZH x v->r x H Q ->
  _w (_m X.prog X.w) X.A (f v) (EP X B Y Q) X.xe s
def JS(X:Cx)(f:jX)(r:List V->Hp->VK->Prop):Prop :=
 ∀(B:List (jY×Obj))(s:jW)(Y:St)(H:Hp)(L:aG)(a:jT)(Q:VK),ZD X B Y H s->ZJ L a->r L H Q ->
  _w (_m X.prog X.w) X.A (call f a) (EP X B Y Q) X.xe s
def QL(X:Cx)(r:V->Hp->(Bool->Hp->Prop)->Prop):Prop :=
 ∀(B:List (jY×Obj))(s:jW)(Y:St)(H:Hp)(x:V)(v:jX)(Q:Bool->Hp->Prop),ZD X B Y H s->ZH x v->r x H Q ->
  _w (_m X.prog X.w) X.A (truthy v) (TP X B Y Q) X.xe s
def Jr(r:R2)(a b:TE):TE:=λY H Q=>a Y H λx a=>b Y a λy a=>r x y a Q
def bU(r:V->Hp->VK->Prop)(a:TE):TE:=λY H Q=>a Y H λx a=>r x a Q
inductive rI(C:Int->Int->Prop)(g:Int->Int->V)(x y:V)(H:Hp)(Q:VK):Prop
 |mk(i j)(_:x=4 i)(_:y=4 j)(_:C i j)(_:Q (g i j) H)
inductive Ae(g:Int->Int->V)(x y:V)(H:Hp)(Q:VK):Prop
 |mk(i j)(_:x=4 i)(_:y=4 j)(_:Q (g i j) H)
inductive rU(g:Int->V)(x:V)(H:Hp)(Q:VK):Prop
 |mk(i)(_:x=4 i)(_:Q (g i) H)
def Fb(j:PE X a ta)(k:PE X b tb){B:List (jY×Obj)}{s:jW}{Y:St}{H:Hp}{R:V->V->Hp->Prop}(I:ZD X B Y H s)(h:ta Y H λx i=>tb Y i λy c=>R x y c){Q:jQ}{f:jX->jX->Sem jX}(l:∀v u g x y c,ZD X B Y c g->ZH x v->ZH y u->R x y c->_w (_m X.prog X.w) X.A (f v u) Q X.xe g) :
  _w (_m X.prog X.w) X.A (eval a X.env) (λv d=>_w (_m X.prog X.w) X.A (eval b X.env) (λu e=>_w (_m X.prog X.w) X.A (f v u) Q X.xe e) X.xe d) X.xe s:=by
 erw[thn (j B s Y H _ I h) λv m ⟨x,i,d,j,e⟩=>?_];erw[thn (k B m Y i _ d e) λu g ⟨y,c,d,i,e⟩=>?_];rwa[l v u g x y c d j i e]
def opI{f:jX->jX->Sem jX}{C:Int->Int->Prop}{g:Int->Int->Int}(rule:∀i j t u s Q E,C i j->Q (4 (g i j) s.toks) {s with toks:=s.toks+1 }->_w (_m X.prog X.w) X.A (f (4 i t) (4 j u)) Q E s) :
  Aw X f (rI C λi j=>4 (g i j)):=by
 intro B s Y H x y v u Q I b c h;let(i,j,33,a,q):=h;let(t,3):=b;let(b,3):=c;rwa[rule i j t b s _ _ a (4 (g i j),H,I.tok _,(_,S),q)]
def Io{f:jX->jX->Sem jX}{g:Int->Int->Int}(rule:∀i j t u s Q E,Q (4 (g i j) s.toks) {s with toks:=s.toks+1 }->_w (_m X.prog X.w) X.A (f (4 i t) (4 j u)) Q E s) :
  Aw X f (Ae λi j=>4 (g i j)):=by
 intro B s Y H x y v u Q I a b h;let(i,j,33,q):=h;let(t,3):=a;let(a,3):=b;rwa[rule i j t a s _ _ (4 (g i j),H,I.tok _,(_,S),q)]
def DG{f:jX->jX->Sem jX}{g:Int->Int->Bool}(rule:∀i j t u s Q E,Q (.bool (g i j)) s->_w (_m X.prog X.w) X.A (f (4 i t) (4 j u)) Q E s) :
  Aw X f (Ae λi j=>.bl (g i j)):=by
 intro B s Y H x y v u Q I a b h;let(i,j,33,q):=h;let(t,3):=a;let(a,3):=b;rwa[rule i j t a s _ _ (.bl (g i j),H,I,3,q)]
def Ls(i j:Int):Prop:=0<j/\j<1073741824
def GH(i j:Int):Prop:=0<=j/\j<=1000000/\i.natAbs<2^64
def JX(i j:Int):Prop:=(-(2^64)<i/\i<2^64)\/(-(2^64)<j/\j<2^64)
def JX.ok(h:JX i j):IntMulOk i j:=by
 rcases h with⟨a,b⟩ | ⟨a,b⟩
 .rwa[.of_left (intBits_le_64 a b)]
 .rwa[.of_right (intBits_le_64 a b)]
def KU:V->V->Bool
 | .non,.non=>_t | .non,.int _=>_t | .int _,.non=>_t | .non,.bl _=>_t | .bl _,.non=>_t | .non,.str _=>_t | .str _,.non=>_t
 | .int _,.int _=>_t | .bl _,.bl _=>_t | .str _,.str _=>_t | .byt _,.byt _=>_t
 | .int _,.str _=>_t | .str _,.int _=>_t | .bl _,.str _=>_t | .str _,.bl _=>_t
 | _,_=>_x
def CC:R2:=λx y H Q=>KU x y=_t/\Q (.bl (decide (x=y))) H
def Nx:R2:=λx y H Q=>KU x y=_t/\Q (.bl (!decide (x=y))) H
def Lq:decide (V.int i=V.int j)=(i==j):=by
 rw[zI];simp
def KN:decide (V.bl i=V.bl j)=(i==j):=by
 rw[zI];simp
def Ia:decide (V.str i=V.str j)=(i==j):=by
 rw[zI];simp
def Mg:decide (V.byt i=V.byt j)=(i.toList==j.toList):=by
 rw[zI];ext i;ext j;simp
section
variable{b:Expr}{ta tb tc:TE}
def Y4{B:List (jY×Obj)}{Y:St}{H:Hp}{s:jW}{Q:VK}{k a:Bool}(I:ZD X B Y H s)(q:Q (.bl k) H)(e:k=a):EP X B Y Q (.bool a) s:=by
 subst e;rwa[.bl k,H,I,3,q]
def Zq(b:Expr)(h:autoParam (op ≠ .In) y3z)(d:autoParam (op ≠ .NotIn) y3z):behindInMarks op b=false:=by
 let a:(op==CmpOp.In)=false:=by ext op<;>first | rfl | rwa[_a S h]
 let c:(op==CmpOp.NotIn)=false:=by ext op<;>first | rfl | rwa[_a S d]
 ext b<;>simp[behindInMarks,a,c]
def BN(t:TE):TT:=λY H Q=>t Y H λx J=>∃k,x=.bl k/\Q k J
inductive An(d:R2)(tc:TE)(Y:St)(Q:VK)(y z:V)(a:Hp):Prop
 |mk(k)(_:z=.bl k)(_:(if k=_t then tc Y a λe c=>d y e c Q else Q (.bl _x) a))
def Nh(r c:R2)(ta tb tc:TE):TE:=λY H Q=>ta Y H λx a=>tb Y a λy a=>r x y a λz a=>An c tc Y Q y z a
def MW(K:uFg)(x:V)(H:Hp)(k:Bool):Prop :=
 match x with
 | .non=>k=_x
 | .bl b=>k=b
 | .int i=>k=(i != 0)
 | .str y=>y.9<=_z/\k=((y.9:Int) != 0)
 | .byt y=>y.5<=_z/\k=((y.5:Int) != 0)
 | .ref p=>(∃L,ZG K H p L/\k = !L.isEmpty)\/(∃L,ZO K H p L/\k = !L.isEmpty)\/∃U,H p=8 (.dK U)/\k = !U.isEmpty
 | _=>False
def OM{κ:Type}{U:List (κ×V)}{vs:List (κ×jX)}(r:KV U vs):(!vs.isEmpty)= !U.isEmpty:=by
 ext r<;>rfl
def Li(r:ZJ L its):(!its.toArray.isEmpty)= !L.isEmpty:=by
 ext r<;>simp
def Bh:(sizeLine:Nat)<2^63:=by rw[sizeLine_eq];decide
def gO:QL X (λx H Q=>∃k,MW X.K x H k/\Q k H):=by
 intro B s Y H x v Q I c h;let(k,e,q):=h;let a:=Bh;let a:_z=16777216:=sizeLine_eq;cases x with
 | non =>
  ext c;let a:k=false:=e;subst a;rwa[truthy_none (H,I,q)]
 | bl b =>
  ext c;let a:k=b:=e;subst a;rwa[wpAny_truthy_bool (H,I,q)]
 | int i =>
  let(t,3):=c;let a:k=(i != 0):=e;subst a;rwa[PySem.P.truthy_int (H,I,q)]
 | str y =>
  let(t,3):=c;obtain⟨d,a⟩:y.9<=_z/\k=((y.9:Int) != 0):=e;subst a;rwa[PySem.P.truthy_str () (H,I.tok _,q)]
 | byt y =>
  let(t,3):=c;obtain⟨d,a⟩:y.5<=_z/\k=((y.5:Int) != 0):=e;subst a;rwa[PySem.W.truthy_bytes () (H,I.tok _,q)]
 | ref p =>
  ext c;let a:(∃L,ZG X.K H p L/\k = !L.isEmpty)\/(∃L,ZO X.K H p L/\k = !L.isEmpty)\/∃U,H p=8 (.dK U)/\k = !U.isEmpty:=e;rcases a with⟨L,d,a⟩ | ⟨L,d,a⟩ | ⟨U,d,a⟩
  .subst a;let(f,r,g,h):=I.list d;let c:=r.9;rwa[wpAny_truthy_list g.isList (by simp only[xW];lia) (H,I.tok _,by rw[Li r];rwa[q])]
  .subst a;let(f,r,g,h):=I.tuple d;let c:=r.9;rwa[truthy_tuple g (by simp only[xW];lia) (H,I.tok _,by rw[Li r];rwa[q])]
  .subst a;obtain⟨h,f,a,r,m⟩:U.9<=_z/\(p==sysModules)=_x/\∃a,KV U a/\s.heap.DictOf (Wu X.prog X.w) p a:=I.og p _ d;let c:U.9=a.9:=m9 r;rwa[wpAny_truthy_dict f m () (H,I.tok _,by rw[OM r];rwa[q])]
 | _=>rwa[(show False from e).elim]
def Ju(r:ZJ [x] us):∃u,us=[u]/\ZH x u:=by
 cases r with
 | cons a c=>ext c;rwa[1,a]
def Dp(r:ZJ [x,y] us):∃u a,us=[u,a]/\ZH x u/\ZH y a:=by
 cases r with
 | cons a c =>
  cases c with
  | cons c d=>ext d;rwa[21,a,c]
end
structure UQ (h:Heap) (x dx C:jY) (mA:jR):Prop where
 obj:h.get? x=8 (instObj C dx)
 ns:h.Ns1 dx mA
 ne:dx≠x
def PR{h:Heap}{a:jY}{b:jR}(n:h.Ns1 a b):∃od,h.get? a=8 od/\∀name,lookIn name od=8 (b name):=by
 let(o,c,f,e,a,d,2,b):=n;erw[o,e,λname=>?_];let e:=b name;unfold nsFind findBy at e;rw[<- Array.find?_toList] at e;unfold lookIn;rw[a];dsimp only;split
 .grind
 .rename_i q;rw[q] at e;let a:c.toList.any (·.refKey)=false:=by
   rw[List.any_eq_false];intro y f;let(z,t,b):=d y (Array.mem_toList_iff.mp f);simp[DictEntry.refKey,b]
  let b:¬c.toList.any (·.refKey)=true:=by rw[a];rwa[xK]
  rw[_i b];rwa[congrArg _s e]
def UQ.look(I:UQ h x dx C mA):∃od,InstAt h x (instObj C dx) C (8 od)/\∀name,lookIn name od=8 (mA name):=(let ⟨od,b,a⟩:=PR I.ns
 (od,(I.obj,33,b),a))
section
variable{prog:jZ}{w:kB}{A:kD}{E:jQ}{s:jW}{K:uFg}{x dx C f:jY}{mA:jR}{name:Str}{v:jX}
def dX{a:Bool}{Q:jQ}(X:K.In s.heap)(I:UQ s.heap x dx C mA)(d:plainGet K C name=_t)(e:hasDictIn K C=_t)(c:PySem.W.findIn K (3 C) name=8 _n)(g:mA name=8 v)(b:handedIn v=_t)(h:Q v {s with toks:=s.toks+1 }) :
  _w (_m prog w) A (getAttr (3 x) name a) Q E s:=by
 let(od,J,a):=I.look;rwa[PySem.W.get_value X J (plainGet_of d).1 (PySem.W.findObj_own e c S (by rw[a,g])) b h]
def iR{pl:Sem Bool}{Q:jX×List jX->jW->Prop}(X:K.In s.heap)(I:UQ s.heap x dx C mA)(a:plainGet K C name=_t)(b:PySem.W.findIn K (3 C) name=8 (8 (3 f)))(d:isFn K (3 f)=_t)(e:mA name=_n)(h:Q (3 f,[3 x]) s) :
  _w (_m prog w) A (getMethod (3 x) name pl) Q E s:=by
 let(od,J,c):=I.look;rwa[PySem.W.method_fn X J (plainGet_of a).1 (plainGet_of a).2 b (beq_iff_eq.mp d) (by show (lookIn name od).map (·.isSome)=8 _x;rw[c,e];rfl) h]
def Xy{ns:jS}{Q:Unit->jW->Prop}(X:K.In s.heap)(I:UQ s.heap x dx C mA)(hs:PySem.W.findIn K (3 C) "__setattr__"=8 (8 (.builtin "object.__setattr__")))(b:plainOver K C=_t)(c:takerIn K C name=8 _n)(d:hasDictIn K C=_t)(k:PySem.Within mA ns)(hsz:ns.9<=_z)(h:∀h',UQ h' x dx C (λy=>if y=name then 8 v else mA y)->Heap.SameBut dx s.heap h'->Q _u {s with heap:=h',toks:=s.toks+2 }) :
  _w (_m prog w) A (setAttr (3 x) name v) Q E s:=by
 let(od,J,e):=I.look;erw[PySem.W.set_plain X J hs (PySem.W.osa_open (s:={s with toks:=s.toks+1 }) (r:=_n) X J b c λb=>?_)];let(e,c,b):=PySem.W.any_some d;let d:s.heap.get? x=8 (3 C,8 dx,.plain,#[]):=I.obj;erw[_b (_p (_b (_b (wpAny_loadPart d (_b (Looks.here (s:={s with toks:=s.toks+1 }) (PySem.W.looks_clsIn X c) ?_))))))];rw[b];erw[_p (a:=8 dx) (_b (_p (_b ?_)))];erw[wpAny_nsSet1 (s:={s with toks:=s.toks+1 }) I.ns λh' b c=>?_];let(oD,j,i,g,e,d):=b.count (PySem.Within.cons name v k);erw[_b (wpAny_lookBehind g (by rw[e];rwa[pastItsLine_dict (xX d (by rw[yN];lia))]) ?_)];rwa[_p (h _ ((c.2 _ (Ne.symm I.ne)).trans I.obj,b,I.ne) c)]
def XH{R:Result->jW->Prop}{vs:jT}{kw:List (Str×jX)}(X:K.In s.heap)(c:makesIn K C=_t)(a:PySem.W.findIn K (3 C) "__init__"=8 (8 (3 f)))(b:typeIn K (3 f)=8 (.type "function"))(h:codeAny (_m prog w) (A.under (.builtin "type.__call__" (3 C::vs,kw))) (.call (3 f) (3 (s.8+1)::vs,kw)) (PySem.W.InitBack (s.8+1) R) {s with heap:=(s.heap.push emptyDict).push (instObj C s.8) }) :
  codeAny (_m prog w) A (.call (3 C) (vs,kw)) R s:=by
 let(e,g,d,t,os):=s;rwa[PySem.W.make_core (PySem.W.makes_of X c) (PySem.W.looks_findIn X a) (λa=>PySem.W.bind_fn X a b) (1 S) h]
end
def Zu(f:Str)(v:V):List (Str×V)->List (Str×V)
 | []=>[(f,v)]
 | (g,x)::r=>if g=f then (g,v)::r else (g,x)::Zu f v r
theorem Wf(f g:Str)(v:V):∀a:List (Str×V),(Zu f v a).lookup g=if g=f then 8 v else a.lookup g
 | []=>by
  show List.lookup g [(f,v)]=_
  by_cases h:g=f
  .grind
  .grind
 | (k,x)::r=>by
  let a:=Wf f g v r;rw[show Zu f v ((k,x)::r)=(if k=f then (k,v)::r else (k,x)::Zu f v r) from S]
  by_cases a:k=f
  .grind
  .grind
theorem Gg(f:Str)(v:V):∀a:List (Str×V),f∈(Zu f v a).map (·.1)/\∀g,g∈a.map (·.1)->g∈(Zu f v a).map (·.1)
 | []=>(by simp[Zu],λg h=>by simp at h)
 | (k,x)::r=>by
  let(a,b):=Gg f v r;rw[show Zu f v ((k,x)::r)=(if k=f then (k,v)::r else (k,x)::Zu f v r) from S]
  by_cases a:k=f
  .grind
  .grind
theorem AO(f:Str)(v:V):∀a:List (Str×V),(Zu f v a).9<=a.9+1
 | []=>by simp[Zu]
 | (k,x)::r=>by
  let a:=AO f v r;rw[show Zu f v ((k,x)::r)=(if k=f then (k,v)::r else (k,x)::Zu f v r) from S]
  by_cases a:k=f
  .grind
  .grind
def YU.some_of(r:YU (8 v) o):∃u,o=8 u/\ZH v u:=by
 cases o with
 | none=>rwa[(show False from r).elim]
 | some u=>rwa[u,3,r]
def YU.none_of(r:YU _n o):o=none:=by
 cases o with
 | none=>rfl
 | some u=>rwa[(show False from r).elim]
def Qo(r:ZH v u):handedIn u=true:=by
 cases v with
 | non=>cases (show u=Value.none from r);rfl
 | bl b=>cases (show u=Value.bool b from r);rfl
 | int i=>let(t,e):=(show ∃t,u=Value.int i t from r);ext e;rfl
 | str x=>let(t,e):=(show ∃t,u=Value.str x t from r);ext e;rfl
 | byt b=>let(t,e):=(show ∃t,u=Value.bytes b t from r);ext e;rfl
 | flt b=>let(t,e):=(show ∃t,u=Value.float b t from r);ext e;rfl
 | ref a=>cases (show u=Value.ref a from r);rfl
 | ty n=>cases (show u=Value.type n from r);rfl
def Es(c:YT P w H h)(e:H a=8 (.ins C dx fs)):∃b,UQ h a dx C b/\(∀f,YU (fs.lookup f) (b f))/\PySem.Within b (fs.map (·.1))/\fs.9<=1000/\H dx=8 (.own a):=by
 let(d,z,g,i,b,n,r,q):=(show ZQ P w H h a (.ins C dx fs) from c a _ e);rwa[b,(i,n,g),r,q,z,d]
structure UK (K:uFg) (C:jY):Prop where
 pg:plainGet K C Str.empty=_t
 hd:hasDictIn K C=_t
 po:plainOver K C=_t
 sa:PySem.W.findIn K (3 C) "__setattr__"=8 (8 (.builtin "object.__setattr__"))
def UK.get{K:uFg}{C:jY}(c:UK K C)(f:Str):plainGet K C f=true:=(c.pg)
def ZY(K:uFg)(C:jY)(f:Str):Prop:=PySem.W.findIn K (3 C) f=8 _n
def ZY.taker{K:uFg}{C:jY}{f:Str}(n:ZY K C f):takerIn K C f=8 none:=by
 unfold takerIn;rw[show PySem.W.findIn K (3 C) f=8 _n from n];rfl
structure Tz (K:uFg) (C:jY) (m:Str) (f:jY):Prop where
 at_:PySem.W.findIn K (3 C) m=8 (8 (3 f))
 fn:isFn K (3 f)=_t
 kp:keepIn K (3 f)=_t
section
variable{X:Cx}{B:List (jY×Obj)}{Y:St}{H:Hp}{s:jW}{a C dx:jY}{fs:List (Str×V)}{f:Str}{v:V}{A:kD}{E:jQ}
def jF{b:Bool}{Q:jQ}(I:ZD X B Y H s)(e:H a=8 (.ins C dx fs))(c:UK X.K C)(n:ZY X.K C f)(l:fs.lookup f=8 v)(h:∀u d,ZD X B Y H d->ZH v u->Q u d):_w (_m X.prog X.w) A (getAttr (3 a) f b) Q E s:=by
 let(i,O,r,222):=Es I.og e;let(u,g,d):=YU.some_of (v:=v) (o:=i f) (by rw[<- l];rwa[r f]);rwa[dX I.oi O (c.get f) c.hd n g (Qo d) (h u _ (I.tok _) d)]
def DH{m:Str}{g:jY}{pl:Sem Bool}{Q:jX×List jX->jW->Prop}(I:ZD X B Y H s)(e:H a=8 (.ins C dx fs))(c:UK X.K C)(k:Tz X.K C m g)(l:fs.lookup m=_n)(h:Q (3 g,[3 a]) s):_w (_m X.prog X.w) A (getMethod (3 a) m pl) Q E s:=by
 let(d,O,r,222):=Es I.og e;let b:d m=none:=YU.none_of (by rw[<- l];rwa[r m]);rwa[iR I.oi O (c.get m) k.at_ k.fn b h]
def cJ{y:V}{u:jX}{Q:Unit->jW->Prop}(I:ZD X B Y H s)(e:H a=8 (.ins C dx fs))(c:UK X.K C)(n:ZY X.K C f)(d:fs.9<1000)(m:ZH y u)(h:∀b,ZD X B Y (upd H a (.ins C dx (Zu f y fs))) b->Q _u b):_w (_m X.prog X.w) A (setAttr (3 a) f u) Q E s:=by
 let(i,O,r,j,2,g):=Es I.og e;let b:(fs.map (·.1)).9<=sizeLine:=by rw[xA,sizeLine_eq];lia
 erw[Xy I.oi O c.sa c.po n.taker c.hd j b λb d p=>h _ ?_];let l:∃o,b.get? dx=8 o:=let ⟨o,_,_,b,_⟩:=d.ns;(o,b)
 erw[I.write (x:=a) (e:=dx) (by rw[e];rwa[True.intro]) (2 g) (λb q k z=>(p.2 b k).trans z) l ?_];erw[by rw[Ze O.ne];rwa[g],5,O.ne,d.obj,2,d.ns,λg=>?_,λg b=>?_]
 .have:=AO f y fs;lia
 .show YU ((Zu f y fs).lookup g) (if g=f then 8 u else i g);rw[Wf]
  by_cases q:g=f
  .rw[_j q,_j q];rwa[m]
  .rw[_i q,_i q];rwa[r g]
 .by_cases q:g=f
  .rw[q];rwa[(Gg f y fs).1]
  .erw[(Gg f y fs).2 g (j g λz=>b ?_)];show (if g=f then 8 u else i g)=_n;rw[_i q];rwa[z]
def ZD.made(I:ZD X B Y H s):ZD X B Y (upd (upd H s.heap.objs.size (.own (s.8+1))) (s.8+1) (.ins C s.heap.objs.size []))
  {s with heap:=(s.heap.push emptyDict).push (instObj C s.8) }:=by
 let c:(s.heap.push emptyDict).get? s.8=8 emptyDict:=xN s.heap S;let g:((s.heap.push emptyDict).push (instObj C s.8)).get? (s.8+1)=8 (instObj C s.8):=by
  have:=xN (s.heap.push emptyDict) (o:=instObj C s.8) S
  (rw[zG] at this;assumption)
 let h:(s.heap.push emptyDict).Ns s.heap.objs.size (λ_=>_n):=(emptyDict,#[],2,c,3,(λe b=>_a b (by simp)),λ_=>rfl);let d:=I.laid (a:=s.8) (o:=.own (s.8+1)) (h':=s.heap.push emptyDict) (t':=s.toks) (λb u q=>xC _ q) (xD _) (2,c);erw[d.laid (a:=s.8+1) (o:=.ins C s.heap.objs.size []) (t':=s.toks) (λb u q=>xC _ q) (wX (zG _ _)) ?_];let b:s.8≠s.8+1:=yF (md _);erw[by rw[Ze b,Zi],yI _,b,g,λ_=>_n,(Heap.Ns1.of_empty h).at λo q=>xC _ q,λ_=>True.intro,λy b=>_a S b]
def bL(c:attributeBase e f env (eval e env)=eval e env)(h:_w (_m prog w) A (eval e env) (λo b=>_w (_m prog w) A (getAttr o f _t) Q E b) E s):_w (_m prog w) A (eval (.Attribute e f pos) env) Q E s:=(Attribute_any_ h (by rw[arm_eval_Attribute,c]))
end
inductive Da(K:uFg)(f:Str)(Q:VK)(x:V)(b:Hp):Prop
 |mk(a C dx fs v)(_:x=3 a)(_:b a=8 (.ins C dx fs))(_:UK K C)(_:ZY K C f)(_:fs.lookup f=8 v)(_:Q v b)
def FJ(K:uFg)(a:TE)(f:Str):TE:=λY H Q=>a Y H λx a=>Da K f Q x a
inductive sFld_(K:uFg)(f:Str)(D:YG)(Y:St)(y x:V)(b:Hp):Prop
 |mk(a C dx fs)(_:x=3 a)(_:b a=8 (.ins C dx fs))(_:UK K C)(_:ZY K C f)(_:fs.9<1000)(_:D.nx Y (upd b a (.ins C dx (Zu f y fs))))
def gJ(K:uFg)(b a:TE)(f:Str):TS:=λD Y H=>a Y H λy a=>b Y a λx a=>sFld_ K f D Y y x a
def Kj(b:PE X e ta)(a:attributeBase e f X.env (eval e X.env)=eval e X.env):PE X (.Attribute e f pos) (FJ X.K ta f):=by
 intro B s Y H Q I h;erw[bL a (thn (b B s Y H _ I h) λu m ⟨x,b,d,i,a,C,j,k,v,h,g,c,n,l,q⟩=>?_)];subst h;obtain rfl:u=Value.ref a:=i;rwa[jF d g c n l λg d a c=>(v,b,a,c,q)]
section
variable{X:Cx}{B:List (jY×Obj)}{Y:St}{H:Hp}{s:jW}{A:kD}{E:jQ}{Q:jQ}{c:jX}{b:Bool}
inductive WB (K:uFg) (H:Hp):V->jX->Prop where
 | non:WB K H .non (.type "NoneType")
 | bl (x:Bool):WB K H (.bl x) (.type "bool")
 | int (i:Int):WB K H (4 i) (.type "int")
 | str (x:Str):WB K H (5 x) (.type "str")
 | flt (x:UInt64):WB K H (.flt x) (.type "float")
 | lst {a:jY}{L:aG}(e:H a=8 (6 L)):WB K H (3 a) (.type "list")
 | frz {a:jY}{o:Obj}{L:aG}(e:H a=8 (.frz o (6 L))):WB K H (3 a) (.type "list")
 | tup {a:jY}{L:aG}(e:H a=8 (7 L)):WB K H (3 a) (.type "tuple")
 | dK {a:jY}{U:List (ZV×V)}(e:H a=8 (.dK U)):WB K H (3 a) (.type "dict")
 | dT {a:jY}{U:List (List ZV×V)}(e:H a=8 (.dT U)):WB K H (3 a) (.type "dict")
 | ins {a C d:jY}{f:List (Str×V)}(e:H a=8 (.ins C d f)) (h:UK K C) (i:PySem.W.findIn K (3 C) "__class__"=8 (8 (.builtin "object.__class__")))
   (k:PySem.W.specialIn K (.builtin "object.__class__") "__get__"=8 (8 (.builtin "getset_descriptor.__get__"))) (g:PySem.W.takesIn K (.builtin "object.__class__")=8 _t)
   (j:PySem.W.mroIn K C (.type "object")=8 _t):WB K H (3 a) (3 C)
def Ru{x:V}{u t:jX}(I:ZD X B Y H s)(f:ZH x u)(a:WB X.K H x t)(e:kitOne X.K t c=8 b)(h:∀tk,Q (.bool b) {s with toks:=tk }) :
  _w (_m X.prog X.w) A (call (.builtin "isinstance") [u,c]) Q E s:=by
 cases a with
 | non=>cases (show u=Value.none from f);rwa[kia_one PySem.W.kitx_none I.oi True.intro e (λz=>nomatch z) h]
 | bl y=>cases (show u=Value.bool y from f);rwa[kia_one PySem.W.kitx_bool I.oi True.intro e (λz=>nomatch z) h]
 | int i=>let(t,q):=(show ∃t,u=Value.int i t from f);ext q;rwa[kia_one PySem.W.kitx_int I.oi True.intro e (λz=>nomatch z) h]
 | str y=>let(t,q):=(show ∃t,u=Value.str y t from f);ext q;rwa[kia_one PySem.W.kitx_str I.oi True.intro e (λz=>nomatch z) h]
 | flt y=>let(t,q):=(show ∃t,u=Value.float y t from f);ext q;rwa[kia_one PySem.W.kitx_float I.oi True.intro e (λz=>nomatch z) h]
 | @lst a L d =>
  cases (show u=Value.ref a from f);let(22,n,2,g):=(show ZQ X.prog X.w H s.heap a (6 L) from I.og a _ d);rwa[kia_one kitx_list I.oi (2,g,3) e (λz=>nomatch z) h]
 | @frz a i L d =>
  cases (show u=Value.ref a from f);let(222,n,2,g):=(show ZQ X.prog X.w H s.heap a (.frz i (6 L)) from I.og a _ d);rwa[kia_one kitx_list I.oi (2,g,3) e (λz=>nomatch z) h]
 | @tup a L d =>
  cases (show u=Value.ref a from f);let(222,p):=(show ZQ X.prog X.w H s.heap a (7 L) from I.og a _ d);let(o,g,i,2):=p;rwa[kia_one PySem.W.kitx_tuple I.oi (o,g,i) e (λz=>nomatch z) h]
 | @dK a U d =>
  cases (show u=Value.ref a from f);let(22,j,2,p):=(show ZQ X.prog X.w H s.heap a (.dK U) from I.og a _ d);let(o,k,j,g,i,2):=p;rwa[kia_one kitx_dict I.oi (o,g,i.1) e (λz=>nomatch z) h]
 | @dT a U d =>
  cases (show u=Value.ref a from f);let(22,L,2,o,k,j,g,i,2):=(show ZQ X.prog X.w H s.heap a (.dT U) from I.og a _ d);rwa[kia_one kitx_dict I.oi (o,g,i.1) e (λz=>nomatch z) h]
 | @ins a C m n d i j l g k =>
  cases (show u=Value.ref a from f);let(a,O,2):=Es I.og d;let(od,J,2):=O.look;rwa[kia_one (PySem.W.kitx_own (i.get _) i.hd j l g k) I.oi J e (λz=>nomatch z) h]
end
structure ZL (k:Nat) (A:kD):Prop where
 hd:A.handled=_n
 dp:A.depth+3 * k+5<recursionLimit
 un:A.units+16 * k+200<cLine
def ZL.mono(r:ZL k A)(h:j<=k):ZL j A:=((r.hd,by have:=r.dp;lia,by have:=r.un;lia))
def ZL.deeper(r:ZL (k+1) A)(env:Env):ZL k (A.deeper env):=((r.hd,by have:=r.dp;show A.depth+1+3 * k+5<_;lia,by have:=r.un;show A.units+3+16 * k+200<_;lia))
def ZL.in1(r:ZL (k+1) A):ZL k A.in1:=((r.hd,by have:=r.dp;show A.depth+3 * k+5<_;lia,by have:=r.un;show A.units+1+16 * k+200<_;lia))
def Sn{A:kD}{C:jY}{us:jT}{kw:List (Str×jX)}:(A.under (.builtin "type.__call__" (3 C::us,kw))).depth=A.depth+1:=by
 first | rfl | simp[Around.under,Code.weight,Code.isCreation,Code.isGuard,Code.isCaller,Code.frames,Code.isFrame,guardIds]
def jI{A:kD}{C:jY}{us:jT}{kw:List (Str×jX)}:(A.under (.builtin "type.__call__" (3 C::us,kw))).units=A.units+1:=by
 first | rfl | simp[Around.under,Code.cUnits,Code.frames,Code.isFrame]
def ZL.make(r:ZL (k+1) A)(C:jY)(us:jT)(kw:List (Str×jX)):ZL k (A.under (.builtin "type.__call__" (3 C::us,kw))):=((r.hd,by have:=r.dp;rw[Sn];lia,by have:=r.un;rw[jI];lia))
def ZL.depth(r:ZL k A):A.depth<recursionLimit:=by have:=r.dp;lia
def ZL.units(r:ZL k A):A.units+64<cLine:=by have:=r.un;lia
def V3:TA:=λ_ H Q=>Q [] H
def TF(a:TE)(b:TA):TA:=λY H Q=>a Y H λx a=>b Y a λL a=>Q (x::L) a
section
variable{t:TA}
def iQ(t:TA):TE:=λY H Q=>t Y H λL a=>L.9<=_z/\∀p,a p=_n->Q (3 p) (upd a p (7 L))
def RW(t:TA):TE:=λY H Q=>t Y H λL a=>L.9<=_z/\∀p,a p=_n->Q (3 p) (upd a p (6 L))
end
abbrev Sp:=List V->Hp->VK->XK->Prop
abbrev T8:=List Env->Hp->jW->XK->jX->jW->Prop
structure VI (P:jZ) (w:kB) (K:uFg) (mg:jR) (base:Heap) (A:kD) (outer:List Env) (s:jW) (H:Hp):Prop where
 frames:A.frames=8 outer
 mod:Mod K mg base
 bs:∀b o,base.get? b=8 o->s.heap.get? b=8 o/\H b=_n
 ia:base.7<=s.8
 o7:s.heap.FunFrames base outer
 iz:∀b∈frs outer,H b=_n
 og:YT P w H s.heap
 bare:AllBare s.gens
def CE(outer:List Env)(P:jZ)(w:kB)(H:Hp)(s:jW)(Q:VK)(u:jX)(a:jW):Prop :=
 ∃v J,a.os=s.os/\AllBare a.gens/\Un (frs outer) [] H J s.heap a.heap/\YT P w J a.heap/\ZH v u/\Q v J
def CR(b:T8)(outer:List Env)(P:jZ)(w:kB)(H:Hp)(s:jW)(Q:VK)(E:XK)(r:Result)(a:jW):Prop :=
 match r with
 | .ok (.ret u)=>CE outer P w H s Q u a
 | .ok _=>False
 | .error e=>b outer H s E e a
structure YD (P:jZ) (w:kB) (K:uFg) (mg:jR) (base:Heap) (CX:T8) (k:Nat) (f:jY) (fd:FuncData) (ps:jS) (sp:Sp):Prop where
 len:∀vs H Q E,sp vs H Q E->vs.9=ps.9
 run:∀(A:kD)(outer:List Env)(s:jW)(H:Hp)(args:Args)(us:jT)(vs:aG)(Q:VK)(E:XK),ZL k A->VI P w K mg base A outer s H->BindsTo s fd args (ps.zip us)->ZJ vs us->sp vs H Q E ->
  codeAny (_m P w) A (.call (3 f) args) (CR CX outer P w H s Q E) s
def YD.mono{P:jZ}{w:kB}{K:uFg}{mg:jR}{Z:Heap}{a:T8}{j k:Nat}{f:jY}{b:FuncData}{ps:jS}{c:Sp}(F:10 YD a j f b ps c)(h:j<=k) :
  YD P w K mg Z a k f b ps c:=((F.len,λA a s H b d e Q E c=>F.run A a s H b d e Q E (c.mono h)))
def YD.imp{P:jZ}{w:kB}{K:uFg}{mg:jR}{Z:Heap}{b:T8}{k:Nat}{f:jY}{c:FuncData}{ps:jS}{d a:Sp}(F:10 YD b k f c ps d)(h:∀vs H Q E,a vs H Q E->d vs H Q E):10 YD b k f c ps a:=((λvs H Q E q=>F.len vs H Q E (h _ _ _ _ q),λA a s H b j vs Q E e d c i g=>F.run A a s H b j vs Q E e d c i (h _ _ _ _ g)))
def VI.make{P:jZ}{w:kB}{K:uFg}{mg:jR}{Z:Heap}{A:kD}{outer:List Env}{s:jW}{H:Hp}(e:10 VI A outer s H)(C:jY)(us:jT)(kw:List (Str×jX)) :
  VI P w K mg Z (A.under (.builtin "type.__call__" (3 C::us,kw))) outer s H:=((by first | rwa[e.frames]| (simpa [Around.under,Code.envs,Code.isFrame,pushEnvs] using e.frames),e.mod,e.bs,e.ia,e.o7,e.iz,e.og,e.bare))
section
variable{X:Cx}{B:List (jY×Obj)}{Y:St}{H:Hp}{s s':jW}
def ZD.iq(I:ZD X B Y H s):VI X.prog X.w X.K X.mg X.base X.A X.stack s H:=((I.ok.frames,I.ok.mod,I.bs,xX I.ok.ia I.sz,I.stack,I.oR,I.og,I.bare))
def ZD.after{Q:VK}{u:jX}(I:ZD X B Y H s)(h:CE X.stack X.prog X.w H s Q u s'):EP X B Y Q u s':=by
 let(v,J,os,a,f,b,r,q):=h;let(e,g,d,t,c):=s';obtain rfl:c=s.os:=os;rwa[v,J,I.call (h':=e) (g':=g) (d':=d) (t':=t) (ch:=[]) f b a (λb z=>_a z (by simp)),r,q]
end
def GC(c:Sp)(a:aG)(E:XK)(t:TA):TE:=λY H Q=>t Y H λd b=>c (d++a) b Q E
inductive Bw(C:jY)(m:Str)(d:Sp)(b:aG)(E:XK)(t:TA)(Y:St)(Q:VK)(x:V)(c:Hp):Prop
 |mk(a dx fs)(_:x=3 a)(_:c a=8 (.ins C dx fs))(_:fs.lookup m=_n)(_:t Y c λe c=>d (x::(e++b)) c Q E)
def En(C:jY)(m:Str)(c:Sp)(a:aG)(E:XK)(b:TE)(t:TA):TE:=λY H Q=>b Y H λx b=>Bw C m c a E t Y Q x b
def Hr(C:jY)(d:Sp)(c:aG)(E:XK)(t:TA):TE:=λY H Q=>t Y H λe b=>∀x a,b x=_n->b a=_n->a≠x ->
 d (3 x::(e++c)) (upd (upd b a (.own x)) x (.ins C a [])) (λv a=>v=.non/\Q (3 x) a) E
def YR(K:uFg)(b:FuncData)(ps:jS)(F:jT):Prop :=
 ∀s a,K.In s.heap->(a++F).9=ps.9->BindsTo s b (a,[]) (ps.zip (a++F))
def YR.all{K:uFg}{a:FuncData}{ps:jS}(h:∀us:List jX,us.9=ps.9->bindArgs a (us,[])=pure (ps.zip us)):YR K a ps []:=(λs us _ a=>by
 rw[xT] at a |-;rwa[.of_eq (h us a)])
def B5(b:T8)(X:Cx)(E:XK):Prop:=∀(B:List (jY×Obj))(Y:St)(H:Hp)(s:jW)(e:jX)(a:jW),ZD X B Y H s->b X.stack H s E e a->X.xe e a
section
variable{X:Cx}{CX:T8}{k:Nat}{f C:jY}{fd:FuncData}{ps:jS}{sp:Sp}{dvs:aG}{F:jT}{E:XK}{x m:Str}{p pos apos:Pos}{e o:Expr}{es:List Expr}{ta:TE}{t:TA}
def Fv{B:List (jY×Obj)}{Y:St}{H:Hp}{s:jW}{Q:VK}{us:jT}{vs:aG}(a:YD X.prog X.w X.K X.mg X.base CX k f fd ps sp)(g:ZL k X.A)(c:YR X.K fd ps F)(d:ZJ dvs F)(i:B5 CX X E)(I:ZD X B Y H s)(r:ZJ vs us)(h:sp (vs++dvs) H Q E):_w (_m X.prog X.w) X.A (call (3 f) us) (EP X B Y Q) X.xe s:=by
 let b:ZJ (vs++dvs) (us++F):=r.append d;let d:(us++F).9=ps.9:=by rw[<- b.9];rwa[a.len _ _ _ _ h]
 erw[wpAny_call (codeAny_mono (a.run X.A X.stack s H (us,[]) (us++F) (vs++dvs) Q E g I.iq (c s us I.oi d) b h) λr b a=>?_)];cases r with
 | error e=>rwa[i B Y H s e b I a]
 | ok b =>
  cases b with
  | ret u=>rwa[I.after a]
  | next=>rwa[False.elim a]
  | brk=>rwa[False.elim a]
  | cont=>rwa[False.elim a]
abbrev sEq(X:Cx)(e:Expr)(es:List Expr):Prop:=_e (e::es) X.env=(_x,eval e X.env)::_e es X.env
abbrev sFq(X:Cx)(pos:Pos)(es:List Expr):Prop:=(backTo pos (_e es X.env)).any (·.1)=_x
def cF(a:YD X.prog X.w X.K X.mg X.base CX k f fd ps sp)(u:ZL k X.A)(l:Gl X x)(r:X.mg x=8 (3 f))(n:keepIn X.K (3 f)=_t)(g:YR X.K fd ps F)(i:ZJ dvs F)(v:B5 CX X E)(d:PA X (e::es) t)(b:autoParam ((x==("__debug__":Str))=false) y3z)(j:autoParam (sEq X e es) y1z)(c:autoParam (sFq X pos es) y1z) :
  PE X (.Call (.Name x p) (e::es) [] pos) (GC sp dvs E t):=by
 intro B s Y H Q I h;erw[wpAny_Call_Name_kw (BM I l r ?_ b)];erw[callWith_K (h₀:=X.base) I.ok.mod.kin n (thn (d pos B s Y H _ I h) λl h ⟨n,d,b,r,q⟩=>(b.oi,5)) j c];rwa[Fv a u g i v b r q]
def iG{pl:Sem Bool}(j:PE X o ta)(c:UK X.K C)(i:Tz X.K C m f)(b:YD X.prog X.w X.K X.mg X.base CX k f fd ps sp)(z:ZL k X.A)(w:YR X.K fd ps F)(y:ZJ dvs F)(G:B5 CX X E)(v:PA X (e::es) t)(g:autoParam (sEq X e es) y1z)(d:autoParam (sFq X pos es) y1z)(A:autoParam (eval (.Call (.Attribute o m apos) (e::es) [] pos) X.env=(do
   let a <- eval o X.env
   standAt apos.atName
   let (f,first) <- holding [a] (getMethod a m pl)
   callWith pos f first (backTo pos (_e (e::es) X.env)) (backToKw pos (keywordEach [] X.env)))) y1z) :
  PE X (.Call (.Attribute o m apos) (e::es) [] pos) (En C m sp dvs E ta t):=by
 intro B s Y H Q I h;erw[methodCall_KW (pl:=pl) (thn (j B s Y H _ I h) λu H ⟨x,j,h,s,a,J,K,r,n,l,q⟩=>?_) A];subst r;obtain rfl:u=Value.ref a:=s;erw[DH h n c i l ?_];erw[callWith_K (first:=[3 a]) (h₀:=X.base) I.ok.mod.kin i.kp (thn (v pos B H Y j _ h q) λj s ⟨l,n,h,r,i⟩=>(h.oi,5)) g d];rwa[Fv (us:=3 a::j) (vs:=3 a::l) b z w y G h (.cons S r) i]
def RK(d:PE X o ta)(c:UK X.K C)(g:Tz X.K C m f)(b:YD X.prog X.w X.K X.mg X.base CX k f fd ps sp)(r:ZL k X.A)(j:YR X.K fd ps F)(n:ZJ dvs F)(w:B5 CX X E)(v:autoParam (eval (.Call (.Attribute o m apos) [] [] pos) X.env=(do
   let a <- eval o X.env
   standAt apos.atName
   let (f,first) <- holding [a] (getMethod a m pl)
   callWith pos f first (backTo pos (_e [] X.env)) (backToKw pos (keywordEach [] X.env)))) y1z) :
  PE X (.Call (.Attribute o m apos) [] [] pos) (En C m sp dvs E ta V3):=by
 intro B s Y H Q I h;erw[methodCall_KW (pl:=pl) (thn (d B s Y H _ I h) λu B ⟨x,y,d,s,a,z,A,i,h,l,q⟩=>?_) v];subst i;obtain rfl:u=Value.ref a:=s;erw[DH d h c g l ?_];rwa[callWith_K0 (first:=[3 a]) d.oi g.kp (Fv (us:=[3 a]) (vs:=[3 a]) b r j n w d (.cons S .nil) q)]
structure Mk (K:uFg) (C f:jY):Prop where
 makes:makesIn K C=_t
 init:PySem.W.findIn K (3 C) "__init__"=8 (8 (3 f))
 fn:isFn K (3 f)=_t
 kp:keepIn K (3 C)=_t
def PK{B:List (jY×Obj)}{Y:St}{H:Hp}{s:jW}{Q:VK}{us:jT}{vs:aG}(M:Mk X.K C f)(a:YD X.prog X.w X.K X.mg X.base CX k f fd ps sp)(j:ZL (k+1) X.A)(g:YR X.K fd ps F)(i:ZJ dvs F)(l:B5 CX X E)(I:ZD X B Y H s)(r:ZJ vs us)(h:∀x b,H x=_n->H b=_n->b≠x->sp (3 x::(vs++dvs)) (upd (upd H b (.own x)) x (.ins C b [])) (λv c=>v=.non/\Q (3 x) c) E) :
  _w (_m X.prog X.w) X.A (call (3 C) us) (EP X B Y Q) X.xe s:=by
 let c:=h (s.8+1) s.heap.objs.size (I.og.fresh (me _)) (I.og.fresh (xD _)) (yF (md _));let b:=ZD.made (C:=C) I;let d:ZJ (V.ref (s.8+1)::(vs++dvs)) (Value.ref (s.8+1)::(us++F)):=.cons S (r.append i);let i:(Value.ref (s.8+1)::us++F).9=ps.9:=by
  let e:=d.9;rw[a.len _ _ _ _ c] at e;rwa[e.6]
 erw[wpAny_call (XH (f:=f) I.oi M.makes M.init (beq_iff_eq.mp M.fn) (codeAny_mono (a.run _ X.stack _ _ (Value.ref (s.8+1)::us,[]) (Value.ref (s.8+1)::(us++F)) _ _ E (j.make C us []) (b.iq.make C us []) (g _ (Value.ref (s.8+1)::us) b.oi i) d c) λr c a=>?_))];cases r with
 | error e=>rwa[l B Y _ _ e c b a]
 | ok c =>
  cases c with
  | ret u =>
   let(v,J,c,i,d,g):=b.after a;subst d;rwa[i,(V.ref (s.8+1),J,c,3,g)]
  | next=>rwa[False.elim a]
  | brk=>rwa[False.elim a]
  | cont=>rwa[False.elim a]
def RI(M:Mk X.K C f)(a:YD X.prog X.w X.K X.mg X.base CX k f fd ps sp)(j:ZL (k+1) X.A)(g:Gl X x)(i:X.mg x=8 (3 C))(c:YR X.K fd ps F)(d:ZJ dvs F)(l:B5 CX X E)(b:autoParam ((x==("__debug__":Str))=false) y3z):PE X (.Call (.Name x p) [] [] pos) (Hr C sp dvs E V3):=by
 intro B s Y H Q I h;erw[wpAny_Call_Name_kw (BM I g i ?_ b)];rwa[callWith_K0 I.oi M.kp (PK (us:=[]) M a j c d l I .nil h)]
end
section
variable{X:Cx}{CX:T8}{k:Nat}{f:jY}{fd:FuncData}{ps ks:jS}{sp:Sp}{E:XK}{x:Str}{p pos:Pos}{e:Expr}{es:List Expr}{kws:List Keyword}{t tk:TA}
variable{g:List jX->List jX->List jX}{gV:List V->List V->List V}
end
structure ZK (N P:jS) (sc:Scope):Prop where
 kind:sc.kind=.function
 co:sc.isCoroutine=_x
 gen:sc.isGenerator=_x
 nd:N.Nodup
 pre:N.take P.9=P
 par:∀x∈P,sc.names.lookup x=8 .local\/sc.names.lookup x=8 .cell
 nofree:∀y∈sc.names,y.2 ≠ .free
theorem GJ{kindOf:Str->Option NameKind}{x:Str}:∀{a:List (Str×jX)}{m:jR},(∀v,(x,v)∉a)->bindL kindOf a m x=m x
 | [],_,_=>rfl
 | (n,v)::r,m,h=>by
  unfold bindL;rw[GJ λw a=>h w (xP _ a)];split
  .grind
  .rfl
theorem Lp{kindOf:Str->Option NameKind}{x:Str}:∀{a:List (Str×jX)}{m:jR},(∀v,(x,v)∉a)->bindC kindOf a m x=m x
 | [],_,_=>rfl
 | (n,v)::r,m,h=>by
  unfold bindC;rw[Lp λw a=>h w (xP _ a)];split
  .rfl
  .grind
theorem L8{kindOf:Str->Option NameKind}{x:Str}{v:jX}:∀{P:jS}{vs:jT}{i:Nat}{m:jR},P.Nodup->P[i]?=8 x->vs[i]?=8 v->kindOf x=8 .local ->
  bindL kindOf (P.zip vs) m x=8 v
 | [],_,_,_,_,h,_,_=>by simp at h
 | _::_,[],_,_,_,_,h,_=>by simp at h
 | p::P,w::vs,0,m,nd,h1,h2,hk=>by
  simp at h1 h2;subst h1;subst h2;show bindL kindOf ((p,w)::P.zip vs) m p=_;unfold bindL;rw[GJ λv a=>(yM.mp nd).1 (zH a).1,_j hk];simp
 | p::P,w::vs,i+1,m,nd,h1,h2,hk=>by
  show bindL kindOf ((p,w)::P.zip vs) m x=_;unfold bindL;rwa[L8 (i:=i) (yM.mp nd).2 (by simpa using h1) (by simpa using h2) hk]
theorem Ip{kindOf:Str->Option NameKind}{x:Str}{v:jX}:∀{P:jS}{vs:jT}{i:Nat}{m:jR},P.Nodup->P[i]?=8 x->vs[i]?=8 v->kindOf x≠8 .local ->
  bindC kindOf (P.zip vs) m x=8 v
 | [],_,_,_,_,h,_,_=>by simp at h
 | _::_,[],_,_,_,_,h,_=>by simp at h
 | p::P,w::vs,0,m,nd,h1,h2,hk=>by
  simp at h1 h2;subst h1;subst h2;show bindC kindOf ((p,w)::P.zip vs) m p=_;unfold bindC;rw[Lp λv a=>(yM.mp nd).1 (zH a).1,_i hk];simp
 | p::P,w::vs,i+1,m,nd,h1,h2,hk=>by
  show bindC kindOf ((p,w)::P.zip vs) m x=_;unfold bindC;rwa[Ip (i:=i) (yM.mp nd).2 (by simpa using h1) (by simpa using h2) hk]
def start(N:jS)(vs:aG):St:=vs.map _s++List.replicate (N.9 - vs.9) _n
def Yq(c:T8)(P:jZ)(w:kB)(K:uFg)(mg:jR)(Z:Heap)(N:jS)(qual:Str)(a:Scope)(f:jY)(b:jX)(A:kD)(outer:List Env)(s:jW)(H:Hp)(E:XK):Cx where
 prog:=P
 w:=w
 K:=K
 mg:=mg
 base:=Z
 A:=A.deeper (envOfC qual a s.heap.objs.size f b)
 N:=N
 s₀:=s
 H₀:=H
 env:=envOfC qual a s.heap.objs.size f b
 outer:=outer
 stack:=envOfC qual a s.heap.objs.size f b::outer
 ex:=[]
 calm:=_t
 fn:=λ_=>_t
 pn:=[]
 xe:=λe d=>_w (_m P w) (A.deeper (envOfC qual a s.heap.objs.size f b)) (leaving (envOfC qual a s.heap.objs.size f b) e) (λ_ a=>c outer H s E e a) (λb a=>c outer H s E b a) d
def M4{a:Scope}{n:Nat}{x:Str}(h:a.names.lookup x=8 .cell):∃c,(cellsFrom n a.names []).lookup x=8 c:=by
 let q:=cellsFrom_some a.names n [] (1 h);rwa[Option.isSome_iff_exists.mp q]
def Gn{c:T8}{P:jZ}{w:kB}{K:uFg}{mg:jR}{Z:Heap}{N ps:jS}{qual:Str}{d:Scope}{f:jY}{a:jX}{A:kD}{outer:List Env}{s b:jW}{H:Hp}{E:XK}{us:jT}{vs:aG}(S:ZK N ps d)(i:A.handled=_n)(g:10 VI A outer s H)(e:vs.9=ps.9)(r:ZJ vs us)(x:InCallC s s.heap.objs.size (bindL (envOfC qual d s.heap.objs.size f a).kindOf (ps.zip us) λ_=>_n) (cellsFrom (s.8+1) d.names []) (bindC (envOfC qual d s.heap.objs.size f a).kindOf (ps.zip us) λ_=>_n) b) :
  ZD (Yq c P w K mg Z N qual d f a A outer s H E) [] (start N vs) H b:=by
 let b:ps.9<=N.9:=by have:=congrArg List.length S.pre;rw[xY] at this;lia
 let(k,b,7,l):=x.done;let e:∀b:jY,b∉(Yq c P w K mg Z N qual d f a A outer s H E).ex:=λb z=>_a (show b∈([]:jV) from z) (by simp);erw[(g.mod,S.kind,77,xD _,λy z c k j=>?_,λy a=>?_,λy c _ h=>?_,λ_=>i,Around.frames_deeper g.frames,2 (7,7),λb z=>_a z (e b),g.bs,g.ia,λb _ _=>e b,λb z=>_a z (e b),g.o7,g.iz),7,g.bare,Un.kept l,(2,x.toInCall.ns,λi y v k j b=>?_),λy c h=>(2,x.cell y c h),g.og.fresh (xD _),λy c h=>?_,λp b=>_a (show p∈([]:List (jY×Obj)) from b) (by simp),g.og.kept l,5]
 .rwa[name_of_addr x.apart (mem_of_lookup k) (mem_of_lookup j)]
 .let a:d.names.lookup y=8 .cell\/d.names.lookup y=8 .free:=a;rcases a with a | a
  .rwa[M4 a]
  .rwa[_a rfl (S.nofree _ (mem_of_lookup a))]
 .rwa[zC (x.above y c (mem_of_lookup h))]
 .let e:i<vs.9:=by
   unfold start at j
   by_cases e:i<vs.9
   .rwa[e]
   .grind
  let l:vs[i]?=8 v:=by
   unfold start at j;rw[zS (by simpa using e),xG] at j;cases e:vs[i]? with
   | none=>rw[e] at j;ext j
   | some a=>rw[e] at j;ext j;rfl
  let(u,j,m):=r.get l;let b:ps[i]?=8 y:=by
   rw[<- S.pre,List.getElem?_take_of_lt ()];rwa[k]
  let a:ps.Nodup:=by rw[<- S.pre];rwa[S.nd.sublist (List.take_sublist _ _)]
  erw[u,m,5];rcases S.par y (xM b) with k | k
  .rwa[1 (k,L8 a b j k)]
  .let(c,e):=M4 (n:=s.8+1) k;erw[2 (1 k,c,e,5)];let q:=x.cell y c e;rw[Ip a b j (by show d.names.lookup y≠_;rw[k];decide)] at q;rwa[q]
 .rwa[g.og.fresh (zC (x.above y c (mem_of_lookup h)))]
 .unfold start;show _=N.9;rw[xI,xA,wC];lia
def ER{h:T8}{P:jZ}{w:kB}{K:uFg}{mg:jR}{Z:Heap}{k:Nat}{f:jY}{name qual:Str}{b:Arguments}{c:List Stmt}{a:Scope}{j kV doc pm cdv ct oc:jX}{an od:Option jY}{osl:Array (Option jX)}{N ps:jS}{g:Sp}(x:K.lookup f=8 (oc,od,.func (fnOf name qual b c a j kV doc pm an cdv ct),osl))(i:codeIn K cdv qual=_t)(S:ZK N ps a)(e:∀vs H Q E,g vs H Q E->vs.9=ps.9)(d:∀A outer s H vs Q E,ZL k (A.deeper (envOfC qual a s.heap.objs.size f cdv))->g vs H Q E -> ∃t,AR (Yq h P w K mg Z N qual a f cdv A outer s H E) c t/\t {nx:=λ_ J=>Q .non J,rt:=Q } (start N vs) H) :
  YD P w K mg Z h (k+1) f (fnOf name qual b c a j kV doc pm an cdv ct) ps g:=by
 erw[e,λA outer s H b n vs Q E j c p r g=>?_];let u:=e _ _ _ _ g;let m:K.In s.heap:=c.mod.kin.keeps λb o e=>(c.bs b o e).1;let l:s.heap.NoLimit:=c.mod.nolimit.keeps λb o e=>(c.bs b o e).1;let b:∀y∈ps.zip n,a.names.lookup y.1=8 .local\/(a.names.lookup y.1=8 .cell/\((cellsFrom (s.8+1) a.names []).lookup y.1).isSome=_t):=λ⟨n,v⟩ o=>by
  rcases S.par n (zH o).1 with q | q
  .rwa[1 q]
  .rwa[2 (q,cellsFrom_some _ _ _ (1 q))]
 erw[codeAny_call_function j.depth (m _ _ x) rfl S.co S.gen rfl (codeRec_of m i) (p _ _ _ _ ?_)];erw[wpAny_newFunctionEnv_cells S.kind b λi m b x=>?_];subst m;erw[l.keeps x.toInCall.keep,codeAny_func ?_];let(t,l,i):=d A outer s H vs Q E (j.deeper _) g;let I:ZD (Yq h P w K mg Z N qual a f cdv A outer s H E) [] (start N vs) H b:=Gn S j.hd c u r x;erw[wpAny_mono (l [] b (start N vs) H _ I i) (λi g c=>?_) λe g c=>c];let d:∀{b:St}{J:Hp}{v:V}{u:jX},ZD (Yq h P w K mg Z N qual a f cdv A outer s H E) [] b J g->ZH v u->Q v J->CE outer P w H s Q u g :=
  λ{b J v u} a e q=>(v,J,a.os,a.bare,a.base,a.og,e,q)
 cases i with
 | ret u =>
  let(v,b,J,a,e,q):=c;rwa[d a e q]
 | next =>
  let(b,J,a,q):=c;rwa[d (v:=V.non) (u:=Value.none) a rfl q]
 | brk =>
  let(222,q):=c;rwa[False.elim q]
 | cont =>
  let(222,q):=c;rwa[False.elim q]
section
variable{X:Cx}{x:Str}{p pos:Pos}{e:Expr}{es:List Expr}{t:TA}{id:String}{r:List V->Hp->VK->Prop}
def Bk(r:List V->Hp->VK->Prop)(t:TA):TE:=λY H Q=>t Y H λb a=>r b a Q
def eO(d:JS X (.builtin id) r)(g:Gl X x)(i:X.mg x=_n)(k:_o x=8 (.builtin id))(c:PA X (e::es) t)(j:x ≠ "__name__" := by decide)(a:autoParam ((x==("__debug__":Str))=false) y3z)(f:autoParam (sEq X e es) y1z)(b:autoParam (sFq X pos es) y1z):PE X (.Call (.Name x p) (e::es) [] pos) (Bk r t):=by
 intro B s Y H Q I h;erw[wpAny_Call_Name_kw (Ui I g i k ?_ j a)];rwa[callWith_builtin1 (thn (c pos B s Y H _ I h) λj i ⟨k,a,c,h,g⟩=>d B i Y a k j Q c h g) f b]
def Ol(d:JS X (.type T) r)(g:Gl X x)(i:X.mg x=_n)(k:_o x=8 (.type T))(c:PA X (e::es) t)(j:x ≠ "__name__" := by decide)(a:autoParam ((x==("__debug__":Str))=false) y3z)(f:autoParam (sEq X e es) y1z)(b:autoParam (sFq X pos es) y1z):PE X (.Call (.Name x p) (e::es) [] pos) (Bk r t):=by
 intro B s Y H Q I h;erw[wpAny_Call_Name_kw (Ui I g i k ?_ j a)];rwa[callWith_type1 (thn (c pos B s Y H _ I h) λj i ⟨k,a,c,h,g⟩=>d B i Y a k j Q c h g) f b]
end
end L2
namespace HT
open PySem PyProof.Rows
section
open PySem.SeqAt
open PySem.AutoSeq1 (wpAny_loadPart')
open PySem.MeetsSeq PySem.MeetsSeq2 PySem.MeetsSeq3
end
def sIx(n d:Nat):Option Int->Nat
 | none=>d
 | some v=>if v<0 then (v+(n:Int)).toNat else min v.toNat n
def sIx_none(n d:Nat):sIx n d _n=d:=(rfl)
def sIx_nat(n d k:Nat):sIx n d (8 (k:Int))=min k n:=by
 show (if (k:Int)<0 then ((k:Int)+(n:Int)).toNat else min (k:Int).toNat n)=min k n;rw[_i (),yJ]
end HT
namespace L2
open PySem PySem.Spec PyProof.Rows
abbrev TO:=St->Hp->(Option Int->Hp->Prop)->Prop
def PO(X:Cx)(e:Option Expr)(t:TO):Prop :=
 ∀(B:List (jY×Obj))(s:jW)(Y:St)(H:Hp)(Q:Option Int->Hp->Prop),ZD X B Y H s->t Y H Q ->
  _w (_m X.prog X.w) X.A (evalPart e X.env) (λu a=>∃o J,ZD X B Y J a/\IsPart u o/\Q o J) X.xe s
def On:TO:=λ_ H Q=>Q _n H
inductive Bn(Q:Option Int->Hp->Prop)(x:V)(a:Hp):Prop
 |mk(i)(_:x=4 i)(_:Q (8 i) a)
def Xm(t:TE):TO:=λY H Q=>t Y H λx a=>Bn Q x a
section
variable{X:Cx}{te:TE}{lo hi:Option Expr}{tl th:TO}
def Lk(X:Cx)(r:V->Option Int->Option Int->Hp->VK->Prop):Prop :=
 ∀(B:List (jY×Obj))(s:jW)(Y:St)(H:Hp)(x:V)(v b c:jX)(lo hi:Option Int)(a:jY)(Q:VK),ZD X B Y H s->ZH x v->s.heap.IsSliceOf a b c .none->IsPart b lo->IsPart c hi->r x lo hi H Q ->
  ∃T id,typeLookup (.type T) "__getitem__"=pure (8 (.builtin id))/\s.TypeIs v T/\_w (_m X.prog X.w) X.A (getItem v (3 a)) (EP X B Y Q) X.xe s
def Qt(r:V->Option Int->Option Int->Hp->VK->Prop)(te:TE)(tl th:TO):TE:=λY H Q=>te Y H λx a=>tl Y a λl a=>th Y a λu a=>r x l u a Q
def TC(L:aG)(lo hi:Option Int):List V:=(L.drop (HT.sIx L.length 0 lo)).take (HT.sIx L.length L.length hi - HT.sIx L.length 0 lo)
def X8(L:aG)(lo hi:Option Int):(TC L lo hi).9<=L.9:=by
 unfold TC;rw[xY,wL];lia
end
def ixN(n:Nat)(i:Int):Option Nat:=if 0<=i then (if i<n then 8 i.toNat else _n) else if -(n:Int)<=i then 8 (i+n).toNat else _n
def atI{a:Type}(L:List a)(i:Int):Option a:=(ixN L.length i).bind λj=>L[j]?
def K8(h:ixN n i=8 j):seqIndex? i n=8 j/\j<n /\ -(n:Int)<=i/\i<n:=by
 unfold ixN at h
 by_cases b:0<=i
 .rw[_j b] at h
  by_cases a:i<n
  .rw[_j a] at h;let e:i.toNat=j:=ma h;rwa[by rw[seqIndex_of b a,e],66,a]
  .rw[_i a] at h;ext h
 .rw[_i b] at h
  by_cases a : -(n:Int)<=i
  .rw[_j a] at h;let e:(i+n).toNat=j:=ma h;rwa[by rw[seqIndex_neg () a,e],6,a,6]
  .rw[_i a] at h;ext h
def Fj{a:Type}{L:List a}{v:a}(h:atI L i=8 v):∃j,seqIndex? i L.9=8 j/\L[j]?=8 v/\j<L.9 /\ -(L.9:Int)<=i/\i<L.9:=by
 unfold atI at h;cases e:ixN L.length i with
 | none=>rw[e] at h;ext h
 | some j =>
  rw[e] at h;let(a,b,c,d):=K8 e;rwa[j,a,h,b,c,d]
def Yo{a:Type}{L:List a}{j:Nat}{v:a}(h:L[j]?=8 v):atI L (j:Int)=8 v:=by
 let a:j<L.9:=(xF.mp h).1;let e:ixN L.length (j:Int)=8 j:=by
  unfold ixN;rw[_j (),_j ()];simp
 unfold atI;rw[e];rwa[h]
def QD(b:Expr):Prop:=∀o i,subscripted b _x o i=operate [o,i] (getItem o i)
def Dk(X:Cx)(r:R2):Prop :=
 ∀(b a:Expr)(B:List (jY×Obj))(s:jW)(Y:St)(H:Hp)(x y:V)(v u:jX)(Q:VK),ZD X B Y H s->ZH x v->ZH y u->r x y H Q ->
  subscripted a _x v u=operate [v,u] (getItem v u)->_w (_m X.prog X.w) X.A (subscriptTail b a v u) (EP X B Y Q) X.xe s
def Kg(X:Cx)(id:String)(r:V->List V->Hp->VK->Prop):Prop :=
 ∀(B:List (jY×Obj))(s:jW)(Y:St)(H:Hp)(x:V)(L:aG)(v:jX)(a:jT)(Q:VK),ZD X B Y H s->ZH x v->ZJ L a->r x L H Q ->
  _w (_m X.prog X.w) X.A (call (.builtin id) (v::a)) (EP X B Y Q) X.xe s
section
variable{X:Cx}{a b:Expr}
inductive B1(K:uFg)(x y:V)(H:Hp)(Q:VK):Prop
 |mk(p L i v)(_:x=3 p)(_:y=4 i)(_:ZG K H p L)(_:atI L i=8 v)(_:Q v H)
inductive Tx(K:uFg)(x y:V)(H:Hp)(Q:VK):Prop
 |mk(p L i v)(_:x=3 p)(_:y=4 i)(_:ZO K H p L)(_:atI L i=8 v)(_:Q v H)
inductive Cp(x y:V)(H:Hp)(Q:VK):Prop
 |mk(z i c)(_:x=5 z)(_:y=4 i)(_:z.9<=_z)(_:atI z.cps.toList i=8 c)(_:Q (5 ⟨#[c]⟩) H)
def HJ:Dk X (B1 X.K):=by
 intro d c B s Y H x y v u Q I f g h l;let(p,L,i,z,33,c,e,q):=h;ext f;let(t,3):=g;let(f,r,g,d):=I.list c;let(j,d,c,h,m,n):=Fj e;let(w,h,e):=r.get c;let o:=r.9;let c:=Bh;let c:EP X B Y Q w s:=(z,H,I,e,q)
 by_cases k:0<=i
 .let e:i.toNat=j:=by
   rw[seqIndex_of k n] at d;rwa[ma d]
  rwa[item_listR g.isList k () (by rw[e];simpa using h) c l]
 .let e:(i+(f.toArray.5:Int)).toNat=j:=by
   rw[seqIndex_neg () m] at d;rw[xW,<- o];rwa[ma d]
  exact subscriptTail_builtinR (x:=w) g.isList.typeIs slot_list_getitem.lookup
   (wpAny_getItem_list_neg (Q:=λr d=>r=w/\EP X B Y Q r d) g.isList () (by rw[xW]<;>lia) () (by rw[e];simpa using h) (3,c)) l
def Gm:Dk X (Tx X.K):=by
 intro d c B s Y H x y v u Q I e f h k;let(p,L,i,z,33,c,d,q):=h;ext e;let(t,3):=f;let(f,r,e,g):=I.tuple c;let(j,g,c,f,h,i):=Fj d;let(w,f,d):=r.get c;let h:=r.9;let c:=Bh;let c:EP X B Y Q w s:=(z,H,I,d,q);exact subscriptTail_builtinR (x:=w) e.typeIs slot_tuple_getitem.lookup
  (getItem_tuple (j:=j) (Q:=λr d=>r=w/\EP X B Y Q r d) e () () (by rw[xW,<- h];rwa[g]) (by simpa using f) (3,c)) k
def RL:Dk X Cp:=by
 intro d c B s Y H x y v u Q I e f h l;let(z,i,c,33,d,k,q):=h;let(t,3):=e;let(d,3):=f;let(j,d,g,h,e,f):=Fj k;let h:z.cps.toList.9=z.9:=by simp[Str.length]
 rw[h] at d e f;let e:=Bh
 exact tail_any (typeIs_str s z t) slot_str_getitem.lookup (getItem_str (c:=c) (by
  let e:decide (i < -(2^63:Int))=false:=yP ();let f:decide (i>=2^63)=false:=yP ()
  rw[e,f,Bool.or_false]) (by rw[d];simpa using g) (5 ⟨#[c]⟩,H,I.tok _,(_,S),q)) l
def Qc(c:jT)(n j:Nat)(u:jX):Obj.mapSeq (·.setIfInBounds j u) {cls:=.type "list", data:=.seq c.toArray n }={cls:=.type "list", data:=.seq (c.set j u).toArray n }:=by
 simp[Obj.mapSeq]
def ZD.lst{B:List (jY×Obj)}{Y:St}{H:Hp}{s:jW}{p:jY}{L:aG}(I:ZD X B Y H s)(h:H p=8 (6 L)) :
  ∃c n,ZJ L c/\s.heap.get? p=_s {cls:=.type "list", data:=.seq c.toArray n }/\L.9<=sizeLine:=by
 let(z,c,n,r,e):=I.og p _ h;rwa[c,n,r,e,z]
def ZD.lstUpd{B:List (jY×Obj)}{Y:St}{H:Hp}{s:jW}{p:jY}{L ys:aG}{c its':jT}{n d:Nat}{f:Obj->Obj}(I:ZD X B Y H s)(h:H p=8 (6 L))(i:s.heap.get? p=_s {cls:=.type "list", data:=.seq c.toArray n })(g:f {cls:=.type "list", data:=.seq c.toArray n }={cls:=.type "list", data:=.seq its'.toArray d })(r:ZJ ys its')(hz:ys.9<=_z)(t:Nat) :
  ZD X B Y (upd H p (6 ys)) {s with heap:=s.heap.update p f,toks:=t }:=by
 let e:(s.heap.update p f).get? p=_s {cls:=.type "list", data:=.seq its'.toArray d }:=by
  rw[wD f i (by rw[g]<;>rfl),g]
 erw[I.write (x:=p) (e:=p) (by rw[h];trivial) (1 S) (λb u c q=>(zQ _ _ (Ne.symm c)).trans q) (2,e) ?_];rwa[hz,its',d,r,e]
inductive Cv(o i v:V)(H:Hp)(Q:Hp->Prop):Prop
 |mk(p L k j)(_:o=3 p)(_:i=4 k)(_:H p=8 (6 L))(_:ixN L.length k=8 j)(_:Q (upd H p (6 (L.set j v))))
def Sj(lo c:Option Int)(n:Nat):(sliceBounds lo c _n n).1=((HT.sIx n 0 lo:Nat):Int)/\(sliceBounds lo c _n n).2.1=((HT.sIx n n c:Nat):Int)/\(sliceBounds lo c _n n).2.2=1:=by
 erw[557]
 .cases lo with
  | none=>simp[sliceBounds,HT.sIx]
  | some i =>
   simp only[sliceBounds,HT.sIx,Option.getD_none,show (1:Int) > 0 by decide,if_true]
   by_cases h:i<0
   .simp only[h,if_true]<;>lia
   .simp only[h,if_false]<;>lia
 .cases c with
  | none=>simp[sliceBounds,HT.sIx]
  | some i =>
   simp only[sliceBounds,HT.sIx,Option.getD_none,show (1:Int) > 0 by decide,if_true]
   by_cases h:i<0
   .simp only[h,if_true]<;>lia
   .simp only[h,if_false]<;>lia
def O5(c:jT)(lo d:Option Int):slicePick c.toArray lo d _n=((c.drop (HT.sIx c.length 0 lo)).take (HT.sIx c.length c.length d - HT.sIx c.length 0 lo)).4:=by
 let(e,f,g):=Sj lo d c.toArray.5;unfold slicePick;rw[e,f,g];simp only[sliceRange_one,pick_run,xW]<;>rfl
inductive C9(K:uFg)(x:V)(lo c:Option Int)(H:Hp)(Q:VK):Prop
 |mk(a L)(_:x=3 a)(_:ZG K H a L)(_:∀p,H p=_n->Q (3 p) (upd H p (6 (TC L lo c))))
def OX:Lk X (C9 X.K):=by
 intro B s Y H x v g k lo d c Q I e f i j h;let(a,L,3,c,q):=h;ext e;let(h,r,e,g):=I.list c;let c:=r.9;erw["list",2,slot_list_getitem.lookup,e.isList.typeIs,5];erw[wpAny_getItem_list_slice e.isList f i j .none (by simp) ?_ (by rw[xW]<;>lia)];rw[O5,<- c];erw[3 s.8,2,I.laid (t':=s.toks) (o:=6 (TC L lo d)) (λb c q=>xC _ q) (xD _) ?_,3,q _ (I.og.fresh (xD _))];rwa[xX (X8 L lo d) g,2,(0),(r.drop (HT.sIx L.length 0 lo)).take (HT.sIx L.length L.length d - HT.sIx L.length 0 lo),xN _ S]
def Ai:V->Bool
 | .non=>_t
 | .bl _=>_t
 | .int _=>_t
 | .str _=>_t
 | _=>_x
def eqV:V->V->Bool
 | .non,.non=>_t
 | .bl a,.bl b=>a==b
 | .bl a,.int b=>(if a then 1 else 0)== b
 | .int a,.bl b=>a==(if b then 1 else 0)
 | .int a,.int b=>a==b
 | .str a,.str b=>a==b
 | _,_=>_x
def QP(f:ZH y u)(c:ZH x v)(g:Ai y=_t)(e:Ai x=_t):SeqAt.EqAt A s u v (eqV y x):=by
 cases y with
 | non =>
  ext f;cases x with
  | non=>ext c;rwa[SeqAt.EqAt.same _]
  | bl b=>ext c;rwa[SeqAt.EqAt.none_bool b]
  | int b=>let(t,3):=c;rwa[SeqAt.EqAt.none_int b t]
  | str b=>let(t,3):=c;rwa[SeqAt.EqAt.none_str b t]
  | _=>rwa[_a (show _x=_t from e) xK]
 | bl a =>
  ext f;cases x with
  | non=>ext c;rwa[SeqAt.EqAt.bool_none a]
  | bl b=>ext c;rwa[SeqAt.EqAt.bool_bool a b]
  | int b=>let(t,3):=c;rwa[SeqAt.EqAt.bool_int a b t]
  | str b=>let(t,3):=c;rwa[SeqAt.EqAt.bool_str a b t]
  | _=>rwa[_a (show _x=_t from e) xK]
 | int a =>
  let(d,3):=f;cases x with
  | non=>ext c;rwa[SeqAt.EqAt.int_none a d]
  | bl b=>ext c;rwa[SeqAt.EqAt.int_bool a d b]
  | int b=>let(t,3):=c;rwa[SeqAt.EqAt.int_int a d b t]
  | str b=>let(t,3):=c;rwa[SeqAt.EqAt.int_str a d b t]
  | _=>rwa[_a (show _x=_t from e) xK]
 | str a =>
  let(d,3):=f;cases x with
  | non=>ext c;rwa[SeqAt.EqAt.str_none a d]
  | bl b=>ext c;rwa[SeqAt.EqAt.str_bool a d b]
  | int b=>let(t,3):=c;rwa[SeqAt.EqAt.str_int a d b t]
  | str b=>let(t,3):=c;rwa[SeqAt.EqAt.str_str a d b t]
  | _=>rwa[_a (show _x=_t from e) xK]
 | _=>rwa[_a (show _x=_t from g) xK]
def eqU(x:V)(u:jX):Bool:=match u with
 | .none=>eqV .non x
 | .bool b=>eqV (.bl b) x
 | .int i _=>eqV (4 i) x
 | .str z _=>eqV (5 z) x
 | _=>_x
def HB(r:ZH y u)(f:Ai y=_t):eqU x u=eqV y x:=by
 cases y with
 | non=>ext r;rfl
 | bl b=>ext r;rfl
 | int i=>let(t,3):=r;rfl
 | str z=>let(t,3):=r;rfl
 | _=>rwa[_a (show _x=_t from f) xK]
theorem Cf:∀{L:aG}{us:jT},ZJ L us->L.all Ai=_t->us.any (eqU x)=L.any λy=>eqV y x
 | _,_,.nil,_=>rfl
 | y::L,u::us,.cons r t,f=>by
  rw[List.all_cons,yS] at f;rw[mh,mh,HB r f.1,Cf t f.2]
theorem C7(e:ZH x v)(d:Ai x=_t):∀{L:aG}{us:jT},ZJ L us->L.all Ai=_t->∀u∈us,SeqAt.EqAt A s u v (eqU x u)
 | _,_,.nil,_=>λu c=>by ext c
 | y::L,u::us,.cons r t,f=>λg c=>by
  rw[List.all_cons,yS] at f;rcases xE.mp c with rfl | c
  .rw[HB r f.1];rwa[QP r e f.1 d]
  .rwa[C7 e d t f.2 g c]
def inV(x:V)(L:aG):Bool:=L.any λy=>eqV y x
inductive Dz(K:uFg)(c:Bool)(x y:V)(H:Hp)(Q:VK):Prop
 |mk(p L)(_:y=3 p)(_:(ZG K H p L\/ZO K H p L))(_:Ai x=_t)(_:L.all Ai=_t)(_:Q (.bl (if c then !inV x L else inV x L)) H)
def Pu:Aw X (_c .In) (Dz X.K _x):=by
 intro B s Y H x y v u Q I j c h;let(p,L,3,d,i,e,q):=h;ext c;rcases d with d | d
 .let(c,r,g,h):=I.list d;erw[SeqAt.in_listAt (eqU x) g.isList (λw f=>C7 j i r e w (by simpa using f)) (.bl _,H,I,35)];rw[show c.toArray.any (eqU x)=c.any (eqU x) by simp,Cf r e];rwa[q]
 .let(c,r,g,h):=I.tuple d;erw[SeqAt.in_tupleAt (eqU x) g (λw f=>C7 j i r e w (by simpa using f)) (.bl _,H,I,35)];rw[show c.toArray.any (eqU x)=c.any (eqU x) by simp,Cf r e];rwa[q]
def iM:Aw X (_c .NotIn) (Dz X.K _t):=by
 intro B s Y H x y v u Q I j c h;let(p,L,3,d,i,e,q):=h;ext c;rcases d with d | d
 .let(c,r,g,h):=I.list d;erw[SeqAt.notIn_listAt (eqU x) g.isList (λw f=>C7 j i r e w (by simpa using f)) (.bl _,H,I,35)];rw[show c.toArray.any (eqU x)=c.any (eqU x) by simp,Cf r e];rwa[q]
 .let(c,r,g,h):=I.tuple d;erw[SeqAt.notIn_tupleAt (eqU x) g (λw f=>C7 j i r e w (by simpa using f)) (.bl _,H,I,35)];rw[show c.toArray.any (eqU x)=c.any (eqU x) by simp,Cf r e];rwa[q]
def Ob:JS X (.builtin "len") (λL H Q=>∃p ys,L=[3 p]/\(ZG X.K H p ys\/ZO X.K H p ys)/\Q (4 ys.9) H):=by
 intro B s Y H L c Q I r h;let(p,ys,3,d,q):=h;let(u,3,c):=Ju r;ext c;let c:=Bh;rcases d with d | d
 .let(e,g,f,h):=I.list d;let c:=g.9;rwa[Calls.call_len_list f.isList (by simp only[xW]<;>lia) (4 ys.9,H,I.tok _,(s.toks+1,by rw[xW,c]),q)]
 .let(e,g,f,h):=I.tuple d;let c:=g.9;rwa[len_tuple f (by simp only[xW]<;>lia) (4 ys.9,H,I.tok _,(s.toks+1,by rw[xW,c]),q)]
def IP:JS X (.type "list") (λL H Q=>∃p ys,L=[3 p]/\(ZG X.K H p ys\/ZO X.K H p ys)/\∀l,H l=_n->Q (3 l) (upd H l (6 ys))):=by
 intro B s Y H L c Q I r h;let(p,ys,3,j,q):=h;let(u,3,c):=Ju r;ext c;let h:∀(c:jT),ZJ ys c->ys.9<=_z->∀(d:Heap)(f:Nat),(∀b e,s.heap.get? b=8 e->d.get? b=8 e)->
   d.get? s.8=_s {cls:=.type "list", dict:=_n,data:=.seq c.toArray f,slots:=#[] }->EP X B Y Q (3 s.8) {s with heap:=d }:=λc g k d f kp e =>
  (3 s.8,2,I.laid (t':=s.toks) kp (xD _) (show ZQ X.prog X.w _ d _ (6 ys) from(k,c,f,g,e)),3,q _ (I.og.fresh (xD _)))
 rcases j with j | j
 .let(c,g,t,k):=I.list j;let i:=g.9;let(o,s,m,n,r):=t.isList;rwa[call_list_seq p (1 S) s m r (λd f kp e=>h c g k d f kp e) (by simp only[xW]<;>lia)]
 .let(c,g,t,k):=I.tuple j;let i:=g.9;let(o,s,m,n,r):=t;rwa[call_list_seq p (2 S) s m r (λd f kp e=>h c g k d f kp e) (by simp only[xW]<;>lia)]
def Qx:JS X (.type "tuple") (λL H Q=>∃p ys,L=[3 p]/\((ZG X.K H p ys/\∀l,H l=_n->Q (3 l) (upd H l (7 ys)))\/(ZO X.K H p ys/\Q (3 p) H))):=by
 intro B s Y H L c Q I r h;let(p,ys,3,h):=h;let(u,3,c):=Ju r;ext c;rcases h with⟨f,q⟩ | ⟨f,q⟩
 .let(c,h,g,j):=I.list f;let d:=h.9;erw[call_tuple_list g.isList (λd kp=>?_) (by simp only[xW]<;>lia)];let i:ZD X B Y H {s with heap:=d }:=I.kept (t':=s.toks) kp;let k:ZD X B Y (upd H d.objs.size (7 ys)) {s with heap:=d.push {cls:=.type "tuple", data:=.seq c.4 } } :=
   i.laid (t':=s.toks) (λb o e=>xC _ e) (xD _) (show ZQ X.prog X.w _ _ _ (7 ys) from(j,c,h,IsTup.new _ _))
  rwa[3 d.7,2,k,3,q _ (i.og.fresh (xD _))]
 .let(c,h,g,j):=I.tuple f;rwa[call_tuple_same g (3 p,H,I,3,q)]
def tyV(K:uFg)(T:String)(x:V)(H:Hp):Prop:=match x with
 | .str _=>T="str"
 | .int _=>T="int"
 | .ref p=>(T="list" /\ ∃L,ZG K H p L)\/(T="tuple" /\ ∃o,K.lookup p=8 o/\o.cls=.type "tuple" /\ o.dict=_n)\/
   (T="dict" /\ ((∃U,H p=8 (.dK U))\/∃U,H p=8 (.dT U)))\/(T="set" /\ ∃S n,H p=8 (.set S n))
 | _=>False
def HR{B:List (jY×Obj)}{Y:St}{H:Hp}{s:jW}{T:String}{x:V}{v:jX}(I:ZD X B Y H s)(r:ZH x v)(f:tyV X.K T x H) :
  s.TypeIs v T/\∀a,v=3 a->∃c,s.heap.get? a=8 c/\c.dict=none:=by
 cases x with
 | str z =>
  let(t,7):=r;cases (show T="str" from f);rwa[typeIs_str s z t,λ_ e=>nomatch e]
 | int i =>
  let(t,7):=r;cases (show T="int" from f);rwa[typeIs_int s i t,λ_ e=>nomatch e]
 | ref p =>
  ext r;rcases f with⟨rfl,L,c⟩ | ⟨rfl,o,d,hc,g⟩ | ⟨rfl,d⟩ | ⟨rfl,S,n,d⟩
  .let(i,2,h,2):=I.list c;erw[h.isList.typeIs,λa e=>?_];ext e;let(o,n,e,c,g,2):=h;rwa[o,e,g]
  .erw[(o,I.oi p o d,hc),λa e=>?_];ext e;rwa[o,I.oi _ o d,g]
  .let z:∃o,s.heap.get? p=8 o/\o.ExactDict:=by
    rcases d with⟨U,d⟩ | ⟨U,d⟩
    .let(2222,o,22,e,c,2):=I.og p _ d;rwa[o,e,c]
    .let(2222,o,22,e,c,2):=I.og p _ d;rwa[o,e,c]
   let(o,e,c):=z;erw[(o,e,c.1),λa g=>?_];ext g;rwa[o,e,c.2.1]
  .let(o,222,e,c,2):=I.og p _ d;erw[(o,e,c.1),λa g=>?_];ext g;rwa[o,e,c.2.1]
 | _=>rwa[False.elim f]
def fG(K:uFg)(T:String)(r:V->List V->Hp->VK->Prop)(c:TE):TE:=λY H Q=>c Y H λx c=>tyV K T x c/\r x [] c Q
def FW(K:uFg)(T:String)(r:V->List V->Hp->VK->Prop)(c:TE)(t:TA):TE:=λY H Q=>c Y H λx c=>tyV K T x c/\t Y c λL c=>r x L c Q
variable{o e:Expr}{es:List Expr}{to:TE}{t:TA}{name:Str}{apos cpos:Pos}{T id:String}{r:V->List V->Hp->VK->Prop}
end
def jP(X:Cx)(id:String)(r:V->List V->Hp->VK->Prop):Prop :=
 ∀(B:List (jY×Obj))(s:jW)(Y:St)(H:Hp)(x:V)(L:aG)(v:jX)(a:jT)(Q:VK),ZD X B Y H s->ZH x v->ZJ L a->r x L H Q ->
  _w (_m X.prog X.w) X.A (call (.builtin id) (v::a)) (EP X B Y Q) X.xe s
def ZJ.one:∀{x:V}{us:jT},ZJ [x] us->∃u,us=[u]/\ZH x u:=(λh=>by
 cases h with | cons r t=>ext t;rwa[1,r])
theorem ZJ.zero:∀{us:jT},ZJ [] us->us=[]
 | _,.nil=>rfl
theorem ZJ.eraseIdx:∀{L:aG}{us:jT}(i:Nat),ZJ L us->ZJ (L.eraseIdx i) (us.eraseIdx i)
 | _,_,_,.nil=>.nil
 | _,_,0,.cons _ t=>t
 | _,_,i+1,.cons r t=>.cons r (ZJ.eraseIdx i t)
theorem ZJ.rep(h:ZJ L us):∀k:Nat,ZJ (List.replicate k L).flatten (List.replicate k us).flatten
 | 0=>.nil
 | k+1=>by
  rw[zA,zA,wV,wV];rwa[ZJ.append h (ZJ.rep h k)]
theorem GW{a:Type}:∀(l:List a)(i:Nat),(l.eraseIdx i).9<=l.9
 | [],_=>xD _
 | _::_,0=>me _
 | _::r,i+1=>mi (GW r i)
theorem Nt(b:jT):∀k a,
  List.foldl (λc d=>c++d) a.toArray (List.replicate k b.4)=(a++(List.replicate k b).flatten).4
 | 0,a=>by simp
 | k+1,a=>by
  let e:a.4++b.4=(a++b).4:=by simp
  let c:(a++b)++(List.replicate k b).flatten=a++(List.replicate (k+1) b).flatten:=by grind
  rw[<- c,<- Nt b k (a++b),<- e,zA,zL]
section
variable{X:Cx}{B:List (jY×Obj)}{Y:St}{H:Hp}{s:jW}{l:jY}{L ys:aG}
def ZD.lset{a its':jT}{n:Nat}{f:Array jX->Array jX}{t':Nat}(I:ZD X B Y H s)(b:H l=8 (6 L))(e:s.heap.get? l=_s {cls:=.type "list", data:=.seq a.toArray n })(c:f a.4=its'.4)(d:ZJ ys its')(hz:ys.9<=_z) :
  ZD X B Y (upd H l (6 ys)) {s with heap:=s.heap.update l (Obj.mapSeq f),toks:=t' }:=by
 let q:=IsL.update e f;rw[c] at q;erw[I.write (x:=l) (e:=l) (by rw[b];rwa[trivial]) (1 S) (λc u a b=>(zQ s.heap (Obj.mapSeq f) (Ne.symm a)).trans b) (2,q) ?_];rwa[hz,its',2,d,q]
def ZD.lnew{a:jT}{t':Nat}(I:ZD X B Y H s)(b:ZJ ys a)(hz:ys.9<=_z) :
  ZD X B Y (upd H s.heap.objs.size (6 ys)) {s with heap:=s.heap.push {cls:=.type "list", data:=.seq a.4 },toks:=t' }:=(I.laid (λ_ _ q=>xC _ q) (xD _) (hz,a,(0),b,xN _ S))
def ZD.fresh(I:ZD X B Y H s):H s.8=none:=(I.og.fresh (xD _))
def ZD.ou(I:ZD X B Y H s)(b:H l=8 (6 L)):L.9<=_z/\∃(a:jT)(n:Nat),ZJ L a/\L.9=a.9/\s.heap.get? l=_s {cls:=.type "list", data:=.seq a.toArray n }:=by
 let(z,a,n,r,e):=I.og l _ b;rwa[z,a,n,r,r.9,e]
def RG(h:n<=_z):Builtin.List.listTooLong n=false:=by
 unfold Builtin.List.listTooLong;rwa[yP ()]
end
inductive VP(x:V)(vs:aG)(H:Hp)(Q:VK):Prop
 |mk(l L y)(_:x=3 l)(_:vs=[y])(_:H l=8 (6 L))(_:L.9<_z)(_:Q .non (upd H l (6 (L ++ [y]))))
inductive AU(x:V)(vs:aG)(H:Hp)(Q:VK):Prop
 |mk(l L i k y)(_:x=3 l)(_:vs=[4 i])(_:H l=8 (6 L))(_:-(2^63)<=i)(_:i<2^63)(_:seqIndex? i L.9=8 k)(_:L[k]?=8 y)(_:Q y (upd H l (6 (L.eraseIdx k))))
inductive Bf(x:V)(vs:aG)(H:Hp)(Q:VK):Prop
 |mk(l L)(_:x=3 l)(_:vs=[])(_:H l=8 (6 L))(_:Q .non (upd H l (6 [])))
inductive Gw(x y:V)(H:Hp)(Q:VK):Prop
 |mk(l b L zs)(_:x=3 l)(_:y=3 b)(_:H l=8 (6 L))(_:H b=8 (6 zs))(_:L.9+zs.9<=_z)(_:∀p,H p=_n->Q (3 p) (upd H p (6 (L++zs))))
inductive FU(x y:V)(H:Hp)(Q:VK):Prop
 |mk(l k L)(_:x=3 l)(_:y=4 k)(_:H l=8 (6 L))(_:-(2^63)<=k)(_:k<2^63)(_:L.9 * k.toNat<=_z)(_:∀p,H p=_n->Q (3 p) (upd H p (6 (List.replicate k.toNat L).flatten)))
def Xf{a:Type}(L:List a)(k:Nat):(List.replicate k L).flatten.9=k * L.9:=by
 induction k with
 | zero=>simp
 | succ k a=>rw[zA,wV,xI,a,Nat.succ_mul,Nat.add_comm]
section
set_option maxRecDepth 100000 in
end
section
variable{κ:Type} [DecidableEq κ]
def Z2(U:List (κ×V))(k:κ):Option V:=(U.find? λa=>decide (a.1=k)).map (·.2)
def Z9(U:List (κ×V))(k:κ)(v:V):List (κ×V) :=
 if (U.any λa=>decide (a.1=k))=_t then U.map (λa=>if a.1=k then (a.1,v) else a) else U ++ [(k,v)]
def TX{p:κ×V}{r:List (κ×V)}{k:κ}(e:p.1=k):Z2 (p::r) k=8 p.2:=by simp[Z2,wA,e]
def J9{p:κ×V}{r:List (κ×V)}{k:κ}(e:¬p.1=k):Z2 (p::r) k=Z2 r k:=by simp[Z2,wA,e]
theorem CL(k:κ):∀U:List (κ×V),(U.any λa=>decide (a.1=k))=(Z2 U k).isSome
 | []=>rfl
 | p::r=>by
  rw[mh]
  by_cases e:p.1=k
  .simp only[TX e,yD e,Bool.true_or,Option.isSome_some]
  .rw[J9 e,yP e,Bool.false_or];rwa[CL k r]
theorem Hl(k j:κ)(y:V):∀U:List (κ×V),Z2 (U.map λa=>if a.1=k then (a.1,y) else a) j=(Z2 U j).map λx=>if j=k then y else x
 | []=>rfl
 | p::r=>by
  let a:=Hl k j y r;rw[yO]
  by_cases h:p.1=k
  .rw[_j h]
   by_cases e:p.1=j
   .rw[TX (p:=(p.1,y)) e,TX e,wR,_j (e.symm.trans h)]
   .rw[J9 (p:=(p.1,y)) e,J9 e,a]
  .rw[_i h]
   by_cases e:p.1=j
   .rw[TX (p:=p) e,TX e,wR,_i (λz=>h (e.trans z))]
   .rw[J9 (p:=p) e,J9 e,a]
theorem Md(k j:κ)(y:V):∀U:List (κ×V),Z2 U k=_n->Z2 (U ++ [(k,y)]) j=if j=k then 8 y else Z2 U j
 | [],_=>by
  by_cases e:k=j
  .rw[_j e.6];rwa[TX (p:=(k,y)) e]
  .rw[_i (λz=>e z.6)];rwa[J9 (p:=(k,y)) e]
 | p::r,hn=>by
  rw[yL];let a:¬p.1=k:=λz=>by rw[TX z] at hn;ext hn
  rw[J9 a] at hn;let b:=Md k j y r hn
  by_cases e:p.1=j
  .rw[TX e,TX e,_i (λz=>a (e.trans z))]
  .rw[J9 e,J9 e,b]
def TZ(U:List (κ×V))(k j:κ)(y:V):Z2 (Z9 U k y) j=if j=k then 8 y else Z2 U j:=by
 unfold Z9
 by_cases a:(U.any λb=>decide (b.1=k))=_t
 .rw[_j a,Hl];rw[CL] at a
  by_cases e:j=k
  .let(x,b):=Option.isSome_iff_exists.mp a;rw[_j e,e,b,wR,_j S]
  .rw[_i e];cases Z2 U j with
   | none=>rfl
   | some x=>rw[wR,_i e]
 .rw[_i a];erw[Md k j y U ?_];rw[CL] at a;cases q:Z2 U k with
  | none=>rfl
  | some x=>rw[q] at a;rwa[(a S).elim]
def Ug(U:List (κ×V))(k:κ)(v:V):(Z9 U k v).9<=U.9+1:=by
 unfold Z9;split
 .rw[xA];lia
 .grind
def fB{U:List (κ×V)}{k:κ}(v:V)(h:Z2 U k=_n):Z9 U k v=U ++ [(k,v)]:=by
 unfold Z9;rw[CL,h];rwa[_i aA]
def YU.oh(r:YU o u):o.isSome=u.isSome:=by
 cases o with
 | none=>cases u with
  | none=>rfl
  | some _=>rwa[(show False from r).elim]
 | some _=>cases u with
  | none=>rwa[(show False from r).elim]
  | some _=>rfl
def YU.getD(r:YU o u)(a:ZH d d'):ZH (o.getD d) (u.getD d'):=by
 cases o with
 | none=>cases u with
  | none=>rwa[a]
  | some _=>rwa[(show False from r).elim]
 | some _=>cases u with
  | none=>rwa[(show False from r).elim]
  | some _=>rwa[r]
def KV.val(r:KV U vs)(k:κ):YU (Z2 U k) (valueAt vs k):=by
 unfold KV at r
 induction r with
 | nil=>rwa[True.intro]
 | @cons p q a c h t g =>
  let(d,f):=h
  by_cases e:p.1=k
  .let a:q.1=k:=d.symm.trans e;let b:valueAt (q::c) k=8 q.2:=by simp[valueAt,wA,a]
   rw[TX e,b];rwa[f]
  .let a:¬q.1=k:=λz=>e (d.trans z);let b:valueAt (q::c) k=valueAt c k:=by simp[valueAt,wA,a]
   rw[J9 e,b];rwa[g]
def KV.any(r:KV U vs)(k:κ):(U.any λa=>decide (a.1=k))=vs.any λa=>decide (a.1=k):=by
 unfold KV at r
 induction r with
 | nil=>rfl
 | cons h t a=>rw[mh,mh,a,h.1]
def KV.repl(r:KV U vs)(k:κ)(b:ZH y u) :
  KV (U.map λa=>if a.1=k then (a.1,y) else a) (vs.map λa=>if a.1=k then (a.1,u) else a):=by
 unfold KV at r |-
 induction r with
 | nil=>rwa[.nil]
 | @cons p q b c h t a =>
  rw[yO,yO];erw[.cons ?_ a];let(a,b):=h
  by_cases e:p.1=k
  .grind
  .grind
def KV.put(r:KV U vs)(k:κ)(a:ZH y u):KV (Z9 U k y) (stored vs k u):=by
 unfold Z9 stored;rw[r.any k]
 by_cases e:(vs.any λb=>decide (b.1=k))=_t
 .rw[_j e,_j e];rwa[r.repl k a]
 .rw[_i e,_i e];rwa[Paired.snoc r (3,a)]
def KV.length{U:List (κ×V)}{vs:List (κ×jX)}(r:KV U vs):U.9=vs.9:=(m9 r)
end
def Bp(r:ZH (kV k) u):(Wu P w).is k u=true:=by
 cases k with
 | inl i=>let(t,e):=(show ∃t,u=Value.int i t from r);subst e;rwa[gR P w i t]
 | inr x=>let(t,e):=(show ∃t,u=Value.str x t from r);subst e;rwa[RE P w x t]
theorem KD:∀{ks:List ZV}{us:jT},ZJ (ks.map kV) us->ItemsAre (Wu P w) ks us
 | [],_,r=>by rw[wK] at r;ext r;rwa[.nil]
 | k::ks,_,r=>by
  rw[yO] at r;cases r with
  | cons h t=>rwa[.cons (Bp h) (KD t)]
abbrev KT(H:Hp):List (List ZV×V)->List (List ZV×jY×jX)->Prop:=Paired λp q=>p.1=q.1/\H q.2.1=8 (7 (p.1.map kV))/\ZH p.2 q.2.2
def KT.val(r:KT H U L)(k:List ZV):YU (Z2 U k) ((atKey L k).map (·.2)):=by
 induction r with
 | nil=>rwa[True.intro]
 | @cons p q a c h t g =>
  let(d,2,f):=h
  by_cases e:p.1=k
  .let a:q.1=k:=d.symm.trans e;let b:atKey (q::c) k=8 q.2:=by simp[atKey,wA,a]
   rw[TX e,b];rwa[f]
  .let a:¬q.1=k:=λz=>e (d.trans z);let b:atKey (q::c) k=atKey c k:=by simp[atKey,wA,a]
   rw[J9 e,b];rwa[g]
def KT.repl(r:KT H U L)(k:List ZV)(b:ZH y u) :
  KT H (U.map λa=>if a.1=k then (a.1,y) else a) (L.map (putAt k u)):=by
 induction r with
 | nil=>rwa[.nil]
 | @cons p q b c h t a =>
  rw[yO,yO];erw[.cons ?_ a];let(a,b,c):=h;unfold putAt
  by_cases e:p.1=k
  .grind
  .grind
def KT.put(r:KT H U L)(k:List ZV)(c:H b=8 (7 (k.map kV)))(a:ZH y u) :
  KT H (Z9 U k y) (storedH L k b u):=by
 let e:(U.any λd=>decide (d.1=k))=(atKey L k).isSome:=by
  rw[CL,(r.val k).oh,mj]
 unfold Z9 storedH;rw[e]
 by_cases q:(atKey L k).isSome=_t
 .rw[_j q,_j q];rwa[r.repl k a]
 .rw[_i q,_i q];rwa[Paired.snoc r (3,c,a)]
def KT.keeps(r:KT H U L)(a:∀b ys,H b=8 (7 ys)->J b=8 (7 ys)):KT J U L:=(Paired.mapP r λ_ _ z=>(z.1,a _ _ z.2.1,z.2.2))
def MX(b:YT P w H h)(e:Rd H a u):ZQ P w H h a u:=(e.ok b)
def A5(b:YT P w H h)(e:Rd H a (.dK U)):U.9<=_z/\(a==sysModules)=_x/\∃vs,KV U vs/\h.DictOf (Wu P w) a vs:=(show ZQ P w H h a (.dK U) from MX b e)
def IC(b:YT P w H h)(e:H a=8 (.dK U)):U.9<=_z/\(a==sysModules)=_x/\∃vs,KV U vs/\h.DictOf (Wu P w) a vs:=(A5 b (1 e))
def B6(g:YT P w H h)(e:H a=8 (7 (ks.map kV))):(tupleKind (Wu P w)).is h ks a:=by
 let(2,b,r,o,c,d,n,f):=(show ZQ P w H h a (7 (ks.map kV)) from g a _ e);rwa[o,b.4,n,c,d,f,by simpa using KD r]
def Bd(f:YT P w H h)(e:Rd H a (.dT U)):U.9<=_z/\(a==sysModules)=_x /\
  ∃L,KT H U L/\h.DictOfH (tupleKind (Wu P w)) a L:=by
 let(z,y,L,r,o,c,b,d,g,i,j,k):=(show ZQ P w H h a (.dT U) from MX f e);erw[z,y,L,r,o,c,b,d,g,i,j,λx b=>?_,k];let c:∀{l:List (List ZV×V)}{m:List (List ZV×jY×jX)},KT H l m->∀x∈m,(tupleKind (Wu P w)).is h x.1 x.2.1:=by
  intro l m q
  induction q with
  | nil=>intro x b;rwa[nomatch b]
  | @cons p q i j d t g =>
   intro x b;rcases xE.mp b with e | b
   .subst e;rwa[B6 f (by rw[<- d.1];rwa[d.2.1])]
   .rwa[g x b]
 rwa[c r x b]
def Hu(b:YT P w H h)(e:H a=8 (.dT U)):U.9<=_z/\(a==sysModules)=_x /\
  ∃L,KT H U L/\h.DictOfH (tupleKind (Wu P w)) a L:=(Bd b (1 e))
def YF(H:Hp)(a:jY)(y:V)(r:Option V):Prop :=
 (∃U k,Rd H a (.dK U)/\y=kV k/\r=Z2 U k)\/∃U k b,Rd H a (.dT U)/\y=3 b/\H b=8 (7 (k.map kV))/\r=Z2 U k
def WD(H:Hp)(a:jY)(y v:V)(J:Hp):Prop :=
 (∃U k,H a=8 (.dK U)/\y=kV k/\U.9<_z/\J=upd H a (.dK (Z9 U k v)))\/
 ∃U k b,H a=8 (.dT U)/\y=3 b/\H b=8 (7 (k.map kV))/\U.9<_z/\J=upd H a (.dT (Z9 U k v))
def YF.k{H:Hp}{a:jY}{U:List (ZV×V)}{k:ZV}(e:H a=8 (.dK U)):YF H a (kV k) (Z2 U k):=(1 (U,k,1 e,33))
def YF.t{H:Hp}{a b:jY}{U:List (List ZV×V)}{k:List ZV}(e:H a=8 (.dT U))(c:H b=8 (7 (k.map kV))):YF H a (3 b) (Z2 U k):=(2 (U,k,b,1 e,3,c,3))
def WD.k{H:Hp}{a:jY}{U:List (ZV×V)}{k:ZV}{v:V}(e:H a=8 (.dK U))(b:U.9<_z):WD H a (kV k) v (upd H a (.dK (Z9 U k v))):=(1 (U,k,e,3,b,3))
def WD.t{H:Hp}{a b:jY}{U:List (List ZV×V)}{k:List ZV}{v:V}(e:H a=8 (.dT U))(c:H b=8 (7 (k.map kV)))(d:U.9<_z) :
  WD H a (3 b) v (upd H a (.dT (Z9 U k v))):=(2 (U,k,b,e,3,c,d,3))
section
variable{X:Cx}{B:List (jY×Obj)}{Y:St}{H:Hp}{s:jW}{a:jY}{y v:V}{u r:jX}{o:Option V}{A:kD}{E:jQ}
def ZD.big(I:ZD X B Y H s):sysModules<s.8:=by
 let h:_g<s.8:=(I.mod.glob.keeps I.bk).lt;rwa[Nat.lt_trans aA h]
def RA{Q:jQ}(t:A.units+1<cLine)(I:ZD X B Y H s)(g:YF H a y (8 v))(n:ZH y u)(h:∀f c,ZD X B Y H c->ZH v f->Q f c) :
  _w (_m X.prog X.w) A (getItem (3 a) u) Q E s:=by
 rcases g with⟨U,k,e,j,l⟩ | ⟨U,k,b,e,j,eb,l⟩
 .subst j;let(z,p,w,c,i):=A5 I.og e;let(f,m,d):=YU.some_of (v:=v) (o:=valueAt w k) (by rw[l];rwa[c.val k]);rwa[wpAny_getItem_of (Bp n) i.mapOf m (h f _ (I.tok _) d)]
 .subst j;cases (show u=Value.ref b from n);let(z,p,L,c,i):=Bd I.og e;let(f,m,d):=YU.some_of (v:=v) (o:=(atKey L k).map (·.2)) (by rw[l];rwa[c.val k]);let(p,e,c):=xS.mp m;erw[wpAny_getItem_heap (tupleKind_room_in1 t) (B6 I.og eb) i e ?_];rw[c];rwa[h f _ (I.tok _) d]
def SQ{Q:jQ}(m:A.units+1<cLine)(I:ZD X B Y H s)(g:YF H a y o)(j:ZH y u)(h:∀c,ZD X B Y H c->Q (.bool o.isSome) c) :
  _w (_m X.prog X.w) A (_c .In u (3 a)) Q E s:=by
 rcases g with⟨U,k,e,f,l⟩ | ⟨U,k,b,e,f,eb,l⟩
 .subst f;let(z,i,n,c,d):=A5 I.og e;erw[wpAny_in_of (Bp j) i d.mapOf ?_];rw[<- (c.val k).oh,<- l];rwa[h _ (I.tok _)]
 .subst f;cases (show u=Value.ref b from j);let(z,i,L,c,d):=Bd I.og e;erw[wpAny_in_heap (tupleKind_room_in1 m) (B6 I.og eb) i d ?_];let q:=(c.val k).oh;rw[mj] at q;rw[<- q,<- l];rwa[h _ (I.tok _)]
def fD{Q:jQ}(m:A.units+1<cLine)(I:ZD X B Y H s)(g:YF H a y o)(j:ZH y u)(h:∀c,ZD X B Y H c->Q (.bool (!o.isSome)) c) :
  _w (_m X.prog X.w) A (_c .NotIn u (3 a)) Q E s:=by
 rcases g with⟨U,k,e,f,l⟩ | ⟨U,k,b,e,f,eb,l⟩
 .subst f;let(z,i,n,c,d):=A5 I.og e;erw[wpAny_notIn_of (Bp j) i d.mapOf ?_];rw[<- (c.val k).oh,<- l];rwa[h _ (I.tok _)]
 .subst f;cases (show u=Value.ref b from j);let(z,i,L,c,d):=Bd I.og e;erw[wpAny_notIn_heap (tupleKind_room_in1 m) (B6 I.og eb) i d ?_];let q:=(c.val k).oh;rw[mj] at q;rw[<- q,<- l];rwa[h _ (I.tok _)]
def Dr{h':Heap}{t':Nat}{b:HO}(I:ZD X B Y H s)(d:Ce (H a))(hs:Heap.SameBut a s.heap h')(f:∃q,h'.get? a=8 q)(c:ZQ X.prog X.w (upd H a b) h' a b) :
  ZD X B Y (upd H a b) {s with heap:=h',toks:=t' }:=(I.write (x:=a) (e:=a) d (1 S) (λb q d z=>(hs.2 b d).trans z) f c)
def HC(z:U.9<=_z)(c:(a==sysModules)=_x)(b:KV U vs)(dd:h'.DictOf (Wu P w) a vs) :
  ZQ P w J h' a (.dK U):=((z,c,vs,b,dd))
def gW{J:Hp}{Q:Unit->jW->Prop}(G:A.units+1<cLine)(I:ZD X B Y H s)(g:WD H a y v J)(C:ZH y u)(x:ZH v r)(h:∀c,ZD X B Y J c->Q _u c) :
  _w (_m X.prog X.w) A (setItem (3 a) u r) Q E s:=by
 rcases g with⟨U,k,e,m,l,j⟩ | ⟨U,k,b,e,m,eb,l,j⟩
 .subst m j;let(z,l,d,c,i):=IC I.og e;let t:d.9<=sizeLine:=by rw[<- c.9];rwa[z]
  let n:(Z9 U k v).9<=sizeLine:=by have:=Ug U k v;lia
  erw[wpAny_setItem_pairs (hsz:=t) (Bp C) i λw d p=>h _ ?_];let F:∃q,w.get? a=8 q:=let ⟨q,_,_,f,_⟩:=d;(q,f)
  rwa[Dr I (by rw[e];rwa[True.intro]) p F (HC n l (c.put k x) d)]
 .subst m j;cases (show u=Value.ref b from C);let(z,l,L,c,i):=Hu I.og e;let t:L.9<=sizeLine:=by rw[<- m9 c];rwa[z]
  let n:(Z9 U k v).9<=sizeLine:=by have:=Ug U k v;lia
  erw[wpAny_setItem_heap (hsz:=t) (tupleKind_room_in1 G) (B6 I.og eb) i λw d p=>h _ ?_];let(q,j,i,f,m,t,w,2,C):=d;erw[Dr I (by rw[e];rwa[True.intro]) p (q,f) (n,l,2,(c.put k eb x).keeps λc k d=>?_,q,j,i,f,m,t,w,C)];rw[Ze (KQ d e (λz=>nomatch z))];rwa[d]
end
section
variable{X:Cx}{B:List (jY×Obj)}{Y:St}{H:Hp}{s:jW}{a:jY}{U:List (ZV×V)}{k:ZV}{u:jX}{A:kD}{E:jQ}
def Ry{Q:jQ}(I:ZD X B Y H s)(e:Rd H a (.dK U))(h:∀t b,ZD X B Y H b->Q (4 U.length t) b):_w (_m X.prog X.w) A (call (.builtin "len") [3 a]) Q E s:=by
 let(z,d,f,b,c):=A5 I.og e;erw[call_len_dict d c (by rw[<- b.9];rw[sizeLine_eq] at z;lia) ?_];rw[<- b.9];rwa[h _ _ (I.tok _)]
end
def Fw(i:Expr):Prop:=∀b a,subscripted i _x b a=operate [b,a] (getItem b a)
def OJ{prog:jZ}{w:kB}{A:kD}{E:jQ}{s:jW}{env:Env}{b a:Expr}{pos:Pos}{T id:String}{Q:jQ}(f:typeLookup (.type T) "__getitem__"=pure (8 (.builtin id)))(hs:Fw a)(h:_w (_m prog w) A (eval b env) (λo d=>_w (_m prog w) A (eval a env) (λi c=>c.TypeIs o T/\_w (_m prog w) A (getItem o i) Q E c) E d) E s) :
  _w (_m prog w) A (eval (.Subscript b a pos) env) Q E s:=by
 erw[Subscript_ (wpAny_mono h (λo d e=>wpAny_mono e (λi c d=>?_) λ_ _ x=>x) λ_ _ x=>x)];let(e,d):=d;unfold subscriptTail;erw[_b ?_];rw[getitemInPython_of_ne e.not_modules];erw[_b (wpAny_specialOf e f ?_)];let e:_w (_m prog w) A (subscripted a _x o i) (λr a=>_w (_m prog w) A (letTemporaryGo b o r >>= λ_=>pure r) Q E a) E c:=by
  rw[hs o i];rwa[wpAny_operating (wpAny_mono d (λr a b=>_b (wpAny_letTemporaryGo (_p b))) λ_ _ x=>x)]
 first
  | rwa[_p (_b e)]
  | rwa[_b (_p (_b e))]
  | rwa[_b e]
def cO{X:Cx}{B:List (jY×Obj)}{Y:St}{H:Hp}{s:jW}{a:jY}{y:V}{o:Option V}(I:ZD X B Y H s)(g:YF H a y o):s.TypeIs (3 a) "dict" := by
 rcases g with⟨U,k,e,_,_⟩ | ⟨U,k,b,e,_,_,_⟩
 .let(22,d,2,c):=A5 I.og e;rwa[c.typeIs]
 .let(22,L,2,c):=Bd I.og e;rwa[c.typeIs]
inductive Bo(Q:VK)(x y:V)(b:Hp):Prop
 |mk(a v)(_:x=3 a)(_:YF b a y (8 v))(_:Q v b)
def Kb(a b:TE):TE:=λY H Q=>a Y H λx a=>b Y a λy a=>Bo Q x y a
inductive sDPut_(D:YG)(Y:St)(v x y:V)(b:Hp):Prop
 |mk(a H4)(_:x=3 a)(_:WD b a y v H4)(_:D.nx Y H4)
def MU(b c a:TE):TS:=λD Y H=>a Y H λv a=>b Y a λx a=>c Y a λy a=>sDPut_ D Y v x y a
def cY(e:X.A.units+1<cLine)(a:PE X o td)(c:PE X i ty)(hs:Fw i):PE X (.Subscript o i pos) (Kb td ty):=by
 intro B s Y H Q I h;erw[OJ PySem.F.slot_dict_getitem.lookup hs (thn (a B s Y H _ I h) λu f ⟨x,a,b,h,d⟩=>thn (c B f Y a _ b d) λk l ⟨y,c,b,j,a,v,d,g,f⟩=>?_)];subst d;obtain rfl:u=Value.ref a:=h;rwa[cO b g,RA e b g j λe d b a=>(v,c,b,a,f)]
def Qp(e:X.A.units+1<cLine)(d:PE X o td)(c:PE X i ty)(a:PE X value tv)(hs:swapsWith value (8 (.Subscript o i pos')) pos.line X.env=pure _x) :
  PS X (.Assign [.Subscript o i pos'] value pos) (MU td ty tv):=by
 intro B s Y H D I h;erw[wpAny_Assign_Subscript (thn (a B s Y H _ I h) λr g ⟨v,a,b,h,f⟩=>thn (d B g Y a _ b f) λu f ⟨x,a,b,j,d⟩=>thn (c B f Y a _ b d) λm n ⟨y,l,c,k,a,b,d,g,f⟩=>?_) hs];subst d;obtain rfl:u=Value.ref a:=j;rwa[gW e c g k h λc a=>(Y,b,a,f)]
def IY(h:Heap)(a:sysModules<h.7):ZQ P w H (h.push {cls:=.type "dict", data:=.dict #[] }) h.objs.size (.dK []):=((yI _,beq_eq_false_iff_ne.mpr (Ne.symm (yF a)),[],.nil,Heap.DictOf.new h))
def RT(h:Heap)(a:sysModules<h.7):ZQ P w H (h.push {cls:=.type "dict", data:=.dict #[] }) h.objs.size (.dT []):=((yI _,beq_eq_false_iff_ne.mpr (Ne.symm (yF a)),[],.nil,2,#[],(0),xN _ S,(3,33),33,List.nodup_nil))
def OY:TE:=λ_ H Q=>∀p,H p=_n->Q (3 p) (upd H p (.dK []))
def cW:TE:=λ_ H Q=>∀p,H p=_n->Q (3 p) (upd H p (.dT []))
def GF:List (TE×TE)->St->Hp->(List (V×V)->Hp->Prop)->Prop
 | [],_,H,Q=>Q [] H
 | (tk,tv)::r,Y,H,Q=>tk Y H λx a=>tv Y a λy a=>GF r Y a λb a=>Q ((x,y)::b) a
abbrev VV:List (V×V)->List (jX×jX)->Prop:=Paired λp q=>ZH p.1 q.1/\ZH p.2 q.2
def Dq(X:Cx)(pos:Pos)(b:List (Option Expr))(a:List Expr)(c:List (TE×TE)):Prop :=
 ∀(B:List (jY×Obj))(s:jW)(Y:St)(H:Hp)(Q:List (V×V)->Hp->Prop),ZD X B Y H s->GF c Y H Q ->
  _w (_m X.prog X.w) X.A (evalPairs (pairTrees b a X.env pos)) (λc b=>∃a J,ZD X B Y J b/\VV a c/\Q a J) X.xe s
def gP:Dq X pos [] [] []:=(λB s Y H Q I h=>pairTrees_nil_walk ([],H,I,.nil,h))
def bB(a:PE X k tk)(d:PE X v tv)(c:Dq X pos ks vs trs) :
  Dq X pos (8 k::ks) (v::vs) ((tk,tv)::trs):=(λB s Y H Q I h =>
 pairTrees_cons_walk (thn (a B s Y H _ I h) λu g ⟨x,a,b,f,e⟩=>thn (d B g Y a _ b e) λh e ⟨y,a,b,g,d⟩=> thn (c B e Y a _ b d) λi h ⟨d,b,c,a,e⟩=>((x,y)::d,b,c,.cons (f,g) a,e)))
def Az(U a:List (ZV×V)):List (ZV×V):=a.foldl (λa b=>Z9 a b.1 b.2) U
def KV.merge:∀{a:List (ZV×V)}{b:List (ZV×jX)}{U:List (ZV×V)}{vs:List (ZV×jX)},KV a b->KV U vs->KV (Az U a) (merged vs b):=by
 intro a b U vs r;unfold KV at r
 induction r generalizing U vs with
 | nil=>intro q;rwa[q]
 | @cons p q b c h t a =>
  intro b;let e:KV (Z9 U p.1 p.2) (stored vs q.1 q.2):=by
   have:=b.put p.1 h.2;rw[<- h.1];rwa[this]
  rwa[a e]
theorem M5:∀a U,(Az U a).9<=U.9+a.9
 | [],U=>by show U.9<=U.9+0;lia
 | p::r,U=>by
  let a:=M5 r (Z9 U p.1 p.2);let a:=Ug U p.1 p.2;show (Az (Z9 U p.1 p.2) r).9<=_;rw[yN];lia
theorem LB:∀{U:List (ZV×V)}{b:List (jX×jX)},VV (U.map λa=>(kV a.1,a.2)) b->∃d,Carries (Wu P w) b d/\KV U d
 | [],_,r=>by rw[wK] at r;ext r;rwa[[],True.intro,.nil]
 | p::U,_,r=>by
  rw[yO] at r;cases r with
  | @cons a b c e h t =>
   let(d,c,q):=LB (P:=P) (w:=w) t;let(e,a):=b;rwa[(p.1,a)::d,(Bp h.1,3,c),.cons (3,h.2) q]
def MR(a:List (TE×TE)):TE:=λY H Q=>∀p,H p=_n->GF a Y (upd H p (.dK [])) λb a=>a p=8 (.dK [])/\∃U:List (ZV×V),b=U.map (λb=>(kV b.1,b.2))/\U.9<=15/\Q (3 p) (upd a p (.dK (Az [] U)))
def eJ(h:Dq X pos keys values trs)(b:keys.all (·.isSome)=_t)(f:keys.9=values.9)(e:keys ≠ [])(c:keys.9<=15):PE X (.Dict keys values pos) (MR trs):=by
 intro B s Y H Q I q;let g:=I.og.fresh (xD s.8);let d:=I.laid (a:=s.8) (o:=.dK []) (h':=s.heap.push {cls:=.type "dict", data:=.dict #[] }) (t':=s.toks) (λ_ _ q=>xC _ q) (xD _) (IY s.heap I.big);erw[wpAny_Dict_walk (knd:=Wu X.prog X.w) b f e c (thn (h B _ Y _ _ d (q _ g)) λl k ⟨j,g,d,b,e,U,c,i,f⟩=>?_)];subst c;let(j,c,rk):=LB (P:=X.prog) (w:=X.w) b;let(z,g,k,i,b):=IC d.og e;ext i;erw[j,c,b,λc b i=>(3 s.8,253,f)];let j:(Az [] U).9<=sizeLine:=by
  let f:=M5 U [];rw[List.length_nil] at f;rw[sizeLine_eq];lia
 let f:∃q,c.get? s.8=8 q:=let ⟨q,_,_,c,_⟩:=b;(q,c)
 rwa[Dr d (by rw[e];rwa[True.intro]) i f (HC j g (rk.merge .nil) b)]
structure M2 (X:Cx) (o:Expr) (m:Str) (apos:Pos) (e f:Expr) (cpos:Pos):Prop where
 base:attributeBase o m X.env (eval o X.env)=eval o X.env
 few:((backTo cpos (_e [e,f] X.env)).all (λx=>!x.1)&&(backToKw cpos (keywordEach [] X.env)).all (λx=>x.1.isSome)
  && decide (([e,f]:List Expr).9+([]:List Keyword).9+(if ([]:List Keyword).isEmpty then 0 else 1)<30))=_t
 line:(apos.endLine==cpos.line)=_t
 trees:backTo cpos (_e [e,f] X.env)= [(_x,eval e X.env),(_x,eval f X.env)]
def EG(H:Hp)(a:jY):Prop:=(∃U,Rd H a (.dK U))\/∃U,Rd H a (.dT U)
def Iv{X:Cx}{B:List (jY×Obj)}{Y:St}{H:Hp}{s:jW}{a:jY}(I:ZD X B Y H s)(d:EG H a) :
  s.TypeIs (3 a) "dict" /\ (∀b,Value.ref a=3 b->∃c,s.heap.get? b=8 c/\c.dict=_n)/\(a==sysModules)=false:=by
 rcases d with⟨U,e⟩ | ⟨U,e⟩
 .let(2,i,g,2,f):=A5 I.og e;erw[f.typeIs,λb q=>?_,i];ext q;let(c,22,g,h,2):=f;rwa[c,g,h.2.1]
 .let(2,i,L,2,f):=Bd I.og e;erw[f.typeIs,λb q=>?_,i];ext q;let(c,22,g,h,2):=f;rwa[c,g,h.2.1]
section
variable{X:Cx}{B:List (jY×Obj)}{Y:St}{H:Hp}{s:jW}{a:jY}{y d:V}{u r:jX}{o:Option V}{A:kD}{E:jQ}
def SF{Q:jQ}(p:A.units+1<cLine)(I:ZD X B Y H s)(g:YF H a y o)(n:ZH y u)(m:ZH d r)(h:∀e c,ZD X B Y H c->ZH (o.getD d) e->Q e c) :
  _w (_m X.prog X.w) A (call (.builtin "dict.get") [3 a,u,r]) Q E s:=by
 rcases g with⟨U,k,e,i,l⟩ | ⟨U,k,b,e,i,eb,l⟩
 .subst i;let(z,j,t,c,f):=A5 I.og e;erw[call_meetsIn mm f.typeIs PySem.F.entry_dict_get (PySem.F.args_dict_get_3 _ _ _) (meets_dict_get_default (Wu X.prog X.w) a (Bp n) j r) (2,f.mapOf,h _ _ (I.tok _) ?_)];rw[l];rwa[(c.val k).getD m]
 .subst i;cases (show u=Value.ref b from n);let(z,j,L,c,f):=Bd I.og e;erw[call_meetsIn mm f.typeIs PySem.F.entry_dict_get (PySem.F.args_dict_get_3 _ _ _) (meetsH_dict_get_default (tupleKind (Wu X.prog X.w)) a b j r) (tupleKind_room_in1 p,k,L,B6 I.og eb,f,h _ _ (I.tok _) ?_)];rw[l];rwa[(c.val k).getD m]
end
inductive Af(d c:TE)(Y:St)(Q:VK)(x:V)(b:Hp):Prop
 |mk(a)(_:x=3 a)(_:EG b a)(_:d Y b λy b=>c Y b λz b=>∃o,YF b a y o/\Q (o.getD z) b)
def LS(a c b:TE):TE:=λY H Q=>a Y H λx a=>Af c b Y Q x a
def XJ(k:X.A.units+1<cLine)(a:PE X o td)(i:PE X e ty)(j:PE X f tx)(m:M2 X o "get" apos e f cpos):PE X (.Call (.Attribute o "get" apos) [e,f] [] cpos) (LS td ty tx):=by
 intro B s Y H Q I h;erw[wpAny_Call_method m.base m.few m.line PySem.F.plainAttrs_dict mm PySem.F.type_dict_get (thn (a B s Y H _ I h) λu n ⟨x,c,b,l,a,g,d,h⟩=>?_)];subst g;obtain rfl:u=Value.ref a:=l;let(a,g,2):=Iv b d;erw[a,g,5];rw[m.trees];erw[mn S (mr (mv (thn (i B n Y c _ b h) λg d ⟨y,a,b,h,c⟩=> mv (thn (j B d Y a _ b c) λi l ⟨z,b,a,c,j,g,d⟩=>mw ?_))))];rwa[SF k a g h c λh g c a=>(2,b,c,a,d)]
section
variable{X:Cx}{B:List (jY×Obj)}{Y:St}{H:Hp}{s:jW}{a:jY}{U:List (ZV×V)}{A:kD}{E:jQ}
end
section
variable{X:Cx}{B:List (jY×Obj)}{Y:St}{H:Hp}{s:jW}{a:jY}{y:V}{u:jX}{A:kD}{E:jQ}
end
end L2
namespace Att
open PySem PySem.W PySem.Calls PyProof.Rows
def Xd:∀ns vs,WellAll P h vs (ns.map WData.int)->IntsAre vs ns:=by
 intro ns
 induction ns with
 | nil =>
  intro vs w;rw[wK] at w;ext w;rwa[.nil]
 | cons n ns c =>
  intro vs w;rw[yO] at w;cases w with
  | cons a b =>
   ext a;rwa[.cons _ _ (c _ b)]
def NO{l:OpenLaw}{n:Nat}(u:l.most=8 n){P:Params}{h:Heap}{b:List WData}{e:jT}(c:l.row.toRowW.claim.pre b=_t)(m:WellAll P h e b) :
  ∃a vs ns,e=[Value.ref a]/\b=[WData.list (ns.map WData.int)]/\h.get? a=_s {cls:=.type "list", data:=.seq vs.4 }/\IntsAre vs ns/\ns.9<=n:=by
 let k:WShape.hasAll [] b [.list .int]=true:=(pre_splitW c).1;let o:l.pre.holds [] {args:=b }=true:=(pre_splitW c).2;let(d,r,3,p,s):=hasAllW_cons k;obtain rfl:=hasAllW_nil s;let(L,3,t):=hasW_list p;let(ns,3):=items_int t;let g:ns.9<=n:=by
  unfold OpenLaw.pre at o;let i:(WTm.not (.lt (.lit (4 (n:Int))) (.len (.arg 0)))).holds [] {args:=[.list (ns.map .int)] }=true:=by
   let i:=(holds_andW o).1;rw[u] at i;rwa[i]
  let j:=condW_of i (w_not (w_lt w_lit (w_len_list (w_arg S))));rw[xA] at j;erw[Nat.le_of_not_lt λq=>?_];let w:(n:Int)<((ns.9:Nat):Int):=by lia
  first
   | (rw[yD w] at j;rwa[_a j aA])
   | (simp at j;lia)
 cases m with
 | cons x y =>
  ext y;cases x with
  | list v f=>rwa[22,ns,33,v,Xd ns _ f,g]
def iS(l:OpenLaw)(a:List WData):l.row.toRowW.claim.post a (.bool _t) a=true:=(postW_of (r:=l.row.toRowW) (X:=(_t==_t))
  (show WShape.has [] (.bool _t) .bool=_t by first | rfl | decide | simp[WShape.has,WShape.arms,WShape.armsAll])
  (show (WTm.eq .res (.lit (.bool _t))).value [] {args:=a,res:=8 (.bool _t),after:=a }=8 (.bool (_t==_t)) from w_eq_bool (w_res S) w_lit) S)
def attach_call{l:OpenLaw}{n:Nat}{q:jZ}{loose:jS}{XP:(jR)->Heap->Prop}{YP:kB->Heap->Prop}{d:DefRec}(C:l.most=8 n)(e:d.params.defaults=[])(call:∀w c b mg u g o pm k doc a vs ns, Ground q loose [] XP w c mg u b.heap->YP w b.heap -> b.heap.get? g=8 o->o.data=.func (docDef d.name d.params d.body d.scope pm k doc)->b.heap.CodeRec k d.name->mg d.name=8 (3 g)-> b.heap.get? a=_s {cls:=.type "list", data:=.seq vs.4 }->IntsAre vs ns->ns.9<=n->b.gens=#[]-> codeAny (_m l.prog w) callerA (.call (3 g) ([3 a],[])) (λr m=>r=.ok (.ret (.bool _t))/\OldK b.heap m.heap/\m.os=b.os/\AllBare m.gens) b) :
  WalkO q loose XP YP l.row.toRowW d [] (λf vs=>PySem.call f vs):=by
 intro w c b mg u G Y g o pm k doc y kV E z p i s A h x H j v F t B;obtain rfl:y=.none:=Dflts.none i e;obtain rfl:kV=.none:=Dflts.noKw i;let(a,vs,ns,33,i,e,h):=NO C j t;erw[enter_call (codeAny_mono (call w c b mg u g o pm k doc a vs ns G Y E (fd_plain z) p s i e h A) λr m g=>?_)];let(3,b,c,e):=g;rwa[1 (.bool _t,.bool _t,[],3,λ_=>rfl,.bool _t,iS l _,λ_=>(List.Pairwise.nil,λ_ g=>(nomatch g))),b,c,e]
section
variable{prog:jZ}{w:kB}{A:kD}{E:jQ}{s:jW}{K:Frag}
end
end Att
namespace L2
open PySem PySem.Spec PyProof.Rows
theorem Hm:∀{vs:jT}{ns:List Int},IntsAre vs ns->ZJ (ns.map V.int) vs
 | _,_,.nil=>.nil
 | _,_,.cons n t h=>.cons (t,3) (Hm h)
def Yt(s:Stmt)(j:Nat):Stmt:=match s with
 | .ClassDef _ _ _ a _ _ _ _ _ _ _=>a.getD j (.Pass ((0),(0),(0),(0)))
 | _=>.Pass ((0),(0),(0),(0))
def Wy(s:Stmt):Arguments:=match s with
 | .FunctionDef _ a _ _ _ _ _ _ _ _=>a
 | _=>{posonlyargs:=[],args:=[],vararg:=_n,kwonlyargs:=[],kw_defaults:=[],kwarg:=_n,defaults:=[] }
def Yu(s:Stmt):List Stmt:=match s with
 | .FunctionDef _ _ b _ _ _ _ _ _ _=>b
 | _=>[]
def Zj(s:Stmt):Scope:=match s with
 | .FunctionDef _ _ _ _ _ _ a _ _ _=>a
 | _=>{kind:=.function,names:=[],isGenerator:=_x,isCoroutine:=_x }
abbrev YV:T8:=λ_ _ _ _ _ _=>False
abbrev E0:XK:=λ_ _ _=>False
def E2:B5 YV X E0:=(λ_ _ _ _ _ _ _ h=>h.elim)
structure Ti (K:uFg) (x qual:Str) (st:Stmt) (f:jY) (fd:FuncData):Prop where
 ex:∃(oc:jX)(od:Option jY)(kV doc pm:jX)(an:Option jY)(cdv ct:jX)(osl:Array (Option jX)),
  fd=fnOf x qual (Wy st) (Yu st) (Zj st) .none kV doc pm an cdv ct/\K.lookup f=8 (oc,od,.func fd,osl)/\codeIn K cdv qual=_t
 kp:keepIn K (3 f)=_t
section
variable{P:jZ}{w:kB}{K:uFg}{mg:jR}{Z:Heap}
def Ti.ok{x qual:Str}{st:Stmt}{f:jY}{d:FuncData}{N ps:jS}{k:Nat}{b:Sp}(F:Ti K x qual st f d)(S:ZK N ps (Zj st))(c:∀vs H Q E,b vs H Q E->vs.9=ps.9)(a:∀ (cdv:jX) (A:kD) (outer:List Env) (s:jW) (H:Hp) (vs:aG) (Q:VK) (E:XK),ZL k (A.deeper (envOfC qual (Zj st) s.heap.objs.size f cdv))->b vs H Q E -> ∃t,AR (Yq YV P w K mg Z N qual (Zj st) f cdv A outer s H E).oE (Yu st) t/\t {nx:=λ_ J=>Q .non J,rt:=Q } (start N vs) H):10 YD YV (k+1) f d ps b:=by
 let(j,od,kV,d,l,h,cdv,i,g,7,e,b):=F.ex;erw[ER e b S c λA outer s H vs Q E c b=>?_];let(t,h,q):=a cdv A outer s H vs Q E c b;rwa[t,h.oE,q]
def Ti.binds{x qual:Str}{st:Stmt}{f:jY}{a:FuncData}{ps:jS}(F:Ti K x qual st f a)(h:∀ (kV doc pm:jX) (an:Option jY) (cdv ct:jX) (us:jT),us.9=ps.9->bindArgs (fnOf x qual (Wy st) (Yu st) (Zj st) .none kV doc pm an cdv ct) (us,[])=pure (ps.zip us)):YR K a ps []:=by
 let(d,od,kV,doc,pm,an,cdv,ct,b,3,c,a):=F.ex;rwa[.all (h kV doc pm an cdv ct)]
def FG{x qual:Str}{st:Stmt}{f:jY}{oc:jX}{od an:Option jY}{osl:Array (Option jX)}{kV doc pm cdv ct:jX}(l:K.lookup f=8 (oc,od,.func (fnOf x qual (Wy st) (Yu st) (Zj st) .none kV doc pm an cdv ct),osl))(c:codeIn K cdv qual=_t)(k:keepIn K (3 f)=_t):Ti K x qual st f (fnOf x qual (Wy st) (Yu st) (Zj st) .none kV doc pm an cdv ct):=(((oc,od,kV,doc,pm,an,cdv,ct,osl,3,l,c),k))
end
section
variable{X:Cx}
end
def Zz{A B:Prop}(h:B):if _x=_t then A else B:=by
 rw[_i xK];rwa[h]
def Z7{A B:Prop}(h:A):if _t=_t then A else B:=by
 rw[_j S];rwa[h]
def ZC(H J:Hp):Prop:=∀b o,H b=8 o->J b=8 o
def ZC.refl(H:Hp):ZC H H:=(λ_ _ h=>h)
def ZC.trans(a:ZC H H1)(b:ZC H1 H2):ZC H H2:=(λc o h=>b c o (a c o h))
def ZC.free(e:ZC H J)(h:J l=Option.none):H l=Option.none:=by
 cases q:H l with
 | none=>rfl
 | some o =>
  rw[e l o q] at h;ext h
def RS:JS X (.builtin "len") (λL H Q=>∃a U,L=[V.ref a]/\H a=8 (.dK U)/\Q (4 U.9) H):=by
 intro B s Y H L b Q I r h;let(a,U,3,b,q):=h;let(u,3,c):=Ju r;ext c;rwa[Ry I (1 b) λt c b=>(4 U.9,H,b,(t,3),q)]
section
variable{κ:Type} [DecidableEq κ]
theorem KB:∀{l:List κ}{k:κ},l.Nodup->¬k∈l->(l ++ [k]).Nodup
 | [],k,_,_=>by simp
 | a::r,k,h,hk=>by
  let(b,c):=yM.mp h;show (a::(r ++ [k])).Nodup;erw[yM.mpr (λm=>?_,KB c λm=>hk (xE.mpr (Or.inr m)))];rcases xL.mp m with q | q
  .rwa[b q]
  .grind
end
end L2
end
namespace L2
open PySem PySem.Spec PyProof.Rows
abbrev ccx(X:Cx)(scope:Scope)(cl:List (Str×jY))(C:jY)(N':jS)(s2:jW)(H2:Hp)(ex:jV)(pn:List (jY×Obj)):Cx where
 prog:=X.prog
 w:=X.w
 K:=X.K
 mg:=X.mg
 base:=X.base
 A:=X.A
 N:=N'
 s₀:=s2
 H₀:=H2
 env:=compEnvC scope cl C X.env
 outer:=X.stack
 stack:=X.stack
 ex:=ex
 fn:=λ_=>_x
 calm:=X.calm
 pn:=pn
 xe:=λ_ _=>False
theorem Gs(env:Env):∀(l:List (Str×NameKind))(cs:List (Str×jY)),(∀p∈l,p.2=.free->∃c,env.cells.lookup p.1=8 c)->
  ∃cl,(forIn l cs (λ(x:Str×NameKind) (r:List (Str×jY))=>if (x.2==NameKind.free)=_t then (do let a <- cellOf env x.1;pure (ForInStep.yield ((x.1,a)::r)):Sem (ForInStep (List (Str×jY)))) else pure (ForInStep.yield r)):Sem _)=pure cl /\
   (∀x c,cl.lookup x=8 c->env.cells.lookup x=8 c\/cs.lookup x=8 c)/\(∀x,((x,NameKind.free)∈l\/∃c,cs.lookup x=8 c)->∃c,cl.lookup x=8 c)
 | [],cs,_=>(cs,3,λx c h=>2 h,λx h=>h.elim (λz=>nomatch z) id)
 | (n,k)::r,cs,h=>by
  let hr:∀p∈r,p.2=.free->∃c,env.cells.lookup p.1=8 c:=λp hp=>h p (xP _ hp)
  by_cases hk:k=.free
  .subst hk;let(c,hc):=h (n,.free) yC S;let(cl,e,h1,h2):=Gs env r ((n,c)::cs) hr;erw[cl,5,λx d hx=>?_,λx hx=>?_]
   .rw[List.forIn_cons];let e2:cellOf env n=pure c:=by unfold cellOf;rw[hc]
    simp only[beq_self_eq_true,if_true,e2,pure_bind];rwa[e]
   .grind
   .apply h2;rcases hx with hx | ⟨d,hx⟩
    .grind
    .grind
  .let(cl,e,h1,h2):=Gs env r cs hr;erw[cl,5,h1,λx hx=>h2 x ?_]
   .grind
   .grind
def Xi(h:∀p∈scope.names,p.2=.free->∃c,env.cells.lookup p.1=8 c) :
  ∃cl,closureFor scope env=pure cl/\(∀x c,cl.lookup x=8 c->env.cells.lookup x=8 c)/\(∀x,(x,NameKind.free)∈scope.names->∃c,cl.lookup x=8 c):=by
 let(cl,e,h1,h2):=Gs env scope.names [] h;erw[cl,5,λx c hx=>(h1 x c hx).elim id (λz=>nomatch z),λx hx=>h2 x (1 hx)];unfold closureFor;let e':=congrArg (λm:Sem (List (Str×jY))=>m >>= λr=>pure r) e;simp only[pure_bind] at e';rwa[e']
theorem Mv{env:Env}{b:NameKind}(c:b ≠ .free):∀{a:List (Str×NameKind)}{x:Str},a.lookup x=8 b ->
  (a.map λ(n,k)=>if (k==NameKind.free&&env.scope.kind==.function&&env.kindOf n==8 .cell) then (n,NameKind.cell) else (n,k)).lookup x=8 b
 | [],_,h=>by simp at h
 | (n,k)::r,x,h=>by
  let i:=@Mv env b c r x;show List.lookup x ((if (k==NameKind.free&&env.scope.kind==.function&&env.kindOf n==8 .cell)=_t then (n,NameKind.cell) else (n,k))::_)=_;cases d:x==n with
  | true =>
   simp only[wZ,d] at h;let h:8 k=8 b:=h;let f:k=b:=ma h;subst f;let e:(k==NameKind.free)=false:=by simpa using c
   rw[e,wJ,wJ,_i xK,wZ,d]
  | false =>
   simp only[wZ,d] at h
   by_cases g:(k==NameKind.free&&env.scope.kind==.function&&env.kindOf n==8 .cell)=_t
   .grind
   .grind
theorem EY{env:Env}:∀{a:List (Str×NameKind)}{x:Str},a.lookup x=8 .free ->
  ((a.map λ(n,k)=>if (k==NameKind.free&&env.scope.kind==.function&&env.kindOf n==8 .cell) then (n,NameKind.cell) else (n,k)).lookup x=8 .cell)\/
  ((a.map λ(n,k)=>if (k==NameKind.free&&env.scope.kind==.function&&env.kindOf n==8 .cell) then (n,NameKind.cell) else (n,k)).lookup x=8 .free)
 | [],_,h=>by simp at h
 | (n,k)::r,x,h=>by
  let a:=@EY env r x;show (List.lookup x ((if (k==NameKind.free&&env.scope.kind==.function&&env.kindOf n==8 .cell)=_t then (n,NameKind.cell) else (n,k))::_)=_)\/(List.lookup x ((if (k==NameKind.free&&env.scope.kind==.function&&env.kindOf n==8 .cell)=_t then (n,NameKind.cell) else (n,k))::_)=_);cases a:x==n with
  | true =>
   simp only[wZ,a] at h;ext h
   by_cases b:(NameKind.free==NameKind.free&&env.scope.kind==.function&&env.kindOf n==8 .cell)=_t
   .grind
   .grind
  | false =>
   simp only[wZ,a] at h
   by_cases b:(k==NameKind.free&&env.scope.kind==.function&&env.kindOf n==8 .cell)=_t
   .grind
   .grind
def IT(a:∀y∈scope.names,y.2 ≠ .cell)(h:(relabel scope env).names.lookup x=8 .cell\/(relabel scope env).names.lookup x=8 .free):(Prod.mk (x) (NameKind.free))∈scope.names:=by
 let m:∃a,(a=NameKind.cell\/a=NameKind.free)/\(Prod.mk (x) (a))∈(relabel scope env).names:=by
  rcases h with h | h
  .rwa[2,1 S,mem_of_lookup h]
  .rwa[2,2 S,mem_of_lookup h]
 let(a,b,m):=m;let((n,k),b,e):=zP.mp m;let e:(if (k==NameKind.free&&env.scope.kind==.function&&env.kindOf n==8 .cell)=_t then (Prod.mk (n) (NameKind.cell)) else (Prod.mk (n) (k)))=(Prod.mk (x) (a)):=e
 by_cases a:(k==NameKind.free&&env.scope.kind==.function&&env.kindOf n==8 .cell)=_t
 .grind
 .grind
def QV(I:Nat->jW->Prop)(hEX:∀e s,EX e s->notedBy (_m prog w) A env (λx s'=>R (.error x) s') e s)(turn:∀n s,I n s->_w (_m prog w) A (pyNext it) (λr s₁=>match r with
   | none=>R (.ok .next) s₁
   | some v=>_w (_m prog w) A (letOwnedTupleGo target it v) (λ_ s1=>_w (_m prog w) A (assign target env v) (λ_ s₂ =>
     _w (_m prog w) A (forIn ifs _t λc r=>if r=_t then do let ok <- isTrue c env (eval c env);pure (ForInStep.yield ok) else pure (ForInStep.yield r)) (λok s₃ =>
      if ok=_t then _w (_m prog w) A (eval elt env) (λx s₄ =>
       _w (_m prog w) A (call (.builtin "list.append") [acc,x]) (λ_ s₅=>∃m,m<n/\I m s₅) (λ_ _=>False) s₄) EX s₃
      else ∃m,m<n/\I m s₃) (λ_ _=>False) s₂) (λ_ _=>False) s1) (λ_ _=>False) s₁) (λ_ _=>False) s)(n:Nat)(h:I n s) :
  codeAny (_m prog w) A (.compLoop (.ListComp elt [(target,iter,ifs,(0))] scope pos) 0 it acc env) R s:=by
 erw[codeAny_loop S I (λn s hI=>?_) n h];show _w _ A ((compTurn (.ListComp elt [(target,iter,ifs,(0))] scope pos) 0 it acc env).onRaise (λx=>do noteFrame x env;theTreesLotGoes x)) _ _ s;erw[wpAny_noted ?_];rw[compTurn_list];erw[_b (wpAny_standAt (_b (wpAny_mono (turn n s hI) (λr s₁ h₁=>?_) λ_ _ h'=>h'.elim)))];cases r with
 | none=>rwa[_p h₁]
 | some v =>
  erw[_b (wpAny_mono h₁ (λ_ s1 h1=>?_) λ_ _ h'=>h'.elim)];erw[_b (wpAny_mono h1 (λ_ s₂ h₂=>_b (wpAny_mono h₂ (λok s₃ h₃=>?_) λ_ _ h'=>h'.elim)) λ_ _ h'=>h'.elim)];cases ok with
  | false=>rwa[_p (3,h₃)]
  | true =>
   rwa[_b (_b (wpAny_mono h₃ (λx s₄ h₄=>_b (wpAny_mono h₄ (λ_ s₅ h₅=>_p (_p (3,h₅))) λ_ _ h'=>h'.elim)) λe s h'=>hEX e s h'))]
abbrev Tv:=St->Hp->(Bool->Hp->Prop)->Prop
def CU(X:Cx)(ifs:List Expr)(t:Tv):Prop :=
 ∀(B:List (jY×Obj))(s:jW)(Y:St)(H:Hp)(Q:Bool->Hp->Prop),ZD X B Y H s->t Y H Q ->
  _w (_m X.prog X.w) X.A (forIn ifs _t λc r=>if r=_t then do let ok <- isTrue c X.env (eval c X.env);pure (ForInStep.yield ok) else pure (ForInStep.yield r)) (TP X B Y Q) X.xe s
def PB(h:PT X c t):CU X [c] t:=(λB s Y H Q I a=>wpAny_tests_one (h B s Y H Q I a))
structure WI (X:Cx) (scope:Scope) (fr:List (Str×Nat)):Prop where
 slots:∀p∈fr,X.N[p.2]?=8 p.1/\(X.env.kindOf p.1=8 .cell\/X.env.kindOf p.1=8 .free)
 kind:∀p∈fr,scope.names.lookup p.1=8 .free
def inN(locs:jS)(fr:List (Str×Nat)):List Str:=locs++fr.map (·.1)
def inS(locs:jS)(fr:List (Str×Nat))(Y:St):St:=List.replicate locs.length _n++fr.map λp=>(Y[p.2]?).join
def inF(fr:List (Str×Nat))(Y:St):St:=fr.map λp=>(Y[p.2]?).join
def Vy(n:Nat)(b:St)(g:TG)(e:Tv)(te:TE)(x:V)(H:Hp)(Y:V->Hp->Prop)(N:Hp->Prop):Prop :=
 ∀a:St,a.9=n->g x (a++b) H λa d=>(∃c:St,c.9=n /\ a=c++b)/\e a d λb c=>if b=_t then te a c Y else N c
def Uj(a:It)(n:Nat)(d:St)(g:TG)(e:Tv)(te:TE)(Q:VK)(b:Hp):Prop:=∃W:Nat->Nat->List V->Hp->Prop,(∃m,W 0 m [] b)/\∀i m b H,W i m b H ->
 (a.stop i H/\b.9<=_z/\∀l,H l=_n->Q (3 l) (upd H l (6 b)))\/
 (a.go i H/\b.9<_z/\∃c,c<m/\∀x J,a.jb i H x J->Vy n d g e te x J (λy a=>W (i+1) c (b ++ [y]) a) λa=>W (i+1) c b a)
def DS(n:Nat)(fr:List (Str×Nat))(a:TI)(g:TG)(b:Tv)(te:TE):TE:=λY H Q=>a Y H λJ a=>Uj J n (inF fr Y) g b te Q a
def Mz(f:YT P w H h)(d:H D=_n)(a:ZQ P w (upd H D o) h D o):YT P w (upd H D o) h:=(λb u e=>by
 by_cases c:b=D
 .subst c;rw[Zi] at e;ext e;rwa[a]
 .rw[Ze c] at e;exact(f b u e).oP (λ_ _ _ q=>q) (λc q=>by rw[Ze (Zl q d)];rwa[q]) λc L q=>by rw[Ze (Zl q d)];rwa[q])
section
variable{X:Cx}{scope:Scope}{locs:jS}{fr:List (Str×Nat)}
def Ig{B:List (jY×Obj)}{Y:St}{H1:Hp}{s2:jW}{it:jY}{fp:jV}{tn:Nat->Heap->Prop}{Jqz:It}{cl:List (Str×jY)}{E:jQ}{RR:jX->jY->Result->jW->Prop}{QQ:List V->Hp->Prop}{EE:Hp->jX->jW->Prop}(hc:X.calm=_t)(hkind:scope.kind=.function)(hcell:∀y∈scope.names,y.2 ≠ .cell)(hlo:∀x∈locs,scope.names.lookup x=8 .local)(F:WI X scope fr)(hnd:(inN locs fr).Nodup)(cl1:∀x c,cl.lookup x=8 c->X.env.cells.lookup x=8 c)(cl2:∀x,(x,NameKind.free)∈scope.names->∃c,cl.lookup x=8 c)(inner:∀ (C:jY) (s0:jW) (H0:Hp) (ex:jV) (pn:List (jY×Obj)),PG (ccx X scope cl C (inN locs fr) s0 H0 ex pn) tg g/\CU (ccx X scope cl C (inN locs fr) s0 H0 ex pn) ifs tt)(hel:∀ (C:jY) (pE:List (jY×Obj)) (s:jW) (σ':St) (H:Hp) (Yqz:VK),(∀b∈fp,∃o,(b,o)∈pE)->ZD (ccx X scope cl C (inN locs fr) s2 H1 fp (X.pn++B)) pE σ' H s->te σ' H Yqz -> _w (_m X.prog X.w) X.A (eval elt (compEnvC scope cl C X.env)) (EP (ccx X scope cl C (inN locs fr) s2 H1 fp (X.pn++B)) pE σ' Yqz) (λe s'=>∃pE' σ2 J,ZD (ccx X scope cl C (inN locs fr) s2 H1 fp (X.pn++B)) pE' σ2 J s'/\EE J e s') s)(hER:∀ (D C:jY) (J:Hp) (e:jX) (s':jW) (m:jR),ZD X B Y J s'->Y8 X B J C->s'.heap.Ns C m->EE J e s'->notedBy (_m X.prog X.w) X.A (compEnvC scope cl C X.env) (λx s''=>RR (3 D) C (.error x) s'') e s')(I:ZD X B Y H1 s2)(T:VL X.prog X.w X.K tg Jqz fp it tn)(st0:tn 0 s2.heap)(hf:∀b∈fp,Y8 X B H1 b){W:Nat->Nat->List V->Hp->Prop}(w0:∃m,W 0 m [] H1)(turn:∀i m ys H,W i m ys H -> (Jqz.stop i H/\ys.9<=_z/\QQ ys H)\/ (Jqz.go i H/\ys.9<_z/\∃m',m'<m/\∀x J,Jqz.jb i H x J->Vy locs.length (inF fr Y) g tt te x J (λy H4=>W (i+1) m' (ys ++ [y]) H4) λH3=>W (i+1) m' ys H3))(hRR:∀ (D C:jY) (ys:aG) (J:Hp) (s':jW) (m:jR),J D=_n->D≠C->ZD X B Y (upd J D (6 ys)) s'->Y8 X B (upd J D (6 ys)) C->s'.heap.Ns C m->QQ ys J->RR (3 D) C (.ok .next) s') :
  _w (_m X.prog X.w) X.A (newList []) (λacc s₃=>_w (_m X.prog X.w) X.A (newFunctionEnv scope X.env.globals cl [] X.env.qual _n .none (8 X.env)) (λcenv s₄ => codeAny (_m X.prog X.w) X.A (.compStart (.ListComp elt [(tg,iter,ifs,(0))] scope pos) 0 (3 it) acc {cenv with scope:=relabel scope X.env }) (RR acc cenv.locals) s₄) E s₃) E s2:=by
 erw[wpAny_newObj_type (wpAny_newFunctionEnv hcell (by intro y hy;simp at hy) (λh₁ hns₁ hsb₁=>?_) hkind)];dsimp only at hns₁ hsb₁ |-;generalize hH2:s2.heap.push {cls:=.type "list", dict:=_n,data:=.seq ([]:jT).4 }=Hq at hns₁ hsb₁ |-;let hC:Hq.objs.size=s2.8+1:=by rw[<- hH2,zG]
 generalize hDe:s2.8=D at hC |-;generalize hCe:Hq.objs.size=C at hC hns₁ hsb₁ |-;let hDC:D≠C:=by lia
 let below:∀b,b<D->b≠C/\b≠D:=λb hb=>(6,6);let ltD:∀{b:jY}{o:Obj},s2.heap.get? b=8 o->b<D:=λe=>hDe▸xO e;let old:∀b o,s2.heap.get? b=8 o->h₁.get? b=8 o:=λb o e=>hsb₁.extBut b o (below b (ltD e)).1 (xC _ (hH2▸xC _ e));let hacc:h₁.PlainList D #[]:=(2,hsb₁.extBut _ _ hDC (xC _ (by subst hDe;rwa[hH2▸xN _ S])))
 letI X':Cx:=ccx X scope cl C (inN locs fr) s2 H1 fp (X.pn++B)
 let ltC:s2.8<=C:=by rw[hDe,hC];rwa[me _]
 let fpC:Y8 X B H1 C:=I.ix ltC (I.og.fresh ltC);let fpD:Y8 X B H1 D:=I.ix (wX hDe) (I.og.fresh (wX hDe));let stkN:∀b,b≠X.env.locals->b∉X.fs->b∉frs X.stack:=λb h1 h2 z=>(xE.mp (I.oS b z)).elim h1 h2;let ok':X'.Ok:=by
  erw[I.ok.mod,hkind,I.ok.glob,I.ok.blt,ltC,λx y c h1 h2=>I.ok.inj x y c (cl1 x c h1) (cl1 y c h2),λx hx=>?_,λx c h=>?_,I.ok.hd,I.ok.frames,1 S,λb hb=>?_,λb o e=>I.bs b o e,xX I.ok.ia I.sz,λb o e hb=>?_,λb hb=>?_,I.stack,I.oR]
  .let(c,hcc):=cl2 x (IT hcell hx);rwa[c,hcc]
  .ext h
  .erw[λz=>?_,λx c e=>(hf b hb).2.2.2.2.1 x c (cl1 x c e)];let(o,ho,2):=T.obj _ _ st0 b hb;let z':b=C:=z;rwa[(below b (ltD ho)).1 z']
  .let hb':=hf b hb;rcases hb'.2.2.2.1 with z | z
   .rwa[I.ok.oz b o e z]
   .rwa[_a (yG (xO e) (xX I.ok.ia z)) (zF _)]
  .rwa[stkN b (hf b hb).2.1 (hf b hb).2.2.1]
 let I1:ZD X' [] (inS locs fr Y) H1 {s2 with heap:=h₁,toks:=s2.toks+([]:List (Str×jX)).9 }:=by
  erw[ok',I.os.6▸rfl,I.bare,Un.kept old,(2,hns₁,λi x v h1 h2 h3=>?_),λx c e=>?_,I.og.fresh ltC,λx c e=>I.iy x c (cl1 x c e),λp hp=>?_,I.og.kept old,5]
  .-- a slot of the block that has a value is a free name's
   let hge:locs.9<=i:=by
    by_cases hi:i<locs.9
    .unfold inS at h2;rw[zS (by simpa using hi),List.getElem?_replicate,_j hi] at h2;ext h2
    .lia
   let h1':(fr.map (·.1))[i - locs.9]?=8 x:=by
    let h1:(inN locs fr)[i]?=8 x:=h1;unfold inN at h1;rw[wG hge] at h1;rwa[h1]
   let h2':(fr.map λp=>(Y[p.2]?).join)[i - locs.9]?=8 (8 v):=by
    unfold inS at h2;rw[wG (by simpa using hge),wC] at h2;rwa[h2]
   rw[xG] at h1' h2';cases e:fr[i - locs.9]? with
   | none=>rw[e] at h1';ext h1'
   | some p =>
    rw[e] at h1' h2';let ex:p.1=x:=ma h1';let ev:(Y[p.2]?).join=8 v:=ma h2';let(f1,f2):=F.slots p (xM e);let ev':Y[p.2]?=8 (8 v):=by grind
    let(m0,hn0,hl0):=I.loc;let vis0:DI X.env.scope p.1:=by
     rcases f2 with z | z
     .rwa[2 (1 z)]
     .rwa[2 (2 z)]
    let(u,ru,lk):=hl0 p.2 p.1 v f1 ev' vis0;let hxm:x∉locs:=λz=>by
     let hnd':=hnd;unfold inN at hnd';rwa[(List.nodup_append.mp hnd').2.2 x z x (zP.mpr (p,xM e,ex)) S]
    erw[u,ru,5];rcases lk with⟨hk,_⟩ | ⟨hk,c,hcc,hce⟩
    .grind
    .-- in the block it is a cell or free name
     let h3:DI (relabel scope X.env) x:=h3;let hk':(compEnvC scope cl C X.env).kindOf x=8 .cell\/(compEnvC scope cl C X.env).kindOf x=8 .free:=by
      rcases h3 with z | z | z
      .exfalso;let q:=EY (env:=X.env) (F.kind p (xM e));rw[ex] at q;rcases q with q | q
       .let z':8 NameKind.local=8 NameKind.cell:=z.symm.trans q;ext z'
       .let z':8 NameKind.local=8 NameKind.free:=z.symm.trans q;ext z'
      .rwa[1 z]
      .rwa[2 z]
     let(c',hc'):=cl2 x (IT hcell hk');have:=cl1 x c' hc';rw[<- ex,hcc] at this;ext this;erw[2 (hk',c,hc',5)];let(o,ho,hd):=hce;rwa[o,old _ _ ho,hd]
  .let(v,o,ho,hd):=I.cell x c (cl1 x c e);rwa[v,o,old _ _ ho,hd]
  .let hp':p∈X.pn++B:=(xL.mp hp).elim id λz=>nomatch z;let(e,n,ne,nf,d):=I.pin p hp';rwa[old _ _ e,n,(below _ (ltD e)).1,stkN _ ne nf,d]
  .show (inS locs fr Y).9=(inN locs fr).9;unfold inS inN;simp
 let fpLt:∀b∈fp,b<D:=λb hb=>by
  let(o,ho,2):=T.obj _ _ st0 b hb;rwa[ltD ho]
 let(m0,w0):=w0
 letI oD:List jX->Nat->Obj:=λits k=>{cls:=.type "list", data:=.seq its.toArray k }
 let stat:∀{J:Hp}{ob:Obj},(∀b∈fp,J b=_n)->∀b∈fp,Y8 X' [(D,ob)] J b:=λ{J ob} hn b hb=>by
  let(f0,f1,f2,f3,f4,f5):=hf b hb;erw[hn b hb,(below b (fpLt b hb)).1,stkN b f1 f2,1 hb,λx c e=>f4 x c (cl1 x c e),λp hp z=>?_];rcases xL.mp hp with q | q
  .rwa[f5 p q z]
  .grind
 let loop:∀s₃:jW,s₃={s2 with heap:=h₁,toks:=s2.toks+([]:List (Str×jX)).9 }->
   codeAny (_m X.prog X.w) X.A (.compLoop (.ListComp elt [(tg,iter,ifs,(0))] scope pos) 0 (3 it) (3 D) (compEnvC scope cl C X.env)) (RR (3 D) C) s₃:=by
  rintro s₃ rfl;erw[QV (λn s'=>∃(i:Nat)(ls:St)(J:Hp)(ys:aG)(its:jT)(k:Nat),ls.9=locs.9/\ZD X' [(D,oD its k)] (ls++inF fr Y) J s'/\tn i s'.heap/\(∀b∈fp,J b=_n)/\ZJ ys its/\W i n ys J) (EX:=λe s'=>∃pE' σ2 J,ZD X' pE' σ2 J s'/\EE J e s') ?_ ?_ m0 ?_]
  .rintro e s4 ⟨pE',σ2,H3,I4,q⟩;let(mC,hnC,2):=I4.loc;let hnC:s4.heap.Ns C mC:=hnC;let nC:H3 C=none:=I4.free;let I5:ZD X B Y H3 s4:=I.ie (ch:=fp) (show s4.os=s2.os from I4.os) I4.base I4.og I4.bare λb hb=>by
    let(f0,f1,f2,f3,f4,f5):=hf b hb;rwa[f3,f1,f4,f5]
   rwa[hER D C H3 e s4 mC I5 (I.ix ltC nC) hnC q]
  .rintro n s3 ⟨i,ls,H3,ys,its,k,hls,I3,st3,fr3,rv,w3⟩;rcases turn i n ys H3 w3 with⟨stop,hz,q⟩ | ⟨go,hz,m',hm,step⟩
   .erw[thn (T.done X' S S S hc i _ s3 _ H3 (λ_ _=>False) I3 (stat fr3) st3 stop) λr s4 ⟨hr,I4⟩=>?_];subst hr;let(pD,nD,222):=I4.pin (D,oD its k) (xJ _ yC);let nD:H3 D=none:=nD;let(mC,hnC,2):=I4.loc;let hnC:s4.heap.Ns C mC:=hnC;let nC:H3 C=none:=I4.free;let new:ZQ X.prog X.w (upd H3 D (6 ys)) s4.heap D (6 ys):=(hz,its,k,rv,pD);let hok4:YT X.prog X.w (upd H3 D (6 ys)) s4.heap:=Mz I4.og nD new;let u4:Un (frs X.stack) fp H1 H3 s2.heap s4.heap:=I4.base;let u5:Un (frs X.stack) fp H1 (upd H3 D (6 ys)) s2.heap s4.heap:=by
     erw[u4.keep,u4.slot,λb o e n hx=>?_,u4.there,λb L e=>?_,λb o u e=>?_,λb ps e=>?_]
     .rw[Ze (below b (ltD e)).2];rwa[u4.free b o e n hx]
     .rw[Ze (Zl e fpD.1)];rwa[u4.j3 b L e]
     .rw[Ze (Zl e fpD.1)];rwa[u4.o6 b o u e]
     .rw[Ze (Zl e fpD.1)];rwa[u4.oU b ps e]
    let I5:ZD X B Y (upd H3 D (6 ys)) s4:=by
     erw[I.ie (ch:=fp) ?_ u5 hok4 I4.bare λb hb=>?_]
     .have:s4.os=s2.os:=I4.os;rwa[this]
     .let(f0,f1,f2,f3,f4,f5):=hf b hb;rwa[f3,f1,f4,f5]
    let fpC':Y8 X B (upd H3 D (6 ys)) C:=I.ix ltC (by rw[Ze hDC.6];rwa[nC]);rwa[hRR D C ys H3 s4 mC nD hDC I5 fpC' hnC q]
   .erw[thn (T.item X' S S S hc i _ s3 _ H3 (λ_ _=>False) I3 (stat fr3) st3 go) λr s4 ⟨u,hr,h4⟩=>?_];subst hr;erw[thn h4 λ_ s5 ⟨x,H5,I5,r5,y5,st5,fr5⟩=>?_];let(hg,htt):=inner C s2 H1 fp (X.pn++B);let I5':=I5.pinned (stat fr5) (T.obj _ _ st5);erw[thn (hg _ s5 _ H5 x u _ I5' r5 (step x H5 y5 ls hls)) λ_ s6 ⟨σ6,H6,I6,⟨l6,hl6,e6⟩,q6⟩=>?_];subst e6;erw[thn (htt _ s6 _ H6 _ I6 q6) λok s7 ⟨H7,I7,q7⟩=>?_];let again:∀{H8:Hp}{s8:jW},ZD X' ([(D,oD its k)]++Bm fp s5.heap) (l6++inF fr Y) H8 s8->tn (i+1) s8.heap/\∀b∈fp,H8 b=none:=λ{H8 s8} I8=>by
     erw[T.keep _ _ _ st5 λb hb o e=>(I8.pin (b,o) (xJ _ (xJ _ (CJ hb e)))).1,λb hb=>?_];let(o,e,d):=T.obj _ _ st5 b hb;rwa[(I8.pin (b,o) (xJ _ (xJ _ (CJ hb e)))).2.1]
    cases ok with
    | false =>
     rw[_i xK] at q7 |-;let(a1,a2):=again I7;rwa[m',hm,i+1,l6,H7,ys,its,k,hl6,I7.j5,a1,a2,rv,q7]
    | true =>
     rw[_j S] at q7 |-;erw[thn (hel C _ s7 _ H7 _ (λb hb=>let ⟨o,ho,_⟩:=T.obj _ _ st5 b hb;(o,xJ _ (CJ hb ho))) I7 q7) λyv s8 ⟨y,H8,I8,r8,q8⟩=>?_];let(a1,a2):=again I8;let(pD,nD,2,nfD,2):=I8.pin (D,oD its k) (xJ _ (yR _ yC));let nD:H8 D=none:=nD;let hl8:s8.heap.PlainList D its.4:=(k,pD);let hlen:its.toArray.5<=sizeLine:=by
      rw[xW,<- rv.9];lia
     erw[wpAny_list_append_plain (hsz:=hlen) hl8 λh9 hl9 hs9=>?_];let(k9,e9):=hl9;let I9:ZD X' (Bm fp s5.heap) (l6++inF fr Y) H8 s8:=I8.oI λp hp=>I8.pin p (xJ _ (xJ _ hp));let I10:ZD X' (Bm fp s5.heap) (l6++inF fr Y) H8 {s8 with heap:=h9 }:=by
      erw[I9.turned (it:=D) (t':=s8.toks) (λb o hb e=>(hs9.2 b hb).trans e) nD ?_ ?_ ?_ ?_]
      .rwa[hDC]
      .rwa[2 (wX hDe)]
      .rwa[λx c e=>fpD.2.2.2.2.1 x c (cl1 x c e)]
      .intro p hp z;rcases xL.mp hp with q | q
       .rwa[fpD.2.2.2.2.2 p q z]
       .have:=fpLt p.1 (HI q).1;rwa[(below p.1 this).2 z]
     let e9':h9.get? D=8 (oD (its ++ [yv]) k9):=by
      rw[e9];simp[oD]
     let I11:ZD X' [(D,oD (its ++ [yv]) k9)] (l6++inF fr Y) H8 {s8 with heap:=h9 }:=I10.oI λp hp=>by grind
     erw[m',hm,i+1,l6,H8,ys ++ [y],its ++ [yv],k9,hl6,I11,5,a2,ZJ.append rv (.cons r8 .nil),q8];rwa[T.keep _ _ _ a1 λb hb o e=>(hs9.2 b (below b (fpLt b hb)).2).trans e]
  .let e0:List.replicate locs.length _n++inF fr Y=inS locs fr Y:=rfl;let(k0,eD):=hacc;erw[(0),List.replicate locs.length _n,H1,[],[],k0,by simp,5,T.keep _ _ _ st0 λb _ o e=>old b o e,λb hb=>(hf b hb).1,.nil,w0];rw[e0];erw[I1.oI λp hp=>?_];let e:p=(D,oD [] k0):=by simpa using hp
   subst e;rwa[eD,fpD.1,hDC,stkN D fpD.2.1 fpD.2.2.1,λv z=>by ext z]
 rwa[codeAny_compStart_list (loop _ S) (T.self _ 0 _ _ _ (T.keep _ _ _ st0 λb _ o e=>old b o e) (loop _ S))]
structure WT (X:Cx) (scope:Scope) (locs:jS) (fr:List (Str×Nat)):Prop where
 kind:scope.kind=.function
 nocell:∀y∈scope.names,y.2 ≠ .cell
 names:∀y∈scope.names,y.2=.local->scope.names.lookup y.1=8 .local
 own:∀x∈locs,scope.names.lookup x=8 .local
 free:∀y∈scope.names,y.2=.free->y.1∈fr.map (·.1)
 nd:(inN locs fr).Nodup
def WI.nil:WI X scope []:=(((λ_ h=>nomatch h),(λ_ h=>nomatch h)))
def WI.cons(b:X.N[j]?=8 x)(c:X.env.kindOf x=8 .cell\/X.env.kindOf x=8 .free)(d:scope.names.lookup x=8 .free)(t:WI X scope fr):WI X scope ((x,j)::fr):=((λp a=>(xE.mp a).elim (λe=>by subst e;rwa[b,c]) (t.slots p),λp a=>(xE.mp a).elim (λe=>by subst e;rwa[d]) (t.kind p)))
def WT.clos{B:List (jY×Obj)}{Y:St}{H:Hp}{s:jW}(S:WT X scope locs fr)(F:WI X scope fr)(I:ZD X B Y H s) :
  ∃a,closureFor scope X.env=pure a/\(∀x c,a.lookup x=8 c->X.env.cells.lookup x=8 c)/\(∀x,(x,NameKind.free)∈scope.names->∃c,a.lookup x=8 c):=by
 erw[Xi λp b a=>?_];let(q,d,e):=zP.mp (S.free p b a);let(c,a):=I.ok.has q.1 (F.slots q d).2;rwa[c,e▸a]
def Qa(S:WT X scope locs fr)(F:WI X scope fr)(w:X.calm=_t)(l:PI X tg iter wi)(c:∀d C k f i j,PG (ccx X scope d C (inN locs fr) k f i j) tg g/\CU (ccx X scope d C (inN locs fr) k f i j) ifs tt/\PE (ccx X scope d C (inN locs fr) k f i j) elt te)(hs:autoParam (∀x,foldedSetIterable iter X.env x=pure x) y5z):PE X (.ListComp elt [(tg,iter,ifs,(0))] scope pos) (DS locs.length fr wi g tt te):=by
 intro B s Y H Q I h;let(d,e,a,b):=S.clos F I;rw[eval_ListComp];erw[wpAny_comprehension_free (use:=_n) rfl hs e S.kind S.names (thn (l B s Y H _ I h) λv l e=>thn e λe v p=>?_)];let(it,u,z,l,r,e,t,T,n,o,W,y,m):=p;subst e;erw[Ig (QQ:=λp J=>∀l,J l=_n->Q (3 l) (upd J l (6 p))) (EE:=λ_ _ _=>False) w S.kind S.nocell S.own F S.nd a b (λC k f i j=>let ⟨a,b,_⟩:=c d C k f i j;(a,b)) (λC i s f H a _ I h=>wpAny_mono ((c d C v r u (X.pn++B)).2.2 i s f H a I h) (λ_ _ q=>q) λ_ _ z=>z.elim) (λ_ _ _ _ _ _ _ _ _ z=>z.elim) t T n o y m λD C p J l m nD a c k d q=>?_];erw[m,d,λd a=>?_];let(d,f,o,h,i,j):=k;rwa[3 D,2,c.turned (it:=C) (t':=l.toks) (λb o c e=>(a.2 b c).trans e) d f h i j,7,q D nD]
def jD(S:WT X scope locs fr)(F:WI X scope fr)(L:X.calm=_t)(v:PI X l a wi)(c:∀f C n j k m,PG (ccx X scope f C (inN locs fr) n j k m) l g/\CU (ccx X scope f C (inN locs fr) n j k m) e tt/\PE (ccx X scope f C (inN locs fr) n j k m) d te)(K:X.N.Nodup)(u:X.N[i]?=8 x)(A:X.env.scope.names.lookup x=8 .local)(o:swapsWith (.ListComp d [(l,a,e,(0))] scope pos) (8 (.Name x b)) spos.line X.env=pure _t)(hs:autoParam (∀x,foldedSetIterable a X.env x=pure x) y5z):PS X (.Assign [.Name x b] (.ListComp d [(l,a,e,(0))] scope pos) spos) (JJ (DS locs.length fr wi g tt te) (Wv i)):=by
 intro B s Y H w I h;let(f,r,p,t):=S.clos F I;rw[exec_Assign_Name_used _ _ _ _ o];erw[_b (wpAny_standAt (_b ?_))];show _w _ X.A (do let _ <- comprehension (.ListComp d [(l,a,e,(0))] scope pos) scope X.env _ (newList []) _x (eval a X.env) (8 (assign (.Name x b) X.env))) _ _ s;erw[_b (wpAny_mono (wpAny_comprehension_free (use:=8 (assign (.Name x b) X.env)) (Q:=λ_ o=>SP X B w .next o) rfl hs r S.kind S.names (thn (v B s Y H _ I h) λv b a=>thn a λa M b=>?_)) (λ_ o a=>_p (_p a)) λ_ _ e=>e)];let(it,G,l,a,z,e,E,T,v,y,W,N,d):=b;subst e;erw[Ig (QQ:=λr J=>∀l,J l=_n->Wv i (3 l) Y (upd J l (6 r)) w.nx) (EE:=λ_ _ _=>False) L S.kind S.nocell S.own F S.nd p t (λC n j k m=>let ⟨a,b,_⟩:=c f C n j k m;(a,b)) (λC k s j H a _ I h=>wpAny_mono ((c f C M z G (X.pn++B)).2.2 k s j H a I h) (λ_ _ q=>q) λ_ _ z=>z.elim) (λ_ _ _ _ _ _ _ _ _ z=>z.elim) E T v y N d λD C r J o m nD d a c p q=>?_];let(d,f,y,l,n,s):=c;let(h,k,j,c,d,f):=id p;let c:ZD X (B ++ [(C,h)]) Y (upd J D (6 r)) o:=a.oI λp o=>(xL.mp o).elim (λz=>a.pin p (xJ _ z)) λz=>by grind
 erw[wpAny_assign_Name (FN (v:=3 D) c K u (1 A) rfl (λc a=>?_) (2 A))];let(o,p,t,u,v):=a.pin (C,h) (xJ _ (xJ _ yC));erw[m,(h,k,j,o,d,f),λf d=>?_];let f:ZD X B (Y.set i (8 (3 D))) (upd J D (6 r)) c:=a.j5;rwa[22,f.turned (it:=C) (t':=c.toks) (λb o a e=>(d.2 b a).trans e) p t l n s,q D nD]
end
section
variable{X:Cx}{scope:Scope}{cl:List (Str×jY)}{C:jY}{N':jS}{s0:jW}{H0:Hp}{ex:jV}{pn:List (jY×Obj)}
def pvL(i:Nat){x:Str}{pos:Pos}(b:autoParam (N'[i]?=8 x) y1z)(h:autoParam (scope.names.lookup x=8 .local) y1z)(c:autoParam ((x==("__debug__":Str))=false) y3z)(a:autoParam ((x==("__classdict__":Str))=false) y3z) :
  PE (ccx X scope cl C N' s0 H0 ex pn) (.Name x pos) (YL i):=(DU b (1 (lookup_relabel_local h)) c a)
def pvF(i:Nat){x:Str}{pos:Pos}(b:autoParam (N'[i]?=8 x) y1z)(h:autoParam (scope.names.lookup x=8 .free) y1z)(c:autoParam ((x==("__debug__":Str))=false) y3z)(a:autoParam ((x==("__classdict__":Str))=false) y3z) :
  PE (ccx X scope cl C N' s0 H0 ex pn) (.Name x pos) (YL i):=(DU b ((EY h).elim (λz=>2 (1 z)) λz=>2 (2 z)) c a)
def pgL(i:Nat){x:Str}{pos:Pos}(a:N'.Nodup)(b:autoParam (N'[i]?=8 x) y1z)(h:autoParam (scope.names.lookup x=8 .local) y1z):PG (ccx X scope cl C N' s0 H0 ex pn) (.Name x pos) (Wv i):=(Ff (X:=ccx X scope cl C N' s0 H0 ex pn) a b (1 (lookup_relabel_local h)) (2 (lookup_relabel_local h)))
end
def sgn(x:Str)(i:Nat):V:=5 ⟨#[x.cps.getD i 0]⟩
def FS(x:Str):It:=(λi _=>i<x.9,λi H v J=>J=H/\v=sgn x i,λi _=>i=x.9)
def Mc(a:A.handled=_n)(I:jY)(x:Str)(t:Tok) :
  Walks P w A I [I] [I] x.cps.size (SignAt x) (λi h=>h.IsStrIter I (strIterType x) x t i):=by
 unfold strIterType;cases b:x.cps.all (· < 128)
 .rwa[Walks.strWide a I x t]
 .rwa[Walks.strAscii a I x t]
def bD{P:jZ}{w:kB}{K:uFg}{a:Expr}(it:jY)(x:Str)(t:Tok):VL P w K a (FS x) [it] it (λi h=>h.IsStrIter it (strIterType x) x t i) where
 mem:=by simp
 obj:=λi h st b a=>by
  let e:b=it:=by simpa using a
  subst e;let(o,e,c,d):=st;rwa[o,e,λv z=>by rw[d] at z;ext z]
 keep:=λi h g st k=>let ⟨o,f,r⟩:=st;(o,k it (by simp) o f,r)
 item:=by
  intro X y C r z i B s Y H E I j st A;subst y C r;let(k,l,L,m,n,p):=j it (by simp);erw[(Mc (I.ok.hd z) it x t).item i s _ _ A st λv g G J f F=>?_];let(c,u,v,3):=J;let c:ZD X B Y H {s with heap:=g,toks:=G }:=I.turned (λb o a e=>F b o (by simpa using a) e) k l m n p;let(o,e,J,d):=id f;let M:["enumerate","zip","dict_itemiterator","dict_reverseitemiterator","odict_iterator","itertools.zip_longest","itertools.pairwise"].contains (strIterType x)=false:=by
   unfold strIterType;split<;>decide
  erw[1,BV (s:={s with heap:=g,toks:=G }) e J d M (sgn x i,H,c,(u,5),(3,3),f,λb a=>(j b a).1)];rw[zZ,v]
  all_goals rfl
 done:=by
  intro X y C r z i B s Y H E I j st A;subst y C r;let(k,l,L,m,n,p):=j it (by simp);let e:i=x.cps.5:=A;subst e;rwa[(Mc (I.ok.hd z) it x t).done s _ _ st λg G F=>(3,I.turned (λb o a e=>F b o (by simpa using a) e) k l m n p)]
 self:=λA i s Q E st h=>by
  let st:s.heap.IsStrIter it (strIterType x) x t i:=st;unfold strIterType at st;split at st
  .rwa[wpAny_pyIter_striter_ascii st h]
  .rwa[wpAny_pyIter_striter_wide st h]
inductive CA(R:It->Hp->Prop)(v:V)(a:Hp):Prop
 |mk(x)(_:v=5 x)(_:R (FS x) a)
def X0(te:TE):TI:=λY H R=>te Y H λv a=>CA R v a
def Ke(h:IsPart v o):∃l:Option (Int×Tok),v=partValue l/\l.map (·.1)=o:=by
 cases h with
 | none=>rwa[_n,37]
 | int i t=>rwa[8 (i,t),37]
def SA:∀{us:jT},ZJ (ys.map V.str) us->StrsAre us ys:=by
 induction ys with
 | nil=>intro us r;rw[wK] at r;ext r;rwa[.nil]
 | cons n b a =>
  intro us r;rw[yO] at r;cases r with
  | cons b c =>
   let(t,e):=b;subst e;rwa[.cons n t (a c)]
section
variable{X:Cx}
def Kv:JS X (.builtin "isinstance") (λL H Q=>∃x n t b,L=[x,.ty n]/\WB X.K H x t/\kitOne X.K t (.type n)=8 b/\Q (.bl b) H):=by
 intro B s Y H L a Q I r h;let(x,n,t,b,3,d,e,q):=h;let(u,f,3,c,a):=Dp r;ext a;rwa[Ru I c d e λa=>(.bl b,H,I.tok _,3,q)]
end
section
variable{K:uFg}
end
def YB(K:uFg)(mg:jR)(x:Str)(st:Stmt):Prop:=∃f a,Ti K x x st f a/\mg x=8 (3 f)
def Fn(P:jZ)(w:kB)(K:uFg)(mg:jR)(Z:Heap)(x:Str)(ps:jS)(k:Nat)(b:Sp):Prop :=
 ∃f a,mg x=8 (3 f)/\keepIn K (3 f)=_t/\YR K a ps []/\YD P w K mg Z YV k f a ps b
def Fn.imp{P:jZ}{w:kB}{K:uFg}{mg:jR}{Z:Heap}{x:Str}{ps:jS}{k:Nat}{b a:Sp}(F:10 Fn x ps k b)(h:∀vs H Q E,a vs H Q E->b vs H Q E):10 Fn x ps k a:=(let ⟨f,e,a,b,c,d⟩:=F;(f,e,a,b,c,d.imp h))
section
variable{P:jZ}{w:kB}{K:uFg}{mg:jR}{Z:Heap}
def YB.fn{x:Str}{st:Stmt}{N ps:jS}{k:Nat}{c:Sp}(h:YB K mg x st)(S:ZK N ps (Zj st))(d:∀ (kV doc pm:jX) (an:Option jY) (cdv ct:jX) (us:jT),us.9=ps.9->bindArgs (fnOf x x (Wy st) (Yu st) (Zj st) .none kV doc pm an cdv ct) (us,[])=pure (ps.zip us))(b:∀vs H Q E,c vs H Q E->vs.9=ps.9)(a:∀ (f:jY) (cdv:jX) (A:kD) (outer:List Env) (s:jW) (H:Hp) (vs:aG) (Q:VK) (E:XK),ZL k (A.deeper (envOfC x (Zj st) s.heap.objs.size f cdv))->c vs H Q E -> ∃t,AR (Yq YV P w K mg Z N x (Zj st) f cdv A outer s H E).oE (Yu st) t/\t {nx:=λ_ J=>Q .non J,rt:=Q } (start N vs) H):10 Fn x ps (k+1) c:=by
 let(f,c,F,e):=h;rwa[f,c,e,F.kp,F.binds d,F.ok S b λcdv A outer s H vs Q E b q=>a f cdv A outer s H vs Q E b q]
def bN{h:Heap}{x:Str}{st:Stmt}{f:jY}{oc:jX}{od an:Option jY}{osl:Array (Option jX)}{kV doc pm cdv ct:jX}(b:K.In h)(G:h.Ns _g mg)(a:nsIn K _g x=8 (8 (3 f)))(l:K.lookup f=8 (oc,od,.func (fnOf x x (Wy st) (Yu st) (Zj st) .none kV doc pm an cdv ct),osl))(c:codeIn K cdv x=_t)(k:keepIn K (3 f)=_t):YB K mg x st:=((f,2,FG l c k,mg_of b G a))
def hQ{h:Heap}(x:Str)(st:Stmt)(f c:jY)(pm:jX)(a:K.In h)(G:h.Ns _g mg)(e:nsIn K _g x=8 (8 (3 f))/\K.lookup f=8 (.type "function", _n,.func (fnOf x x (Wy st) (Yu st) (Zj st) .none .none .none pm _n (3 c) .none),#[])/\codeIn K (3 c) x=_t/\keepIn K (3 f)=true:=by walk_at "k"):YB K mg x st:=(bN a G e.1 e.2.1 e.2.2.1 e.2.2.2)
end
def Ad(b:Sp)(t:TA):TE:=λY H Q=>t Y H λc a=>b c a Q E0
def SY{k:Nat}{ps:jS}{a:Sp}{x:Str}{p pos:Pos}{e:Expr}{es:List Expr}{t:TA}(F:Fn X.prog X.w X.K X.mg X.base x ps k a)(n:ZL k X.A)(j:Gl X x)(d:PA X (e::es) t)(b:autoParam ((x==("__debug__":Str))=false) y3z)(i:autoParam (sEq X e es) y1z)(c:autoParam (sFq X pos es) y1z) :
  PE X (.Call (.Name x p) (e::es) [] pos) (Ad a t):=by
 let(f,h,m,l,g,G):=F;intro B s Y H Q I h;erw[cF G n j m l g .nil E2 d b i c B s Y H Q I ?_];let e:GC a [] E0 t=Ad a t:=by
  unfold GC Ad;simp only[xT]
 rw[e];rwa[h]
def Yk:_o "len"=8 (.builtin "len"):=(aA)
def BY:_o "max"=8 (.builtin "max"):=(aA)
def EK:_o "min"=8 (.builtin "min"):=(aA)
def E4:_o "sum"=8 (.builtin "sum"):=(aA)
def SM:_o "all"=8 (.builtin "all"):=(aA)
def SW:_o "sorted"=8 (.builtin "sorted"):=(aA)
def Uv:_o "isinstance"=8 (.builtin "isinstance"):=(aA)
def V9:_o "list"=8 (.type "list"):=(aA)
def Gd:_o "bool"=8 (.type "bool"):=(aA)
def Kc:_o "int"=8 (.type "int"):=(aA)
def Kd:_o "str"=8 (.type "str"):=(aA)
def Gz:_o "tuple"=8 (.type "tuple"):=(aA)
def ZF(s:jY)(H J:Hp):Prop:=∀b o,b≠s->H b=8 o->J b=8 o
def ZF.refl:ZF s H H:=(λ_ _ _ e=>e)
def ZF.trans(a:ZF s H H1)(b:ZF s H1 H2):ZF s H H2:=(λc o n e=>b c o n (a c o n e))
def ZF.upd:ZF s H (upd H s o):=(λb _ n e=>by rw[Ze n];rwa[e])
def ZF.new(h:H l=_n):ZF s H (L2.upd H l o):=(λb _ _ e=>by rw[Ze (Zl e h)];rwa[e])
def ZC.new(h:H l=_n):ZC H (L2.upd H l o):=(λb _ e=>by rw[Ze (Zl e h)];rwa[e])
def ZC.x(h:ZC H J):ZF s H J:=(λb o _ e=>h b o e)
def ZM(H:Hp)(s b:jY):Prop:=∃(c:List Int)(i a st cnt:Int),H s=8 (6 [3 b,4 i,4 a,4 st,4 cnt])/\H b=8 (6 (c.map V.int))/\0<=i/\b≠s
def ZM.keep(h:ZM H s la)(k:ZC H J):ZM J s la:=by
 let(f,i,a,st,cnt,b,c,d,e):=h;rwa[f,i,a,st,cnt,k _ _ b,k _ _ c,d,e]
def ZM.oj(h:ZM H s la)(k:ZF l H J)(f:l≠s)(g:l≠la):ZM J s la:=by
 let(j,i,a,st,cnt,b,c,d,e):=h;rwa[j,i,a,st,cnt,k _ _ f.symm b,k _ _ g.symm c,d,e]
def ZM.ne(h:ZM H s la)(a:H l=_n):l≠s/\l≠la:=by
 let(g,i,b,st,cnt,c,d,e,f):=h;rwa[(Zl c a).6,(Zl d a).6]
def Zx{c A B:Prop} [Decidable c] (a:c->A) (a:¬c->B):if decide c=_t then A else B:=by grind
def Vz{c A B:Prop} [Decidable c] (a:¬c->A) (a:c->B):if (!decide c)=_t then A else B:=by grind
def bC{ns:List Int}{i:Int}(a:0<=i)(b:i<(ns.map V.int).9):atI (ns.map V.int) i=8 (4 (ns.getD i.toNat 0)):=by
 let(j,3):=yK a;rw[xA] at b;erw[Yo ?_];rw[xG,yJ,xR,xB ()];rfl
def Nm(a:Scope)(x:Str)(k:NameKind):Prop:=a.names.lookup x=8 k/\(x==("__debug__":Str))=_x/\(x==("__classdict__":Str))=_x/\x ≠ "__name__"
instance (a:Scope) (x:Str) (k:NameKind):Decidable (Nm a x k):=by unfold Nm;rwa[inferInstance]
section
variable{X:Cx}{x:Str}{pos:Pos}
def al1{b:Type _}{P:List b->Prop}(k:∀a,P [a]):∀l:List b,l.9=1->P l:=(λl h=>by cases l with
 | nil=>ext h
 | cons a l=>cases l with
  | nil=>rwa[k a]
  | cons=>cases mB h)
def al2{c:Type _}{P:List c->Prop}(k:∀a b,P [a,b]):∀l:List c,l.9=2->P l:=(λl h=>by cases l with
 | nil=>ext h
 | cons a l=>rwa[al1 (P:=λl=>P (a::l)) (k a) l (mB h)])
def al3{d:Type _}{P:List d->Prop}(k:∀a b c,P [a,b,c]):∀l:List d,l.9=3->P l:=(λl h=>by cases l with
 | nil=>ext h
 | cons a l=>rwa[al2 (P:=λl=>P (a::l)) (k a) l (mB h)])
def al4{e:Type _}{P:List e->Prop}(k:∀a b c d,P [a,b,c,d]):∀l:List e,l.9=4->P l:=(λl h=>by cases l with
 | nil=>ext h
 | cons a l=>rwa[al3 (P:=λl=>P (a::l)) (k a) l (mB h)])
def al5{f:Type _}{P:List f->Prop}(k:∀a b c d e,P [a,b,c,d,e]):∀l:List f,l.9=5->P l:=(λl h=>by cases l with
 | nil=>ext h
 | cons a l=>rwa[al4 (P:=λl=>P (a::l)) (k a) l (mB h)])
def al6{g:Type _}{P:List g->Prop}(k:∀a b c d e f,P [a,b,c,d,e,f]):∀l:List g,l.9=6->P l:=(λl h=>by cases l with
 | nil=>ext h
 | cons a l=>rwa[al5 (P:=λl=>P (a::l)) (k a) l (mB h)])
def al7{h:Type _}{P:List h->Prop}(k:∀a b c d e f g,P [a,b,c,d,e,f,g]):∀l:List h,l.9=7->P l:=(λl h=>by cases l with
 | nil=>ext h
 | cons a l=>rwa[al6 (P:=λl=>P (a::l)) (k a) l (mB h)])
def al8{i:Type _}{P:List i->Prop}(k:∀a b c d e f g h,P [a,b,c,d,e,f,g,h]):∀l:List i,l.9=8->P l:=(λl h=>by cases l with
 | nil=>ext h
 | cons a l=>rwa[al7 (P:=λl=>P (a::l)) (k a) l (mB h)])
def nmB(X:Cx)(x:Str)(k:NameKind):Bool:=decide (Nm X.env.scope x k)
def ndB(X:Cx):Bool:=decide X.N.Nodup
abbrev nB(X:Cx)(x:Str)(k:NameKind):Prop:=nmB X x k=_t
abbrev nD(X:Cx):Prop:=ndB X=_t
def od [Decidable p] (h:decide p=_t):p:=(yX h)
def fsc{N P:jS}{b:Scope}(a:autoParam (b.kind=.function) y1z)(h:autoParam (decide (b.isCoroutine=_x/\b.isGenerator=_x/\N.Nodup/\N.take P.9=P/\(∀x∈P,b.names.lookup x=8 .local\/b.names.lookup x=8 .cell)/\∀y∈b.names,y.2 ≠ .free)=true) y2z):ZK N P b:=(have ⟨b,c,d,e,f,g⟩:=od h;(a,b,c,d,e,f,g))
def pvN(i:Nat)(n:Nm X.env.scope x .local)(a:autoParam (X.N[i]?=8 x) y1z):PE X (.Name x pos) (YL i):=(DU a (1 n.1) n.2.1 n.2.2.1)
def OZ(n:Nm X.env.scope x .globalImplicit)(a:X.mg x=8 u)(r:ZH v u):PE X (.Name x pos) (tC v):=(Rc n.1 a r n.2.1)
def hJ(n:Nm X.env.scope x .globalImplicit)(a:X.mg x=_n)(b:_o x=8 u)(r:ZH v u):PE X (.Name x pos) (tC v):=(X9 n.1 a b r n.2.2.2 n.2.1)
def fS{k:Nat}{ps:jS}{b:Sp}{p:Pos}{e:Expr}{es:List Expr}{t:TA}(F:Fn X.prog X.w X.K X.mg X.base x ps k b)(f:ZL k X.A)(n:Nm X.env.scope x .globalImplicit)(c:PA X (e::es) t)(d:autoParam (sEq X e es) y1z)(a:autoParam (sFq X pos es) y1z) :
  PE X (.Call (.Name x p) (e::es) [] pos) (Ad b t):=(SY F f n.1 c n.2.1 d a)
def Pg{p:Pos}{e:Expr}{es:List Expr}{t:TA}{id:String}{r:List V->Hp->VK->Prop}(c:JS X (.builtin id) r)(n:Nm X.env.scope x .globalImplicit)(f:X.mg x=_n)(g:_o x=8 (.builtin id))(b:PA X (e::es) t)(d:autoParam (sEq X e es) y1z)(a:autoParam (sFq X pos es) y1z):PE X (.Call (.Name x p) (e::es) [] pos) (Bk r t):=(eO c n.1 f g b n.2.2.2 n.2.1 d a)
def Xg{p:Pos}{e:Expr}{es:List Expr}{t:TA}{T:String}{r:List V->Hp->VK->Prop}(c:JS X (.type T) r)(n:Nm X.env.scope x .globalImplicit)(f:X.mg x=_n)(g:_o x=8 (.type T))(b:PA X (e::es) t)(d:autoParam (sEq X e es) y1z)(a:autoParam (sFq X pos es) y1z):PE X (.Call (.Name x p) (e::es) [] pos) (Bk r t):=(Ol c n.1 f g b n.2.2.2 n.2.1 d a)
def gI{i:Nat}{e:Expr}{te:TE}{a:Pos}(b:X.N.Nodup)(n:Nm X.env.scope x .local)(c:PE X e te)(d:autoParam (X.N[i]?=8 x) y1z)(hs:autoParam (swapsWith e (8 (.Name x a)) pos.line X.env=pure false) y1z) :
  PS X (.Assign [.Name x a] e pos) (JJ te (Wv i)):=(GT b d (1 n.1) c hs (2 n.1))
def fF{i:Nat}{e:Expr}{te:TE}{a:Pos}(b:X.N.Nodup)(n:Nm X.env.scope x .cell)(c:PE X e te)(d:autoParam (X.fn x=true) y1z)(f:autoParam (X.N[i]?=8 x) y1z)(hs:autoParam (swapsWith e (8 (.Name x a)) pos.line X.env=pure false) y1z) :
  PS X (.Assign [.Name x a] e pos) (JJ te (Wv i)):=(GT b f (2 n.1) c hs (1 d))
def NT(a:X.N.Nodup)(n:Nm X.env.scope x .local)(b:autoParam (X.N[i]?=8 x) y1z):PG X (.Name x pos) (Wv i):=(Ff a b (1 n.1) (2 n.1))
end
section
variable{X:Cx}{scope:Scope}{cl:List (Str×jY)}{C:jY}{N':jS}{s0:jW}{H0:Hp}{ex:jV}{pn:List (jY×Obj)}{x:Str}{pos:Pos}
def Oq(n:autoParam (Nm scope x .globalImplicit) y4z):Nm (ccx X scope cl C N' s0 H0 ex pn).env.scope x .globalImplicit:=((Mv aA n.1,n.2))
def nmC(n:autoParam (Nm scope x .globalImplicit) y4z):nB (ccx X scope cl C N' s0 H0 ex pn) x .globalImplicit:=(yD (Oq n))
def WI.ig{j:Nat}{fr:List (Str×Nat)}(n:Nm X.env.scope x .cell)(t:WI X scope fr)(m:autoParam (Nm scope x .free) y4z)(a:autoParam (X.N[j]?=8 x) y1z):WI X scope ((x,j)::fr):=(.cons a (1 n.1) m.1 t)
end
def cs(x:Str):List Nat:=x.cps.toList
def Vr(x:Str):(cs x).9=x.9:=by unfold cs;rwa[zO]
def Eg(x y:Str):cs (x++y)=cs x++cs y:=by unfold cs;rw[Str.cps_append,Array.toList_append]
def Lf(l:List Nat):cs ⟨l.4⟩=l:=by unfold cs;simp
def IZ(L:List Nat)(lo:Nat):∀m,lo+m<=L.9->((List.range m).map (lo + ·)).filterMap (L[·]?)=(L.drop lo).take m:=by
 intro m
 induction m with
 | zero=>intro _;simp
 | succ m a =>
  intro h;rw[wB,xH,wE,a (),xQ,List.getElem?_drop];have:lo+m<L.9:=by lia
  simp[xB this]
def Ng(a b:Nat):min (a:Int) (b:Int)=((min a b:Nat):Int):=by
 rcases Nat.le_total a b with z | z
 .rw[mE z,Int.min_eq_left (Int.ofNat_le.mpr z)]
 .rw[Nat.min_eq_right z,Int.min_eq_right (Int.ofNat_le.mpr z)]
def Kf(m n:Nat):(if (m:Int)<(n:Int) then ((n:Int) - (m:Int)+1 - 1) / 1 else 0).toNat=n - m:=by
 rw[Int.add_sub_cancel,Int.ediv_one];split
 .rwa[Int.toNat_sub n m]
 .rename_i z;rw[Nat.sub_eq_zero_of_le (Nat.le_of_not_lt λy=>z (Int.ofNat_lt.mpr y))];rfl
def EV(x:Str)(h:0<=i):cs (Txt.slice x _n (8 i))=(cs x).take i.toNat:=by
 let(k,3):=yK h;rw[yJ];let b:=Vr x;let e:Builtin.Str.strSliceIndices _n (8 (k:Int)) 1 x.9=(List.range (min k x.9)).map (0 + ·):=by
  unfold Builtin.Str.strSliceIndices sliceRange;simp only[show (1:Int) > 0 by decide,if_true];rw[_i (Int.not_lt.mpr (Int.natCast_nonneg k)),Ng,Int.max_eq_right (Int.natCast_nonneg _)];have:=Kf 0 (min k x.9);rw[show ((0:Nat):Int)=0 from S] at this;rw[this];apply wN;intro j _;rw[Int.one_mul];rfl
 unfold Txt.slice;rw[e];let a:(cs x).take (min k x.9)=(cs x).take k:=by rw[<- b];rwa[List.take_eq_take_min.symm]
 rw[<- a];generalize a:min k x.9=m;let c:m<=x.9:=a▸Nat.min_le_right k _;split
 .rename_i a;rw[xA,yV] at a;let a:m=x.9:=by simpa using a
  rw[zR (by rw[b,a];rwa[xD _])]
 .have:=IZ (cs x) 0 m (by rw[b,Nat.zero_add];rwa[c]);rw[mD] at this;rw[Lf,<- this];congr 1;funext k;unfold cs;simp
def Pa(x:Str)(h:0<=i):cs (Txt.slice x (8 i) _n)=(cs x).drop i.toNat:=by
 let(k,3):=yK h;rw[yJ];let a:=Vr x;let e:Builtin.Str.strSliceIndices (8 (k:Int)) _n 1 x.9=(List.range (x.9 - min k x.9)).map (min k x.9 + ·):=by
  unfold Builtin.Str.strSliceIndices sliceRange;simp only[show (1:Int) > 0 by decide,if_true];rw[_i (Int.not_lt.mpr (Int.natCast_nonneg k)),Ng,Int.max_eq_right (Int.natCast_nonneg _),Kf];apply wN;intro j _;rw[Int.one_mul];rfl
 unfold Txt.slice;rw[e];let b:(cs x).drop (min k x.9)=(cs x).drop k:=by
  rcases Nat.le_total k x.9 with z | z
  .rw[mE z]
  .rw[Nat.min_eq_right z,wU (wX a),wU (by rw[a];rwa[z])]
 rw[<- b];generalize b:min k x.9=m;let c:m<=x.9:=b▸Nat.min_le_right k _;split
 .rename_i b;rw[xA,yV] at b;let b:x.9 - m=x.9:=by simpa using b
  have:m=0\/x.9=0:=by
   rcases Nat.eq_zero_or_pos m with z | z
   .rwa[1 z]
   .rwa[2 (Classical.byContradiction λy=>_a b (yF (Nat.sub_lt (Nat.pos_of_ne_zero y) z)))]
  rcases this with z | z
  .rw[z,mD]
  .rw[List.length_eq_zero_iff.mp (a.trans z),List.drop_nil]
 .rw[Lf,<- zR (l:=(cs x).drop m) (i:=x.9 - m) (by rw[wL,a];rwa[xD _]),<- IZ (cs x) m (x.9 - m) (by rw[a,Nat.add_sub_cancel' c];rwa[xD _])];congr 1;funext k;unfold cs;simp
def fU:∀ys:List Str,cs (Txt.join "" ys)=(ys.map cs).flatten:=by
 let c:∀(ys:jS)(a:Array Nat),(ys.foldl (λb p=>b++(("":Str)).cps++p.cps) a).toList=a.toList++(ys.map cs).flatten:=by
  intro ys
  induction ys with
  | nil=>intro a;simp
  | cons y r b =>
   intro a;rw[zL,b];have:(("":Str)).cps=#[]:=aA
   rw[this];simp[cs]
 intro ys;show (cs (Builtin.Str.glued "" ys))=_;unfold Builtin.Str.glued;cases ys with
 | nil=>decide +kernel
 | cons y r =>
  show (List.foldl _ y.cps r).toList=_;rw[c];rfl
def BE(x:Str):Prop:=∀c∈cs x,97<=c/\c<=122
def letters:Str:="abcdefghijklmnopqrstuvwxyz"
def XD:cs letters=(List.range 26).map (97 + ·):=(aA)
def GD(a:0<=d)(b:d<26):atI letters.cps.toList d=8 (97+d.toNat):=by
 let(j,3):=yK a;erw[Yo ?_];show (cs letters)[j]?=_;rw[XD,xG,zV ()];rfl
def CY{a:It}{e:Nat}{d:St}{g:TG}{f:Tv}{te:TE}{Q:VK}{H:Hp}{L:aG}(Pv:Nat->List V->Hp->Prop)(n:Pv 0 [] H)(b:L.9<=1000000)(j:∀i H ys,i<L.9->Pv i ys H->a.go i H)(r:∀i H x J ys,i<L.9->Pv i ys H->a.jb i H x J->J=H/\L[i]?=8 x)(k:∀H ys,Pv L.length ys H->a.stop L.length H)(b:∀i ys H,Pv i ys H->ys.9<=i)(step:∀i x ys H,L[i]?=8 x->Pv i ys H->Vy e d g f te x H (λy J=>Pv (i+1) (ys ++ [y]) J) λJ=>Pv (i+1) ys J)(o:∀ys H,Pv L.length ys H->∀l,H l=_n->Q (3 l) (upd H l (6 ys))) :
  Uj a e d g f te Q H:=by
 let c:∀{x:V}{H:Hp}{Y h:V->Hp->Prop}{N a:Hp->Prop},Vy e d g f te x H Y N->Y=h->N=a->Vy e d g f te x H h a:=λh a d=>by subst a;subst d;rwa[h]
 erw[λi m ys H=>m=L.9 - i/\i<=L.9/\Pv i ys H,(L.9,by simp,yI _,n),5];rintro i m ys H ⟨rfl,a,p⟩;let a:=b i ys H p;let a:(1000000:Nat)<sizeLine:=by decide
 by_cases a:i<L.9
 .erw[2 (j i H ys a p,6,L.9 - (i+1),6,λx J y=>?_)];let(e,b):=r i H x J ys a p y;subst e;erw[c (step i x ys _ b p) ?_ ?_]
  .funext y H4;apply propext;rwa[λq=>(3,a,q),λq=>q.2.2]
  .funext H3;apply propext;rwa[λq=>(3,a,q),λq=>q.2.2]
 .let e:i=L.9:=by lia
  subst e;rwa[1 (k H ys p,6,o ys H p)]
def BQ(lo:Int)(n:Nat):List V:=(List.range n).map λk=>V.int (lo+(k:Nat))
def BX(lo:Int)(n:Nat):(BQ lo n).9=n:=by simp[BQ]
def Pt{lo:Int}{n i:Nat}{x:V}(h:(BQ lo n)[i]?=8 x):i<n/\x=4 (lo+(i:Nat)):=by
 let a:i<n:=by have:=(xF.mp h).1;(rw[BX] at this;assumption)
 erw[a,5];unfold BQ at h;rw[xG,zV a] at h;rwa[(ma h).6]
def Mh{lo:Int}{n:Nat}{c:Nat}{b:St}{g:TG}{d:Tv}{te:TE}{Q:VK}{H:Hp}(Pv:Nat->List V->Hp->Prop)(e:Pv 0 [] H)(h:n<=1000000)(a:∀i ys H,Pv i ys H->ys.9<=i)(step:∀i ys H,i<n->Pv i ys H->Vy c b g d te (4 (lo+(i:Nat))) H (λy J=>Pv (i+1) (ys ++ [y]) J) λJ=>Pv (i+1) ys J)(f:∀ys H,Pv n ys H->∀l,H l=_n->Q (3 l) (upd H l (6 ys))) :
  Uj (JP lo n) c b g d te Q H:=by
 erw[CY (L:=BQ lo n) Pv e (by rw[BX];rwa[h]) ?_ ?_ ?_ a ?_ ?_]
 .intro i H ys a _;rw[BX] at a;rwa[a]
 .rintro i H x J ys a _ ⟨rfl,rfl⟩;rw[BX] at a;erw[75];unfold BQ;rw[xG,zV a];rfl
 .intro H ys _;rw[BX];rwa[xD _]
 .intro i x ys H b p;let(a,3):=Pt b;rwa[step i ys H a p]
 .intro ys H p;rw[BX] at p;rwa[f ys H p]
def Uw{K:uFg}{a:jY}{L:aG}{e:Nat}{d:St}{g:TG}{f:Tv}{te:TE}{Q:VK}{H:Hp}(Pv:Nat->List V->Hp->Prop)(h:Pv 0 [] H)(k:L.9<=1000000)(c:∀i ys H,i<=L.9->Pv i ys H->ZG K H a L)(b:∀i ys H,Pv i ys H->ys.9<=i)(step:∀i x ys H,L[i]?=8 x->Pv i ys H->Vy e d g f te x H (λy J=>Pv (i+1) (ys ++ [y]) J) λJ=>Pv (i+1) ys J)(j:∀ys H,Pv L.length ys H->∀l,H l=_n->Q (3 l) (upd H l (6 ys))) :
  Uj (JO K a) e d g f te Q H:=by
 erw[CY (L:=L) Pv h k ?_ ?_ ?_ b step j]
 .intro i H ys b p;rwa[L,L[i],c i ys H (zC b) p,by simp[b]]
 .rintro i H x J ys b p ⟨rfl,y⟩;rwa[7,y L (c i ys _ (zC b) p)]
 .intro H ys p;rwa[L,c _ ys H (xD _) p,xD _]
def QK(Pv:Nat->List V->Hp->Prop)(c:Pv 0 [] H)(e:x.9<=1000000)(a:∀i ys H,Pv i ys H->ys.9<=i)(step:∀i ys H,i<x.9->Pv i ys H->Vy nl fv g tt te (sgn x i) H (λy J=>Pv (i+1) (ys ++ [y]) J) λJ=>Pv (i+1) ys J)(d:∀ys H,Pv x.length ys H->∀l,H l=_n->Q (3 l) (upd H l (6 ys))) :
  Uj (FS x) nl fv g tt te Q H:=by
 let b:((List.range x.9).map λi=>sgn x i).9=x.9:=by simp
 erw[CY (L:=(List.range x.9).map λi=>sgn x i) Pv c (by rw[b];rwa[e]) ?_ ?_ ?_ a ?_ ?_]
 .intro i H ys a _;rw[b] at a;rwa[a]
 .rintro i H v J ys a _ ⟨rfl,rfl⟩;rw[b] at a;erw[75];rw[xG,zV a];rfl
 .intro H ys _;rw[b];rwa[7]
 .intro i v ys H c p;let a:i<x.9:=by have:=(xF.mp c).1;(rw[b] at this;assumption)
  rw[xG,zV a] at c;ext c;rwa[step i ys H a p]
 .intro ys H p;rw[b] at p;rwa[d ys H p]
def Uh{b:St}(h:b.9=1):∃a,b=[a]:=(al1 (P:=λl=>∃a,l=[a]) (λa=>(a,3)) b h)
def Dg{c:St}(h:c.9=2):∃a b,c=[a,b]:=(al2 (P:=λl=>∃a b,l=[a,b]) (λa b=>(a,b,3)) c h)
structure QE (X:Cx) (e:Expr) (t:TE):Prop where
 h:PE X e t
structure QT (X:Cx) (e:Expr) (t:TT):Prop where
 h:PT X e t
structure QW (X:Cx) (e:Expr) (t:TT):Prop where
 h:PW X e t
structure QS (X:Cx) (s:Stmt) (t:TS):Prop where
 h:PS X s t
structure WY (X:Cx) (s:List Stmt) (t:TS):Prop where
 h:AR X s t
structure QA (X:Cx) (es:List Expr) (t:TA):Prop where
 h:PA X es t
structure QG (X:Cx) (e:Expr) (t:TG):Prop where
 h:PG X e t
structure BC (X:Cx) (es:List Expr) (t:Jo):Prop where
 h:IM X es t
structure QI (X:Cx) (tg iter:Expr) (t:TI):Prop where
 h:PI X tg iter t
structure QO (X:Cx) (e:Option Expr) (t:TO):Prop where
 h:PO X e t
structure Fx (X:Cx) (es:List Expr) (t:Tv):Prop where
 h:CU X es t
structure WE (X:Cx) (f:jX->jX->Sem jX) (r:R2):Prop where
 h:Aw X f r
structure IQ (X:Cx) (f:jX->Sem jX) (r:V->Hp->VK->Prop):Prop where
 h:RQ X f r
structure QC (X:Cx) (f:jX) (r:List V->Hp->VK->Prop):Prop where
 h:JS X f r
def QC.imp(h:QC X f r)(i:∀L H Q,r' L H Q->r L H Q):QC X f r':=(⟨λp s Y H x u Q I v k=>h.h p s Y H x u Q I v (i x H Q k)⟩)
structure Bj (X:Cx) (r:R2):Prop where
 h:Dk X r
structure Gr (X:Cx) (r:V->Option Int->Option Int->Hp->VK->Prop):Prop where
 h:Lk X r
structure QM (X:Cx) (id:String) (r:V->List V->Hp->VK->Prop):Prop where
 h:Kg X id r
structure CH (X:Cx) (t:DL):Prop where
 h:gK X t
section
variable{X:Cx}{a b c:Expr}{ta tb te:TE}{pos p pos':Pos}{st:Stmt}{rest:List Stmt}{t u:TS}{x:Str}{es:List Expr}{e:Expr}
def Zs:WY X [] Y7:=(⟨λ_ _ Y H _ I h=>wpAny_execs_nil (Y,H,I,h)⟩)
def Zc(d:QS X st t)(g:WY X rest u):WY X (st::rest) (Uu t u):=(⟨by
 let d:=d.h;let g:=g.h;intro B s Y H D I h;erw[wpAny_execs_cons (thn (d B s Y H {D with nx:=u D } I h) λf h q=>?_)];cases f with
 | next =>
  let(d,J,f,q):=q;rwa[g B h d J D f q]
 | ret v=>rwa[q]
 | brk=>rwa[q]
 | cont=>rwa[q]⟩)
def Zf(d:QS X st t):WY X [st] t:=(⟨by
 let d:=d.h;intro B s Y H D I h;erw[wpAny_execs_cons (thn (d B s Y H D I h) λf d q=>?_)];cases f with
 | next=>rwa[wpAny_execs_nil q]
 | ret v=>rwa[q]
 | brk=>rwa[q]
 | cont=>rwa[q]⟩)
def Zr(h:QE X e te):QS X (.Return (8 e) pos) (Sz te):=(⟨by
 let d:=h.h;intro B s Y H D I h
 rwa[wpAny_Return_some (thn (d B s Y H _ I h) λv j ⟨x,d,f,i,g⟩=>(x,Y,d,f,i,g))]⟩)
def QN:QS X (.Continue pos) Sh:=(⟨λ_ _ Y H _ I h=>wpAny_Continue (Y,H,I,h)⟩)
def Zt{c:Expr}{a b:List Stmt}{h:TT}(d:QT X c h)(f:WY X a t)(g:WY X b u):QS X (.If c a b pos) (E5 h t u):=(⟨by
 let d:=d.h;let f:=f.h;let g:=g.h;intro B s Y H D I h;erw[wpAny_If (thn (d B s Y H _ I h) λd k ⟨h,i,j⟩=>?_)];cases d with
 | true=>rwa[f B k Y h D i j]
 | false=>rwa[g B k Y h D i j]⟩)
def Zk(d:QE X e te)(hs:autoParam (swapsWith e _n pos.line X.env=pure false) y1z):QS X (.Expr e pos) (Fp te):=(⟨by
 let d:=d.h;intro B s Y H D I h
 rwa[wpAny_Expr_any (thn (d B s Y H _ I h) λv i ⟨x,d,f,h,g⟩=>(Y,d,f,g)) I.quiet hs]⟩)
def Zv(i:Nat)(f:QE X e te)(d:autoParam (nD X) y2z)(n:autoParam (nB X x .local) y2z)(g:autoParam (X.N[i]?=8 x) y1z)(hs:autoParam (swapsWith e (8 (.Name x pos')) pos.line X.env=pure false) y1z) :
  QS X (.Assign [.Name x pos'] e pos) (JJ te (Wv i)):=(⟨gI (od d) (od n) f.h g hs⟩)
def FO{i:Nat}(d:X.N.Nodup)(n:Nm X.env.scope x .cell)(f:QE X e te)(g:autoParam (X.fn x=true) y1z)(h:autoParam (X.N[i]?=8 x) y1z)(hs:autoParam (swapsWith e (8 (.Name x pos')) pos.line X.env=pure false) y1z) :
  QS X (.Assign [.Name x pos'] e pos) (JJ te (Wv i)):=(⟨fF d n f.h g h hs⟩)
def TQ{d:Expr}{g:TG}(f:QE X e te)(i:QG X d g)(hs:autoParam (swapsWithSole [d] e pos.line X.env=pure false) y1z)(k:autoParam (swappedStores [d] e X.env=pure none) y1z)(j:autoParam ((assignEach [d] X.env).map (·.2)= [assign d X.env]) y1z):QS X (.Assign [d] e pos) (JJ te g):=(⟨by
 let f:=f.h;let i:=i.h;intro B s Y H D I h;erw[wpAny_Assign_stores (thn (f B s Y H _ I h) λv m ⟨x,d,f,l,h⟩=>?_) hs k];rw[j]
 rwa[thn (i B m Y d x v _ f l h) λ_ d q=>q]⟩)
def AY(d:It)(g:TG)(tb:TS)(D:YG)(Y:St)(f:Hp):Prop:=∃W:Nat->Nat->St->Hp->Prop,(∃m,W 0 m Y f)/\∀i m Y H,W i m Y H ->
 (d.stop i H/\D.nx Y H)\/(d.go i H/\∃N:St->Hp->Prop,(∀ f J,N f J->∃h,h<m/\W (i+1) h f J)/\∀x J,d.jb i H x J->g x Y J λd f=>tb {D with nx:=N,ct:=N,bk:=D.nx } d f)
def MF(d:TI)(g:TG)(tb:TS):TS:=λD Y H=>d Y H λJ d=>AY J g tb D Y d
def Wd(k:PassesOwn (model X.prog X.w) X.A X.env X.xe)(C:X.calm=true)(d:QI X tg iter wi)(y:QG X tg g)(j:WY X body t)(hs:autoParam (∀x,foldedSetIterable iter X.env x=pure x) y5z):QS X (.For tg iter body [] pos) (MF wi g t):=(⟨by
 have d:=d.h;have y:=y.h;have j:=j.h;intro B s Y H D I h;refine wpAny_For (thn (d B s Y H _ I h) λv f d=>thn d λd f i=>?_) hs;obtain⟨it,o,F,d,s,e,w,T,f,h,W,⟨z,A⟩,r⟩:=i;subst e;have d:∀{J:Hp},(∀b∈o,J b=none)->∀b∈o,Y8 X B J b:=λi b j=>⟨i b j,(h b j).2⟩;refine codeAny_forLoop_any (λn m=>∃i l J,ZD X B l J m/\F i m.heap/\(∀b∈o,J b=none)/\W i n l J) ?_ z ⟨0,Y,s,w,f,λb j=>(h b j).1,A⟩;rintro n E ⟨i,f,w,A,m,h,s⟩;rcases r i n f w s with⟨s,H⟩ | ⟨go,N,hN,step⟩
 .refine wpAny_passesOwn k (thn (T.done X rfl rfl rfl C i B E f w X.xe A (d h) m s) λr I ⟨z,G⟩=>?_);subst z;exact wpAny_execs_nil ⟨f,w,G,H⟩
 .refine wpAny_passesOwn k (thn (T.item X rfl rfl rfl C i B E f w X.xe A (d h) m go) λr I ⟨u,z,h⟩=>?_);subst z;refine wpAny_passesOwn k (thn h λ_ w ⟨x,r,z,A,C,s,m⟩=>?_);have h:=z.pinned (d m) (T.obj _ _ s);refine wpAny_passesOwn k (thn (y _ w f r x u _ h A (step x r C)) λ_ r ⟨d,f,h,m⟩=>?_);refine wpAny_passesOwn k (thn (j _ r d f _ h m) λf d r=>?_);have again:∀{h:St}{k:Hp},ZD X (B++Bm o w.heap) h k d->N h k->∃m,m<n/\∃i l J,ZD X B l J d/\F i d.heap/\(∀b∈o,J b=none)/\W i m l J:=λ{h k} l m=>by
   obtain⟨n,d,w⟩:=hN h k m;refine⟨n,d,i+1,h,k,l.j5,T.keep _ _ _ s λb j o e=>(l.pin (Prod.mk (b) (o)) (xJ _ (xJ _ (CJ j e)))).1,λb j=>?_,w⟩;obtain⟨o,e,d⟩:=T.obj _ _ s b j;exact(l.pin (Prod.mk (b) (o)) (xJ _ (xJ _ (CJ j e)))).2.1
  cases f with
  | next=>obtain⟨h,k,l,m⟩:=r;exact again l m
  | cont=>obtain⟨h,k,l,m⟩:=r;exact again l m
  | brk=>obtain⟨h,k,l,r⟩:=r;exact⟨h,k,l.j5,r⟩
  | ret v=>obtain⟨f,h,k,l,d,r⟩:=r;exact⟨f,h,k,l.j5,d,r⟩⟩)
def XY(k:PassesOwn (_m X.prog X.w) X.A X.env X.xe)(j:QT X c tc)(i:WY X body t):QS X (.While c body [] pos) (Sy tc t):=(⟨by
 let j:=j.h;let i:=i.h;intro B s Y H D I h;let(W,(g,l),d):=h;erw[wpAny_While (codeAny_whileLoop (λn h=>∃ f J,ZD X B f J h/\W n f J) ?_ g (Y,H,I,l))];rintro n l ⟨g,f,h,m⟩;erw[wpAny_passesOwn k (thn (j B l g f _ h (d n g f m)) λb d ⟨o,r,h⟩=>?_)];cases b with
 | true =>
  let(N,s,h):=h;rw[_j rfl];erw[wpAny_passesOwn k (thn (i B d g o _ r h) λf d i=>?_)];cases f with
  | next =>
   let(d,f,j,m):=i;let(l,k,n):=s d f m;rwa[l,k,d,f,j,n]
  | cont =>
   let(d,f,j,m):=i;let(l,k,n):=s d f m;rwa[l,k,d,f,j,n]
  | brk=>rwa[i]
  | ret v=>rwa[i]
 | false =>
  rw[_i xK]
  rwa[wpAny_execs_nil (g,o,r,h)]⟩)
def Yc(i:Nat)(d:autoParam (nD X) y2z)(n:autoParam (nB X x .local) y2z)(f:autoParam (X.N[i]?=8 x) y1z):QG X (.Name x pos) (Wv i):=(⟨NT (od d) (od n) f⟩)
def Hv{i:Nat}(d:X.N.Nodup)(n:Nm X.env.scope x .cell)(f:autoParam (X.fn x=true) y1z)(g:autoParam (X.N[i]?=8 x) y1z):QG X (.Name x pos) (Wv i):=(⟨Ff d g (2 n.1) (1 f)⟩)
def Vx:BC X [] GB:=(⟨by
 intro B s Y H f d Q I r h;let(e,h):=h;subst e;ext r
 rwa[assignInOrder_nil (Y,H,I,h)]⟩)
def Yr{t:TG}{u:Jo}(d:QG X e t)(f:BC X es u)(hs:autoParam ((assignEach (e::es) X.env).map (·.2)=assign e X.env::(assignEach es X.env).map (·.2)) y1z):BC X (e::es) (UD t u):=(⟨by
 let d:=d.h;let f:=f.h;intro B s Y H i g Q I r h;let(v,i,g,h):=h;subst g;cases r with
 | cons r j =>
  rw[hs];erw[assignInOrder_cons (thn (d B s Y H _ _ _ I r h) λ_ k ⟨d,g,h,i⟩=>?_)]
  rwa[f B k d g _ _ Q h j i]⟩)
def Ar{k:Nat}{t:Jo}{n:Nat}(f:X.calm=_t)(h:BC X es t)(g:autoParam ((assignEach es X.env).9=n) y1z)(d:autoParam ((assignEach es X.env).findIdx? (·.1)=none) y1z):QG X (.Tuple es k pos) (J8 X.K n t):=(⟨HG f h.h g d⟩)
def Bg{o i:Expr}{k h:TE}{t:DL}(j:QE X o k)(g:QE X i h)(hs:CH X t)(l:autoParam (∀v,assign (.Subscript o i pos) X.env v=(do
   let d <- holding [v] (eval o X.env)
   let f <- holding [v,d] (eval i X.env)
   standAt pos
   holding [v,d,f] (setItem d f v)
   release [v,d,f] [])) y5z):QG X (.Subscript o i pos) (dY k h t):=(⟨by
 let j:=j.h;let g:=g.h;let hs:=hs.h;intro B s Y H v u Q I r h;rw[l];erw[_b (wpAny_holding (thn (j B s Y H _ I h) λd m ⟨x,h,j,l,k⟩=>?_))];erw[_b (wpAny_holding (thn (g B m Y h _ j k) λf m ⟨y,g,h,k,j⟩=>?_))];erw[_b (wpAny_standAt (_b (wpAny_holding (thn (hs B m Y g x y v d f u _ h l k r j) λ_ h ⟨d,f,g⟩=>?_))))]
 rwa[wpAny_release (Y,d,f,g)]⟩)
def Bl:CH X Cv:=(⟨by
 intro B s Y H o i v j g u Q I f d y h;let(p,L,k,j,77,g,l,q):=h;ext f;let(t,7):=d;let(d,n,r,i,m):=I.lst g;let(f,h,o,w):=K8 l;let h:=r.9;let l:=Bh;let l:ZD X B Y (upd H p (6 (L.set j v))) {s with heap:=s.heap.update p (Obj.mapSeq (·.setIfInBounds j u)) } :=
  I.lstUpd g i (Qc d n j u) (r.set y j) (by rw[wS];rwa[m]) s.toks
 by_cases m:0<=k
 .let g:k.toNat=j:=by
   rw[seqIndex_of m w] at f;rwa[ma f]
  rwa[PySem.W.ki_setAt i m () (by rw[xW,<- h];rwa[w]) (by rw[g];rwa[2,l,q])]
 .let g:(k+(d.toArray.5:Int)).toNat=j:=by
   rw[seqIndex_neg () o] at f;rw[xW,<- h];rwa[ma f]
  rwa[PySem.W.ki_setBack i () (by rw[xW,<- h];rwa[o]) () (by rw[g];rwa[2,l,q])]⟩)
variable{tg:Expr}
def Y2(d:QE X l te):QI X tg l (jE X.K te):=(⟨by
 let d:=d.h;intro B s Y H R I h;erw[thn (d B s Y H _ I h) λv f ⟨x,g,d,j,i⟩=>?_];let(a,e,(L,h),q):=i;subst e;ext j;let(i,k,p,j):=d.list h;erw[wpAny_pyIter_list p.isList ?_];erw[f.8,[f.8],22,g,7,d.kept (t':=f.toks) λb o e=>xC _ e,Pb a _,(2,xN _ rfl,77),λb g=>?_,q];let e:b=f.8:=by simpa using g
 subst e
 rwa[d.ix (xD _) (d.og.fresh (xD _))]⟩)
def LZ(d:QE X l te):QI X tg l (eU X.K te):=(⟨by
 let d:=d.h;intro B s Y H R I h;erw[thn (d B s Y H _ I h) λv d ⟨x,h,f,j,g⟩=>?_];let(a,e,(L,i),q):=g;subst e;ext j;let(g,k,p,j):=f.tuple i;erw[wpAny_pyIter_tuple (show d.heap.IsTuple a g.4 from p) ?_];erw[d.8,[d.8],22,h,7,f.kept (t':=d.toks) λb o e=>xC _ e,RY a _,(2,xN _ rfl,77),λb g=>?_,q];let e:b=d.8:=by simpa using g
 subst e
 rwa[f.ix (xD _) (f.og.fresh (xD _))]⟩)
def XS(d:QE X l te):QI X tg l (X0 te):=(⟨by
 let d:=d.h;intro B s Y H R I h;erw[thn (d B s Y H _ I h) λv d ⟨y,g,f,i,h⟩=>?_];let(x,e,q):=h;subst e;let(t,7):=i;erw[wpAny_pyIter_strU ?_];erw[d.8,[d.8],22,g,7,f.kept (t':=d.toks) λb o e=>xC _ e,bD _ x t,(2,xN _ rfl,77),λb g=>?_,q];let e:b=d.8:=by simpa using g
 subst e
 rwa[f.ix (xD _) (f.og.fresh (xD _))]⟩)
def J3{a:Expr}{ta:TA}(g:X.mg "range"=_n)(d:QA X [a] ta)(f:autoParam (nB X "range" .globalImplicit) y2z)(hs:autoParam (_e [a] X.env=[(_x,eval a X.env)]) y1z):QI X tg (.Call (.Name "range" p) [a] [] pos) (gN ta):=(⟨by
 let f:=(od f).1;let d:=d.h;intro B s Y H R I h;erw[Call_ (Ui I f g boot_range (callWith_type1 (thn (d pos B s Y H _ I h) λj i ⟨k,g,f,h,d⟩=>?_) hs rfl))];let(j,e,d,g,q):=d;subst e;cases h with
 | cons r h =>
  ext h;let(t,7):=r
  rwa[call_range_1 (IU f () () d g (by simpa using q))]⟩)
def Hg{a b:Expr}{ta:TA}(i:X.mg "range"=_n)(f:QA X [a,b] ta)(g:autoParam (nB X "range" .globalImplicit) y2z)(hs:autoParam (_e [a,b] X.env=[(_x,eval a X.env),(_x,eval b X.env)]) y1z)(d:autoParam (_e [b] X.env=[(_x,eval b X.env)]) y1z) :
  QI X tg (.Call (.Name "range" p) [a,b] [] pos) (RU ta):=(⟨by
 let g:=(od g).1;let f:=f.h;intro B s Y H R I h;erw[Call_ (Ui I g i boot_range (callWith_type1 (thn (f pos B s Y H _ I h) λj i ⟨k,h,g,m,f⟩=>?_) (by rw[hs,d]) (by rw[d];rfl)))];let(i,j,e,(f,h,k,l),q):=f;subst e;cases m with
 | cons r d =>
  cases d with
  | cons i d =>
   ext d;let(t,7):=r;let(d,7):=i
   rwa[call_range_2 (IU g f h k l q)]⟩)
def Zb:QA X [] V3:=(⟨λ_ _ _ _ H Q I h=>mw ([],H,I,.nil,h)⟩)
def Za{t:TA}(d:QE X e te)(f:QA X es t)(hs:autoParam (sEq X e es) y1z):QA X (e::es) (TF te t):=(⟨by
 let d:=d.h;let f:=f.h;intro pos B s Y H Q I h;rw[hs];show _w _ _ (spliced ((_x,eval e X.env)::backTo pos (_e es X.env))) _ _ s;erw[mv (thn (d B s Y H _ I h) λu j ⟨x,d,g,i,h⟩=>?_)]
 rwa[thn (f pos B j Y d _ g h) λk j ⟨L,d,f,h,g⟩=>(x::L,d,f,.cons i h,g)]⟩)
def Yb {x1} {t:TA}(h:QA X es t):QE X (.Tuple es x1 pos) (iQ t):=(⟨by
 let h:=h.h;intro B s Y H Q I d;erw[wpAny_Tuple_spliced (thn (h pos B s Y H _ I d) λj d ⟨L,f,g,r,z,q⟩=>(by rw[<- r.9];rwa[z],5))];let i:f d.8=none:=g.og.fresh (xD _);erw[3 d.8,upd f d.heap.objs.size (7 L),g.laid (t':=d.toks) (λb u e=>xC _ e) (xD _) ?_,7,q _ i]
 rwa[z,j,r,(2,xN _ rfl,78)]⟩)
def Yl{t:TA}(h:QA X es t):QE X (.List es pos) (RW t):=(⟨by
 let h:=h.h;intro B s Y H Q I d;erw[wpAny_List_spliced (thn (h pos B s Y H _ I d) λj d ⟨L,f,g,r,z,q⟩=>(by rw[<- r.9];rwa[z],5))];let i:f d.8=none:=g.og.fresh (xD _);erw[3 d.8,upd f d.heap.objs.size (6 L),g.laid (t':=d.toks) (λb u e=>xC _ e) (xD _) ?_,7,q _ i]
 rwa[z,j,(0),r,xN _ rfl]⟩)
def Uk(d:QT X a tA):QT X (.UnaryOp .Not a pos) (Po tA):=(⟨by
 let d:=d.h;intro B s Y H Q I h
 rwa[isTrue_not (d B s Y H (λc d=>Q (!c) d) I h)]⟩)
def QW.pt(h:QW X e tA):QT X e tA:=(⟨PW.pt h.h⟩)
def Jg(d:QT X a tA):QW X (.BoolOp .And [a] pos) tA:=(⟨by
 let d:=d.h;intro f B s Y H Q I h;erw[isTrue_and (thn (d B s Y H Q I h) λc d e=>?_)];cases c with
 | true=>rwa[isTrue_and_nil e]
 | false=>rwa[e]⟩)
def Cr(d:QT X a tA):QW X (.BoolOp .Or [a] pos) tA:=(⟨by
 let d:=d.h;intro f B s Y H Q I h;erw[isTrue_or (thn (d B s Y H Q I h) λc d e=>?_)];cases c with
 | false=>rwa[isTrue_or_nil e]
 | true=>rwa[e]⟩)
def V0{rest:List Expr}(d:QT X a tA)(f:QW X (.BoolOp .And (b::rest) pos) tB'):QW X (.BoolOp .And (a::b::rest) pos) (SN tA tB'):=(⟨by
 let d:=d.h;let f:=f.h;intro j B s Y H Q I h;erw[isTrue_and (thn (d B s Y H _ I h) λc i ⟨d,g,h⟩=>?_)];cases c with
 | true=>rwa[f j B i Y d Q g h]
 | false=>rwa[d,g,h]⟩)
def CZ{rest:List Expr}(d:QT X a tA)(f:QW X (.BoolOp .Or (b::rest) pos) tB'):QW X (.BoolOp .Or (a::b::rest) pos) (Og tA tB'):=(⟨by
 let d:=d.h;let f:=f.h;intro j B s Y H Q I h;erw[isTrue_or (thn (d B s Y H _ I h) λc i ⟨d,g,h⟩=>?_)];cases c with
 | true=>rwa[d,g,h]
 | false=>rwa[f j B i Y d Q g h]⟩)
def Zo(g:WE X (_c op) r)(d:QE X a ta)(f:QE X b tb)(i:behindInMarks op b=_x):QT X (.Compare a [op] [b] pos) (BN (Jr r ta tb)):=(⟨by
 let g:=g.h;let d:=d.h;let f:=f.h;intro B s Y H Q I h
 refine wpAny_isTrue_Compare1 (thn (d B s Y H _ I h) λv l ⟨x,d,h,k,j⟩=>thn (f B l Y d _ h j) λu l ⟨y,d,f,j,h⟩=>
  thn (g B l Y d x y v u _ f k j h) λc j ⟨z,d,f,h,k,e,g⟩=>?_) i
 subst e;ext h
 rwa[wpAny_truthy_bool (d,f,g)]⟩)
def J5(g:WE X (_c op) r)(d:QE X a ta)(f:QE X b tb)(i:behindInMarks op b=_x):QE X (.Compare a [op] [b] pos) (Jr r ta tb):=(⟨by
 let g:=g.h;let d:=d.h;let f:=f.h;intro B s Y H Q I h
 rwa[wpAny_Compare1 (Fb d f I h λv u k x y d f h j q=>g B k Y d x y v u Q f h j q) i]⟩)
def Nj(j:WE X (_c op) r)(f:WE X (_c op') r')(d:QE X a ta)(g:QE X b tb)(i:QE X c tc)(m:lastMarks [op,op'] [b,c]=false:=by with_unfolding_all rfl):QE X (.Compare a [op,op'] [b,c] pos) (Nh r r' ta tb tc):=(⟨by
 let j:=j.h;let f:=f.h;let d:=d.h;let g:=g.h;let i:=i.h;intro B s Y H Q I h
 refine Compare_chain (thn (d B s Y H _ I h) λv l ⟨x,d,h,n,k⟩=>chain_link (thn (g B l Y d _ h k) λu k ⟨y,d,g,l,h⟩=>
  thn (j B k Y d x y v u _ g n l h) λd o ⟨z,g,h,n,k,e,j⟩=>?_)) m
 subst e;ext n;erw[wpAny_truthy_bool ?_];cases k with
 | false=>rwa[ite_ff (.bl _x,g,h,7,j)]
 | true=>rwa[ite_tt (chain_last (thn (i B o Y g _ h j) λk j ⟨m,d,g,i,h⟩=>f B j Y d y m u k Q g l i h))]⟩)
def BK(j:WE X (_c op) r)(f:WE X (_c op') r')(d:QE X a ta)(g:QE X b tb)(i:QE X c tc)(m:autoParam (lastMarks [op,op'] [b,c]=false) Nj._auto_1):QT X (.Compare a [op,op'] [b,c] pos) (BN (Nh r r' ta tb tc)):=(⟨by
 let j:=j.h;let f:=f.h;let d:=d.h;let g:=g.h;let i:=i.h;intro B s Y H Q I h
 refine isTrue_chain (thn (d B s Y H _ I h) λv l ⟨x,d,h,n,k⟩=>test_link (thn (g B l Y d _ h k) λu k ⟨y,d,g,l,h⟩=>
  thn (j B k Y d x y v u _ g n l h) λd o ⟨z,g,h,n,k,e,j⟩=>?_)) m
 subst e;ext n;erw[wpAny_truthy_bool ?_];cases k with
 | false =>
  let(m,d,k):=j;ext d;rwa[ite_ff (g,h,k)]
 | true =>
  erw[ite_tt (test_last (thn (i B o Y g _ h j) λk j ⟨m,d,g,i,h⟩=>thn (f B j Y d y m u k _ g l i h) λj l ⟨m,d,f,i,k,g,h⟩=>?_))];subst g;ext i
  rwa[wpAny_truthy_bool (d,f,h)]⟩)
def Wz(h:QE X e te)(i:autoParam (∀d,isTrue e X.env d=(do let v <- d;standAt e.pos;holding [v] (truthy v))) y5z):QT X e (tB te):=(⟨by
 let h:=h.h;intro B s Y H Q I d;erw[isTrue_plain (thn (h B s Y H _ I d) λv d ⟨x,f,g,k,j⟩=>?_) (i _)];let(d,7,q):=j;ext k
 rwa[wpAny_truthy_bool (f,g,q)]⟩)
def Zd {i j pos}:QE X (.Constant (4 i) j pos) (tC (4 i)):=(⟨λ_ _ _ H _ I h=>wpAny_Constant_int (4 i,H,I.tok _,(_,rfl),h)⟩)
def Ul {b j pos}:QE X (.Constant (.bool b) j pos) (tC (.bl b)):=(⟨λ_ _ _ H _ I h=>Constant_bool (.bl b,H,I,7,h)⟩)
def Y3 {j pos}:QE X (.Constant .none j pos) (tC .non):=(⟨λ_ _ _ H _ I h=>Constant_none (.non,H,I,7,h)⟩)
def Z5 {x j pos}:QE X (.Constant (5 x) j pos) (tC (5 x)):=(⟨λ_ _ _ H _ I h=>Calls.Constant_str (5 x,H,I.tok _,(_,rfl),h)⟩)
def qvN(i:Nat)(n:autoParam (nB X x .local) y2z)(d:autoParam (X.N[i]?=8 x) y1z):QE X (.Name x pos) (YL i):=(⟨pvN i (od n) d⟩)
abbrev Q0{X x p}:=@qvN X x p 0
abbrev Q1{X x p}:=@qvN X x p 1
abbrev Q2{X x p}:=@qvN X x p 2
abbrev Q3{X x p}:=@qvN X x p 3
abbrev Q4{X x p}:=@qvN X x p 4
abbrev Q5{X x p}:=@qvN X x p 5
abbrev Q6{X x p}:=@qvN X x p 6
abbrev Q7{X x p}:=@qvN X x p 7
abbrev Q8{X x p}:=@qvN X x p 8
abbrev Q9{X x p}:=@qvN X x p 10
def qvC(i:Nat)(n:Nm X.env.scope x .cell)(d:autoParam (X.N[i]?=8 x) y1z):QE X (.Name x pos) (YL i):=(⟨DU d (2 (1 n.1)) n.2.1 n.2.2.1⟩)
def Yv{v:V}{u:jX}(d:X.mg x=8 u)(r:ZH v u)(n:autoParam (nB X x .globalImplicit) y2z):QE X (.Name x pos) (tC v):=(⟨OZ (od n) d r⟩)
def Ux{v:V}{u:jX}(d:X.mg x=_n)(f:_o x=8 u)(r:ZH v u)(n:autoParam (nB X x .globalImplicit) y2z):QE X (.Name x pos) (tC v):=(⟨hJ (od n) d f r⟩)
def Z3(g:WE X (binaryOp op) r)(d:QE X a ta)(f:QE X b tb):QE X (.BinOp a op b pos) (Jr r ta tb):=(⟨by
 let g:=g.h;let d:=d.h;let f:=f.h;intro B s Y H Q I h
 rwa[wpAny_BinOp (Fb d f I h λv u j x y d f h i q=>g B j Y d x y v u Q f h i q)]⟩)
def Vj(f:IQ X (unaryOp op) r)(d:QE X a ta):QE X (.UnaryOp op a pos) (bU r ta):=(⟨by
 let f:=f.h;let d:=d.h;intro B s Y H Q I h
 rwa[UnaryOp_ (thn (d B s Y H _ I h) λv j ⟨x,d,g,i,h⟩=>f B j Y d x v Q g i h)]⟩)
def Om(d:QE X a ta):QE X (.UnaryOp .Not a pos) (Si ta):=(⟨by
 let d:=d.h;intro B s Y H Q I h;erw[UnaryOp_ (thn (d B s Y H _ I h) λv i ⟨x,f,g,h,d⟩=>?_)];let(c,7,d):=d;ext h
 rwa[not_of (wpAny_truthy_bool (.bl (!c),f,g,7,d))]⟩)
def Bc {op} (h:QE X a ta):QE X (.BoolOp op [a] pos) ta:=(⟨RB h.h⟩)
def AW{rest:List Expr}(d:QE X a ta)(f:QE X (.BoolOp .And (b::rest) pos) tb):QE X (.BoolOp .And (a::b::rest) pos) (jM ta tb):=(⟨by
 let d:=d.h;let f:=f.h;intro B s Y H Q I h;erw[BoolOp_and (thn (d B s Y H _ I h) λv j ⟨x,g,h,i,d⟩=>?_)];let(c,7,d):=d;ext i;erw[wpAny_truthy_bool ?_];cases c with
 | true=>rwa[f B j Y g Q h d]
 | false=>rwa[.bl _x,g,h,7,d]⟩)
def IR(d:QT X c tA)(f:QE X a ta)(g:QE X b tb):QE X (.IfExp c a b pos) (NC tA ta tb):=(⟨by
 let d:=d.h;let f:=f.h;let g:=g.h;intro B s Y H Q I h;erw[wpAny_IfExp (thn (d B s Y H _ I h) λd k ⟨h,i,j⟩=>?_)];cases d with
 | true=>rwa[f B k Y h Q i j]
 | false=>rwa[g B k Y h Q i j]⟩)
def JY:QO X _n On:=(⟨by
 intro B s Y H Q I h;rw[evalPart_none]
 rwa[_p (_n,H,I,.none,h)]⟩)
def As(h:QE X e te):QO X (8 e) (Xm te):=(⟨by
 let h:=h.h;intro B s Y H Q I d;rw[evalPart_some];erw[thn (h B s Y H _ I d) λu i ⟨x,d,f,j,g⟩=>?_];let(i,7,q):=g;let(t,7):=j
 rwa[8 i,d,f,4 i t,q]⟩)
def Ak{lo i:Option Expr}{k h:TO}{r:V->Option Int->Option Int->Hp->VK->Prop}(j:Gr X r)(d:QE X e te)(f:QO X lo k)(g:QO X i h):QE X (.Subscript e (.Slice lo i _n p2) pos) (Qt r te k h):=(⟨by
 let j:=j.h;let d:=d.h;let f:=f.h;let g:=g.h;intro B s Y H Q I h;erw[Subscript_ (thn (d B s Y H _ I h) λv l ⟨x,d,h,z,k⟩=>?_)];erw[wpAny_Slice (thn (f B l Y d _ h k) λf m ⟨l,d,h,s,k⟩=>thn (g B m Y d _ h k) λg d ⟨u,h,k,w,y⟩=>?_)];rw[evalPart_none];erw[_p ?_];let m:ZD X B Y h {d with heap:=d.heap.push {cls:=.type "slice", data:=.fields #[f,g,.none] } }:=k.kept (t':=d.toks) λb k q=>xC _ q;let(T,id,k,o,n):=j B {d with heap:=d.heap.push {cls:=.type "slice", data:=.fields #[f,g,.none] } } Y h x v f g l u d.heap.objs.size Q m z (Heap.IsSliceOf.new ..) s w y;show _w (_m X.prog X.w) X.A (subscriptTail e (.Slice lo i _n p2) v (3 d.8)) (EP X B Y Q) X.xe {d with heap:=d.heap.push {cls:=.type "slice", data:=.fields #[f,g,.none] } }
 rwa[tail_any (ops:=[3 d.8,v]) o k n (by with_unfolding_all rfl)]⟩)
def Zh(g:Bj X r)(d:QE X a ta)(f:QE X b tb)(hs:QD b:=by rwa[λ_ _=>rfl]):QE X (.Subscript a b pos) (Jr r ta tb):=(⟨by
 let g:=g.h;let d:=d.h;let f:=f.h;intro B s Y H Q I h
 rwa[Subscript_ (Fb d f I h λv u j x y d f h i q=>g a b B j Y d x y v u Q f h i q (hs _ _))]⟩)
def Zm{k:Nat}{ps:jS}{f:Sp}{t:TA}(F:Fn X.prog X.w X.K X.mg X.base x ps k f)(g:QA X (e::es) t)(i:ZL k X.A:=by rwa[ZL.mono (by assumption) (by first | decide | lia)])(n:autoParam (nB X x .globalImplicit) y2z)(h:autoParam (sEq X e es) y1z)(d:autoParam (sFq X pos es) y1z) :
  QE X (.Call (.Name x p) (e::es) [] pos) (Ad f t):=(⟨fS F i (od n) g.h h d⟩)
def Z1{t:TA}{id:String}{r:List V->Hp->VK->Prop}(g:QC X (.builtin id) r)(i:X.mg x=_n)(j:_o x=8 (.builtin id))(f:QA X (e::es) t)(n:autoParam (nB X x .globalImplicit) y2z)(h:autoParam (sEq X e es) y1z)(d:autoParam (sFq X pos es) y1z):QE X (.Call (.Name x p) (e::es) [] pos) (Bk r t):=(⟨Pg g.h (od n) i j f.h h d⟩)
def Jm{t:TA}{T:String}{r:List V->Hp->VK->Prop}(g:QC X (.type T) r)(i:X.mg x=_n)(j:_o x=8 (.type T))(f:QA X (e::es) t)(n:autoParam (nB X x .globalImplicit) y2z)(h:autoParam (sEq X e es) y1z)(d:autoParam (sFq X pos es) y1z):QE X (.Call (.Name x p) (e::es) [] pos) (Bk r t):=(⟨Xg g.h (od n) i j f.h h d⟩)
def Ys{o:Expr}{h:TE}{t:TA}{name:Str}{g d:Pos}{T id:String}{r:V->List V->Hp->VK->Prop}(y:PlainAttrs T)(l:Slot T name id)(w:typeOf (.builtin id)=pure (.type "method_descriptor"))(n:QM X id r)(v:QE X o h)(m:QA X (e::es) t)(i:autoParam (attributeBase o name X.env (eval o X.env)=eval o X.env) y1z)(k:autoParam (((backTo d (_e (e::es) X.env)).all (λx=>!x.1)&&(backToKw d (keywordEach [] X.env)).all (λx=>x.1.isSome)
   && decide ((e::es).9+([]:List Keyword).9+(if ([]:List Keyword).isEmpty then 0 else 1)<30))=true) y1z)(j:autoParam ((g.endLine==d.line)=true) y1z)(hs:autoParam (sEq X e es) y1z)(f:autoParam ((backTo d (_e es X.env)).any (·.1)=false) y1z) :
  QE X (.Call (.Attribute o name g) (e::es) [] d) (FW X.K T r h t):=(⟨by
 let n:=n.h;let v:=v.h;let m:=m.h;intro B s Y H Q I h;erw[wpAny_Call_method_late i k j rfl (thn (v B s Y H _ I h) λv z ⟨x,j,g,i,A,s⟩=>?_)];let(h,k):=HR g i A;erw[T,id,y,l,w,h,k,5];let h:=m d B z Y j _ g s;rw[hs] at h |-;erw[mn (by show (_x || (backTo d (_e es X.env)).any (·.1))=_x;rw[f]<;>rfl) (mr ?_)]
 rwa[thn h λk j ⟨l,d,f,h,g⟩=>n B j Y d x l v k Q f i h g]⟩)
def Wh:WE X (binaryOp .Add) (Ae λi j=>4 (i+j)):=(⟨Io λ_ _ _ _ _ _ _ q=>add_int q⟩)
def JI:WE X (binaryOp .Sub) (Ae λi j=>4 (i - j)):=(⟨Io λ_ _ _ _ _ _ _ q=>sub_int q⟩)
def Lg:WE X (binaryOp .Mult) (rI JX λi j=>4 (i * j)):=(⟨opI λ_ _ _ _ _ _ _ d q=>mul_int q d.ok⟩)
def Eo:WE X (binaryOp .FloorDiv) (rI Ls λi j=>4 (i / j)):=(⟨opI λi j _ _ _ _ _ d q=>by
 let f:(0:Int)<j:=d.1;let f:j<1073741824:=d.2
 rwa[floordiv_int () (by rw[Int.fdiv_eq_ediv_of_nonneg i ()];rwa[q]) (1 (PyProof.noPylong_small ()))]⟩)
def BG:WE X (binaryOp .Mod) (rI (λ_ j=>0<j) λi j=>4 (i % j)):=(⟨opI λi j _ _ _ _ _ d q=>by
 let f:(0:Int)<j:=d
 rwa[mod_int' () (by rw[Int.fmod_eq_emod_of_nonneg i ()];rwa[q])]⟩)
def Pd:WE X (binaryOp .Pow) (rI GH λi j=>4 (i^j.toNat)):=(⟨opI λ_ _ _ _ _ _ _ d q=>pow_int_small d.1 d.2.1 d.2.2 q⟩)
def Vl:IQ X (unaryOp .USub) (rU λi=>4 (-i)):=(⟨by
 intro B s Y H x v Q I d h;let(i,7,q):=h;let(t,7):=d
 rwa[neg_int (4 (-i),H,I.tok _,(_,rfl),q)]⟩)
def bH(g:Str->Str->V):R2:=λx y H Q=>∃i j,x=5 i/\y=5 j/\Q (g i j) H
def Hh:WE X (_c .LtE) (bH λi j=>.bl (!decide (j.cps.toList<i.cps.toList))):=(⟨by
 intro B s Y H x y v u Q I d f h;let(i,j,77,q):=h;let(t,7):=d;let(d,7):=f
 rwa[P.le_str (.bl _,H,I,7,q)]⟩)
def NR:R2:=λx y H Q=>∃i j,x=5 i/\y=5 j/\i.9+j.9<=_z/\Q (5 (i++j)) H
def DN:WE X (binaryOp .Add) NR:=(⟨by
 intro B s Y H x y v u Q I f g h;let(i,j,77,d,q):=h;let(t,7):=f;let(f,7):=g
 rwa[add_str (λf g=>(5 (i++j),H,I.tok _,(_,rfl),q)) d]⟩)
def JN:WE X (binaryOp .Add) Gw:=(⟨by
 intro B s Y H x y v u Q I f g h;let(l,b,L,k,77,d,i,j,q):=h;ext f;ext g;let(z,f,n,r,g,e):=I.ou d;let(l,d,k,j,h,g):=I.ou i;erw[PySem.P.add_list e g ?_ (by rw[xW,xW];lia)];let g:f.4++d.4=(f++d).4:=by simp
 rw[g]
 rwa[3 _,2,I.lnew (t':=s.toks) (r.append j) (by rw[xI];lia),7,q _ I.fresh]⟩)
def KO:WE X (binaryOp .Mult) FU:=(⟨by
 intro B s Y H x y v u Q I d i h;obtain⟨l,k,L,rfl,rfl,g,f,j,v,q⟩:=h;cases d;obtain⟨t,rfl⟩:=i;obtain⟨z,d,n,r,h,e⟩:=I.ou g;have i:d.toArray.size * k.toNat<=sizeLine:=by rw[xW,<- h];exact v
 have g:¬d.toArray.size * k.toNat > (2^63 - 1) / 8:=by
  have:(sizeLine:Nat)<=(2^63 - 1) / 8:=by decide
  lia
 have h:¬(!Builtin.List.listFitsIndex k)=true:=by
  rw[fitsIndex_both f j];exact xK
 have f:¬Builtin.List.listTooLong (d.toArray.size * k.toNat)=true:=by
  rw[RG i];exact xK
 have i:List.foldl (λj o=>j++o) #[] (List.replicate (if d.toArray.isEmpty=true then 0 else k.toNat) d.toArray)=(List.replicate k.toNat d).flatten.toArray:=by
  have w:∀m:Nat,List.foldl (λj o=>j++o) #[] (List.replicate m d.toArray)=(List.replicate m d).flatten.toArray:=λm=>by
   have:=Nt d m [];rw[zM] at this;exact this
  rw[w];cases d with
  | nil=>simp
  | cons a j=>rw[if_neg (by simp)]
 refine wpAny_binaryOp_repeat_ref (T:="list") (U:="int") aA ⟨_,e,rfl⟩ (λj=>typeIs_int j k t) noFill_list_mul F.fills_int_mul F.slot_int_rmul repeat_list F.slot_int_index.lookup
  (call_meets F.slot_int_rmul (typeIs_int s k t) F.entry_int_rmul (F.args_int_rmul_2 _ _) (int___rmul___int_list k t l d.toArray n)
   ⟨e,rfl,⟨_,e,rfl⟩,call_meets F.slot_list_mul ⟨_,e,rfl⟩ F.entry_list_mul (F.args_list_mul_2 _ _) (AutoListH.list___mul___list_int_3 l d.toArray n k t h g f) ⟨e,?_⟩⟩)
 rw[i]
 exact⟨3 _,_,I.lnew (t':=s.toks) (r.rep k.toNat) (by rw[Xf,Nat.mul_comm];exact v),rfl,q _ I.fresh⟩⟩)
def Yh:WE X (_c .Eq) CC:=(⟨by
 intro B s Y H x y v u Q I k d h;let(g,q):=h;cases x with
 | non =>
  ext k;cases y with
  | non=>ext d;rwa[PySem.EqNone.eq_none_none (Y4 I q (by simp))]
  | bl j=>ext d;rwa[PySem.EqNone.eq_none_bool (Y4 I q (by simp))]
  | int j=>let(f,7):=d;rwa[PySem.EqNone.eq_none_int (Y4 I q (by simp))]
  | str j=>let(f,7):=d;rwa[PySem.EqNone.eq_none_str (Y4 I q (by simp))]
  | _=>rwa[_a (show _x=_t from g) xK]
 | bl i =>
  ext k;cases y with
  | non=>ext d;rwa[PySem.EqNone.eq_bool_none (Y4 I q (by simp))]
  | bl j=>ext d;rwa[eq_bool (Y4 I q KN)]
  | str j=>let(f,7):=d;rwa[PySem.EqMixed.eq_bool_str (Y4 I q (by simp))]
  | _=>rwa[_a (show _x=_t from g) xK]
 | int i =>
  let(t,7):=k;cases y with
  | non=>ext d;rwa[PySem.EqNone.eq_int_none (Y4 I q (by simp))]
  | int j=>let(f,7):=d;rwa[eq_int (Y4 I q Lq)]
  | str j=>let(f,7):=d;rwa[PySem.EqMixed.eq_int_str (Y4 I q (by simp))]
  | _=>rwa[_a (show _x=_t from g) xK]
 | str i =>
  let(t,7):=k;cases y with
  | non=>ext d;rwa[PySem.EqNone.eq_str_none (Y4 I q (by simp))]
  | bl j=>ext d;rwa[PySem.EqMixed.eq_str_bool (Y4 I q (by simp))]
  | int j=>let(f,7):=d;rwa[PySem.EqMixed.eq_str_int (Y4 I q (by simp))]
  | str j=>let(f,7):=d;rwa[eq_str (Y4 I q Ia)]
  | _=>rwa[_a (show _x=_t from g) xK]
 | byt i =>
  let(t,7):=k;cases y with
  | byt j=>let(f,7):=d;rwa[PySem.W.eq_bytes (Y4 I q Mg)]
  | _=>rwa[_a (show _x=_t from g) xK]
 | _=>ext y<;>rwa[_a (show _x=_t from g) xK]⟩)
def DX:WE X (_c .NotEq) Nx:=(⟨by
 intro B s Y H x y v u Q I k d h;let(g,q):=h;cases x with
 | non =>
  ext k;cases y with
  | non=>ext d;rwa[PySem.EqNone.ne_none_none (Y4 I q (by simp))]
  | bl j=>ext d;rwa[PySem.EqNone.ne_none_bool (Y4 I q (by simp))]
  | int j=>let(f,7):=d;rwa[PySem.EqNone.ne_none_int (Y4 I q (by simp))]
  | str j=>let(f,7):=d;rwa[PySem.EqNone.ne_none_str (Y4 I q (by simp))]
  | _=>rwa[_a (show _x=_t from g) xK]
 | bl i =>
  ext k;cases y with
  | non=>ext d;rwa[PySem.EqNone.ne_bool_none (Y4 I q (by simp))]
  | bl j=>ext d;rwa[ne_bool (Y4 I q (congrArg not KN))]
  | str j=>let(f,7):=d;rwa[PySem.EqMixed.ne_bool_str (Y4 I q (by simp))]
  | _=>rwa[_a (show _x=_t from g) xK]
 | int i =>
  let(t,7):=k;cases y with
  | non=>ext d;rwa[PySem.EqNone.ne_int_none (Y4 I q (by simp))]
  | int j=>let(f,7):=d;rwa[ne_int (Y4 I q (congrArg not Lq))]
  | str j=>let(f,7):=d;rwa[PySem.EqMixed.ne_int_str (Y4 I q (by simp))]
  | _=>rwa[_a (show _x=_t from g) xK]
 | str i =>
  let(t,7):=k;cases y with
  | non=>ext d;rwa[PySem.EqNone.ne_str_none (Y4 I q (by simp))]
  | bl j=>ext d;rwa[PySem.EqMixed.ne_str_bool (Y4 I q (by simp))]
  | int j=>let(f,7):=d;rwa[PySem.EqMixed.ne_str_int (Y4 I q (by simp))]
  | str j=>let(f,7):=d;rwa[ne_str (Y4 I q (congrArg not Ia))]
  | _=>rwa[_a (show _x=_t from g) xK]
 | byt i =>
  let(t,7):=k;cases y with
  | byt j=>let(f,7):=d;rwa[PySem.W.ne_bytes (Y4 I q (congrArg not Mg))]
  | _=>rwa[_a (show _x=_t from g) xK]
 | _=>ext y<;>rwa[_a (show _x=_t from g) xK]⟩)
def TU:WE X (_c .Lt) (Ae λi j=>.bl (decide (i<j))):=(⟨DG λ_ _ _ _ _ _ _ q=>lt_int q⟩)
def Vm:WE X (_c .LtE) (Ae λi j=>.bl (decide (i<=j))):=(⟨DG λ_ _ _ _ _ _ _ q=>le_int q⟩)
def AI:WE X (_c .Gt) (Ae λi j=>.bl (decide (j<i))):=(⟨DG λ_ _ _ _ _ _ _ q=>gt_int q⟩)
def A6:WE X (_c .GtE) (Ae λi j=>.bl (decide (j<=i))):=(⟨DG λ_ _ _ _ _ _ _ q=>ge_int q⟩)
def NA:R2:=λx y H Q=>y=.non/\Q (.bl (decide (x=.non))) H
def Qs:R2:=λx y H Q=>y=.non/\Q (.bl (!decide (x=.non))) H
def FY:WE X (_c .Is) NA:=(⟨by
 intro B s Y H x y v u Q I d f h;let(7,q):=h;ext f;erw[is_none_gen (Y4 I q ?_)];ext x<;>first
  | (ext d;rfl)
  | (let(t,7):=d;rfl)⟩)
def A2:WE X (_c .IsNot) Qs:=(⟨by
 intro B s Y H x y v u Q I d f h;let(7,q):=h;ext f;erw[isnot_none_gen (Y4 I q ?_)];ext x<;>first
  | (ext d;rfl)
  | (let(t,7):=d;rfl)⟩)
def ME:WE X (_c .In) (Dz X.K _x):=(⟨Pu⟩)
def MM:WE X (_c .NotIn) (Dz X.K _t):=(⟨iM⟩)
def Z6:Bj X (B1 X.K):=(⟨HJ⟩)
def Zn:Bj X (Tx X.K):=(⟨Gm⟩)
def EJ:Bj X Cp:=(⟨RL⟩)
def CV:Gr X (C9 X.K):=(⟨OX⟩)
def SO:V->Option Int->Option Int->Hp->VK->Prop:=λx lo d H Q=>∃z,x=5 z/\z.9<=_z/\Q (5 (Txt.slice z lo d)) H
def DZ:Gr X SO:=(⟨by
 intro B s Y H x v l m lo f k Q I j d g i h;let(z,7,f,q):=h;let(t,7):=j;let(l,77):=Ke g;let(u,77):=Ke i;erw["str",2,F.slot_str_getitem.lookup,typeIs_str _ _ _,5];erw[wpAny_getItem_str_slice (l:=l) (u:=u) (st:=_n) d rfl (post_val_or_str (xX (Txt.slice_le z _ _) f,λd k=>?_))]
 rwa[5 _,H,I.tok _,(d,7),q]⟩)
inductive Ab(K:uFg)(L:aG)(H:Hp)(Q:VK):Prop
 |mk(p ys)(_:L=[3 p])(_:(ZG K H p ys\/ZO K H p ys))(_:Q (4 ys.9) H)
def Yw:QC X (.builtin "len") (Ab X.K):=(.imp ⟨Ob⟩ λ_ _ _ ⟨p,y,a,b,k⟩=>(p,y,a,b,k))
def dC:List V->Hp->VK->Prop:=λL H Q=>∃z,L=[5 z]/\z.9<=_z/\Q (4 z.9) H
def G0:QC X (.builtin "len") dC:=(⟨by
 intro B s Y H L d Q I r h;let(z,7,d,q):=h;let(u,7,t,7):=Ju r;let d:=Bh
 rwa[len_str () (4 z.9,H,I.tok _,(_,rfl),q)]⟩)
def Nw:List V->Hp->VK->Prop:=λL H Q=>∃i j,L=[4 i,4 j]/\Q (4 (if j > i then j else i)) H
def O7:List V->Hp->VK->Prop:=λL H Q=>∃i j,L=[4 i,4 j]/\Q (4 (if j<i then j else i)) H
def CS(d:X.calm=_t):QC X (.builtin "max") Nw:=(⟨by
 intro B s Y H L f Q I r h;let(i,j,7,q):=h;let(u,g,7,(t,7),(f,7)):=Dp r;erw[max_two_ints (I.ok.hd d) λd f k=>(2,H,I.kept k,5,q)]
 by_cases d:j > i
 .rw[_j d,_j d];rwa[8]
 .rw[_i d,_i d];rwa[8]⟩)
def LF(d:X.calm=_t):QC X (.builtin "min") O7:=(⟨by
 intro B s Y H L f Q I r h;let(i,j,7,q):=h;let(u,g,7,(t,7),(f,7)):=Dp r;erw[min_two_ints (I.ok.hd d) λd f k=>(2,H,I.kept k,5,q)]
 by_cases d:j<i
 .rw[_j d,_j d];rwa[8]
 .rw[_i d,_i d];rwa[8]⟩)
def fY(K:uFg):List V->Hp->VK->Prop:=λL H Q=>∃(a:jY)(d:List Bool),L=[3 a]/\ZG K H a (d.map V.bl)/\Q (.bl (d.all id)) H
def Rt(j:X.calm=_t):QC X (.builtin "all") (fY X.K):=(⟨by
 intro B s Y H L d Q I r h;let(a,f,7,g,q):=h;let(u,7,m):=Ju r;ext m;let(d,r,p,2):=I.list g;let g:a<s.8:=by let(o,n,e,2):=p;rwa[xO e]
 erw[call_all_walk (wpAny_pyIter_list p.isList ?_)];erw[s.8,22222,λi=>f.getD i _t,7,Walks.list (A:=X.A.in1) (I.ok.hd j) _ a (yF g) d.4,((2,xN _ rfl,77),p.isList.push _),5,λw B y=>?_]
 .intro i v l k j g z;let g:d.toArray[i]?=8 v:=g;let k:d[i]?=8 v:=by simpa using g
  let j:f.9=d.9:=by have:=r.9;simpa using this
  let g:i<d.9:=(xF.mp k).1;let l:(f.map V.bl)[i]?=8 (V.bl (f.getD i _t)):=by grind
  let(u,n,m):=r.get l;rw[k] at n;ext n;ext m;rwa[wpAny_truthy_bool z]
 .let j:d.toArray.5=f.9:=by have:=r.9;simp at this |-;lia
  let e:(List.range d.toArray.5).all (λi=>f.getD i _t)=f.all id:=by
   rw[j,zI,zY,zY];constructor
   .intro h b l;let(i,g,e):=List.mem_iff_getElem.mp l;have:=h i (yU.mpr g);rw[xR,xB g,e] at this;rwa[this]
   .intro h i g;let g:=yU.mp g;rw[xR,xB g];rwa[h _ (yY g)]
  erw[.bl (f.all id),H,I.kept (h':=w) (t':=B) (λb o d=>y b o ?_ (xC _ d)),by rw[e];rfl,q];intro z;have:b=s.8:=by simpa using z
  rwa[_a (xO d) (by rw[this];rwa[zF _])]⟩)
def XF(K:uFg):List V->Hp->VK->Prop:=λL H Q=>∃(a:jY)(d:List Int),L=[3 a]/\ZG K H a (d.map V.int)/\(∀n∈d,-1000000000<=n/\n<=1000000000)/\d.9<=1000000/\Q (4 d.sum) H
def Dl(C:X.calm=true):QC X (.builtin "sum") (XF X.K):=(⟨by
 intro B s Y H L d Q I r h;obtain⟨a,d,rfl,i,g,f,q⟩:=h;obtain⟨u,rfl,y⟩:=Ju r;cases y;obtain⟨f,z,p,_⟩:=I.list i;have v:a<s.heap.objs.size:=by obtain⟨o,n,e,_⟩:=p;exact xO e
 have i:d.length=f.length:=by have:=z.length;simpa using this
 have m:∀k,k<=d.length->preSum (λi=>d.getD i 0) k=(d.take k).sum:=by
  intro k
  induction k with
  | zero=>intro _;simp[preSum]
  | succ k w =>
   intro r;have j:k<d.length:=r;rw[preSum,w (zC j),xQ,List.sum_append,xR,xB j];simp
 have k:∀l:List Int,(∀n∈l,-1000000000<=n/\n<=1000000000)->-1000000000 * (l.length:Int)<=l.sum/\l.sum<=1000000000 * (l.length:Int):=by
  intro l
  induction l with
  | nil=>intro _;simp
  | cons x l w =>
   intro h;have j:=h x yC;have j:=w λn l=>h n (xP _ l);rw[List.sum_cons,yN];lia
 refine call_sum_walk (wpAny_pyIter_list p.isList ?_);refine⟨s.heap.objs.size,_,_,_,_,_,λi=>d.getD i 0,rfl,Walks.list (A:=X.A.in1) (I.ok.hd C) _ a (yF v) f.toArray,⟨⟨_,xN _ rfl,rfl,rfl⟩,p.isList.push _⟩,?_,?_,?_,λw C B r=>?_⟩
 .intro b g;show b<(s.heap.push _).objs.size;rw[zG];rcases xE.mp g with rfl | g
  .exact md _
  .grind
 .intro i v j;have j:f.toArray[i]?=some v:=j;have h:f[i]?=some v:=by simpa using j
  have j:i<f.length:=(xF.mp h).1;have g:(d.map V.int)[i]?=some (V.int (d.getD i 0)):=by grind
  obtain⟨u,j,y⟩:=z.get g;rw[h] at j;cases j;exact y
 .intro j h;have h:j<f.toArray.size:=h;rw[xW] at h;have h:j<d.length:=by lia
  refine⟨?_,?_⟩
  .show InLong (d.getD j 0);rw[xR,xB h];have:=g _ (yY h);show -(2^63)<=d[j]/\d[j]<2^63;lia
  .rw[m (j+1) h];have:=k (d.take (j+1)) λn l=>g n (List.mem_of_mem_take l);have g:(d.take (j+1)).length<=1000000:=by rw[xY];lia
   show -(2^63)<=_/\_<2^63;lia
 .have e:preSum (λi=>d.getD i 0) f.toArray.size=d.sum:=by grind
  refine⟨4 d.sum,H,I.kept (h':=w) (t':=C) (λb o d=>r b o ?_ (xC _ d)),⟨B,by rw[e]⟩,q⟩;intro z;have:b=s.heap.objs.size:=by simpa using z
  exact absurd (xO d) (by rw[this];exact zF _)⟩)
def IK(K:uFg):List V->Hp->VK->Prop:=λL H Q=>∃x n t b,L=[x,.ty n]/\WB K H x t/\kitOne K t (.type n)=8 b/\Q (.bl b) H
def Jf:QC X (.builtin "isinstance") (IK X.K):=(⟨Kv⟩)
inductive US(K:uFg)(L:aG)(H:Hp)(Q:VK):Prop
 |mk(p ys)(_:L=[3 p])(_:(ZG K H p ys\/ZO K H p ys))(_:∀l,H l=_n->Q (3 l) (upd H l (6 ys)))
def Aa:QC X (.type "list") (US X.K):=(.imp ⟨IP⟩ λ_ _ _ ⟨p,y,a,b,k⟩=>(p,y,a,b,k))
def Xx(K:uFg):V->List V->Hp->VK->Prop:=λx L H Q=>∃d a f,x=5 d/\L=[3 a]/\ZG K H a (f.map V.str)/\(f.map (·.length)).sum+f.9 * d.9<=16777216/\Q (5 (Txt.join d f)) H
def NB:QM X "str.join" (Xx X.K):=(⟨by
 intro B s Y H x L v d Q I i g h;let(j,a,k,77,d,f,q):=h;let(t,7):=i;let(u,7,h):=Ju g;ext h;let(g,r,p,2):=I.list d
 rwa[join_list p.isList (SA r) f λd k=>(5 _,H,I.tok _,(d,7),q)]⟩)
def Yz:QM X "list.append" VP:=(⟨by
 intro B s Y H x i v f Q I g d h;let(l,L,y,77,f,i,q):=h;ext g;let(u,7,g):=d.one;let(z,d,n,r,h,e):=I.ou f;erw[call_meets aE (2,e,7) F.entry_list_append (F.args_list_append_2 _ _) (PySem.list_append l d.toArray n u (by rw[xW];lia)) (e,5)];erw[.non,2,I.lset (its':=d ++ [u]) f e (by simp) (r.append (.cons g .nil)) ?_,7,q];rw[xI,wF]
 lia⟩)
def eQ:QM X "list.pop" AU:=(⟨by
 intro B s Y H x i v g Q I d f h;let(l,L,i,k,y,77,g,j,m,o,v,q):=h;ext d;let(u,7,d):=f.one;let(t,7):=d;let(z,d,n,r,h,e):=I.ou g;let(w,s,f):=r.get v;refine call_meets F.slot_list_pop (2,e,7) F.entry_list_pop (F.args_list_pop_2 _ _)
  (MeetsSeq.list_pop_at l d.toArray n i t k w (fitsIndex_both j m) (by rw[xW,<- h];rwa[o]) (by rw[<- Array.getElem?_toList];rwa[s]) (by rw[xW];lia)) (e,5)
 erw[y,2,I.lset (its':=d.eraseIdx k) g e ?_ (r.eraseIdx k) ?_,f,q]
 .grind
 .have:=GW L k
  lia⟩)
end
def Ap{lo:Int}{n:Nat}(m:Nat)(e:n=m)(Pv:Nat->St->Hp->Prop)(c:Pv 0 Y H)(hs:∀i Y H,i<m->Pv i Y H->g (4 (lo+i)) Y H λa b=>tb {D with nx:=Pv (i+1),ct:=Pv (i+1),bk:=D.nx } a b)(d:∀ Y H,Pv m Y H->D.nx Y H):AY (JP lo n) g tb D Y H:=by
 subst e;rwa[Xe Pv c hs d]
def Vo{K:uFg}{a:jY}(L:aG)(Pv:Nat->St->Hp->Prop)(d:Pv 0 Y H)(f:∀i Y H,i<=L.9->Pv i Y H->ZG K H a L)(hs:∀i x Y H,L[i]?=8 x->Pv i Y H->g x Y H λb c=>tb {D with nx:=Pv (i+1),ct:=Pv (i+1),bk:=D.nx } b c)(e:∀ Y H,Pv L.length Y H->D.nx Y H):AY (JO K a) g tb D Y H:=(Oa Pv d f hs e)
section
variable{X:Cx}{tg elt iter:Expr}{ifs:List Expr}{scope:Scope}{pos:Pos}{locs:jS}{fr:List (Str×Nat)}{g:TG}{tt:Tv}{te:TE}
def Jb:Fx X [] (λ_ H Q=>Q _t H):=(⟨λ_ _ _ H _ I h=>wpAny_tests_nil (H,I,h)⟩)
def Um(h:QT X c t):Fx X [c] t:=(⟨PB h.h⟩)
structure Mx (X:Cx) (scope:Scope) (N':jS) (tg:Expr) (ifs:List Expr) (elt:Expr) (g:TG) (tt:Tv) (te:TE):Prop where
 h:∀(cl:List (Str×jY))(C:jY)(s0:jW)(H0:Hp)(ex:jV)(pn:List (jY×Obj)),QG (ccx X scope cl C N' s0 H0 ex pn) tg g/\Fx (ccx X scope cl C N' s0 H0 ex pn) ifs tt/\QE (ccx X scope cl C N' s0 H0 ex pn) elt te
def Vg{a:TI}(S:WT X scope locs fr)(F:WI X scope fr)(b:X.calm=_t)(c:QI X tg iter a)(d:Mx X scope (inN locs fr) tg ifs elt g tt te)(hs:autoParam (∀x,foldedSetIterable iter X.env x=pure x) y5z):QE X (.ListComp elt [(tg,iter,ifs,(0))] scope pos) (DS locs.length fr a g tt te):=(⟨Qa S F b c.h (λf C j e h i=>let ⟨a,b,c⟩:=d.h f C j e h i;(a.h,b.h,c.h)) hs⟩)
def DP{c:TI}{i:Nat}{x:Str}{a b:Pos}(S:WT X scope locs fr)(F:WI X scope fr)(h:X.calm=_t)(j:QI X tg iter c)(d:Mx X scope (inN locs fr) tg ifs elt g tt te)(l:X.N.Nodup)(n:Nm X.env.scope x .local)(f:swapsWith (.ListComp elt [(tg,iter,ifs,(0))] scope pos) (8 (.Name x a)) b.line X.env=pure _t)(e:autoParam (X.N[i]?=8 x) y1z)(hs:autoParam (∀x,foldedSetIterable iter X.env x=pure x) y5z):QS X (.Assign [.Name x a] (.ListComp elt [(tg,iter,ifs,(0))] scope pos) b) (JJ (DS locs.length fr c g tt te) (Wv i)):=(⟨jD S F h j.h (λj C o h k m=>let ⟨a,b,c⟩:=d.h j C o h k m;(a.h,b.h,c.h)) l e n.1 f hs⟩)
end
section
variable{X:Cx}{scope:Scope}{cl:List (Str×jY)}{C:jY}{N':jS}{s0:jW}{H0:Hp}{ex:jV}{pn:List (jY×Obj)}{x:Str}{pos:Pos}
def Yj(i:Nat)(n:autoParam (Nm scope x .local) y4z)(a:autoParam (N'[i]?=8 x) y1z):QE (ccx X scope cl C N' s0 H0 ex pn) (.Name x pos) (YL i):=(⟨pvL i a n.1 n.2.1 n.2.2.1⟩)
def Wp(i:Nat)(n:autoParam (Nm scope x .free) y4z)(a:autoParam (N'[i]?=8 x) y1z):QE (ccx X scope cl C N' s0 H0 ex pn) (.Name x pos) (YL i):=(⟨pvF i a n.1 n.2.1 n.2.2.1⟩)
def Y9(i:Nat)(a:N'.Nodup)(n:autoParam (Nm scope x .local) y4z)(b:autoParam (N'[i]?=8 x) y1z):QG (ccx X scope cl C N' s0 H0 ex pn) (.Name x pos) (Wv i):=(⟨pgL i a b n.1⟩)
end
section
variable{P:jZ}{w:kB}{K:uFg}{mg:jR}{Z:Heap}
def YB.fnQ{x:Str}{st:Stmt}{N ps:jS}{k:Nat}{b:Sp}(h:YB K mg x st)(S:ZK N ps (Zj st))(d:∀ (kV doc pm:jX) (an:Option jY) (cdv ct:jX) (us:jT),us.9=ps.9->bindArgs (fnOf x x (Wy st) (Yu st) (Zj st) .none kV doc pm an cdv ct) (us,[])=pure (ps.zip us))(a:∀vs H Q E,b vs H Q E->vs.9=ps.9)(c:∀ (f:jY) (cdv:jX) (A:kD) (outer:List Env) (s:jW) (H:Hp) (vs:aG) (Q:VK) (E:XK),ZL k (A.deeper (envOfC x (Zj st) s.heap.objs.size f cdv))->b vs H Q E -> ∃t,WY (Yq YV P w K mg Z N x (Zj st) f cdv A outer s H E).oE (Yu st) t/\t {nx:=λ_ J=>Q .non J,rt:=Q } (start N vs) H):10 Fn x ps (k+1) b:=(h.fn S d a λf cdv A outer s H vs Q E d q=>let ⟨t,a,b⟩:=c f cdv A outer s H vs Q E d q;(t,a.h,b))
def DD(h:k<=60):ZL k (({}:kD).deeper e):=(ZL.deeper (ZL.mono (k:=61) (3,aA,aA) ()) e)
def YB.fq{x:Str}{st:Stmt}{ps:jS}{k:Nat}{b:Sp}(h:YB K mg x st)(N:jS)(a:∀{f:jY}{cdv:jX}{A:kD}{outer:List Env}{s:jW}(H:Hp) (vs:aG) (Q:VK) (E:XK),ZL k (A.deeper (envOfC x (Zj st) s.heap.objs.size f cdv))->b vs H Q E->vs.9=ps.9/\∃t,WY (Yq YV P w K mg Z N x (Zj st) f cdv A outer s H E).oE (Yu st) t/\t {nx:=λ_ J=>Q .non J,rt:=Q } (start N vs) H)(S:ZK N ps (Zj st):=by rwa[fsc])(d:autoParam (k<=60) y3z)(c:∀ (kV doc pm:jX) (an:Option jY) (cdv ct:jX) (us:jT),us.9=ps.9->bindArgs (fnOf x x (Wy st) (Yu st) (Zj st) .none kV doc pm an cdv ct) (us,[])=pure (ps.zip us):=by exact λ_ _ _ _ _ _=>by first | rwa[al1 λ_=>rfl]| rwa[al2 λ_ _=>rfl]| rwa[al3 λ_ _ _=>rfl]| rwa[al4 λ_ _ _ _=>rfl]| rwa[al5 λ_ _ _ _ _=>rfl]| rwa[al6 λ_ _ _ _ _ _=>rfl]| rwa[al7 λ_ _ _ _ _ _ _=>rfl]| rwa[al8 λ_ _ _ _ _ _ _ _=>rfl]):10 Fn x ps (k+1) b:=(h.fnQ S c (λvs H Q E h=>(a (f:=0) (cdv:=.none) (A:={}) (outer:=[]) (s:={}) H vs Q E (DD d) h).1) λ_ _ _ _ _ H vs Q E b q=>(a H vs Q E b q).2)
end
def Al(R:St->Hp->Prop)(d:∀ a J,R a J->u D a J)(c:∀b:YG,(∀ a J,R a J->b.nx a J)->(∀v J,D.rt v J->b.rt v J)->(∀ a J,D.bk a J->b.bk a J)->(∀ a J,D.ct a J->b.ct a J)->t b Y H):Uu t u D Y H:=(c {D with nx:=u D } d (λ_ _ h=>h) (λ_ _ h=>h) (λ_ _ h=>h))
def opq{t:TS}{D:YG}{Y:St}{H:Hp}(h:∀b:YG,(∀ a J,D.nx a J->b.nx a J)->(∀v J,D.rt v J->b.rt v J)->(∀ a J,D.bk a J->b.bk a J)->(∀ a J,D.ct a J->b.ct a J)->t b Y H):t D Y H:=(h D (λ_ _ h=>h) (λ_ _ h=>h) (λ_ _ h=>h) (λ_ _ h=>h))
def Mw:(([a]:List Nat)<[b])↔a<b:=by
 constructor
 .intro h;rcases List.cons_lt_cons_iff.mp h with z | ⟨_,z⟩
  .rwa[z]
  .rwa[_a z (by simp)]
 .intro h;rwa[List.cons_lt_cons_iff.mpr (1 h)]
def Z4(h:Q (Y.set i (8 v)) H):Wv i v Y H Q:=(h)
def Ti.okQ{P:jZ}{w:kB}{K:uFg}{mg:jR}{Z:Heap}{x qual:Str}{st:Stmt}{f:jY}{d:FuncData}{N ps:jS}{k:Nat}{b:Sp}(F:Ti K x qual st f d)(S:ZK N ps (Zj st))(a:∀vs H Q E,b vs H Q E->vs.9=ps.9)(c:∀cdv A outer s H vs Q E,ZL k (A.deeper (envOfC qual (Zj st) s.heap.objs.size f cdv))->b vs H Q E -> ∃t,WY (Yq YV P w K mg Z N qual (Zj st) f cdv A outer s H E).oE (Yu st) t/\t {nx:=λ_ J=>Q .non J,rt:=Q } (start N vs) H):10 YD YV (k+1) f d ps b:=(F.ok S a λcdv A outer s H vs Q E d q=>let ⟨t,a,b⟩:=c cdv A outer s H vs Q E d q;(t,a.h,b))
section
variable{X:Cx}{scope:Scope}{cl:List (Str×jY)}{C:jY}{N':jS}{s0:jW}{H0:Hp}{ex:jV}{pn:List (jY×Obj)}{pos:Pos}{es:List Expr}{k:Nat}{t:Jo}
def BS(n:Nat)(b:X.calm=_t)(h:BC (ccx X scope cl C N' s0 H0 ex pn) es t)(c:autoParam ((assignEach es (ccx X scope cl C N' s0 H0 ex pn).env).9=n) y1z)(a:autoParam ((assignEach es (ccx X scope cl C N' s0 H0 ex pn).env).findIdx? (·.1)=none) y1z) :
  QG (ccx X scope cl C N' s0 H0 ex pn) (.Tuple es k pos) (J8 X.K n t):=(⟨HG (X:=ccx X scope cl C N' s0 H0 ex pn) b h.h c a⟩)
def B9:Bj (ccx X scope cl C N' s0 H0 ex pn) (B1 X.K):=(⟨HJ (X:=ccx X scope cl C N' s0 H0 ex pn)⟩)
def AK:Bj (ccx X scope cl C N' s0 H0 ex pn) (Tx X.K):=(⟨Gm (X:=ccx X scope cl C N' s0 H0 ex pn)⟩)
def Qq:QC (ccx X scope cl C N' s0 H0 ex pn) (.type "list") (US X.K):=(.imp ⟨IP (X:=ccx X scope cl C N' s0 H0 ex pn)⟩ λ_ _ _ ⟨p,y,a,b,k⟩=>(p,y,a,b,k))
def GS:QC (ccx X scope cl C N' s0 H0 ex pn) (.builtin "isinstance") (IK X.K):=(⟨Kv (X:=ccx X scope cl C N' s0 H0 ex pn)⟩)
end
def Ci(a b:jX):Prop:=a=b\/∃c t u,a=5 c t/\b=5 c u
def Ci.rel(h:Ci a b)(r:ZH y a):ZH y b:=by
 rcases h with rfl | ⟨c,t,u,rfl,rfl⟩
 .rwa[r]
 .cases y with
  | str z=>let(k,e):=r;ext e;rwa[u,7]
  | non=>ext r
  | bl _=>ext r
  | int _=>let(2,e):=r;ext e
  | byt _=>let(2,e):=r;ext e
  | flt _=>let(2,e):=r;ext e
  | _=>ext r
structure JM (P:jZ) (w:kB) (it l:jY) (St:Nat->Heap->Prop) (Hs:Heap->List jX->Prop):Prop where
 obj:∀k h,St k h->∃o,h.get? it=8 o/\∀v,o.data ≠ .cell v
 keep:∀k h h',St k h->(∀o,h.get? it=8 o->h'.get? it=8 o)->St k h'
 src:∀h h' its,Hs h its->(∀o,h.get? l=8 o->h'.get? l=8 o)->Hs h' its
 item:∀(A:kD)(k:Nat)(s:jW)(its:jT)(x:jX)(Q:jQ)(E:jQ),St k s.heap->Hs s.heap its->its[k]?=8 x ->
  (∀x' h' tk,Ci x x'->St (k+1) h'->Heap.SameBut it s.heap h'->Q x' {s with heap:=h',toks:=tk })->_w (_m P w) A (Builtin.SmallTypes.nextOf (3 it)) Q E s
 done:∀(A:kD)(k:Nat)(s:jW)(its:jT)(Q:jQ)(E:jQ),A.handled=_n->St k s.heap->Hs s.heap its->its[k]?=_n ->
  (∀h' e,Heap.ExtBut it s.heap h'->(∃o,h'.get? e=8 o/\o.cls=.type "StopIteration")->E (3 e) {s with heap:=h' })->_w (_m P w) A (Builtin.SmallTypes.nextOf (3 it)) Q E s
theorem M1(it l:jY):JM P w it l (λk h=>h.IsListIter it l k) (λh a=>h.IsList l a.4) where
 obj:=λk h st=>by
  let(o,e,c,d):=st;rwa[o,e,λv z=>by rw[d] at z;ext z]
 keep:=λk h c st d=>st.at d
 src:=λh c a b d=>b.at d
 item:=λA k s a x Q E st b d hQ=>wpAny_nextOf_list_item st b (by simpa using d) λc=>hQ x c s.toks (1 S)
 done:=λA k s a Q E e st b d c=>wpAny_nextOf_list_end e st b (by simpa using d) c
def bS{it t:jY}{k:Nat}{a:jT}{x:jX}{Q:jQ}(st:s.heap.IsTupleIter it t k)(g:s.heap.IsTuple t a.4)(h:a[k]?=8 x)(hQ:∀h',h'.IsTupleIter it t (k+1)->Heap.SameBut it s.heap h'->Q x {s with heap:=h' }):_w (_m P w) A (Builtin.SmallTypes.nextOf (3 it)) Q E s:=by
 let(o,c,f,b):=id st;let(j,e,2,i,d):=id g;unfold Builtin.SmallTypes.nextOf;erw[_b (wpAny_callSpecial?_slot (name:=Str.ofString "__next__") st.typeIs F.slot_tuple_iterator_next (wpAny_call_entry F.slot_tuple_iterator_next st.typeIs F.entry_tuple_iterator_next ?_ (F.args_tuple_iterator_next_1 _)))];show _w _ _ (field (3 it) 0 >>= _) _ _ s;erw[_b (_d c b (x:=3 t) S ?_)];show _w _ _ (if (Value.ref t==Value.none)=_t then _ else _) _ _ s;rw[_i (show ¬((Value.ref t==Value.none)=_t) from xK)];show _w _ _ (field (3 it) 1 >>= _) _ _ s;erw[_b (_d c b (x:=4 k 0) S ?_)];show _w _ _ (seqItems? (3 t) >>= _) _ _ s;erw[_b (wpAny_seqItems e d ?_)];let d:a.toArray[k]?=8 x:=by simpa using h
 simp only[yJ,d];erw[_b (wpAny_setField c b (by simp) ?_)];erw[_p (1,_p (hQ _ ?_ (mF ..)))];erw[2,wD _ c ?_,55]
 .let(c,d,a,e):=o;subst b;rfl
 .let(c,d,a,e):=o;subst b;rwa[f]
 .let(c,d,a,e):=o;subst b;rfl
def QF{it t:jY}{k:Nat}{b:jT}{Q:jQ}(h:A.handled=_n)(st:s.heap.IsTupleIter it t k)(j:s.heap.IsTuple t b.4)(l:b[k]?=_n)(i:∀h' e,Heap.ExtBut it s.heap h'->(∃o,h'.get? e=8 o/\o.cls=.type "StopIteration")->E (3 e) {s with heap:=h' }):_w (_m P w) A (Builtin.SmallTypes.nextOf (3 it)) Q E s:=by
 let(o,f,d,c):=id st;let(p,g,2,n,d):=id j;unfold Builtin.SmallTypes.nextOf;erw[_b (wpAny_callSpecial?_slot (name:=Str.ofString "__next__") st.typeIs F.slot_tuple_iterator_next (wpAny_call_entry F.slot_tuple_iterator_next st.typeIs F.entry_tuple_iterator_next ?_ (F.args_tuple_iterator_next_1 _)))];show _w _ _ (field (3 it) 0 >>= _) _ _ s;erw[_b (_d f c (x:=3 t) S ?_)];show _w _ _ (if (Value.ref t==Value.none)=_t then _ else _) _ _ s;rw[_i (show ¬((Value.ref t==Value.none)=_t) from xK)];show _w _ _ (field (3 it) 1 >>= _) _ _ s;erw[_b (_d f c (x:=4 k 0) S ?_)];show _w _ _ (seqItems? (3 t) >>= _) _ _ s;erw[_b (wpAny_seqItems g d ?_)];let d:b.toArray[k]?=none:=by simpa using l
 simp only[yJ,d];erw[_b (wpAny_rule (_b (wpAny_setField f c (by simp) ?_)))];show _w _ _ (newExc (.type "StopIteration") [] >>= _) _ _ _;erw[_b ?_];simp only[newExc,newTuple];erw[_b (wpAny_newObj_type ?_ (by size_fits))];erw[_b (m:=firstArgMember _ _) (wpAny_of_eq (a:=Value.none) (by first | rfl | (simp only[firstArgMember];rfl)) ?_)];erw[wpAny_newObj_type ?_ (by size_fits)];simp only[raiseNew];erw[_b (wpAny_handled ?_)]
 first | rw[show A.in1.handled=_n from h] | rw[h]
 erw[_b (_p (wpAny_throw ?_))];rwa[i _ _ (((mF ..).extBut.push _).push _) (2,xN _ S,3)]
theorem KF(it l:jY):JM P w it l (λk h=>h.IsTupleIter it l k) (λh a=>h.IsTuple l a.4) where
 obj:=λk h st=>by
  let(o,e,c,d):=st;rwa[o,e,λv z=>by rw[d] at z;ext z]
 keep:=λk h c st d=>st.at d
 src:=λh c a b d=>let ⟨o,e,r⟩:=b;(o,d o e,r)
 item:=λA k s a x Q E st b d hQ=>bS st b d λc=>hQ x c s.toks (1 S)
 done:=λA k s a Q E e st b d c=>QF e st b d c
structure ZA (z TI TO i1 i2 l1 l2:jY):Prop where
 a1:TI≠z
 a2:TO≠z
 a3:i1≠z
 a4:i2≠z
 a5:TI≠TO
 a6:TI≠i1
 a7:TI≠i2
 a8:TO≠i1
 a9:TO≠i2
 a10:i1≠i2
 b1:l1≠z
 b2:l1≠TO
 b3:l1≠i1
 b4:l1≠i2
 b5:l2≠z
 b6:l2≠TO
 b7:l2≠i1
 b8:l2≠i2
section
variable{P:jZ}{w:kB}{A:kD}{E:jQ}{s:jW}{z TI TO i1 i2 l1 l2:jY}{S1 S2:Nat->Heap->Prop}{H1 H2:Heap->List jX->Prop}{k:Nat}{L ys:jT}{x y a b:jX}
def eB{Q:jQ}(Z:ZA z TI TO i1 i2 l1 l2)(m:JM P w i1 l1 S1 H1)(n:JM P w i2 l2 S2 H2)(hz:IsZip s.heap z TI TO .none)(e:IsPair s.heap TI (3 i1) (3 i2))(f:IsPair s.heap TO a b)(h:S1 k s.heap)(t:S2 k s.heap)(i:H1 s.heap L)(u:H2 s.heap ys)(l:L[k]?=8 x)(F:ys[k]?=8 y)(hQ:∀g j h' tk,Ci x g->Ci y j->IsZip h' z TI TO (rawInt s.8)->IsPair h' TO g j->S1 (k+1) h'->S2 (k+1) h'->IsPair h' s.heap.objs.size g j -> (∀c o,c≠z->c≠TO->c≠i1->c≠i2->s.heap.get? c=8 o->h'.get? c=8 o)->Q (3 s.8) {s with heap:=h',toks:=tk }) :
  _w (_m P w) A (Builtin.«zip.__next__» ([3 z],[])) (λd p=>∃v,d=.done (.ret v)/\Q v p) E s:=by
 show _w _ _ (field (3 z) 2 >>= _) _ _ _;erw[_b (_d hz S (x:=.bool _x) S ?_)];show _w _ _ (field (3 z) 3 >>= _) _ _ _;erw[_b (_d hz S (x:=3 TI) S (_b (wpAny_seqItems e S ?_)))];show _w _ _ (Builtin.SmallTypes.ownedTupleIsFree (3 z) >>= _) _ _ _;erw[_b ?_];unfold Builtin.SmallTypes.ownedTupleIsFree;erw[_b (_d hz S (x:=.none) S (_p ?_))];simp only[if_true];erw[_b (wpAny_rule (_b (_d hz S (x:=3 TO) S (_b (wpAny_setField_rec hz (by simp) λd H r=>?_)))))];replace H:IsZip d z TI TO .ellipsis:=H;erw[_b ?_];simp only[List.zipIdx_cons,List.zipIdx_nil,List.forIn_cons,List.forIn_nil];erw[_b (_b (wpAny_onRaise ?_))];show _w _ _ (Builtin.SmallTypes.nextOf (3 i1) >>= _) _ _ _;erw[_b (m.item _ k _ L x _ _ (m.keep _ _ _ h λo e=>r.extBut _ _ Z.a3 e) (m.src _ _ _ i λo e=>r.extBut _ _ Z.b1 e) l λg h d M G B=>_p ?_)];let d:IsPair h TO a b:=B.extBut _ _ Z.a8 (r.extBut _ _ Z.a2 f);erw[_b (wpAny_seqItems d S (_b (wpAny_updateSeq_pair d λf d C=>?_)))];replace d:IsPair f TO g b:=d;erw[_b (wpAny_letGo (_p (_b (_b (wpAny_onRaise ?_)))))];show _w _ _ (Builtin.SmallTypes.nextOf (3 i2) >>= _) _ _ _;let i:∀c o,c≠z->c≠TO->c≠i1->s.heap.get? c=8 o->f.get? c=8 o:=λc o h l p e=>C.extBut _ _ l (B.extBut _ _ p (r.extBut _ _ h e));erw[_b (n.item _ k _ ys y _ _ (n.keep _ _ _ t λo e=>i _ _ Z.a4 Z.a9.symm Z.a10.symm e) (n.src _ _ _ u λo e=>i _ _ Z.b5 Z.b6 Z.b7 e) F λj u f N I t=>_p ?_)];let f:IsPair u TO g b:=t.extBut _ _ Z.a9 d;erw[_b (wpAny_seqItems f S (_b (wpAny_updateSeq_pair f λd F u=>?_)))];replace F:IsPair d TO g j:=F;erw[_b (wpAny_letGo (_p (_p (_b (wpAny_seqItems F S (_b (wpAny_newTuple ?_)))))))];let f:d.7=s.8:=by rw[u.1,t.1,C.1,B.1,r.1]
 let K:IsZip d z TI TO .ellipsis:=u.extBut _ _ Z.a2.symm (t.extBut _ _ Z.a4.symm (C.extBut _ _ Z.a2.symm (B.extBut _ _ Z.a3.symm H)));let J:∀c o,c≠z->c≠TO->c≠i1->c≠i2->s.heap.get? c=8 o->d.get? c=8 o:=λc o h l p B e=>u.extBut _ _ l (t.extBut _ _ B (i c o h l p e));let H:S1 (k+1) d:=m.keep _ _ _ G λo e=>u.extBut _ _ Z.a8.symm (t.extBut _ _ Z.a10 (C.extBut _ _ Z.a8.symm e));let C:S2 (k+1) d:=n.keep _ _ _ I λo e=>u.extBut _ _ Z.a9.symm e;let r:z<d.7:=xO K;show _w _ _ (Builtin.SmallTypes.ownedTupleHandOut (3 z) (3 d.7) >>= _) _ _ _;erw[_b ?_];unfold Builtin.SmallTypes.ownedTupleHandOut;let i:IsZip (d.push {cls:=.type "tuple", data:=.seq #[g,j] }) z TI TO .ellipsis:=xC _ K;erw[_b (wpAny_setField_rec i (by simp) λt i G=>?_)];replace i:IsZip t z TI TO (rawInt d.7):=i;erw[wpAny_setField_rec i (by simp) λt u I=>?_];replace u:IsZip t z TI TO (rawInt d.7):=u;let i:∀c o,c≠z->d.get? c=8 o->t.get? c=8 o:=λc o h e=>I.extBut _ _ h (G.extBut _ _ h (xC _ e));let K:IsPair t d.objs.size g j:=I.extBut _ _ (wW r) (G.extBut _ _ (wW r) (xN _ S));rw[f] at u K;erw[_p (1,5)];show Q (3 d.7) _;rw[f];rwa[hQ g j t _ M N u (i _ _ Z.a2 F) (m.keep _ _ _ H λo e=>i _ _ Z.a3 e) (n.keep _ _ _ C λo e=>i _ _ Z.a4 e) K λc o h l p B e=>i c o h (J c o h l p B e)]
def dA{Q:PySem.Fin->jW->Prop}(K:A.handled=_n)(Z:ZA z TI TO i1 i2 l1 l2)(r:JM P w i1 l1 S1 H1)(u:JM P w i2 l2 S2 H2)(hz:IsZip s.heap z TI TO .none)(d:IsPair s.heap TI (3 i1) (3 i2))(C:IsPair s.heap TO a b)(f:S1 k s.heap)(I:S2 k s.heap)(h:H1 s.heap L)(M:H2 s.heap ys)(p:L[k]?=_n\/ys[k]?=_n)(J:∀h' e tk,(∀c o,c≠z->c≠TO->c≠i1->c≠i2->s.heap.get? c=8 o->h'.get? c=8 o)->(∃o,h'.get? e=8 o/\o.cls=.type "StopIteration")->E (3 e) {s with heap:=h',toks:=tk }) :
  _w (_m P w) A (Builtin.«zip.__next__» ([3 z],[])) Q E s:=by
 show _w _ _ (field (3 z) 2 >>= _) _ _ _;erw[_b (_d hz S (x:=.bool _x) S ?_)];show _w _ _ (field (3 z) 3 >>= _) _ _ _;erw[_b (_d hz S (x:=3 TI) S (_b (wpAny_seqItems d S ?_)))];show _w _ _ (Builtin.SmallTypes.ownedTupleIsFree (3 z) >>= _) _ _ _;erw[_b ?_];unfold Builtin.SmallTypes.ownedTupleIsFree;erw[_b (_d hz S (x:=.none) S (_p ?_))];simp only[if_true];erw[_b (wpAny_rule (_b (_d hz S (x:=3 TO) S (_b (wpAny_setField_rec hz (by simp) λd t l=>?_)))))];replace t:IsZip d z TI TO .ellipsis:=t;erw[_b ?_];simp only[List.zipIdx_cons,List.zipIdx_nil,List.forIn_cons,List.forIn_nil];erw[_b (_b (wpAny_onRaise ?_))];show _w _ _ (Builtin.SmallTypes.nextOf (3 i1) >>= _) _ _ _;let g:=r.keep _ _ _ f λo e=>l.extBut _ _ Z.a3 e;let n:=r.src _ _ _ h λo e=>l.extBut _ _ Z.b1 e;cases F:L[k]? with
 | none =>
  erw[_b (r.done _ k _ L _ _ K g n F λv e i ⟨H,d,f⟩=>?_)];let h:IsZip v z TI TO .ellipsis:=i _ _ Z.a3.symm t;let G:e≠z:=λq=>by subst q;rw[h] at d;ext d;simp at f
  rwa[wpAny_setField_rec h (by simp) λB _ m=>J B e s.toks (λc o h _ j _ q=>m.extBut _ _ h (i _ _ j (l.extBut _ _ h q))) (H,m.extBut _ _ G d,f)]
 | some x =>
  let N:ys[k]?=none:=p.elim (λq=>by rw[F] at q;ext q) id;erw[_b (r.item _ k _ L x _ _ g n F λr v n p g i=>_p ?_)];let g:IsPair v TO a b:=i.extBut _ _ Z.a8 (l.extBut _ _ Z.a2 C);erw[_b (wpAny_seqItems g S (_b (wpAny_updateSeq_pair g λB g m=>?_)))];erw[_b (wpAny_letGo (_p (_b (_b (wpAny_onRaise ?_)))))];show _w _ _ (Builtin.SmallTypes.nextOf (3 i2) >>= _) _ _ _;let g:∀c o,c≠z->c≠TO->c≠i1->s.heap.get? c=8 o->B.get? c=8 o:=λc o h n j e=>m.extBut _ _ n (i.extBut _ _ j (l.extBut _ _ h e));erw[_b (u.done _ k _ ys _ _ K (u.keep _ _ _ I λo e=>g _ _ Z.a4 Z.a9.symm Z.a10.symm e) (u.src _ _ _ M λo e=>g _ _ Z.b5 Z.b6 Z.b7 e) N λr e l ⟨H,d,f⟩=>?_)];let p:IsZip r z TI TO .ellipsis:=l _ _ Z.a4.symm (m.extBut _ _ Z.a2.symm (i.extBut _ _ Z.a3.symm t));let G:e≠z:=λq=>by subst q;rw[p] at d;ext d;simp at f
  rwa[wpAny_setField_rec p (by simp) λm _ i=>J m e _ (λc o h n j m q=>i.extBut _ _ h (l _ _ m (g c o h n j q))) (H,i.extBut _ _ G d,f)]
end
structure E6 (sq:uFg->Hp->jY->List V->Prop) (Hs:jY->Heap->List jX->Prop):Prop where
 get:∀{X:Cx}{B:List (jY×Obj)}{Y:St}{H:Hp}{s:jW}{l:jY}{L:aG},ZD X B Y H s->sq X.K H l L->∃its,ZJ L its/\Hs l s.heap its
 inj:∀{X:Cx}{B:List (jY×Obj)}{Y:St}{H:Hp}{s:jW}{l:jY}{L ys:aG},ZD X B Y H s->sq X.K H l L->sq X.K H l ys->L=ys
def Os:E6 ZG (λl h a=>h.IsList l a.4):=((λI h=>let ⟨a,r,p,_⟩:=I.list h;(a,r,p.isList),λI h a=>I.oq h a))
def PP:E6 ZO (λl h a=>h.IsTuple l a.4):=((λI h=>let ⟨a,r,p,_⟩:=I.tuple h;(a,r,p),λI h a=>I.oZ h a))
def CW(d:uFg->Hp->jY->List V->Prop)(K:uFg)(e f:jY):It :=
 (λi H=>∃L c,d K H e L/\d K H f c/\i<L.9/\i<c.9,λi H v J=>∃p a b,v=3 p/\H p=_n/\J=upd H p (7 [a,b])/\∀L c,d K H e L->d K H f c->L[i]?=8 a/\c[i]?=8 b,
  λi H=>∃L c,d K H e L/\d K H f c/\(L.9<=i\/c.9<=i))
def ZD.zipG{X:Cx}{B:List (jY×Obj)}{Y:St}{H:Hp}{s:jW}{z TI TO d g:jY}{h':Heap}{tk:Tok}(I:ZD X B Y H s)(j:∀b ∈ [z,TI,TO,d,g],Y8 X B H b)(kp:∀c o,c≠z->c≠TO->c≠d->c≠g->s.heap.get? c=8 o->h'.get? c=8 o):ZD X B Y H {s with heap:=h',toks:=tk }:=by
 let h:∀c,c ∈ [z,TO,d,g]->c ∈ [z,TI,TO,d,g]:=λc a=>by grind
 let f:∀c o,c ∉ [z,TO,d,g]->s.heap.get? c=8 o->h'.get? c=8 o:=λc o a=>by grind
 let i:∀c u,H c=8 u->c ∉ [z,TO,d,g]:=λc u e a=>by rw[(j c (h c a)).1] at e;ext e
 refine I.step (g':=s.gens) (d':=s.drawn) (t':=tk) (ch:=[z,TO,d,g]) (λc a=>?_) (λc o _ _ a e _=>f c o a e) (λc o _ _ a e _=>(o.slots,f c o a e)) (λc o a e n=>n)
  (λc o a e=>(o,f c o a e)) (λc n e=>e) (λc o u e=>e) (λc d e=>(#[],by rw[e];simp)) (λm d=>d.at λo e=>f _ o (λa=>(j _ (h _ a)).2.1 S) e) (λc u e=>?_) I.bare
 .let(m,d,p,g,k,l):=j c (h c a);rwa[g,d,k,l]
 .rwa[(I.og c u e).oP (λd v a q=>f d v (a.elim (λz=>z▸i _ u e) (i _ _)) q) (λd q=>q) λd n q=>q]
def gH{P:jZ}{w:kB}{K:uFg}{c:List Expr}{m:Nat}{d:Pos}{l:uFg->Hp->jY->List V->Prop}{g:jY->Heap->List jX->Prop}{z TI TO r t e f:jY}{j k:Nat->Heap->Prop}(C:E6 l g)(Z:ZA z TI TO r t e f)(x:JM P w r e j (g e))(A:JM P w t f k (g f)) :
  VL P w K (.Tuple c m d) (CW l K e f) [z,TI,TO,r,t] z (λi h=>IsZip h z TI TO .none/\IsPair h TI (3 r) (3 t)/\(∃a b,IsPair h TO a b)/\j i h/\k i h) where
 mem:=by simp
 obj:=λi h st b e=>by
  let(l,d,(a,c,f),n,p):=st;simp only[xE,xV,or_false] at e;rcases e with rfl | rfl | rfl | rfl | rfl
  .rwa[2,l,λv q=>by ext q]
  .rwa[2,d,λv q=>by ext q]
  .rwa[2,f,λv q=>by ext q]
  .rwa[x.obj _ _ n]
  .rwa[A.obj _ _ p]
 keep:=λi h G st k=>by
  let(l,d,(a,c,f),n,p):=st;rwa[k z (by simp) _ l,k TI (by simp) _ d,(a,c,k TO (by simp) _ f),x.keep _ _ _ n λo e=>k r (by simp) o e,A.keep _ _ _ p λo e=>k t (by simp) o e]
 item:=by
  intro X W hw U g i B s Y H E I hf st hg;subst W hw U;let(l,d,(a,b,f),n,p):=st;let(L,v,O,Q,j,u):=hg;let(k,r1,w1):=C.get I O;let(m,r2,w2):=C.get I Q;let gx:L[i]?=8 L[i]:=xB j;let gy:v[i]?=8 v[i]:=xB u;let(u,j,a2):=r1.get gx;let(y,u,a3):=r2.get gy;let J:s.TypeIs (3 z) "zip" := (2,l,3);unfold pyNext;erw[_b (wpAny_attempt (wpAny_callSpecial?_slot (name:=Str.ofString "__next__") J F.slot_zip_next (wpAny_call_entry F.slot_zip_next J F.entry_zip_next (eB Z x A l d f n p w1 w2 j u λy N G M a0 a1 z1 t1 n1 n2 p1 kp=>_p ?_) (F.args_zip_next_1 _))))];erw[15];let hp:H s.8=none:=I.og.fresh (xD _);let j:∀c o,s.heap.get? c=8 o->c≠s.8:=λc o e=>yF (xO e);let nw:∀c ∈ [z,TI,TO,r,t],c≠s.8:=λc g=>by
   simp only[xE,xV,or_false] at g;rcases g with rfl | rfl | rfl | rfl | rfl
   .rwa[j _ _ l]
   .rwa[j _ _ d]
   .rwa[j _ _ f]
   .let(o,e,2):=x.obj _ _ n;rwa[j _ _ e]
   .let(o,e,2):=A.obj _ _ p;rwa[j _ _ e]
  let j:∀c ∈ [z,TI,TO,r,t],Y8 X B (upd H s.heap.objs.size (7 [L[i],v[i]])) c:=λc g=>by
   let(t,R):=hf c g;rwa[by rw[Ze (nw c g)];rwa[t],R]
  let r:ZD X B Y (upd H s.heap.objs.size (7 [L[i],v[i]])) {s with heap:=s.heap.push {cls:=.type "tuple", data:=.seq #[y,N] } }:=I.laid (t':=s.toks) (λb u e=>xC _ e) (xD _) (aB S,[y,N],.cons (a0.rel a2) (.cons (a1.rel a3) .nil),(2,xN _ S,31));let u:=r.zipG (h':=G) (tk:=M) j λc o r N c3 c4 e=>by
   by_cases y:c=s.8
   .subst y;rw[xN _ S] at e;ext e;rwa[p1]
   .rwa[kp c o r N c3 c4 (by (rw[Heap.get?_push_ne _ _ _ y] at e;assumption))]
  erw[wpAny_letOwnedTupleGo_zip (s:={s with heap:=G,toks:=M }) z1 λy z2 r=>?_];let(t,R,y,N,f4,f5):=j z (by simp);let y:=u.turned (s:={s with heap:=G,toks:=M }) (it:=z) (t':=M) (λc o g e=>(r.2 c g).trans e) t R N f4 f5;erw[3 s.8,2,y,3,(s.8,L[i],v[i],3,hp,3,λy N t u=>?_),(z2,(r.2 _ Z.a1).trans (kp TI _ Z.a1 Z.a5 Z.a6 Z.a7 d),(22,(r.2 _ Z.a2).trans t1),x.keep _ _ _ n1 λo e=>(r.2 _ Z.a3).trans e,A.keep _ _ _ n2 λo e=>(r.2 _ Z.a4).trans e),λc g=>(j c g).1];rw[C.inj I t O,C.inj I u Q];rwa[gx,gy]
 done:=by
  intro X W hw U g i B s Y H E I hf st hg;subst W hw U;let(l,d,(a,b,f),n,p):=st;let(L,v,O,Q,j):=hg;let(k,r1,w1):=C.get I O;let(m,r2,w2):=C.get I Q;let J:s.TypeIs (3 z) "zip" := (2,l,3);let c:k[i]?=_n\/m[i]?=none:=by
   let k:=r1.9;let r:=r2.9;rcases j with q | q
   .grind
   .grind
  unfold pyNext;erw[_b (wpAny_attempt (wpAny_callSpecial?_slot (name:=Str.ofString "__next__") J F.slot_zip_next (wpAny_call_entry F.slot_zip_next J F.entry_zip_next (dA (I.ok.hd g) Z x A l d f n p w1 w2 c λG e M kp ⟨o,d,c⟩=>?_) (F.args_zip_next_1 _))))];erw[_b (wpAny_isInstance (T:="StopIteration") (b:=_t) (o,d,c) isSubtype_stop (_p (3,I.zipG hf kp)))]
 self:=λA i s Q E st h=>wpAny_pyIter_zip st.1 h
abbrev tzA(h:Heap)(t1:jY):Heap:=h.push {cls:=.type "tuple_iterator", data:=.fields #[3 t1,4 0 0] }
abbrev tzB(h:Heap)(t1 t2:jY):Heap:=(tzA h t1).push {cls:=.type "tuple_iterator", data:=.fields #[3 t2,4 0 0] }
abbrev tzC(h:Heap)(t1 t2:jY):Heap:=(tzB h t1 t2).push {cls:=.type "tuple", data:=.seq #[3 h.7,3 (tzA h t1).7] }
abbrev tzD(h:Heap)(t1 t2:jY):Heap:=(tzC h t1 t2).push {cls:=.type "tuple", data:=.seq #[.none,.none] }
abbrev tzE(h:Heap)(t1 t2:jY):Heap:=(tzD h t1 t2).push {cls:=.type "zip", data:=.fields #[.none,.bool _x,.bool _x,3 (tzB h t1 t2).7,3 (tzC h t1 t2).7] }
def hU(a b:jY)(L ys:Array jX):Meets (Builtin.«zip.__new__» ([.type "zip", 3 a,3 b],[])) (λ_ R s=>s.heap.IsTuple a L/\s.heap.IsTuple b ys/\R (.ok (.ret (3 (tzD s.heap a b).7))) {s with heap:=tzE s.heap a b }):=(.of_wp λc w A R s h=>by
  let(j,g,d,k,os):=s;let(e,i,h):=h;let c:=sub_zip;let c:Heap.IsTuple (Shared.heap (j,g,d,k,os)) a L:=e;let f:Heap.IsTuple (Shared.heap (tzA j a,g,d,k,os)) b ys:=let ⟨o,e,r⟩:=i;(o,xC _ e,r)
  wp_walk using wpAny_pyIter_tuple c,wpAny_pyIter_tuple f
  rwa[1,h])
section
variable{P:jZ}{w:kB}{A:kD}{E:jQ}{s:jW}
def dQ{a b:jY}{L ys:Array jX}{Q:jQ}(d:s.heap.IsTuple a L)(e:s.heap.IsTuple b ys)(h:∀h',IsZip h' (s.8+4) (s.8+2) (s.8+3) .none->IsPair h' (s.8+2) (3 s.8) (3 (s.8+1))-> IsPair h' (s.8+3) .none .none->h'.IsTupleIter s.heap.objs.size a 0->h'.IsTupleIter (s.8+1) b 0 -> (∀c o,s.heap.get? c=8 o->h'.get? c=8 o)->Q (3 (s.8+4)) {s with heap:=h' }):_w (_m P w) A (call (.type "zip") [3 a,3 b]) Q E s:=by
 erw[callType_new F.called_zip aA (F.typeCall_zip_2 _ _) (F.newCall_zip_2 _ _) (λf=>F.args_object_init_3 f _ _) F.entry_zip_new (hU a b L ys) (d,e,5)];let d:(tzA s.heap a).7=s.8+1:=zG ..;let e:(tzB s.heap a b).7=s.8+2:=by rw[zG,d]
 let f:(tzC s.heap a b).7=s.8+3:=by rw[zG,e]
 let i:(tzD s.heap a b).7=s.8+4:=by rw[zG,f]
 let g:(tzE s.heap a b).get? (tzD s.heap a b).7=8 _:=xN _ S;let l:(tzE s.heap a b).get? (tzC s.heap a b).7=8 _:=xC _ (xN _ S);let k:(tzE s.heap a b).get? (tzB s.heap a b).7=8 _:=xC _ (xC _ (xN _ S));let j:(tzE s.heap a b).get? (tzA s.heap a).7=8 _:=xC _ (xC _ (xC _ (xN _ S)));let m:(tzE s.heap a b).get? s.8=8 _:=xC _ (xC _ (xC _ (xC _ (xN _ S))));show _/\_;rw[e,f,i] at g;rw[d,e] at k;rw[f] at l;rw[d] at j;rw[i];rwa[(2,g,3),h _ g k l (2,m,33) (2,j,33) λc o x=>xC _ (xC _ (xC _ (xC _ (xC _ x))))]
end
def cD(a:l1<n)(b:l2<n):ZA (n+4) (n+2) (n+3) n (n+1) l1 l2:=by
 let a : @LT.lt Nat _ l1 n:=a;let b : @LT.lt Nat _ l2 n:=b;let c:∀(a b:Nat),(a<b\/b<a)->¬(@Eq Nat a b):=λa b h q=>by lia
 exact(c _ _ (),c _ _ (),c _ _ (),c _ _ (),c _ _ (),c _ _ (),c _ _ (),c _ _ (),c _ _ (),c _ _ (),
  c _ _ (),c _ _ (),c _ _ (),c _ _ (),c _ _ (),c _ _ (),c _ _ (),c _ _ ())
inductive CT(K:uFg)(R:It->Hp->Prop)(vs:aG)(a:Hp):Prop
 |mk(l1 l2)(_:vs=[3 l1,3 l2])(_:((∃L b,ZG K a l1 L/\ZG K a l2 b/\R (CW ZG K l1 l2) a)\/(∃L b,ZO K a l1 L/\ZO K a l2 b/\R (CW ZO K l1 l2) a)))
def cI(K:uFg)(a:TA):TI:=λY H R=>a Y H λb a=>CT K R b a
def gE{X:Cx}{a b:Expr}{f:TA}{p pos:Pos}{g:List Expr}{m:Nat}{i:Pos}(j:X.mg "zip"=none)(d:QA X [a,b] f)(e:autoParam (nB X "zip" .globalImplicit) y2z)(hs:autoParam (starEach [a,b] X.env=[(Prod.mk (false) (eval a X.env)),(Prod.mk (false) (eval b X.env))]) y1z)(c:autoParam (starEach [b] X.env=[(Prod.mk (false) (eval b X.env))]) y1z) :
  QI X (.Tuple g m i) (.Call (.Name "zip" p) [a,b] [] pos) (cI X.K f):=(⟨by
 have e:=(od e).1;have d:=d.h;intro B s Y H R I h;refine Call_ (Ui I e j boot_zip (callWith_type1 (thn (d pos B s Y H _ I h) λe d ⟨f,z,j,A,v⟩=>?_) (by rw[hs,c]) (by rw[c];rfl)));obtain⟨k,l,e,v⟩:=v;subst e;obtain⟨h,n,rfl,c,f⟩:=Dp A;cases c;cases f;have s:∀{y:uFg->Hp->jY->List V->Prop}{n:jY->Heap->List jX->Prop}{t u:Nat->Heap->Prop}{f:Heap},E6 y n->k<d.heap.objs.size->l<d.heap.objs.size->JM X.prog X.w d.heap.objs.size k t (n k)->JM X.prog X.w (d.heap.objs.size+1) l u (n l)->
   IsZip f (d.heap.objs.size+4) (d.heap.objs.size+2) (d.heap.objs.size+3) .none->IsPair f (d.heap.objs.size+2) (3 d.heap.objs.size) (3 (d.heap.objs.size+1))->IsPair f (d.heap.objs.size+3) .none .none->t 0 f->u 0 f->(∀c o,d.heap.get? c=some o->f.get? c=some o)->R (CW y X.K k l) z ->
   wpAny (model X.prog X.w) X.A (pyIter (3 (d.heap.objs.size+4))) (Eh X B Y (.Tuple g m i) R) X.xe {d with heap:=f }:=by
  intro y n t u f E m r B C i x w g h kp q;refine wpAny_pyIter_zip i ?_;refine⟨d.heap.objs.size+4,_,_,_,z,rfl,j.kept (h':=f) (t':=d.toks) kp,gH E (cD m r) B C,⟨i,x,⟨_,_,w⟩,g,h⟩,λc t=>?_,q⟩;have n:d.heap.objs.size<=c:=by
   simp only[xE,xV,or_false] at t;have:(d.heap.objs.size:Nat)<=(c:Nat):=by rcases t with rfl | rfl | rfl | rfl | rfl<;>lia
   exact this
  exact j.ix n (j.og.fresh n)
 rcases v with⟨L,t,y,z,q⟩ | ⟨L,t,y,z,q⟩
 .obtain⟨c,A,u,_⟩:=j.list y;obtain⟨t,B,v,_⟩:=j.list z;have m:k<d.heap.objs.size:=by obtain⟨o,n,e,_⟩:=u;exact xO e
  have r:l<d.heap.objs.size:=by obtain⟨o,n,e,_⟩:=v;exact xO e
  exact call_zip_2 u.isList v.isList λf i x w g h _ kp=>s Os m r (M1 _ _) (M1 _ _) i x w g h kp q
 .obtain⟨c,A,u,_⟩:=j.tuple y;obtain⟨t,B,v,_⟩:=j.tuple z;have m:k<d.heap.objs.size:=by obtain⟨o,e,_⟩:=u;exact xO e
  have r:l<d.heap.objs.size:=by obtain⟨o,e,_⟩:=v;exact xO e
  exact dQ u v λf i x w g h kp=>s PP m r (KF _ _) (KF _ _) i x w g h kp q⟩)
def MA{a:uFg->Hp->jY->List V->Prop}{K:uFg}{c d:jY}{g:TG}{e:TS}{D:YG}{Y:St}{H:Hp}(L ys:aG)(h:L.9=ys.9)(Pv:Nat->St->Hp->Prop)(h:Pv 0 Y H)(k:∀i Y H,i<=L.9->Pv i Y H->a K H c L/\a K H d ys)(hs:∀i x y p Y H,L[i]?=8 x->ys[i]?=8 y->Pv i Y H->H p=_n->g (3 p) Y (upd H p (7 [x,y])) λb f=>e {D with nx:=Pv (i+1),ct:=Pv (i+1),bk:=D.nx } b f)(j:∀ Y H,Pv L.length Y H->D.nx Y H):AY (CW a K c d) g e D Y H:=by
 erw[λi m Y H=>m=L.9 - i/\i<=L.9/\Pv i Y H,(L.9,by simp,yI _,h),5];rintro i m Y H ⟨rfl,a,p⟩;let(c,d):=k i Y H a p
 by_cases a:i<L.9
 .erw[2 ((L,ys,c,d,a,6),Pv (i+1),λe J b=>(L.9 - (i+1),63,a,b),λv J y=>?_)];let(l,a,b,3,h,3,k):=y;let(e,f):=k L ys c d;rwa[hs i a b l Y H e f p h]
 .let e:i=L.9:=by lia
  subst e;rwa[1 ((L,ys,c,d,1 (xD _)),j Y H p)]
inductive D where
 | non | bl (b:Bool) | int (i:Int) | str (x:Str) | tup (L:List D) | lst (L:List D)
mutual
def YC(H:Hp):D->V->Prop
 | .non,v=>v=.non
 | .bl b,v=>v=.bl b
 | .int i,v=>v=4 i
 | .str x,v=>v=5 x
 | .tup F,v=>∃a b,v=3 a/\H a=8 (7 b)/\ZN H F b
 | .lst F,v=>∃a b,v=3 a/\H a=8 (6 b)/\ZN H F b
def ZN(H:Hp):List D->List V->Prop
 | [],a=>a=[]
 | d::F,a=>∃v r,a=v::r/\YC H d v/\ZN H F r
end
mutual
theorem YC.mono(k:ZC H J):∀d v,YC H d v->YC J d v
 | .non,v,h=>h
 | .bl b,v,h=>h
 | .int i,v,h=>h
 | .str x,v,h=>h
 | .tup F,v,h=>by
  let(a,b,e,c,f):=h;rwa[a,b,e,k _ _ c,ZN.mono k F b f]
 | .lst F,v,h=>by
  let(a,b,e,c,f):=h;rwa[a,b,e,k _ _ c,ZN.mono k F b f]
theorem ZN.mono(k:ZC H J):∀F vs,ZN H F vs->ZN J F vs
 | [],vs,h=>h
 | d::F,vs,h=>by
  let(v,r,e,a,b):=h;rwa[v,r,e,YC.mono k d v a,ZN.mono k F r b]
end
theorem ZN.length:∀{F:List D}{vs:aG},ZN H F vs->vs.9=F.9
 | [],vs,h=>by ext h;rfl
 | d::F,vs,h=>by
  let(v,r,3,b,a):=h;rw[yN,yN,ZN.length a]
theorem ZN.get:∀{F:List D}{vs:aG}{i:Nat}{v:V},ZN H F vs->vs[i]?=8 v->∃d,F[i]?=8 d/\YC H d v
 | [],vs,i,v,h,e=>by ext h;simp at e
 | d::F,vs,i,v,h,e=>by
  let(w,r,3,a,b):=h;cases i with
  | zero=>simp at e;subst e;rwa[d,3,a]
  | succ i=>simp at e;rwa[ZN.get (i:=i) b e]
theorem ZN.snoc(a:YC H d v):∀{F:List D}{vs:aG},ZN H F vs->ZN H (F ++ [d]) (vs ++ [v])
 | [],vs,h=>by ext h;rwa[v,[],3,a,7]
 | e::F,vs,h=>by
  let(w,r,3,b,c):=h;rwa[w,r ++ [v],3,b,ZN.snoc a c]
mutual
def Bi:D->D->Bool
 | .non,.non=>_t
 | .bl a,.bl b=>a==b
 | .int a,.int b=>a==b
 | .str a,.str b=>a==b
 | .tup a,.tup b=>Cq a b
 | .lst a,.lst b=>Cq a b
 | _,_=>_x
def Cq:List D->List D->Bool
 | [],[]=>_t
 | a::r,b::s=>Bi a b&&Cq r s
 | _,_=>_x
end
mutual
theorem OW:∀d:D,Bi d d=_t
 | .non=>rfl
 | .bl _=>by simp[Bi]
 | .int _=>by simp[Bi]
 | .str _=>by simp[Bi]
 | .tup F=>by rw[Bi];rwa[FQ F]
 | .lst F=>by rw[Bi];rwa[FQ F]
theorem FQ:∀F:List D,Cq F F=_t
 | []=>rfl
 | d::F=>by rw[Cq,OW d,FQ F];rfl
end
mutual
def D.deep:D->Nat
 | .tup F=>Uo F+1
 | .lst F=>Uo F+1
 | _=>0
def Uo:List D->Nat
 | []=>0
 | d::F=>max d.deep (Uo F)
end
theorem Gk:∀{F:List D}{i:Nat}{d:D},F[i]?=8 d->d.deep<=Uo F
 | [],i,d,h=>by simp at h
 | e::F,0,d,h=>by simp at h;subst h;rw[Uo];lia
 | e::F,i+1,d,h=>by
  simp at h;have:=Gk h;rw[Uo];lia
def isI:D->String->Bool
 | .non,_=>_x
 | .bl _,c=>c=="bool" || c=="int"
 | .int _,c=>c=="int"
 | .str _,c=>c=="str"
 | .tup _,c=>c=="tuple"
 | .lst _,c=>c=="list"
def Ie:List String:=["bool","int","str","list","tuple"]
def isi{K:uFg}{H:Hp}{d:D}{v:V}(r:YC H d v)(c:String)(e:c∈Ie):∃t,WB K H v t/\kitOne K t (.type c)=8 (isI d c):=by
 unfold Ie at e;simp only[xE,xV,or_false] at e;cases d with
 | non=>ext r;erw[2,.non,5];rcases e with rfl | rfl | rfl | rfl | rfl<;>rfl
 | bl b=>ext r;erw[2,.bl b,5];rcases e with rfl | rfl | rfl | rfl | rfl<;>rfl
 | int i=>ext r;erw[2,4 i,5];rcases e with rfl | rfl | rfl | rfl | rfl<;>rfl
 | str x=>ext r;erw[2,5 x,5];rcases e with rfl | rfl | rfl | rfl | rfl<;>rfl
 | tup F=>let(a,g,3,b,f):=r;erw[2,7 b,5];rcases e with rfl | rfl | rfl | rfl | rfl<;>rfl
 | lst F=>let(a,g,3,b,f):=r;erw[2,6 b,5];rcases e with rfl | rfl | rfl | rfl | rfl<;>rfl
def YC.oA(r:YC H d v):decide (v=.non)=(match d with | .non=>_t | _=>_x):=by
 cases d with
 | non=>ext r;rfl
 | bl b=>ext r;rfl
 | int i=>ext r;rfl
 | str x=>ext r;rfl
 | tup F=>let(a,e,3,b,c):=r;rfl
 | lst F=>let(a,e,3,b,c):=r;rfl
def YC.oy(h:YC H d v)(k:ZC H J):YC J d v:=(YC.mono k d v h)
def ZN.oy(h:ZN H F vs)(k:ZC H J):ZN J F vs:=(ZN.mono k F vs h)
def Ca(lo:Int)(n:Nat):It:=(λi _=>i<n,λi H x J=>J=H/\x=4 (lo - i),λi _=>n<=i)
def KG{P:jZ}{w:kB}{K:uFg}{a:Expr}(it:jY)(lo:Int)(n:Nat):VL P w K a (Ca lo n) [it] it (λi h=>IsRangeIter h it (lo+(i:Nat) * (-1)) ((n:Int) - (i:Nat)) (-1)) where
 mem:=by simp
 obj:=λi h st b a=>by grind
 keep:=λi h d st k=>k it (by simp) _ st
 item:=by
  intro X r y p u i B s Y H E I f st x;subst r y p;let(g,j,A,k,l,m):=f it (by simp);let W:=Walks.range (prog:=X.prog) (w:=X.w) (I.ok.hd u) it lo (-1) n;erw[W.item i s _ _ x st λv d z e c C=>?_];let(t,3):=e;let v:ZD X B Y H {s with heap:=d,toks:=z }:=I.turned (λb o a e=>C b o (by simpa using a) e) g j k l m;erw[1,BV (s:={s with heap:=d,toks:=z }) (n:="range_iterator") c S S aA (4 (lo - i),H,v,(t,5),(3,3),c,λb a=>(f b a).1)];let e:lo+(i:Int) * (-1)=lo - i:=by lia
  rw[e]
 done:=by
  intro X r y p u i B s Y H E I f st x;subst r y p;let(g,j,A,k,l,m):=f it (by simp);rwa[wpAny_pyNext_range_end (I.ok.hd u) st (by have:n<=i:=x;lia) λd c=>(3,I.turned (t':=s.toks) (λb o a e=>c b o a e) g j k l m)]
 self:=λ_ _ _ _ _ st h=>wpAny_pyIter_rangeiter st h
section
variable{X:Cx}{tg:Expr}
def XZ{B:List (jY×Obj)}{Y:St}{H:Hp}{s:jW}{R:It->Hp->Prop}{E:jQ}{lo a:Int}{t u v:Tok}{tk:Nat}(I:ZD X B Y H s)(b : -(2^62)<=lo)(c:lo<2^62)(d : -(2^62)<=a)(e:a<2^62)(q:R (Ca lo (lo - a).toNat) H):_w (_m X.prog X.w) X.A (pyIter (3 s.8)) (Eh X B Y tg R) E {s with heap:=s.heap.push {cls:=.type "range", data:=.fields #[4 lo t,4 a u,4 (-1) v] },toks:=tk }:=by
 erw[wpAny_pyIter_range (IsRange.new ..) (PySem.W.small_down b c d e) ?_];let c:ZD X B Y H {s with heap:=s.heap.push {cls:=.type "range", data:=.fields #[4 lo t,4 a u,4 (-1) v] },toks:=tk }:=I.kept λb o e=>xC _ e;erw[(s.heap.push {cls:=.type "range", data:=.fields #[4 lo t,4 a u,4 (-1) v] }).7,[(s.heap.push {cls:=.type "range", data:=.fields #[4 lo t,4 a u,4 (-1) v] }).7],22,H,3, c.kept (t':=tk) λb o e=>xC _ e,KG _ lo (lo - a).toNat,5,λb g=>?_,q]
 .let d:lo+((0:Nat):Int) * (-1)=lo:=by simp
  let f:(((lo - a).toNat:Nat):Int) - ((0:Nat):Int)=Builtin.Range.rangeSize lo a (-1):=by rw[PySem.W.rangeSize_downNat];lia
  show IsRangeIter _ _ (lo+((0:Nat):Int) * (-1)) ((((lo - a).toNat:Nat):Int) - ((0:Nat):Int)) (-1);rw[d,f];rwa[xN _ S]
 .let e:b=(s.heap.push {cls:=.type "range", data:=.fields #[4 lo t,4 a u,4 (-1) v] }).7:=by simpa using g
  subst e;rwa[c.ix (xD _) (c.og.fresh (xD _))]
inductive B7(R:It->Hp->Prop)(vs:aG)(a:Hp):Prop
 |mk(i j)(_:vs=[4 i,4 j,4 (-1)])(_:(-(2^62)<=i/\i<2^62 /\ -(2^62)<=j/\j<2^62))(_:R (Ca i (i - j).toNat) a)
def XA(a:TA):TI:=λY H R=>a Y H λb a=>B7 R b a
def Pn{a b c:Expr}{g:TA}{p pos:Pos}(i:X.mg "range"=_n)(d:QA X [a,b,c] g)(e:autoParam (nB X "range" .globalImplicit) y2z)(hs:autoParam (_e [a,b,c] X.env=(_x,eval a X.env)::_e [b,c] X.env) y1z)(f:autoParam ((backTo pos (_e [b,c] X.env)).any (·.1)=false) y1z) :
  QI X tg (.Call (.Name "range" p) [a,b,c] [] pos) (XA g):=(⟨by
 let e:=(od e).1;let d:=d.h;intro B s Y H R I h;erw[Call_ (Ui I e i boot_range (callWith_type1 (thn (d pos B s Y H _ I h) λj i ⟨k,e,h,d,g⟩=>?_) hs f))];let(i,j,e,(g,f,k,l),q):=g;subst e;cases d with
 | cons r d =>
  cases d with
  | cons i d =>
   cases d with
   | cons e d =>
    ext d;let(t,7):=r;let(d,7):=i;let(d,7):=e
    rwa[call_range_3 aA (XZ h g f k l q) (1 (PyProof.noPylong_small aA))]⟩)
end
section
variable{g:TG}{tb:TS}{D:YG}{Y:St}{H:Hp}
def Km{lo:Int}{n:Nat}(m:Nat)(e:n=m)(Pv:Nat->St->Hp->Prop)(c:Pv 0 Y H)(hs:∀i Y H,i<m->Pv i Y H->g (4 (lo - i)) Y H λa b=>tb {D with nx:=Pv (i+1),ct:=Pv (i+1),bk:=D.nx } a b)(d:∀ Y H,Pv m Y H->D.nx Y H):AY (Ca lo n) g tb D Y H:=by
 subst e;erw[λi k Y H=>k=n - i/\i<=n/\Pv i Y H,(n,3,yI _,c),5];rintro i k Y H ⟨rfl,a,p⟩
 by_cases e:i<n
 .erw[2 (e,Pv (i+1),λb J a=>(n - (i+1),636,a),5)];rintro x J ⟨rfl,rfl⟩;rwa[hs i Y J e p]
 .have:i=n:=by lia
  subst this;rwa[1 (xD _,d Y H p)]
end
section
variable{o:Expr}
inductive Ts(y x:V)(H:Hp)(Q:VK):Prop
 |mk(a o)(_:x=3 a)(_:YF H a y o)(_:Q (.bl (!o.isSome)) H)
inductive Cj(y x:V)(H:Hp)(Q:VK):Prop
 |mk(a o)(_:x=3 a)(_:YF H a y o)(_:Q (.bl o.isSome) H)
def SX(c:X.A.units+1<cLine):Aw X (_c .NotIn) Ts:=by
 intro B s Y H y x h u Q I f e (a,d,b,g,q);subst b;obtain rfl:u=Value.ref a:=e;rwa[fD c I g f λb a=>(.bl (!d.isSome),H,a,3,q)]
def RD(c:X.A.units+1<cLine):Aw X (_c .In) Cj:=by
 intro B s Y H y x h u Q I f e (a,d,b,g,q);subst b;obtain rfl:u=Value.ref a:=e;rwa[SQ c I g f λb a=>(.bl d.isSome,H,a,3,q)]
def Iq(a:ZL k X.A):WE X (_c .NotIn) Ts:=(⟨SX (by have:=a.units;lia)⟩)
def Cb(a:ZL k X.A):WE X (_c .In) Cj:=(⟨RD (by have:=a.units;lia)⟩)
def IL:QE X (.Dict [] [] pos) cW:=(⟨λB s Y H Q I h => wpAny_Dict_empty (3 s.8,2,I.laid (a:=s.8) (o:=.dT []) (t':=s.toks) (λ_ _ q=>xC _ q) (xD _) (RT s.heap I.big),7,h _ (I.og.fresh (xD _)))⟩)
def JV(c:ZL k X.A)(b:QE X o td)(a:QE X i ty)(d:QE X value tv)(hs:autoParam (swapsWith value (8 (.Subscript o i pos')) pos.line X.env=pure false) y1z) :
  QS X (.Assign [.Subscript o i pos'] value pos) (MU td ty tv):=(⟨Qp (by have:=c.units;lia) b.h a.h d.h hs⟩)
end
def BZ(H:Hp)(c:Int)(n:Str):jX->Bool
 | .ref a=>match H a with
  | some (.tup [.int a,.str b])=>decide ((Prod.mk (a) (b))=(Prod.mk (c) (n)))
  | _=>_x
 | _=>_x
def Xj{B:List (jY×Obj)}{Y:St}{H:Hp}{s:jW}{A:kD}{a b:jY}{c d:Int}{n g:Str}(I:ZD X B Y H s)(p:A.units<cLine)(j:H a=8 (7 [4 c,5 n]))(f:H b=8 (7 [4 d,5 g])) :
  SeqAt.EqAt A s (3 a) (3 b) (decide ((Prod.mk (c) (n))=(Prod.mk (d) (g)))):=by
 by_cases e:a=b
 .subst e;rw[j] at f;injection f with f
  injection f with f
  injection f with i f
  injection f with k _
  injection i with i
  injection k with k
  rw[i,k,yD S];rwa[SeqAt.EqAt.same _]
 .let(L,h,r,2):=I.tuple (ZO.of j);let(l,j,t,2):=I.tuple (ZO.of f);cases h with
  | cons l h=>cases h with
   | cons m h =>
    ext h;cases j with
    | cons h j=>cases j with
     | cons u j =>
      ext j;let(f,3):=l;let(l,3):=m;let(m,3):=h;let(o,3):=u
      let h:=SeqAt.RcAt.tuples (A:=A) (e:=λj=>if j=0 then c==d else n==g) (show s.heap.IsTuple a _ from r) (show s.heap.IsTuple b _ from t) p (λj i k=>by
       let k:j<2:=by simpa using i
       match j,k with
       | 0,_=>rwa[SeqAt.EqAt.int_int _ _ _ _]
       | 1,_=>rwa[SeqAt.EqAt.str_str _ _ _ _])
      let i:((List.range (min ([Value.int c f,Value.str n l]:jT).toArray.size ([Value.int d m,Value.str g o]:jT).toArray.5)).all (λj=>if j=0 then c==d else n==g)&&([Value.int c f,Value.str n l]:jT).toArray.5==([Value.int d m,Value.str g o]:jT).toArray.5)=decide ((Prod.mk (c) (n))=(Prod.mk (d) (g))):=by
       show ((List.range 2).all (λj=>if j=0 then c==d else n==g)&&_t)=_;rw[Bool.and_true];show ((c==d)&&((n==g)&&_t))=_;rw[Bool.and_true,zI,yS,wT,Prod.mk.injEq,beq_iff_eq,beq_iff_eq]
      rw[i] at h;rwa[SeqAt.EqAt.of_refs e h]
section
variable{prog:jZ}{w:kB}{K:Type} [DecidableEq K] {knd:HeapKind prog w K}{A:kD}{E:jQ}{s:jW}
def iW{d a:jY}{L:List (K×jY×jX)}{k:K}{v:jX}{Q:jQ}(c:knd.room A)(b:knd.is s.heap k a)(e:s.heap.DictOfH knd d L)(n:∀p,atKey L k=8 p->Q p.2 {s with toks:=s.toks+knd.draws k })(r:atKey L k=_n->∀h',h'.DictOfH knd d (storedH L k a v)->Heap.SameBut d s.heap h'->Q v {s with heap:=h',toks:=s.toks+knd.draws k })(hsz:L.9<=_z):_w (_m prog w) A (dictSetDefault d (3 a) v) Q E s:=by
 let(o,j,f,h,t,g,l,i,m):=e;unfold dictSetDefault
 try with_reducible erw[wpAny_holding ?_]
 erw[_b (knd.pyHash c b ?_)];erw[_b (wpAny_dictFind_heap (s:={s with toks:=s.toks+knd.draws k }) c b h g l i m ?_ ?_)]
 .intro c;let j:k∉L.map (·.1):=not_mem_keys_of_get c
  refine _b (wpAny_rule (_b (wpAny_updateDictKeys (hz:=by let e:=size_of_entries l;lia) (s:={s with toks:=s.toks+knd.draws k }) h g (_p (r (atKey_none_of_get c) _ (22,f+1,wD _ h (Obj.isFreed_of_dict (Obj.data_mapDictKeys g _)),
   t.mapDictKeys _,Obj.data_mapDictKeys g _,555) (mF ..))))))
  .rw[storedH_new (atKey_none_of_get c)];simp[l,entryOfKey]
  .rw[storedH_new (atKey_none_of_get c)];intro x f;rcases xL.mp f with f | f
   .rwa[knd.keeps (i x f) h g (mF ..)]
   .simp only[xU] at f;subst f;rwa[knd.keeps b h g (mF ..)]
  .rw[storedH_new (atKey_none_of_get c)];rw[xH,List.nodup_append];erw[m,by simp,5];intro x f y b;simp only[yO,wK,xU] at b;subst b;rwa[λe=>j (e▸f)]
 .intro j p b;erw[_b (wpAny_dictEntries (s:={s with toks:=s.toks+knd.draws k }) h g ?_)];rw[entry_at l j,b];rwa[_b (wpAny_rule (_p (n _ (atKey_of_get m b))))]
def OP(knd:HeapKind prog w K)(d a:jY)(g:(d==sysModules)=_x)(dflt:jX) :
  MeetsIn prog w (Builtin.«dict.setdefault» ([3 d,3 a,dflt],[])) (λA R s=>knd.room A.in1/\∃k L,knd.is s.heap k a/\s.heap.DictOfH knd d L/\L.9<=_z /\ (∀p,atKey L k=8 p->R (.ok (.ret p.2)) {s with toks:=s.toks+knd.draws k })/\ (atKey L k=_n->∀h',h'.DictOfH knd d (storedH L k a dflt)->Heap.SameBut d s.heap h'->R (.ok (.ret dflt)) {s with heap:=h',toks:=s.toks+knd.draws k })):=(.of_wp λA R s ⟨h,k,L,b,c,i,e,f⟩=>by
  unfold Builtin.«dict.setdefault»;erw[_b ?_];unfold Builtin.Dict.keyAndDefault;erw[_b (wpAny_notOrdered_dict c.typeIs ?_)];show _w _ _ (pure (Prod.mk (d) (Prod.mk (Value.ref a) (8 dflt)))) _ _ s;erw[_p ?_];show _w _ _ (if (d==sysModules)=_t then _ else (dictSetDefault d (3 a) dflt >>= _)) _ _ s;rw[_i (by rw[g];rwa[xK])];rwa[_b (iW h b c (λp b=>_p (p.2,3,e p b)) (λe h' b c=>_p (dflt,3,f e h' b c)) i)])
end
section
variable{X:Cx}{B:List (jY×Obj)}{Y:St}{H:Hp}{s:jW}{a b:jY}{z:V}{r:jX}{U:List (List ZV×V)}{k:List ZV}{A:kD}{E:jQ}
def gC{Q:jQ}(f:A.units+1<cLine)(I:ZD X B Y H s)(e:H a=8 (.dT U))(h:H b=8 (7 (k.map kV)))(g:U.9<_z)(w:ZH z r)(j:∀v,Z2 U k=8 v->∀d c,ZD X B Y H c->ZH v d->Q d c)(l:Z2 U k=_n->∀c,ZD X B Y (upd H a (.dT (Z9 U k z))) c->Q r c):_w (_m X.prog X.w) A (call (.builtin "dict.setdefault") [3 a,3 b,r]) Q E s:=by
 let(g,i,L,c,d):=Hu I.og e;let m:L.9<=sizeLine:=by rw[<- m9 c];rwa[g]
 let g:(Z9 U k z).9<=sizeLine:=by have:=Ug U k z;lia
 erw[call_meetsIn PySem.F.slot_dict_setdefault d.typeIs PySem.F.entry_dict_setdefault (PySem.F.args_dict_setdefault_3 _ _ _) (OP (tupleKind (Wu X.prog X.w)) a b i r) (tupleKind_room_in1 f,k,L,B6 I.og h,d,m,λp d=>?_,λm n f u=>?_)]
 .let q:=c.val k;rw[d,wR] at q;cases d:Z2 U k with
  | none=>rw[d] at q;ext q
  | some v=>rw[d] at q;rwa[j v d _ _ (I.tok _) q]
 .let q:=c.val k;rw[m,Option.map_none] at q;let d:Z2 U k=none:=by
   cases d:Z2 U k with
   | none=>rfl
   | some v=>rw[d] at q;rwa[(show False from q).elim]
  erw[l d _ ?_];let(q,t,p,j,l,m,n,2,o):=f;erw[Dr I (by rw[e];rwa[True.intro]) u (q,j) (g,i,2,(c.put k h w).keeps λc f d=>?_,q,t,p,j,l,m,n,o)];rw[Ze (KQ d e (λz=>nomatch z))];rwa[d]
end
inductive Jh(d c:TE)(Y:St)(Q:VK)(x:V)(b:Hp):Prop
 |mk(a)(_:x=3 a)(_:EG b a)(_:d Y b λy b=>c Y b λz c=>∃U k b,c a=8 (.dT U)/\y=3 b/\c b=8 (7 (k.map kV))/\U.9<_z/\(∀v,Z2 U k=8 v->Q v c)/\(Z2 U k=_n->Q z (upd c a (.dT (Z9 U k z)))))
def HN(a c b:TE):TE:=λY H Q=>a Y H λx a=>Jh c b Y Q x a
section
variable{n:Nat}
def OB(P:X.A.units+1<cLine)(Z:PE X o td)(T:PE X e ty)(R:PE X f tx)(m:M2 X o "setdefault" apos e f cpos):PE X (.Call (.Attribute o "setdefault" apos) [e,f] [] cpos) (HN td ty tx):=by
 intro B s Y H Q I h;erw[wpAny_Call_method m.base m.few m.line PySem.F.plainAttrs_dict PySem.F.slot_dict_setdefault PySem.F.type_dict_setdefault (thn (Z B s Y H _ I h) λu N ⟨x,W,Z,O,a,U,d,Q⟩=>?_)];subst U;obtain rfl:u=Value.ref a:=O;let(U,O,2):=Iv Z d;erw[U,O,5];rw[m.trees];erw[mn S (mr (mv (thn (T B N Y W _ Z Q) λO T ⟨y,Z,W,L,U⟩=> mv (thn (R B T Y Z _ W U) λJ I ⟨z,K,Z,W,U,k,b,Y,R,T,Q,N,M⟩=>mw ?_))))];subst R;obtain rfl:O=Value.ref b:=L;rwa[gC P Z Y T Q W (λv U R T Z Y=>(22,Z,Y,N v U)) λY T Z=>(22,Z,W,M Y)]
def Sm(d:ZL n X.A)(c:QE X o td)(a:QE X e ty)(b:QE X f tx)(m:M2 X o "setdefault" apos e f cpos:=by rwa[7337]):QE X (.Call (.Attribute o "setdefault" apos) [e,f] [] cpos) (HN td ty tx):=(⟨OB (by have:=d.units;lia) c.h a.h b.h m⟩)
def Kh(d:ZL n X.A)(c:QE X o td)(a:QE X e ty)(b:QE X f tx)(m:autoParam (M2 X o "get" apos e f cpos) Sm._auto_1):QE X (.Call (.Attribute o "get" apos) [e,f] [] cpos) (LS td ty tx):=(⟨XJ (by have:=d.units;lia) c.h a.h b.h m⟩)
end
def Dt(K:uFg)(l:jY):It :=
 (λi H=>∃L,ZG K H l L/\i<L.9,λi H v J=>∃p a,v=3 p/\H p=_n/\J=upd H p (7 [4 i,a])/\∀L,ZG K H l L->L[i]?=8 a,
  λi H=>∃L,ZG K H l L/\L.9<=i)
def SH{P:jZ}{w:kB}{K:uFg}{C:List Expr}{ek:Nat}{F:Pos}{e it l:jY}(R:e≠it)(a6:l≠e)(a7:l≠it) :
  VL P w K (.Tuple C ek F) (Dt K l) [e,it] e (λi h=>(∃f,IsEnum h e it i f)/\h.IsListIter it l i) where
 mem:=by simp
 obj:=λi h st b hb=>by
  let((f,j),(o,Z,a,hd)):=st;simp only[xE,xV,or_false] at hb;rcases hb with rfl | rfl
  .rwa[2,j,λv q=>by ext q]
  .grind
 keep:=λi h y st k=>by
  let((f,j),g):=st;rwa[(f,k e (by simp) _ j),g.at λo x=>k it (by simp) o x]
 item:=by
  intro X hP hw hK a i B s Y H E I r st hg;subst hP hw hK;let((f,j),g):=st;let(L,q1,hx):=hg;let(a1,r1,w1,2):=I.list q1;let gx:L[i]?=8 L[i]:=xB hx;let(u1,a0,a3):=r1.get gx;erw[wpAny_pyNext_enum_item j g w1.isList (by simpa using a0) R λy Z T hT a8 kp=>?_];erw[15];let z:H s.8=none:=I.og.fresh (xD _);let t:∀c o,s.heap.get? c=8 o->c≠s.8:=λc o e=>yF (xO e);let p:∀c o,c ∉ [e,it]->s.heap.get? c=8 o->y.get? c=8 o:=λc o a e=>kp c o (λq=>a (by simp[q])) (λq=>a (by simp[q])) e;let U:∀c u,H c=8 u->c ∉ [e,it]:=λc u e a=>by
   have:=(r c a).1;rw[this] at e;ext e
  let I1:ZD X B Y (upd H s.heap.objs.size (7 [4 i,L[i]])) {s with heap:=y,toks:=s.toks+1 }:=by
   refine I.step (g':=s.gens) (d':=s.drawn) (t':=s.toks+1) (ch:=[e,it]) (λc a=>?_) (λc o _ _ a e _=>p c o a e) (λc o _ _ a e _=>(o.slots,p c o a e)) (λc o a e n=>by rw[Ze (t c o e)];rwa[n])
    (λc o a e=>(o,p c o a e)) (λc us e=>by rw[Ze (Zl e z)];rwa[e]) (λc o u e=>by rw[Ze (Zl e z)];rwa[e]) (λc ps e=>(#[],by rw[Ze (Zl e z),e];simp)) (λm hm=>?_) ?_ I.bare
   .let(W,G,f2,J,M,N):=r c a;rwa[J,G,M,N]
   .erw[hm.at λo e=>p _ o (λa=>?_) e];rwa[(r _ a).2.1 S]
   .intro c u e
    by_cases O:c=s.8
    .subst O;rw[Zi] at e;ext e;rwa[aB S,[4 i s.toks,u1],.cons (s.toks,3) (.cons a3 .nil),(2,hT,31)]
    .rw[Ze O] at e;refine(I.og c u e).oP (λd v hd q=>p d v ?_ q) (λd q=>by rw[Ze (Zl q z)];rwa[q]) λd us q=>by rw[Ze (Zl q z)];rwa[q]
     rcases hd with rfl | hd
     .rwa[U _ u e]
     .rwa[U _ _ hd]
  erw[wpAny_letOwnedTupleGo_enum (s:={s with heap:=y,toks:=s.toks+1 }) Z λh2 z2 e2=>?_];let(W,G,f2,J,M,N):=r e (by simp);let nz:e≠s.8:=t e _ j;let I2:ZD X B Y (upd H s.heap.objs.size (7 [4 i,L[i]])) {s with heap:=h2,toks:=s.toks+1 }:=I1.turned (s:={s with heap:=y,toks:=s.toks+1 }) (it:=e) (t':=s.toks+1) (λc o a e=>(e2.2 c a).trans e) (by rw[Ze nz];rwa[W]) G J M N;let a4:IsEnum h2 e it ((i+1:Nat):Int) u1:=by grind
  erw[3 s.8,2,I2,3,(s.8,L[i],3,z,3,λa9 a2=>?_),((2,a4),T.at λo x=>(e2.2 it R.6).trans x),λc a=>?_]
  .rw[I.oq a2 q1];rwa[gx]
  .obtain⟨o,Z⟩:∃o,s.heap.get? c=8 o:=by
    simp only[xE,xV,or_false] at a;rcases a with rfl | rfl
    .rwa[2,j]
    .let(o,x,2):=g;rwa[o,x]
   rw[Ze (t c o Z)];rwa[(r c a).1]
 done:=by
  intro X hP hw hK a i B s Y H E I r st hg;subst hP hw hK;let((f,j),g):=st;let(L,q1,a5):=hg;let(a1,r1,w1,2):=I.list q1;erw[wpAny_pyNext_enum_end (I.ok.hd a) j g w1.isList (by let e1:=r1.9;simp;lia) λy kp=>(3,5)];let(W,G,f2,J,M,N):=r it (by simp);rwa[I.turned (it:=it) (t':=s.toks) (λc o a e=>kp c o a e) W G J M N]
 self:=λA i s Q E st h=>by
  let((f,j),2):=st;rwa[wpAny_pyIter_enum j h]
inductive AZ(K:uFg)(R:It->Hp->Prop)(vs:aG)(a:Hp):Prop
 |mk(l L)(_:vs=[3 l])(_:ZG K a l L)(_:R (Dt K l) a)
def Ph(K:uFg)(a:TA):TI:=λY H R=>a Y H λb a=>AZ K R b a
def Qb:_o "enumerate"=8 (.type "enumerate"):=(aA)
def HF{X:Cx}{a:Expr}{f:TA}{p pos:Pos}{b:List Expr}{g:Nat}{c:Pos}(i:X.mg "enumerate"=none)(d:QA X [a] f)(e:autoParam (nB X "enumerate" .globalImplicit) y2z)(hs:autoParam (starEach [a] X.env=[(Prod.mk (false) (eval a X.env))]) y1z) :
  QI X (.Tuple b g c) (.Call (.Name "enumerate" p) [a] [] pos) (Ph X.K f):=(⟨by
 have e:=(od e).1;have d:=d.h;intro B s Y H R I h;refine Call_ (Ui I e i Qb (callWith_type1 (thn (d pos B s Y H _ I h) λe d ⟨g,i,f,c,b⟩=>?_) hs rfl));obtain⟨l,L,e,g,q⟩:=b;subst e;obtain⟨j,rfl,b⟩:=Ju c;cases b;obtain⟨j,c,b,_⟩:=f.list g;have c:l<d.heap.objs.size:=by obtain⟨o,n,e,_⟩:=b;exact xO e
 refine call_enumerate_list b.isList λj g e _ kp=>?_;refine wpAny_pyIter_enum g ?_;have b : @LT.lt Nat _ l d.heap.objs.size:=c;have c:∀(a b:Nat),(a<b\/b<a)->¬(@Eq Nat a b):=λa b h q=>by lia
 refine⟨d.heap.objs.size+1,_,_,_,i,rfl,f.kept (h':=j) (t':=d.toks) kp,SH (it:=d.heap.objs.size) (l:=l) (c _ _ (by lia)) (c _ _ (by lia)) (c _ _ (by lia)),⟨⟨_,g⟩,e⟩,λc b=>?_,q⟩;have b:d.heap.objs.size<=c:=by grind
 exact f.ix b (f.og.fresh b)⟩)
def fZ{K:uFg}{l:jY}{g:TG}{b:TS}{D:YG}{Y:St}{H:Hp}(L:aG)(Pv:Nat->St->Hp->Prop)(d:Pv 0 Y H)(e:∀i Y H,i<=L.9->Pv i Y H->ZG K H l L)(hs:∀i x p Y H,L[i]?=8 x->Pv i Y H->H p=_n->g (3 p) Y (upd H p (7 [4 i,x])) λa c=>b {D with nx:=Pv (i+1),ct:=Pv (i+1),bk:=D.nx } a c)(f:∀ Y H,Pv L.length Y H->D.nx Y H):AY (Dt K l) g b D Y H:=by
 erw[λi m Y H=>m=L.9 - i/\i<=L.9/\Pv i Y H,(L.9,by simp,yI _,d),5];rintro i m Y H ⟨rfl,a,p⟩;let b:=e i Y H a p
 by_cases a:i<L.9
 .erw[2 ((L,b,a),Pv (i+1),λd J c=>(L.9 - (i+1),63,a,c),λv J y=>?_)];let(e,a,3,c,3,d):=y;rwa[hs i a e Y H (d L b) p c]
 .let e:i=L.9:=by lia
  subst e;rwa[1 ((L,b,xD _),f Y H p)]
structure ZU (K:uFg) (C:jY) (m qual:Str) (st:Stmt):Prop where
 ex:∃(f:jY)(fd:FuncData),Ti K m qual st f fd/\Tz K C m f
structure Mt (P:jZ) (w:kB) (K:uFg) (mg:jR) (base:Heap) (C:jY) (m:Str) (ps:jS) (k:Nat) (sp:Sp):Prop where
 ex:∃(f:jY)(fd:FuncData),Tz K C m f/\YD P w K mg base YV k f fd ps sp/\YR K fd ps []
section
variable{P:jZ}{w:kB}{K:uFg}{mg:jR}{Z:Heap}{C:jY}{m qual:Str}{st:Stmt}{N ps:jS}{k:Nat}{sp:Sp}
def ZU.mtQ(h:ZU K C m qual st)(S:ZK N ps (Zj st))(d:∀ (kV doc pm:jX) (an:Option jY) (cdv ct:jX) (us:jT),us.9=ps.9->bindArgs (fnOf m qual (Wy st) (Yu st) (Zj st) .none kV doc pm an cdv ct) (us,[])=pure (ps.zip us))(b:∀vs H Q E,sp vs H Q E->vs.9=ps.9)(a:∀ (f:jY) (cdv:jX) (A:kD) (outer:List Env) (s:jW) (H:Hp) (vs:aG) (Q:VK) (E:XK),ZL k (A.deeper (envOfC qual (Zj st) s.heap.objs.size f cdv))->sp vs H Q E -> ∃t,WY (Yq YV P w K mg Z N qual (Zj st) f cdv A outer s H E).oE (Yu st) t/\t {nx:=λ_ J=>Q .non J,rt:=Q } (start N vs) H):10 Mt C m ps (k+1) sp:=by
 let(f,c,F,M):=h.ex;rwa[f,c,M,F.okQ S b (a f),F.binds d]
def ZU.mq(h:ZU K C m qual st)(N:jS)(a:∀{f:jY}{cdv:jX}{A:kD}{outer:List Env}{s:jW}(H:Hp) (vs:aG) (Q:VK) (E:XK),ZL k (A.deeper (envOfC qual (Zj st) s.heap.objs.size f cdv))->sp vs H Q E->vs.9=ps.9/\∃t,WY (Yq YV P w K mg Z N qual (Zj st) f cdv A outer s H E).oE (Yu st) t/\t {nx:=λ_ J=>Q .non J,rt:=Q } (start N vs) H)(S:autoParam (ZK N ps (Zj st)) YB.fq._auto_1)(c:autoParam (k<=60) y3z)(b:autoParam (∀ (kV doc pm:jX) (an:Option jY) (cdv ct:jX) (us:jT),us.9=ps.9->bindArgs (fnOf m qual (Wy st) (Yu st) (Zj st) .none kV doc pm an cdv ct) (us,[])=pure (ps.zip us)) YB.fq._auto_2):10 Mt C m ps (k+1) sp:=(h.mtQ S b (λvs H Q E h=>(a (f:=0) (cdv:=.none) (A:={}) (outer:=[]) (s:={}) H vs Q E (DD c) h).1) λ_ _ _ _ _ H vs Q E b q=>(a H vs Q E b q).2)
def RJ{f:jY}{oc:jX}{od an:Option jY}{osl:Array (Option jX)}{kV doc pm cdv ct:jX}(a:PySem.W.findIn K (3 C) m=8 (8 (3 f)))(i:isFn K (3 f)=_t)(l:K.lookup f=8 (oc,od,.func (fnOf m qual (Wy st) (Yu st) (Zj st) .none kV doc pm an cdv ct),osl))(c:codeIn K cdv qual=_t)(kp:keepIn K (3 f)=_t):ZU K C m qual st:=((f,2,FG l c kp,(a,i,kp)))
def hMQ(C:jY)(m qual:Str)(st:Stmt)(f c:jY)(pm:jX)(e:autoParam (PySem.W.findIn K (3 C) m=8 (8 (3 f))/\isFn K (3 f)=_t/\K.lookup f=8 (.type "function", _n,.func (fnOf m qual (Wy st) (Yu st) (Zj st) .none .none .none pm _n (3 c) .none),#[])/\codeIn K (3 c) qual=_t/\keepIn K (3 f)=true) hQ._auto_1):ZU K C m qual st:=(RJ e.1 e.2.1 e.2.2.1 e.2.2.2.1 e.2.2.2.2)
structure Ds (P:jZ) (w:kB) (K:uFg) (mg:jR) (base:Heap) (C:jY) (x:Str) (k:Nat) (sp:Sp):Prop where
 ex:∃(f:jY)(fd:FuncData),Mk K C f/\YD P w K mg base YV k f fd ["self"] sp/\YR K fd ["self"] []/\mg x=8 (3 C)
def Mt.mks(h:10 Mt C "__init__" ["self"] k sp)(mk:makesIn K C=_t)(b:keepIn K (3 C)=_t)(g:mg x=8 (3 C)):10 Ds C x k sp:=by
 let(f,a,M,F,B):=h.ex;rwa[f,a,(mk,M.at_,M.fn,b),F,B,g]
end
section
variable{X:Cx}{C:jY}{m x f:Str}{ps:jS}{k:Nat}{sp:Sp}{o e i:Expr}{es:List Expr}{ta:TE}{t:TA}{apos pos p:Pos}
def Ve{pl:Sem Bool}(h:QE X o ta)(c:UK X.K C)(M:Mt X.prog X.w X.K X.mg X.base C m ps k sp)(g:QA X (e::es) t)(j:autoParam (ZL k X.A) Zm._auto_1)(b:autoParam (sEq X e es) y1z)(a:autoParam (sFq X pos es) y1z)(l:autoParam (eval (.Call (.Attribute o m apos) (e::es) [] pos) X.env=(do
   let d <- eval o X.env
   standAt apos.atName
   let (f,first) <- holding [d] (getMethod d m pl)
   callWith pos f first (backTo pos (_e (e::es) X.env)) (backToKw pos (keywordEach [] X.env)))) y1z) :
  QE X (.Call (.Attribute o m apos) (e::es) [] pos) (En C m sp [] E0 ta t):=by
 let(f,d,M,F,B):=M.ex;rwa[⟨iG h.h c M F j B .nil E2 g.h b a l⟩]
def XN{pl:Sem Bool}(b:QE X o ta)(c:UK X.K C)(M:Mt X.prog X.w X.K X.mg X.base C m ps k sp)(d:autoParam (ZL k X.A) Zm._auto_1)(g:autoParam (eval (.Call (.Attribute o m apos) [] [] pos) X.env=(do
   let a <- eval o X.env
   standAt apos.atName
   let (f,first) <- holding [a] (getMethod a m pl)
   callWith pos f first (backTo pos (_e [] X.env)) (backToKw pos (keywordEach [] X.env)))) y1z) :
  QE X (.Call (.Attribute o m apos) [] [] pos) (En C m sp [] E0 ta V3):=by
 let(f,a,M,F,B):=M.ex;rwa[⟨RK b.h c M F d B .nil E2 g⟩]
def KC(M:Ds X.prog X.w X.K X.mg X.base C x k sp)(a:autoParam (ZL (k+1) X.A) Zm._auto_1)(n:autoParam (nB X x .globalImplicit) y2z):QE X (.Call (.Name x p) [] [] pos) (Hr C sp [] E0 V3):=by
 let(f,b,M,F,B,g):=M.ex;rwa[⟨RI M F a (od n).1 g B .nil E2 (od n).2.1⟩]
def Z0(b:QE X e ta)(a:autoParam (attributeBase e f X.env (eval e X.env)=eval e X.env) y1z):QE X (.Attribute e f pos) (FJ X.K ta f):=(⟨Kj b.h a⟩)
def Uc(a:QE X o ta)(b:QE X value tv)(hs:autoParam (swapsWith value (8 (.Attribute o f pos')) pos.line X.env=pure false) y1z):QS X (.Assign [.Attribute o f pos'] value pos) (gJ X.K ta tv f):=(⟨by
 let a:=a.h;let b:=b.h;intro B s Y H D I h;erw[plainObj_wpAny_Assign_Attribute (thn (b B s Y H _ I h) λu d ⟨y,b,c,s,q⟩=>thn (a B d Y b _ c q) λh y ⟨x,u,b,r,a,C,v,w,g,d,c,n,l,j⟩=>?_) hs];subst g;obtain rfl:h=Value.ref a:=r
 rwa[cJ b d c n l s λb a=>(Y,2,a,j)]⟩)
def BF:QE X (.Dict [] [] pos) OY:=(⟨λB s Y H Q I h => wpAny_Dict_empty (3 s.8,2,I.laid (a:=s.8) (o:=.dK []) (t':=s.toks) (λ_ _ q=>xC _ q) (xD _) (IY s.heap I.big),7,h _ (I.og.fresh (xD _)))⟩)
def AS(c:ZL k X.A)(b:QE X o td)(a:QE X i ty)(hs:Fw i):QE X (.Subscript o i pos) (Kb td ty):=(⟨cY (by have:=c.units;lia) b.h a.h hs⟩)
def iL(a:QE X ek tk)(b:QE X ev tw):QE X (.Dict [8 ek] [ev] pos) (MR [(tk,tw)]):=(⟨eJ (bB a.h b.h gP) rfl rfl (by simp) (by show 1<=15;decide)⟩)
inductive Dd(L:aG)(H:Hp)(Q:VK):Prop
 |mk(a U)(_:L=[V.ref a])(_:H a=8 (.dK U))(_:Q (4 U.9) H)
def NG:QC X (.builtin "len") Dd:=(.imp ⟨RS⟩ λ_ _ _ ⟨p,y,a,b,k⟩=>(p,y,a,b,k))
end
def GO(b:QE (ccx X scope cl C N' s0 H0 ex pn) e ta)(a:autoParam (attributeBase e f (ccx X scope cl C N' s0 H0 ex pn).env (eval e (ccx X scope cl C N' s0 H0 ex pn).env)=eval e (ccx X scope cl C N' s0 H0 ex pn).env) y1z):QE (ccx X scope cl C N' s0 H0 ex pn) (.Attribute e f pos) (FJ X.K ta f):=(⟨Kj (X:=ccx X scope cl C N' s0 H0 ex pn) b.h a⟩)
def stS(r:jS)(x:Str):List Str:=if r.any (· == x) then r else r ++ [x]
def fmS(val:Nat->Str):Nat->List Str
 | 0=>[]
 | i+1=>stS (fmS val i) (val i)
theorem Ge(val:Nat->Str):∀i,(fmS val i).9<=i
 | 0=>xD _
 | i+1=>by
  let a:=Ge val i;unfold fmS stS;split
  .lia
  .grind
def gQ(r:jS)(v k:Str):(stS r v).any (· == k)=(r.any (· == k) || decide (k=v)):=by
 unfold stS
 by_cases h:r.any (· == v)=_t
 .grind
 .grind
def NW(r:jS)(v:Str):(stS r v).9=if r.any (· == v) then r.9 else r.9+1:=by
 unfold stS;split<;>simp
section
variable{prog:jZ}{w:kB}{A:kD}{R:Result->jW->Prop}{I:jY}{fp wr:jV}{G:Array GenState->Array GenState->Prop}{n:Nat}{P:Nat->jX->Prop}{St:Nat->jW->Prop}
def O9(W:WalksS prog w A.in1 I fp wr G n P St)(S:jY)(j:S∉fp)(val:Nat->Str)(u:∀i v,P i v->∃t,v=5 (val i) t)(g:n+1<scanBound) :
  ∀(k i:Nat)(s:jW),n - i=k->i<=n->St i s->s.heap.SetOf (strKind prog w) S (λe=>(fmS val i).any (· == e)) (fmS val i).9 ->
   (∀a,Moved (S::wr) G s a->a.heap.SetOf (strKind prog w) S (λe=>(fmS val n).any (· == e)) (fmS val n).9->R (.ok (.ret .none)) a)->
   codeAny (_m prog w) A (.builtin "set.update.loop" ([3 S,3 I],[])) R s:=by
 let l:S∉wr:=λh=>j (W.sub _ h);let d:∀b∈wr,b∈S::wr:=λb g=>xP _ g;intro k
 induction k with
 | zero =>
  intro i s r m f B z;let c:i=n:=by lia
  subst c;erw[codeAny_builtin F.entry_set_update_loop ?_];rw[mG mH _];show _w _ A.in1 (pyNext (3 I) >>= _) _ _ s;erw[_b (W.done s _ _ f λa p=>?_)];show _w _ A.in1 (ret Value.none) _ _ a
  exact _p (z a (p.mono d) (by
   let(o,y,x,t,C,c):=B
   rwa[o,y,x,t,p.heap S _ l C,c]))
 | succ k E =>
  intro i s r m f B z;let m:i<n:=by lia
  erw[codeAny_builtin F.entry_set_update_loop ?_];rw[mG mH _];show _w _ A.in1 (pyNext (3 I) >>= _) _ _ s;erw[_b (W.item i s _ _ m f λv a f r p=>?_)];let(t,7):=u i v f;let f:a.heap.SetOf (strKind prog w) S (λe=>(fmS val i).any (· == e)) (fmS val i).9:=by
   let(o,y,x,u,C,c):=B;rwa[o,y,x,u,p.heap S _ l C,c]
  show _w _ A.in1 (holding [Value.str (val i) t] (setAdd S (5 (val i) t)) >>= _) _ _ a;erw[_b (wpAny_holding ?_)];unfold setAdd;erw[wpAny_holding ?_];erw[_b ((strKind prog w).pyHash (k:=val i) (strKind_is _ _ _ _) ?_)];let c:(fmS val i).9+1<scanBound:=by have:=Ge val i;lia
  erw[wpAny_setAddHashed_of (knd:=strKind prog w) (s:={a with toks:=a.toks+1 }) (strKind_is _ _ _ _) rfl f c λt f c=>?_];let l:t.SetOf (strKind prog w) S (λe=>(fmS val (i+1)).any (· == e)) (fmS val (i+1)).9:=SetOf_congr c (λe=>(gQ _ _ _).6) (NW _ _).6;erw[_p (plainId_quiet mH _,E (i+1) _ () m (W.frame _ a _ _ r (me _) λb g o e=>?_) l λl c a=>?_)]
  .rw[f.2 b (λh:b=S=>j (by rw[<- h];rwa[g]))];rwa[e]
  .erw[z l (Moved.trans W.gtrans ((p.mono d).then_heap (me _) λb o g e=>?_) c) a];rw[f.2 b (λh:b=S=>g (by rw[h];rwa[yC]))];rwa[e]
end
section
variable{prog:jZ}{w:kB}{A:kD}{E:jQ}{s:jW}
def Rl{l:jY}{items:Array jX}{val:Nat->Str}{Q:jQ}(B:A.handled=_n)(u:s.heap.IsList l items)(m:∀ (i:Nat) (v:jX),items[i]?=8 v->∃t,v=5 (val i) t)(p:items.5+1<scanBound)(h:∀ (h':Heap) (tk:Nat),h'.SetOf (strKind prog w) s.heap.objs.size (λf=>(fmS val items.5).any (· == f)) (fmS val items.5).9 -> (∀b o,b<s.8->s.heap.get? b=8 o->h'.get? b=8 o)->Q (3 s.8) {s with heap:=h',toks:=tk }) :
  _w (_m prog w) A (call (.type "set") [3 l]) Q E s:=by
 let(c,d,a):=F.called_set.mro;let a:=F.called_set.made;let a:=F.called_set.sub;erw[wpAny_call (codeAny_of_tree ?_)];show _w _ _ (callAny (.type "set") _) _ _ _;erw[_p (Code.quiet_builtin _ aA,codeAny_builtin F.entry_type_call ?_)];rw[Around.under_plain (weight_type_call_type "set" [3 l] []) S];let a:=F.called_set.notType;let a:=F.called_set.canCreate;let a:=F.typeCall_set_1 (3 l)
 repeat (any_goals (first | assumption | wp_step))
 erw[codeAny_mono (code_set_new_1 (3 l) (E:=E) (Q₁:=λd c=>∃a:Bool,d=3 s.8/\c={s with heap:=s.heap.push {cls:=.type "set", dict:=_n,data:=.set #[] 0 (.fresh 0 0 a) } }) λa=>(a,33)) λr c t=>?_];cases r with
 | error e=>rwa[t]
 | ok c =>
  cases c with
  | ret d =>
   let(a,33):=t;let x:(s.heap.push {cls:=.type "set", dict:=_n,data:=.set #[] 0 (.fresh 0 0 a) }).get? s.8=_s {cls:=.type "set", dict:=_n,data:=.set #[] 0 (.fresh 0 0 a) }:=xN _ S;let c:Shared.TypeIs {s with heap:=s.heap.push {cls:=.type "set", dict:=_n,data:=.set #[] 0 (.fresh 0 0 a) } } (3 s.8) "set" := (2,x,3);let d:=F.called_set.init.lookup;let d:=F.called_set.init.bind (3 s.8)
   repeat (any_goals (first | assumption | wp_step))
   erw[codeAny_mono (codeAny_call_builtin (R:=wants (λr d=>r=.none/\∃h' tk,d={s with heap:=h',toks:=tk }/\h'.SetOf (strKind prog w) s.heap.objs.size (λf=>(fmS val items.5).any (· == f)) (fmS val items.5).9 /\ (∀b o,b<s.8->s.heap.get? b=8 o->h'.get? b=8 o)) E) F.called_set.init.plain F.entry_set_init (check_set_init_1 c ?_)) λn d c=>?_]
   .let(C,k,g,y,j):=u;let(z,f,u,d):=C;simp only at g j;subst g;subst j;let g:(s.heap.push {cls:=.type "set", dict:=_n,data:=.set #[] 0 (.fresh 0 0 a) }).get? l=_s {cls:=.type "list", dict:=f,data:=.seq items y,slots:=d }:=xC _ k;let d:=F.sub_list_set;let d:=F.sub_list_frozenset;let d:(Value.type "list"==Value.type "dict")=false:=by decide
    let d:(s.heap.push {cls:=.type "set", dict:=_n,data:=.set #[] 0 (.fresh 0 0 a) }).IsList l items:=(2,g,3,y,3);unfold Builtin.«set.__init__» noKeywords Builtin.Frozenset.updateFrom;generalize f:pyIter=PI
    wp_walk
    subst f;erw[wpAny_pyIter_list d ?_];erw[_b (wpAny_runValue ?_)];let f:l<s.8:=xO k;let k:A.in1.in1.in1.handled=none:=by simp[B]
    let g:l≠(s.heap.push {cls:=.type "set", dict:=_n,data:=.set #[] 0 (.fresh 0 0 a) }).7:=by
     rw[zG];rwa[yF (wI f)]
    let j:s.8 ∉ [(s.heap.push {cls:=.type "set", dict:=_n,data:=.set #[] 0 (.fresh 0 0 a) }).7,l]:=by
     rw[zG];simp only[xE,xU,xV,or_false,not_or];rwa[yF (md _),wW f]
    erw[O9 ((Walks.list k _ l g items).toS) s.heap.objs.size j val m p (items.5 - 0) 0 _ () (yI _) ((2,xN _ S,33),(d.push _)) ?hS0 ?hR]
    case hS0 =>
     let d:((s.heap.push {cls:=.type "set", dict:=_n,data:=.set #[] 0 (.fresh 0 0 a) }).push {cls:=.type "list_iterator", data:=.fields #[3 l,4 0 0] }).get? s.8
       = _s {cls:=.type "set", dict:=_n,data:=.set #[] 0 (.fresh 0 0 a) }:=xC _ x
     rwa[SetOf_congr ((setObjOf_fresh (knd:=strKind prog w) a).setOf d (by unfold scanBound;lia)) (λ_=>rfl) S]
    case hR =>
     intro u f d;let(h',m,k,j,g):=u;let u:m=s.gens:=f.gens;let m:k=s.drawn:=f.drawn;let k:g=s.os:=f.os;subst u;subst m;subst k;show _w _ _ _ _ _ _;erw[_p ?_];show _w _ _ (ret Value.none) _ _ _;erw[_p (3,h',j,3,d,λb o p e=>?_)];let g:b≠s.8:=yF p;let j:b≠(s.heap.push {cls:=.type "set", dict:=_n,data:=.set #[] 0 (.fresh 0 0 a) }).7:=by
      rw[zG];rwa[yF (wI p)]
     rwa[f.heap b o (by simp only[xE,xU,xV,or_false,not_or];rwa[g,j]) (xC _ (xC _ e))]
   .cases n with
    | error e=>rwa[c]
    | ok a =>
     cases a with
     | ret r =>
      let(3,h',tk,3,d,a):=c
      repeat (any_goals (first | assumption | wp_step))
      rwa[h _ _ d a]
     | _=>rwa[c.elim]
  | _=>rwa[t.elim]
end
def Gb(L:jS):Nat:=(L.foldl stS []).9
theorem MI(L:jS):∀n,n<=L.9->fmS (λi=>L.getD i "") n=(L.take n).foldl stS []
 | 0,_=>rfl
 | n+1,h=>by
  show stS (fmS _ n) _=_;rw[MI L n (),List.take_succ_eq_append_getElem (),zB];show stS _ (L.getD n "")=stS _ (L[n]);rw[xR,xB ()];rfl
inductive Jx(K:uFg)(Q:VK)(vs:aG)(a:Hp):Prop
 |mk(l) (L)(_:vs=[3 l])(_:ZG K a l (L.map V.str))(_:L.9<=1000)(_:Q (4 (Gb L)) a)
def gF(K:uFg)(a:TA):TE:=λY H Q=>a Y H λb a=>Jx K Q b a
def XC{a:Expr}{h:TA}{p q pos e:Pos}(w:X.calm=true)(g:X.mg "len"=none)(i:X.mg "set"=none)(f:QA X [a] h)(b:autoParam (nB X "len" .globalImplicit) y2z)(c:autoParam (nB X "set" .globalImplicit) y2z)(hs:autoParam (starEach [a] X.env=[(Prod.mk (false) (eval a X.env))]) y1z)(d:autoParam (starEach [.Call (.Name "set" p) [a] [] pos] X.env=[(Prod.mk (false) (eval (.Call (.Name "set" p) [a] [] pos) X.env))]) y1z) :
  QE X (.Call (.Name "len" q) [.Call (.Name "set" p) [a] [] pos] [] e) (gF X.K h):=(⟨by
 have b:=(od b);have c:=(od c);have f:=f.h;intro B s Y H Q I h;refine wpAny_Call_Name_kw (Ui I b.1 g (show bootBuiltins "len"=some (.builtin "len") by decide +kernel) ?_ b.2.2.2 b.2.1);refine callWith_builtin1 ?_ d rfl;rw[d];refine mv ?_;refine wpAny_Call_Name_kw (Ui I c.1 i (show bootBuiltins "set"=some (.type "set") by decide +kernel) (callWith_type1 (thn (f pos B s Y H _ I h) λi k ⟨j,h,g,b,l,L,e,d,f,y⟩=>?_) hs rfl) c.2.2.2 c.2.1);subst e;cases b with
 | cons r b =>
  cases b;obtain rfl:=r;obtain⟨b,r,f,c⟩:=g.list d;have c:b.length=L.length:=by rw[<- r.length,xA]
  obtain⟨o,n,l,m,d,s⟩:=f;have f:∀(i:Nat)(v:jX),b.toArray[i]?=some v->∃t,v=5 (L.getD i "") t:=λi v d=>by
   rw[<- Array.getElem?_toList] at d;have j:i<b.length:=by have:=(xF.mp d).1;simpa using this
   obtain⟨u,j,t,z⟩:=r.get (i:=i) (x:=5 (L.getD i "")) (by rw[xG,xB (by lia),xR,xB (by lia)];rfl);have d:b[i]?=some v:=d;rw[d] at j;cases j;exact⟨t,z⟩
  have d:b.toArray.size=L.length:=by rw[xW,c]
  refine Rl (items:=b.toArray) (val:=λi=>L.getD i "") (g.ok.hd w) ⟨o,l,m,n,s⟩ f (by unfold scanBound;lia) λj l c f=>?_;rw[d] at c;have m:ZD X B Y h {k with heap:=j,toks:=l }:=g.kept λb u e=>f b u (xO e) e;refine mw ?_;obtain⟨b,o,d⟩:=c.objOf;obtain⟨c,b,r,t,g,_,_,f,n⟩:=d;have d:=Ge (λi=>L.getD i "") L.length;have d:(b.size:Int)<2^63:=Int.lt_of_le_of_lt (show (b.size:Int)<=1000 by lia) aA;refine call_len_set (s:={k with heap:=j,toks:=l }) o c g n d ?_;refine⟨4 b.size,h,m.tok _,⟨_,rfl⟩,?_⟩;have e:b.size=Gb L:=by
   rw[f,MI L L.length (xD _),xZ];rfl
  rw[e]
  exact y⟩)
def IG(d:Heap)(H:Hp)(h:Heap)(a:jY)(vs:Array jX):Prop:=∃T b c e,vs[1]?=8 (3 T)/\T≠a/\h.get? T=8 b/\b.data=.fields c/\c[3]?=8 e/\H T=_n/\d.get? T=_n
def Kk{M:Model}{A:kD}{E:jQ}{s:jW}{Z:Heap}{env:Env}{outer:List Env}{L e:jY}{oe:Obj}{vs:Array jX}{d c:jX}{l:Bool}{Q:Unit->jW->Prop}(fr:A.frames=8 (env::outer))(f:s.heap.FunFrames Z (env::outer))(j:env.frame=8 L)(i:s.heap.get? e=8 oe)(m:Z.StaysIn s.heap)(x:Z.get? e=_n)(de:oe.data=.fields vs)(w:1<vs.5)(n:vs[0]?=8 c)(k:∀h',Heap.NotedW Z (env::outer) e oe.cls c (rawInt L) s.heap h'->(∃g,h'.get? e=8 g/\g.dict=oe.dict)->Q _u {s with heap:=h' }) :
  _w M A (do let a <- frameOf env;let pl <- entryPlaceOf L l;let b <- EntryCells.newEntry d a .none (rawInt L) .none pl;setField (3 e) 1 b) Q E s:=by
 let l:e∉(env::outer).filterMap (·.frame):=λz=>by let(2,o,g,n):=f.mem z;rw[i] at g;ext g;rwa[n vs de]
 erw[_b (wpAny_frameOf_fun fr f j λc g=>_b (wpAny_entryPlaceOf λpl v=>?_))];unfold EntryCells.newEntry newFields;erw[_b (wpAny_newObj_type ?_ (v.sizeOk5 _ _ _ _ _))];let j:c.get? e=8 oe:=(g.2.1 e l).trans i;let t:Z.StaysIn c:=λb o z=>(g.2.1 b λy=>by rw[(f.mem y).1] at z;ext z).trans (m b o z);generalize m:({cls:=.type "traceback", dict:=_n,data:=.fields ([d,3 L,.none,rawInt L,.none]++(if pl.isEmpty then List.replicate 6 Value.none else pl)).4 }:Obj)=d;let u:c.7≠e:=wW (xO j);let p:=xC (h:=c) d j;let l:=mI de (·.setIfInBounds 1 (Value.ref c.7));let r:=wD (Obj.mapFields (·.setIfInBounds 1 (Value.ref c.7))) p (Obj.isFreed_of_fields l);let B:((c.push d).update e (Obj.mapFields (·.setIfInBounds 1 (Value.ref c.7)))).get? c.7=8 d:=(zQ _ _ (Ne.symm u)).trans (xN c (by rw[<- m];rfl));let j:∀b o,b≠e->c.get? b=8 o->((c.push d).update e (Obj.mapFields (·.setIfInBounds 1 (Value.ref c.7)))).get? b=8 o:=λb o n z=>(zQ _ _ (Ne.symm n)).trans (xC _ z);let c:∀b o,s.heap.get? b=8 o->(∀vs,o.data ≠ .fields vs)->b≠e:=λb o z n q=>by rw[q,i] at z;ext z;rwa[n vs de]
 erw[wpAny_setField p de w (k _ (λb o z=>j b o (λq=>by rw[q,x] at z;ext z) (t b o z),f.of_keeps λb o z n=>?_,(22222,r,(Obj.cls_mapFields _ _,5),l,by simp[w],t.fresh,u,B,by rw[<- m],5),λb o z n=>?_) (2,r,5))]
 .let(d,y):=g.2.2 b o z;rwa[2,j b _ (c b o z n) y,7]
 .grind
 .first | (simp;done) | (rcases v with rfl | ⟨_,_,_,_,_,_,_,rfl⟩<;>simp)
 .let(d,y):=g.2.2 b o z;rwa[d,j b _ (c b o z n) y]
 .unfold Obj.mapFields;split<;>rfl
def GN(oe:Obj)(C:jY):Prop:=oe.cls=3 C/\oe.dict=_n
def TB(d:Heap)(H:Hp)(h:Heap)(a C:jY):Prop:=H a=_n/\d.get? a=_n/\∃c b e,h.get? a=8 c/\GN c C/\c.data=.fields b/\b[0]?=8 e/\(b[1]?=8 .none\/IG d H h a b)
def Cw(d:Heap)(H:Hp)(h:Heap)(a C:jY):Prop:=H a=_n/\d.get? a=_n/\∃b c e,h.get? a=8 b/\GN b C/\b.data=.fields c/\c[0]?=8 e/\IG d H h a c
def Cw.at_(x:Cw h0 H h a C):TB h0 H h a C:=(let ⟨p,q,i,j,b,c,d,e,f,g⟩:=x;(p,q,i,j,b,c,d,e,f,2 g))
def Tw(P:jZ)(w:kB):T8:=λb H s E e c=>∃a C J,e=3 a/\c.os=s.os/\AllBare c.gens/\Un (frs b) [] H J s.heap c.heap/\YT P w J c.heap/\TB s.heap J c.heap a C/\E (3 C) _n J
structure Xp (X:Cx) (E:St->XK):Prop where
 h:∀B Y H s a C,ZD X B Y H s->TB X.s₀.heap H s.heap a C->E Y (3 C) _n H->X.xe (3 a) s
def ZQ.ex(x:ZQ P w H h a o):∃u,h.get? a=8 u:=by
 cases o with
 | lst L=>let(2222,e):=x;rwa[2,e]
 | tup L=>let(2222,e,2):=x;rwa[2,e]
 | dK U=>let(2222,o,22,e,2):=x;rwa[2,e]
 | dT U=>let(2222,o,22,e,2):=x;rwa[2,e]
 | set S n=>let(o,222,e,2):=x;rwa[2,e]
 | ins C c b=>let(222,e,2):=x;rwa[2,e]
 | own y=>rwa[x]
 | xd b=>let(2,(222,e,2),2):=x;rwa[2,e]
 | rng lo b=>let(222,e):=x;rwa[2,e]
 | frz b u=>let(e,2):=x;rwa[2,e]
 | tbl b=>let(222,e,2):=x;rwa[2,e]
 | met f y=>rwa[2,x]
 | ext b=>let(2,e,2):=x;rwa[e]
def ZD.stepN{g':Array GenState}{t':Nat}{d':Drawn}{ch:jV}(I:ZD X [] Y H s)(t:X.pn=[])(j:∀b∈ch,X.s₀.heap.get? b=_n/\b≠X.env.locals/\∀x c,X.env.cells.lookup x=8 c->c≠b)(keep:∀b o,b≠X.env.locals->b∉X.fs->b∉ch->s.heap.get? b=8 o->H b=_n->h'.get? b=8 o)(f:∀b o,b≠X.env.locals->b∈X.fs->b∉ch->s.heap.get? b=8 o->H b=_n->∃w,h'.get? b=_s {o with slots:=w })(h:∀b o,b∉ch->s.heap.get? b=8 o->∃u,h'.get? b=8 u)(ns:∀m,s.heap.Ns X.env.locals m->h'.Ns X.env.locals m)(r:YT X.prog X.w H h')(y:AllBare g') :
  ZD X [] Y H {s with heap:=h',gens:=g',drawn:=d',toks:=t' }:=by
 let l:∀b o,X.s₀.heap.get? b=8 o->b≠X.env.locals:=λb o e=>yF (yG (xO e) I.ok.above);let g:∀b o,X.s₀.heap.get? b=8 o->b∉ch:=λb o e i=>by grind
 let a:∀x c,X.env.cells.lookup x=8 c->∀v,s.heap.IsCell c v->h'.IsCell c v:=λx c e v ⟨o,p,n⟩=>by
  let d:c∉ch:=λz=>(j c z).2.2 x c e S
  by_cases j:c∈X.fs
  .let(w,q):=f c o (I.cne x c e) j d p (I.iy x c e);rwa[2,q,n]
  .rwa[o,keep c o (I.cne x c e) j d p (I.iy x c e),n]
 erw[I.ok,I.os,y,(λb o e n i d=>?_,λb o e n i d=>?_,λb o e n d=>I.base.free b o e n d,λb o e d=>?_,I.base.j3,I.base.o6,I.base.oU),5,λx c e=>?_,I.free,I.iy,λp y=>?_,r,I.len]
 .rwa[keep b o (l b o e) i (g b o e) (I.base.keep b o e n i d) (I.base.free b o e n d)]
 .let(w,j):=I.base.slot b o e n i d;let(r,p):=f b _ (l b o e) i (g b o e) j (I.base.free b o e n d);rwa[r,p]
 .let(u,j):=I.base.there b o e d;rwa[h b u (g b o e) j]
 .let(m,d,f):=I.loc;erw[m,ns m d,λi x v j p d=>?_];let(u,r,l):=f i x v j p d;erw[u,r,5];rcases l with l | ⟨k,c,e,z⟩
  .rwa[1 l]
  .rwa[2 (k,c,e,a x c e _ z)]
 .let(v,z):=I.cell x c e;rwa[v,a x c e v z]
 .rw[t] at y;ext y
def ZD.oB(I:ZD X [] Y H s)(a:X.pn=[])(k:∀b∈hs,X.s₀.heap.get? b=_n/\H b=_n/\∃o vs,s.heap.get? b=8 o/\o.data=.fields vs)(st:(hideAll s.heap (hs++frs X.stack)).StaysIn h')(n:∀b o,s.heap.get? b=8 o->(∀vs,o.data ≠ .fields vs)->∃l,h'.get? b=_s {o with slots:=l }):ZD X [] Y H {s with heap:=h' }:=by
 let(m,(g,d,c,f,e,h),2):=id I.loc;let kp:∀b o,b∉hs->b∉frs X.stack->s.heap.get? b=8 o->h'.get? b=8 o:=λb o c d e=>st b o (hideAll_get _ e λi=>(xL.mp i).elim c d);let c:∀b,b∈frs X.stack->∃o,s.heap.get? b=8 o/\∀vs,o.data ≠ .fields vs:=λb c=>(I.stack.mem c).2;erw[I.stepN (g':=s.gens) (d':=s.drawn) (t':=s.toks) (ch:=hs) a (λb c=>?_) (λb o d h a e _=>kp b o a (λz=>(xE.mp (I.oS b z)).elim d h) e) (λb o d h _ e _=>?_) (λb o a e=>?_) (λd i=>?_) (λb u e=>?_) I.bare]
 .let(f,g,o,vs,e,d):=k b c;erw[f,λz=>?_,λx c f z=>?_]
  .grind
  .let(v,m,g,j):=I.cell x c f;rw[z,e] at g;ext g;rw[d] at j;ext j
 .let(m,j,d):=(I.o7.mem (show b∈X.outer.filterMap (·.frame) from h)).2;rw[e] at j;ext j;rwa[n b o e d]
 .grind
 .let(o,j,h,g,d,r):=i;let(l,q):=n _ o g λvs z=>by rw[d] at z;ext z
  rwa[2,j,h,q,d,r]
 .let d:∀c v,H c=8 v->c∉hs/\c∉frs X.stack:=λc v f=>((λz=>by rw[(k c z).2.1] at f;ext f),(λz=>by rw[I.oR c z] at f;ext f));erw[(I.og b u e).oP (λc v a q=>?_) (λ_ q=>q) λ_ _ q=>q];rcases a with rfl | a
  .rwa[kp c v (d c _ e).1 (d c _ e).2 q]
  .rwa[kp c v (d c _ a).1 (d c _ a).2 q]
section
variable{X:Cx}{Y:List (Option V)}{H:Hp}{s:jW}{a C:jY}{M:Model}{E:jQ}{Q:Unit->jW->Prop}
def Kq(I:ZD X [] Y H s)(d:X.pn=[])(U:X.ex=[])(c:X.stack=X.env::X.outer)(F:X.env.frame=8 X.env.locals)(x:TB X.s₀.heap H s.heap a C)(k:∀h',ZD X [] Y H {s with heap:=h' }->Cw X.s₀.heap H h' a C->(∀b o,s.heap.get? b=8 o->(∀vs,o.data ≠ .fields vs)->∃e,h'.get? b=_s {o with slots:=e })->Q _u {s with heap:=h' }) :
  _w M X.A (noteFrame (3 a) X.env) Q E s:=by
 let(A,h,K,vs,L,l,B,n,W,tr):=x;let t:∀(g:jV),a∈g->(∀b∈g,X.s₀.heap.get? b=_n/\H b=_n/\∃o vs,s.heap.get? b=8 o/\o.data=.fields vs)->
   ∀i,Heap.NotedW (hideAll s.heap (g++frs X.stack)) (X.env::X.outer) a (3 C) L (rawInt X.env.locals) s.heap i->(∃G,i.get? a=8 G/\G.dict=K.dict)->Q _u {s with heap:=i }:=by
  intro g e p i N (f,g2,r);erw[k i (I.oB d p N.1 N.2.2.2) ?_ N.2.2.2];let(e,a1,T,J,y,u,(P,a0),R,O,d,j,m,f,v):=N.2.2.1;let no:∀o,s.heap.get? T=8 o->T∉g->T∉frs X.stack->False:=λo e z n2=>by
   have:=hideAll_get (g++frs X.stack) e λw=>(xL.mp w).elim z n2;rw[this] at d;ext d
  let w:T∉frs X.stack:=λz=>by
   rw[c] at z;let(2,o,e,d):=N.2.1.mem (show T∈(X.env::X.outer).filterMap (·.frame) from z);rw[m] at e;ext e;rwa[d y f]
  rw[u] at g2;ext g2;erw[A,h,2,a1,L,u,(P,r.trans B.2),R,a0,T,J,y,2,O,j,m,f,v,55]
  .cases q:H T with
   | none=>rfl
   | some u =>
    let(o,e):=(I.og T u q).ex;rwa[(no o e (λz=>by rw[(p T z).2.1] at q;ext q) w).elim]
  .cases q:X.s₀.heap.get? T with
   | none=>rfl
   | some o =>
    let(G,e):=I.base.there T o q (by rw[U];simp);rwa[(no G e (λz=>by rw[(p T z).1] at q;ext q) w).elim]
 let u:X.A.frames=8 (X.env::X.outer):=by rw[<- c];rwa[I.ok.frames]
 let z:∀g:List jY,s.heap.FunFrames (hideAll s.heap (g++frs X.stack)) (X.env::X.outer):=λg=>by
  rw[<- c];rwa[PySem.W.funFrames_hide I.stack λenv l b c=>xJ _ (List.mem_filterMap.mpr (env,l,c))]
 let w:∀g:List jY,(hideAll s.heap (g++frs X.stack)).StaysIn s.heap:=λg b o q=>of_hideAll _ q;rcases tr with g | ⟨T,J,y,v3,g,j,m,f,v,hHT,h0T⟩
 .let p:∀b ∈ [a],X.s₀.heap.get? b=_n/\H b=_n/\∃o vs,s.heap.get? b=8 o/\o.data=.fields vs:=λb c=>by
   rw[xU] at c;subst c;rwa[h,A,K,vs,l,n]
  unfold noteFrame;simp only[F];erw[_b (_d l n g ?_)];rw[_i aA];erw[Kk (Z:=hideAll s.heap ([a]++frs X.stack)) u (z _) F l (w _) (hideAll_none _ (by simp)) n (wH.mp g).1 W λi N r=>?_];rw[B.1] at N;rwa[t [a] (by simp) p i N r]
 .let p:∀b ∈ [a,T],X.s₀.heap.get? b=_n/\H b=_n/\∃o vs,s.heap.get? b=8 o/\o.data=.fields vs:=λb c=>by
   rcases xE.mp c with rfl | c
   .rwa[h,A,K,vs,l,n]
   .rw[xU] at c;subst c;rwa[h0T,hHT,J,y,m,f]
  unfold noteFrame;simp only[F];erw[_b (_d l n g ?_)];rw[_j (show (Value.ref T != Value.none)=_t from by simp)];erw[_b (_d m f v ?_)]
  by_cases d:(v3==rawInt X.env.locals)=_t
  .rw[_j d];rwa[_p (k s.heap I (A,h,K,vs,L,l,B,n,W,T,J,y,v3,g,j,m,f,v,hHT,h0T) λb o e _=>(o.slots,e))]
  .rw[_i d];erw[_b (wpAny_setField m f (wH.mp v).1 ?_)];let d:∀b,b≠T->(s.heap.update T (Obj.mapFields (·.setIfInBounds 3 Value.none))).get? b=s.heap.get? b:=λb c=>zQ _ _ (Ne.symm c);let m:∀b o,s.heap.get? b=8 o->(∀vs,o.data ≠ .fields vs)->b≠T:=λb o c f q=>by grind
   let h:(hideAll s.heap ([a,T]++frs X.stack)).get? T=none:=hideAll_none _ (by simp);refine Kk (Z:=hideAll s.heap ([a,T]++frs X.stack)) u ((z _).of_keeps λb o c f=>(o,(d b (m b o c f)).trans c,3)) F ((d a (Ne.symm j)).trans l)
    (λb o e=>(d b λq=>by rw[q,h] at e;ext e).trans (w _ b o e)) (hideAll_none _ (by simp)) n (wH.mp g).1 W
    λi ⟨g,h,e,j⟩ r=>?_
   rw[B.1] at e;rwa[t [a,T] (by simp) p i (g,h,e,λb o c f=>j b o ((d b (m b o c f)).trans c) f) r]
def ES(I:ZD X [] Y H s)(n:X.pn=[])(x:Cw X.s₀.heap H s.heap a C)(k:∀h',ZD X [] Y H {s with heap:=h' }->Cw X.s₀.heap H h' a C->Q _u {s with heap:=h' }):_w M A (setFlight (3 a) fr) Q E s:=by
 let(w,m,z,F,v,r,y,p,B,T,o,t,d,u,i,l,c,b,h,g):=x;let j:=(wH.mp b).1;unfold setFlight;erw[_b (_d r p u ?_)];rw[_j (show (Value.ref T != Value.none)=_t from by simp)];erw[wpAny_setField l c j ?_];let e:∀b,b≠T->(s.heap.update T (Obj.mapFields (·.setIfInBounds 3 (fr.elim Value.none λf=>rawInt f)))).get? b=s.heap.get? b:=λb d=>zQ _ _ (Ne.symm d);refine k _ (I.oB (hs:=[T]) n (λb d=>by rw[xU] at d;subst d;rwa[g,h,o,t,l,c]) (λb o q=>?_) λb o d n=>(o.slots,(e b λq=>by rw[q,l] at d;ext d;rwa[n t c]).trans d))
  (w,m,z,F,v,(e a (Ne.symm i)).trans r,y,p,B,T,22,(fr.elim Value.none λf=>rawInt f),u,i,wD _ l (Obj.isFreed_of_fields (mI c _)),mI c _,by simp[j],h,g)
 erw[(e b λz=>?_).trans (of_hideAll _ q)];rw[z,hideAll_none _ (by simp)] at q;ext q
def Nn(I:ZD X [] Y H s)(b:X.pn=[])(d:X.ex=[])(e:X.stack=X.env::X.outer)(f:X.env.frame=8 X.env.locals)(x:TB X.s₀.heap H s.heap a C)(k:∀h',ZD X [] Y H {s with heap:=h' }->TB X.s₀.heap H h' a C->Q _u {s with heap:=h' }) :
  _w M X.A (noteFrame (3 a) X.env) (λ_ c=>_w M X.A (setFlight (3 a) _n) Q E c) E s:=(Kq I b d e f x λd c e _=>ES (s:={s with heap:=d }) c b e λc b d=>k c b d.at_)
end
def TB.mono(x:TB h0 H h a C)(k:∀b,h0.get? b=_n->h1.get? b=_n):TB h1 H h a C:=by
 let(e,c,j,n,d,i,f,g,m,l):=x;erw[e,k a c,j,n,d,i,f,g,m,5];rcases l with c | ⟨T,oT,ts,v3,c,hTe,hT,hdT,h3,hHT,h0T⟩
 .rwa[1 c]
 .rwa[2 (T,oT,ts,v3,c,hTe,hT,hdT,h3,hHT,k T h0T)]
def Wa{P:jZ}{w:kB}{K:uFg}{mg:jR}{Z:Heap}{N:jS}{qual:Str}{b:Scope}{f:jY}{c:jX}{A:kD}{outer:List Env}{s:jW}{H:Hp}{E:XK} :
  Xp (Yq (Tw P w) P w K mg Z N qual b f c A outer s H E) λ_=>E:=(⟨λB Y d e a C I x g=>by
 let e:=I.oI (pins':=[]) (λp h=>nomatch h);show _w _ _ (noteFrame _ _ >>= λ_=>setFlight _ _n) _ _ _;erw[_b (Nn (X:=Yq (Tw P w) P w K mg Z N qual b f c A outer s H E) e rfl rfl rfl rfl x λb J y=>?_)]
 rwa[a,C,d,7,J.os,J.bare,J.base,J.og,y,g]⟩)
section
variable{X:Cx}{E:St->XK}
def ZD.newer{B:List (jY×Obj)}{Y:St}{H:Hp}{s:jW}(I:ZD X B Y H s)(a:X.ex=[]):∀b,s.heap.get? b=_n->X.s₀.heap.get? b=none:=(λb e=>by
 cases q:X.s₀.heap.get? b with
 | none=>rfl
 | some o =>
  let(d,c):=I.base.there b o q (by rw[a];simp);rw[e] at c;ext c)
structure Xq (X:Cx) (E:St->XK):Prop where
 h:(∀ Y c d H,¬E Y c d H)\/(X.ex=[]/\Xp X E)
def Xq.never:Xq X λ_ _ _ _=>False:=(⟨1 λ_ _ _ _ h=>h⟩)
def Xq.pass{B:List (jY×Obj)}{Y:St}{H:Hp}{s j:jW}{e:jX}(i:Xq X E)(I:ZD X B Y H s)(h:Tw X.prog X.w X.stack H s (E Y) e j):X.xe e j:=by
 let(a,C,J,3,os,b,m,f,x,k):=h;rcases i.h with z | ⟨hex,i⟩
 .rwa[(z _ _ _ _ k).elim]
 let(l,g,d,t,c):=j;obtain rfl:c=s.os:=os;let c:=I.call (h':=l) (g':=g) (d':=d) (t':=t) (ch:=[]) m f b (λb z=>_a z (by simp));rwa[i.h B Y J _ a C c (x.mono (I.newer hex)) k]
def Z8{P:jZ}{w:kB}{K:uFg}{mg:jR}{Z:Heap}{N:jS}{qual:Str}{a:Scope}{f:jY}{b:jX}{A:kD}{outer:List Env}{s:jW}{H:Hp}{E:XK} :
  Xq (Yq (Tw P w) P w K mg Z N qual a f b A outer s H E) λ_=>E:=(⟨2 (7,Wa)⟩)
end
structure Ec (P:jZ) (w:kB) (K:uFg) (mg:jR) (base:Heap) (k:Nat) (f:jY) (sp:Sp):Prop where
 run:∀(A:kD)(outer:List Env)(s:jW)(H:Hp)(us:jT)(vs:aG)(Q:VK)(E:XK),ZL k A->VI P w K mg base A outer s H->ZJ vs us->sp vs H Q E->codeAny (_m P w) A (.call (3 f) (us,[])) (CR (Tw P w) outer P w H s Q E) s
def YD.runX{P:jZ}{w:kB}{K:uFg}{mg:jR}{Z:Heap}{k:Nat}{f:jY}{g:FuncData}{ps:jS}{a:Sp}(F:10 YD (Tw P w) k f g ps a)(j:YR K g ps []):10 Ec k f a:=(⟨λA a s H c m Q E l d r h=>by
  let i:K.In s.heap:=d.mod.kin.keeps λb o e=>(d.bs b o e).1;let e:c.9=ps.9:=by rw[<- r.9];rwa[F.len _ _ _ _ h]
  let b:BindsTo s g (c,[]) (ps.zip c):=by
   have:=j s c i (by rw[xT];rwa[e]);rw[xT] at this;rwa[this]
  rwa[F.run A a s H (c,[]) c m Q E l d b r h]⟩)
def YZ(P:jZ)(w:kB)(K:uFg)(mg:jR)(Z:Heap)(x:Str)(k:Nat)(a:Sp):Prop :=
 ∃f,mg x=8 (3 f)/\keepIn K (3 f)=_t/\Ec P w K mg Z k f a
structure YA (P:jZ) (w:kB) (K:uFg) (mg:jR) (base:Heap) (C:jY) (m:Str) (k:Nat) (sp:Sp):Prop where
 ex:∃(f:jY),Tz K C m f/\Ec P w K mg base k f sp
section
variable{P:jZ}{w:kB}{K:uFg}{mg:jR}{Z:Heap}{C:jY}{x:Str}{ps:jS}{k k':Nat}{sp sp':Sp}
def Sp.or(a b:Sp):Sp:=λc H Q E=>a c H Q E\/b c H Q E
end
def PX(b:Sp)(E:St->XK)(t:TA):TE:=λY H Q=>t Y H λc a=>b c a Q (E Y)
inductive Cn(C:jY)(m:Str)(c:Sp)(E:St->XK)(t:TA)(Y:St)(Q:VK)(x:V)(b:Hp):Prop
 |mk(a dx fs)(_:x=3 a)(_:b a=8 (.ins C dx fs))(_:fs.lookup m=_n)(_:t Y b λd b=>c (x::d) b Q (E Y))
def Nl(C:jY)(m:Str)(b:Sp)(E:St->XK)(a:TE)(t:TA):TE:=λY H Q=>a Y H λx a=>Cn C m b E t Y Q x a
section
variable{X:Cx}{E:St->XK}{k:Nat}{f C:jY}{sp:Sp}{x m:Str}{p pos apos:Pos}{e o:Expr}{es:List Expr}{ta:TE}{t:TA}
def FE{B:List (jY×Obj)}{Y:St}{H:Hp}{s:jW}{Q:VK}{us:jT}{vs:aG}(F:Ec X.prog X.w X.K X.mg X.base k f sp)(a:ZL k X.A)(b:Xq X E)(I:ZD X B Y H s)(r:ZJ vs us)(h:sp vs H Q (E Y)):_w (_m X.prog X.w) X.A (call (3 f) us) (EP X B Y Q) X.xe s:=by
 erw[wpAny_call (codeAny_mono (F.run X.A X.stack s H us vs Q (E Y) a I.iq r h) λr c a=>?_)];cases r with
 | error e=>rwa[b.pass I a]
 | ok b =>
  cases b with
  | ret u=>rwa[I.after a]
  | next=>rwa[False.elim a]
  | brk=>rwa[False.elim a]
  | cont=>rwa[False.elim a]
def Wq(j:Xq X E)(F:YZ X.prog X.w X.K X.mg X.base x k sp)(b:QA X (e::es) t)(i:autoParam (ZL k X.A) Zm._auto_1)(n:autoParam (nB X x .globalImplicit) y2z)(c:autoParam (sEq X e es) y1z)(a:autoParam (sFq X pos es) y1z) :
  QE X (.Call (.Name x p) (e::es) [] pos) (PX sp E t):=(⟨by
 let(f,g,d,G):=F;intro B s Y H Q I h;let n:=od n;erw[wpAny_Call_Name_kw (BM I n.1 g ?_ n.2.1)];erw[callWith_K (h₀:=X.base) I.ok.mod.kin d (thn (b.h pos B s Y H _ I h) λh g ⟨l,d,b,r,q⟩=>(b.oi,5)) c a]
 rwa[FE G i j b r q]⟩)
def Yg{pl:Sem Bool}(y:Xq X E)(g:QE X o ta)(c:UK X.K C)(M:YA X.prog X.w X.K X.mg X.base C m k sp)(r:QA X (e::es) t)(v:autoParam (ZL k X.A) Zm._auto_1)(d:autoParam (sEq X e es) y1z)(b:autoParam (sFq X pos es) y1z)(w:autoParam (eval (.Call (.Attribute o m apos) (e::es) [] pos) X.env=(do
   let a <- eval o X.env
   standAt apos.atName
   let (f,first) <- holding [a] (getMethod a m pl)
   callWith pos f first (backTo pos (_e (e::es) X.env)) (backToKw pos (keywordEach [] X.env)))) y1z) :
  QE X (.Call (.Attribute o m apos) (e::es) [] pos) (Nl C m sp E ta t):=(⟨by
 let(f,i,F):=M.ex;intro B s Y H Q I h;erw[methodCall_KW (pl:=pl) (thn (g.h B s Y H _ I h) λu z ⟨x,h,g,s,a,A,G,n,j,l,q⟩=>?_) w];subst n;obtain rfl:u=Value.ref a:=s;erw[DH g j c i l ?_];erw[callWith_K (first:=[3 a]) (h₀:=X.base) I.ok.mod.kin i.kp (thn (r.h pos B z Y h _ g q) λi n ⟨j,l,g,r,h⟩=>(g.oi,5)) d b]
 rwa[FE (us:=3 a::i) (vs:=3 a::j) F v y g (.cons rfl r) h]⟩)
def A1{pl:Sem Bool}(n:Xq X E)(b:QE X o ta)(c:UK X.K C)(M:YA X.prog X.w X.K X.mg X.base C m k sp)(i:autoParam (ZL k X.A) Zm._auto_1)(j:autoParam (eval (.Call (.Attribute o m apos) [] [] pos) X.env=(do
   let a <- eval o X.env
   standAt apos.atName
   let (f,first) <- holding [a] (getMethod a m pl)
   callWith pos f first (backTo pos (_e [] X.env)) (backToKw pos (keywordEach [] X.env)))) y1z) :
  QE X (.Call (.Attribute o m apos) [] [] pos) (Nl C m sp E ta V3):=(⟨by
 let(f,d,F):=M.ex;intro B s Y H Q I h;erw[methodCall_KW (pl:=pl) (thn (b.h B s Y H _ I h) λu y ⟨x,s,b,r,a,v,w,h,g,l,q⟩=>?_) j];subst h;obtain rfl:u=Value.ref a:=r;erw[DH b g c d l ?_]
 rwa[callWith_K0 (first:=[3 a]) b.oi d.kp (FE (us:=[3 a]) (vs:=[3 a]) F i n b (.cons rfl .nil) q)]⟩)
end
section
variable{P:jZ}{w:kB}{K:uFg}{mg:jR}{Z:Heap}
def Ti.okX{x qual:Str}{st:Stmt}{f:jY}{d:FuncData}{N ps:jS}{k:Nat}{b:Sp}(F:Ti K x qual st f d)(S:ZK N ps (Zj st))(c:∀vs H Q E,b vs H Q E->vs.9=ps.9)(a:∀ (cdv:jX) (A:kD) (outer:List Env) (s:jW) (H:Hp) (vs:aG) (Q:VK) (E:XK),ZL k (A.deeper (envOfC qual (Zj st) s.heap.objs.size f cdv))->b vs H Q E -> ∃t,WY (Yq (Tw P w) P w K mg Z N qual (Zj st) f cdv A outer s H E) (Yu st) t/\t {nx:=λ_ J=>Q .non J,rt:=Q } (start N vs) H):10 YD (Tw P w) (k+1) f d ps b:=by
 let(j,od,kV,d,l,h,cdv,i,g,7,e,b):=F.ex;erw[ER e b S c λA outer s H vs Q E c b=>?_];let(t,h,q):=a cdv A outer s H vs Q E c b;rwa[t,h.h,q]
def YB.fnX{x:Str}{st:Stmt}{N ps:jS}{k:Nat}{c:Sp}(h:YB K mg x st)(S:ZK N ps (Zj st))(d:∀ (kV doc pm:jX) (an:Option jY) (cdv ct:jX) (us:jT),us.9=ps.9->bindArgs (fnOf x x (Wy st) (Yu st) (Zj st) .none kV doc pm an cdv ct) (us,[])=pure (ps.zip us))(b:∀vs H Q E,c vs H Q E->vs.9=ps.9)(a:∀ (f:jY) (cdv:jX) (A:kD) (outer:List Env) (s:jW) (H:Hp) (vs:aG) (Q:VK) (E:XK),ZL k (A.deeper (envOfC x (Zj st) s.heap.objs.size f cdv))->c vs H Q E -> ∃t,WY (Yq (Tw P w) P w K mg Z N x (Zj st) f cdv A outer s H E) (Yu st) t/\t {nx:=λ_ J=>Q .non J,rt:=Q } (start N vs) H):10 YZ x (k+1) c:=by
 let(f,e,F,c):=h;rwa[f,c,F.kp,(F.okX S b (a f)).runX (F.binds d)]
def YB.fx{x:Str}{st:Stmt}{k:Nat}{b:Sp}(h:YB K mg x st)(N ps:jS)(a:∀{f:jY}{cdv:jX}{A:kD}{outer:List Env}{s:jW}(H:Hp) (vs:aG) (Q:VK) (E:XK),ZL k (A.deeper (envOfC x (Zj st) s.heap.objs.size f cdv))->b vs H Q E->vs.9=ps.9/\∃t,WY (Yq (Tw P w) P w K mg Z N x (Zj st) f cdv A outer s H E) (Yu st) t/\t {nx:=λ_ J=>Q .non J,rt:=Q } (start N vs) H)(S:autoParam (ZK N ps (Zj st)) YB.fq._auto_1)(d:autoParam (k<=60) y3z)(c:autoParam (∀ (kV doc pm:jX) (an:Option jY) (cdv ct:jX) (us:jT),us.9=ps.9->bindArgs (fnOf x x (Wy st) (Yu st) (Zj st) .none kV doc pm an cdv ct) (us,[])=pure (ps.zip us)) YB.fq._auto_2):10 YZ x (k+1) b:=(h.fnX S c (λvs H Q E h=>(a (f:=0) (cdv:=.none) (A:={}) (outer:=[]) (s:={}) H vs Q E (DD d) h).1) λ_ _ _ _ _ H vs Q E b q=>(a H vs Q E b q).2)
def ZU.mtX{C:jY}{m qual:Str}{st:Stmt}{N ps:jS}{k:Nat}{c:Sp}(h:ZU K C m qual st)(S:ZK N ps (Zj st))(d:∀ (kV doc pm:jX) (an:Option jY) (cdv ct:jX) (us:jT),us.9=ps.9->bindArgs (fnOf m qual (Wy st) (Yu st) (Zj st) .none kV doc pm an cdv ct) (us,[])=pure (ps.zip us))(b:∀vs H Q E,c vs H Q E->vs.9=ps.9)(a:∀ (f:jY) (cdv:jX) (A:kD) (outer:List Env) (s:jW) (H:Hp) (vs:aG) (Q:VK) (E:XK),ZL k (A.deeper (envOfC qual (Zj st) s.heap.objs.size f cdv))->c vs H Q E -> ∃t,WY (Yq (Tw P w) P w K mg Z N qual (Zj st) f cdv A outer s H E) (Yu st) t/\t {nx:=λ_ J=>Q .non J,rt:=Q } (start N vs) H):10 YA C m (k+1) c:=by
 let(f,c,F,M):=h.ex;rwa[f,M,(F.okX S b (a f)).runX (F.binds d)]
def ZU.mx{C:jY}{m qual:Str}{st:Stmt}{k:Nat}{b:Sp}(h:ZU K C m qual st)(N ps:jS)(a:∀{f:jY}{cdv:jX}{A:kD}{outer:List Env}{s:jW}(H:Hp) (vs:aG) (Q:VK) (E:XK),ZL k (A.deeper (envOfC qual (Zj st) s.heap.objs.size f cdv))->b vs H Q E->vs.9=ps.9/\∃t,WY (Yq (Tw P w) P w K mg Z N qual (Zj st) f cdv A outer s H E) (Yu st) t/\t {nx:=λ_ J=>Q .non J,rt:=Q } (start N vs) H)(S:autoParam (ZK N ps (Zj st)) YB.fq._auto_1)(d:autoParam (k<=60) y3z)(c:autoParam (∀kV doc pm an cdv ct us,us.9=ps.9->bindArgs (fnOf m qual (Wy st) (Yu st) (Zj st) .none kV doc pm an cdv ct) (us,[])=pure (ps.zip us)) YB.fq._auto_2):10 YA C m (k+1) b:=(h.mtX S c (λvs H Q E h=>(a (f:=0) (cdv:=.none) (A:={}) (outer:=[]) (s:={}) H vs Q E (DD d) h).1) λ_ _ _ _ _ H vs Q E b q=>(a H vs Q E b q).2)
end
def nsX(K:uFg)(N:jY):Bool:=match K.lookup N with
 | some ⟨_,_,.dict a _,_⟩=>(a.toList.all λe=>match e.key with | .str _ _=>_t | _=>_x)&&(nsFind a "__init__").isNone
 | _=>_x
def vE:List jX:=[.type "ValueError", .type "Exception", .type "BaseException", .type "object"]
def Fc:List (Option jX)->Bool
 | [_,_,_,_,_s v,_]=>v==.builtin "ValueError.__new__"
 | _=>_x
def HE(K:uFg):List jX->Bool
 | .ref M::r=>r==vE&&(match K.lookup M with | some ⟨_,_,.cls a,_⟩=>nsX K a.ns | _=>_x)
 | _=>_x
def Ax(K:uFg)(C:jY):Bool:=match K.lookup C with
 | some ⟨c,_,.cls a,b⟩=>(c==.type "type")&&(a.hasDel==_x)&&nsX K a.ns&&Fc b.toList&&(match a.mro with | v::r=>(v==3 C)&&HE K r | _=>_x)
 | _=>_x
def Ku{K:uFg}{h:Heap}{N:jY}(X:K.In h)(e:nsX K N=_t):∃mN,h.Ns N mN/\mN "__init__"=none:=by
 unfold nsX at e;split at e
 .rename_i c d a n b q;rw[yS] at e;erw[nsFind a,(2,a,n,X _ _ q,3,λb a=>?_,λ_=>rfl),Option.isNone_iff_eq_none.mp e.2];let z:=zY.mp e.1 b (Array.mem_toList_iff.mpr a);cases k:b.key with
  | str x t=>rwa[x,t,7]
  | _=>rw[k] at z;ext z
 .ext e
def bA:∀{l:List (Option jX)},Fc l=_t->∃k0 k1 k2 k3 k5,l=[k0,k1,k2,k3,8 (.builtin "ValueError.__new__"),k5]:=by
 intro l e;unfold Fc at e;split at e
 .rwa[22222,by rw[beq_iff_eq.mp e]]
 .rwa[Bool.noConfusion e]
def LU{K:uFg}{h:Heap}{C:jY}(X:K.In h)(e:Ax K C=_t) :
  ∃nm q N bs bm hdct sn sub ab col dd k0 k1 k2 k3 k5 mN,h.get? C=8 (excClassObj nm q C N bs bm hdct sn sub ab col dd k0 k1 k2 k3 k5 "ValueError.__new__")/\h.Ns N mN/\mN "__init__"=_n/\OwnTail h vE bm:=by
 unfold Ax at e;split at e
 .rename_i c d p o q;simp only[yS] at e;let((((f,g),t),u),b):=e;let f:=beq_iff_eq.mp f;subst f;let(mN,A,z):=Ku X t;let(nm,bs,n,N,E,k,sn,sub,ab,col,m):=p;let g:m=false:=beq_iff_eq.mp g;subst g;cases n with
  | nil=>ext b
  | cons v r =>
   dsimp only at b;rw[yS] at b;let w:=beq_iff_eq.mp b.1;subst w;let a:=b.2;unfold HE at a;split at a
   .rename_i M r;rw[yS] at a;let x:=beq_iff_eq.mp a.1;subst x;let i:=a.2;split at i
    .rename_i G H s F B;let(I,y,j):=Ku X i;let⟨o⟩:=o;let(k0,k1,k2,k3,k5,3):=bA (l:=o) u
     .rwa[nm,E,N,bs,3 M::vE,k,sn,sub,ab,col,d,k0,k1,k2,k3,k5,mN,X _ _ q,A,z,.own (X _ _ B) y j .base]
    .ext i
   .ext a
 .ext e
def KP(E:St->XK)(C:jY)(te:TE):TS:=λ_ Y H=>te Y H λ_ a=>E Y (3 C) _n a
def Ri(hx:Xp X E)(P:X.calm=true)(R:X.ex=[])(f:Ax X.K C=true)(n:Nm X.env.scope x .globalImplicit)(hm:X.mg x=some (3 C))(he:QE X e te)(hs:autoParam (starEach [e] X.env=[(Prod.mk (false) (eval e X.env))]) y1z):QS X (.Raise (some (.Call (.Name x np) [e] [] cpos)) none pos) (KP E C te):=(⟨by
 intro B s Y H D I h;obtain⟨nm,q,N,bs,G,i,sn,sub,Z,p,dd,k0,k1,k2,k3,k5,mN,hC,hn,hi,T⟩:=LU I.oi f;refine wpAny_Raise_call_subU (C:=C) (N:=N) (nm:=nm) (q:=q) (bs:=bs) (bm:=G) (bmB:=vE) (hdct:=i) (sn:=sn) (sub:=sub) (ab:=Z) (col:=p) (dd:=dd) (k0:=k0) (k1:=k1) (k2:=k2) (k3:=k3) (k5:=k5) (mN:=mN)
  F.excBase_ValueError aA F.excBase_ValueError (T.hasType aA) (I.ok.hd P) (by rw[hs];rfl) hi (BM I n.1 hm ⟨rfl,?_⟩ n.2.1)
 rw[hs];refine mr (mv (thn (he.h B s Y H _ I h) λu m ⟨v,A,j,r1,q1⟩=>mw ?_));have K1:∀b o,X.base.get? b=some o->m.heap.get? b=some o:=j.bk;obtain⟨b3,q',N',a3,J,Q,b4,a1,a2,a0,a4,a7,a8,a9,b0,b1,b2,k,a6,a5,T'⟩:=LU j.oi f;have lk:∃o,X.K.lookup C=some o:=by
  unfold Ax at f;split at f
  .rename_i z;exact⟨_,z⟩
  .cases f
 obtain⟨oC,l⟩:=lk;have z1:=(I.oi _ _ l).symm.trans hC;have z2:=(j.oi _ _ l).symm.trans k;have w:m.heap.get? C=some (excClassObj nm q C N bs G i sn sub Z p dd k0 k1 k2 k3 k5 "ValueError.__new__"):=by rw[k,<- z2,z1]
 have zz:=w.symm.trans k;have K:N=N':=by grind
 have L:G=J:=by grind
 subst K L;refine⟨rfl,aB rfl,w,?_,T',λh' a g=>?_⟩
 .-- the namespace is the same object
  have W:∃o,X.K.lookup N=some o:=by
   unfold Ax at f;rw[l] at f;obtain⟨c,d,dt,sl⟩:=oC;cases dt with
   | cls cd =>
    simp only[yS] at f;have r:=f.1.1.2;have K:cd.ns=N:=by grind
    rw[K] at r;unfold nsX at r;split at r
    .rename_i z;exact⟨_,z⟩
    .cases r
   | _=>cases f
  obtain⟨oN,y⟩:=W;obtain⟨o1,O,M,U,r1⟩:=hn;have:=(I.oi _ _ y).symm.trans U;cases this;exact⟨_,O,M,j.oi _ _ y,r1⟩
 .obtain⟨t,e1,e2,r⟩:=g.there;have I2:ZD X B Y A {m with heap:=h' }:=j.kept (t':=m.toks) g.keeps;have fr:∀b,m.heap.get? b=none->A b=none:=λb z=>by
   cases q:A b with
   | none=>rfl
   | some u=>obtain⟨o,e⟩:=(j.og b u q).ex;rw[z] at e;cases e
  refine hx.h B Y A {m with heap:=h' } a C I2 ⟨fr a g.new,?_,_,_,_,e1,⟨rfl,rfl⟩,rfl,rfl,1 rfl⟩ q1;cases q:X.s₀.heap.get? a with
  | none=>rfl
  | some o =>
   obtain⟨o',e'⟩:=j.base.there a o q (by rw[R];simp)
   rw[g.new] at e';cases e'⟩)
abbrev TJ:=St->Hp->(Hp->Prop)->Prop
def PJ(X:Cx)(es:List Expr)(t:TJ):Prop:=∀(B:List (jY×Obj))(s:jW)(Y:St)(H:Hp)(Q:Hp->Prop)(a:Str),ZD X B Y H s->a.9+es.9 * 1000000<=_z->t Y H Q ->
 Joins (_m X.prog X.w) X.A X.xe (evalEach es X.env) a (λb a=>b.9<=_z/\∃J,ZD X B Y J a/\Q J) s
structure QJ (X:Cx) (es:List Expr) (t:TJ):Prop where
 h:PJ X es t
def Qv(n:Nat)(t:TJ):TJ:=λY H Q=>n<=1000000/\t Y H Q
def NS(te:TE)(t:TJ):TJ:=λY H Q=>te Y H λv a=>((∃x,v=5 x/\x.9<=1000000)\/(∃i,v=4 i/\i.natAbs.log2<1920))/\t Y a Q
def SV(te:TE)(t:TJ):TJ:=λY H Q=>te Y H λv a=>(∃x,v=5 x/\x.9<=10000/\∀c∈x.cps.toList,c<16^8)/\t Y a Q
def gT:TJ:=λ_ H Q=>Q H
def eG(t:TJ):TE:=λY H Q=>t Y H λa=>∀x:Str,Q (5 x) a
def Wm:QJ X [] gT:=(⟨λB s Y H Q a I b h=>(by simpa using b,H,I,h)⟩)
def AL(a b:Str):(a++b).9=a.9+b.9:=(strLen_append a b)
def Y0(h:QJ X es t)(c:autoParam (evalEach (.Constant (5 x) j pos::es) X.env=eval (.Constant (5 x) j pos) X.env::evalEach es X.env) y1z):QJ X (.Constant (5 x) j pos::es) (Qv x.length t):=(⟨by
 intro B s Y H Q a I d b;let(e,b):=b;rw[yN] at d;rw[c];erw[Calls.Constant_str (x,85,h.h B _ Y H Q (a++x) (I.tok _) ?_ b)]
 .rw[AL];lia
 .rw[AL];lia⟩)
def Wb(b:QE X e te)(h:QJ X es t)(c:autoParam (evalEach (.FormattedValue e (-1) _n pos::es) X.env=eval (.FormattedValue e (-1) _n pos) X.env::evalEach es X.env) y1z):QJ X (.FormattedValue e (-1) _n pos::es) (NS te t):=(⟨by
 intro B s Y H Q a I d f;rw[yN] at d;rw[c];erw[wpAny_FormattedValue_plain (thn (b.h B s Y H _ I f) λu g ⟨v,b,c,d,f,q⟩=>?_)];rcases f with⟨x,rfl,f⟩ | ⟨i,rfl,hi⟩
 .let(g,7):=d;erw[formatField_str (λf j=>(x,f,75,h.h B _ Y b Q (a++x) (c.tok _) ?_ q)) (by rw[sizeLine_eq];lia)]
  .rw[AL];lia
  .rw[AL];lia
 .let(g,7):=d;let a:(Str.ofString (toString i)).9<=1921:=by rw[PySem.ofString_length];rwa[int_text_length_le aA hi]
  erw[wpAny_formatField_int hi (285,h.h B _ Y b Q _ (c.tok _) ?_ q)]
  .rw[AL];lia
  .rw[AL];lia⟩)
def Rp(b:QE X e te)(h:QJ X es t)(c:autoParam (evalEach (.FormattedValue e 114 _n pos::es) X.env=eval (.FormattedValue e 114 _n pos) X.env::evalEach es X.env) y1z):QJ X (.FormattedValue e 114 _n pos::es) (SV te t):=(⟨by
 intro B s Y H Q a I d f;rw[yN] at d;rw[c];erw[wpAny_FormattedValue_repr (thn (b.h B s Y H _ I f) λu a ⟨v,b,c,f,d,q⟩=>?_)];let(x,7,g,a):=d;let(d,7):=f;let f:=StrLaws.reprText_len x a;let a:(reprText x).9<=sizeLine:=by rw[sizeLine_eq];lia
 erw[wpAny_pyReprObj_gives (x:=reprText x) (typeIs_str _ _ _) F.slot_str_repr F.entry_str_repr (F.args_str_repr_1 _) (gives_str_repr x d) ?_ rfl a];erw[formatField_str (λd f=>(2,d,75,h.h B _ Y b Q _ ((c.tok _).tok _) ?_ q)) a]
 .rw[AL];lia
 .rw[AL];lia⟩)
theorem MZ(hQ:∀o s,Q o s->Q' o s):∀{l:List (Sem jX)}{a:Str}{s:jW},Joins M A E l a Q s->Joins M A E l a Q' s
 | [],_,_,h=>hQ _ _ h
 | _::_,_,_,h=>wpAny_mono h (λ_ _ ⟨y,t,a,b,c⟩=>(y,t,a,b,MZ hQ c)) λ_ _ z=>z
def Wn(h:QJ X (a::e2::es) t)(b:autoParam (es.9<=8) y3z):QE X (.JoinedStr (a::e2::es) pos) (eG t):=(⟨by
 intro B s Y H Q I c;let d:(Str.empty).9+(a::e2::es).9 * 1000000<=sizeLine:=by
  have:Str.empty.length=0:=rfl;rw[this,yN,yN,sizeLine_eq];lia
 erw[wpAny_JoinedStr ?_];let b:=h.h B s Y H _ Str.empty I d c
 erw[MZ (λa f ⟨e,c,d,q⟩=>(e,5 a,c,d.tok _,(_,rfl),q a)) b]⟩)
open PySem.W PySem.Calls PySem.Builtin PySem.Builtin.ObjectAttr PySem.Builtin.Getset_descriptor
def EF(K:Frag)(C:jY):Bool:=(clsIn K C).isSome&&(findIn K (3 C) "__getattribute__"==8 (8 (.builtin "BaseException.__getattribute__")))&&(findIn K (3 C) "__getattr__"==8 _n)&&(findIn K (3 C) "__class__"==8 (8 (.builtin "object.__class__"))) &&
 (mroIn K C (.type "object")== 8 _t)&&(mroIn K C (.type "BaseException")== 8 _t)
section
variable{prog:jZ}{w:kB}{A:kD}{E:jQ}{h:Heap}{g:Array GenState}{d:Drawn}{t:Nat}{os:OsState}{a C:jY}{o:Obj}{K:Frag}
end
section
variable{K:Frag}{a C:jY}{o:Obj}
end
abbrev Cx.o9(X:Cx)(a:jY)(o:Obj):Cx:={X with A:=X.A.mark (8 (3 a)),calm:=_x,pn:=[(a,o)],xe:=λ_ _=>False }
section
variable{X:Cx}{Y:St}{H:Hp}{s:jW}{a C:jY}{o:Obj}
def ZD.o9(I:ZD X [] Y H s)(f:s.heap.get? a=8 o)(g:H a=_n)(b:∃vs,o.data=.fields vs):ZD (X.o9 a o) [] Y H s:=by
 let(vs,b):=b;let(m,(i,d,c,h,e,j),2):=id I.loc;erw[(I.ok.mod,I.ok.kind,I.ok.glob,I.ok.blt,I.ok.above,I.ok.inj,I.ok.has,I.ok.ib,λz=>Bool.noConfusion z,I.ok.frames,I.ok.oQ,I.ok.exf,I.ok.bs,I.ok.ia,I.ok.oz,I.ok.iu,I.ok.o7,I.ok.iz),I.os,I.bare,I.base,I.loc,I.cell,I.free,I.iy,λp c=>?_,I.og,I.len];let e:p=(a,o):=by simpa using c
 subst e;erw[f,g,λz=>?_,λz=>?_,λv z=>?_]
 .grind
 .let(2,e,c,d):=I.o7.mem (show a∈X.outer.filterMap (·.frame) from z);rw[f] at c;ext c;rwa[d vs b]
 .grind
def ZD.j4(I:ZD (X.o9 a o) [] Y H s)(c:X.Ok)(b:X.pn=[]):ZD X [] Y H s:=((c,I.os,I.bare,I.base,I.loc,I.cell,I.free,I.iy,(λp c=>by rw[b] at c;ext c),I.og,I.len))
def Pq{M:Model}{A:kD}{E:jQ}{Q:Unit->jW->Prop}(I:ZD X [] Y H s)(c:X.pn=[])(b:X.ex=[])(b:X.stack=X.env::X.outer)(x:TB X.s₀.heap H s.heap a C)(k:∀h',ZD X [] Y H {s with heap:=h' }->TB X.s₀.heap H h' a C->Q _u {s with heap:=h' }):_w M A (setFlight (3 a) _n) Q E s:=by
 let(h,b,j,n,g,f,i,e,l,d):=id x;rcases d with m | d
 .unfold setFlight;erw[_b (_d f e m ?_)];rw[_i aA];rwa[_p (k s.heap I x)]
 .rwa[ES I c (h,b,j,n,g,f,i,e,l,d) λh' b c=>k h' b c.at_]
end
def Av(K:uFg)(C D:jY):Option Bool:=if ((PySem.W.clsIn K D).isSome&&(typeIn K (3 D)== 8 (.type "type"))&&(subIn K (3 D) (.type "BaseException")== 8 _t))=_t then subIn K (3 C) (3 D) else _n
def dR{M:Model}{A:kD}{E:jQ}{s:jW}{K:uFg}{a C D:jY}{oe:Obj}{b:Bool}{Q:Bool->jW->Prop}(X:K.In s.heap)(j:s.heap.get? a=8 oe)(i:oe.cls=3 C)(e:Av K C D=8 b)(q:Q b s):_w M A (excMatches (3 a) (3 D)) Q E s:=by
 unfold Av at e;split at e
 .rename_i z;simp only[yS] at z;let((g,d),f):=z;let c:=PySem.W.looks_typeIn (M:=M) X (beq_iff_eq.mp d);let d:=looks_subIn (M:=M) X (beq_iff_eq.mp f);let f:=looks_subIn (M:=M) X e;let h:Looks M s.heap (isInstance (3 D) (.type "tuple")) false:=c.andThen (Looks.of_pure tc_notTuple);let(cdD,c):=Option.isSome_iff_exists.mp g;let LT:Looks M s.heap (isType (3 D)) true:=by
   unfold PySem.W.clsIn at c;split at c
   .rename_i m n g k l;intro g n m o k q;unfold isType loadHead;rwa[_b (wpAny_loadPart (k _ _ (X _ _ l)) (_p q))]
   .ext c
  let LE:Looks M s.heap (isExcClass (3 D)) true:=LT.andThen d;let c:Looks M s.heap (typeOf (3 a)) (3 C):=i▸(Looks.ld j).andThen .now;let(i,g,d,t,os):=s;unfold excMatches;erw[_b (h.at ?_)];simp only[zJ,if_false];erw[_b (_p ?_)];simp only[List.forIn_cons,List.forIn_nil];erw[_b (_b (_b (LE.at ?_)))];simp only[Bool.not_true,zJ,if_false];erw[_p (_p ?_)];erw[_b (c.at (_b (_b (_b (f.at ?_)))))];cases b with
  | true=>simp only[if_true];rwa[_p (_p (_p q))]
  | false=>simp only[zJ,if_false];rwa[_p (_p (_p q))]
 .ext e
def PH(X:Cx)(hs:List ExceptHandler)(t:jY->TS):Prop:=∀(a C:jY)(s:jW)(Y:St)(H:Hp)(D:YG),ZD X [] Y H s->TB X.s₀.heap H s.heap a C->t C D Y H->_w (_m X.prog X.w) X.A (handleBy (3 a) X.env hs) (SP X [] D) X.xe s
structure QH (X:Cx) (hs:List ExceptHandler) (t:jY->TS):Prop where
 h:PH X hs t
def NF:jY->TS:=λ_ _ _ _=>False
def fP(K:uFg)(a:jY)(ts:TS)(c:jY->TS):jY->TS:=λC D Y H=>∃b,Av K C a=8 b/\if b=_t then ts D Y H else c C D Y H
structure Pl (X:Cx):Prop where
 pn:X.pn=[]
 ex:X.ex=[]
 oQ:X.stack=X.env::X.outer
 fr:X.env.frame=8 X.env.locals
section
variable{X:Cx}{x n:Str}{np pos:Pos}{b₀:Stmt}{suite:List Stmt}{rest:List ExceptHandler}{Dc:jY}{tr:jY->TS}
def jJ:QH X [] NF:=(⟨λ_ _ _ _ _ _ _ _ h=>h.elim⟩)
def SU{a:jY}{o:Obj}{D:YG}{f:Flow}{s:jW}(c:X.Ok)(b:X.pn=[])(h:SP (X.o9 a o) [] D f s):SP X [] D f s:=by
 cases f with
 | next=>let(Y,H,I,q):=h;rwa[Y,H,I.j4 c b,q]
 | brk=>let(Y,H,I,q):=h;rwa[Y,H,I.j4 c b,q]
 | cont=>let(Y,H,I,q):=h;rwa[Y,H,I.j4 c b,q]
 | ret u=>let(v,Y,H,I,r,q):=h;rwa[v,Y,H,I.j4 c b,r,q]
def RO{ts:TS}(p:Pl X)(l:X.mg x=8 (3 Dc))(j:∀a o,WY (X.o9 a o) (b₀::suite) ts)(m:QH X rest tr)(nm:autoParam (nB X x .globalImplicit) y2z) :
  QH X (.ExceptHandler (8 (.Name x np)) _n (b₀::suite) pos::rest) (fP X.K Dc ts tr):=(⟨by
 let nm:=od nm;intro a C s Y H D I c h;let(b,e,h):=h;let(g,f,r,t,u,d,i,k,v,2):=id c;let J:=I.o9 d g (t,k);erw[wpAny_handleBy_cons (codeAny_handlers_test (BM (X:=X.o9 a r) J nm.1 l ?_ nm.2.1)) (by intro q;ext q)];erw[dR J.oi d i.1 e ?_];cases b with
 | false=>rwa[m.h a C s Y H D I c h]
 | true =>
  erw[codeAny_handlers_suite (Pq I p.pn p.ex p.oQ c λb i g=>?_)];let(b,2,e,f,2,d,2,c,2):=g
  erw[wpAny_mono ((j a e).h [] _ Y H D (i.o9 d b (f,c)) h) (λf b q=>SU I.ok p.pn q) λ_ _ z=>z.elim]⟩)
end
def RC(X:Cx)(st:Stmt)(t:TS):Prop:=∀(s:jW)(Y:St)(H:Hp)(D:YG),ZD X [] Y H s->t D Y H->_w (_m X.prog X.w) X.A (exec st X.env) (SP X [] D) X.xe s
def N9(X:Cx)(st:List Stmt)(t:TS):Prop:=∀(s:jW)(Y:St)(H:Hp)(D:YG),ZD X [] Y H s->t D Y H->_w (_m X.prog X.w) X.A (execs st X.env) (SP X [] D) X.xe s
structure Fz (X:Cx) (st:Stmt) (t:TS):Prop where
 h:RC X st t
structure JA (X:Cx) (st:List Stmt) (t:TS):Prop where
 h:N9 X st t
def Ou(a:(St->XK)->TS)(b:jY->TS):TS:=λD Y H=>a (λa c _ J=>∃C,c=3 C/\b C D a J) D Y H
section
variable{X:Cx}{st:Stmt}{rest:List Stmt}{t u:TS}
def QS.q0(h:QS X st t):Fz X st t:=(⟨λs Y H D I q=>h.h [] s Y H D I q⟩)
def WY.q0(h:WY X rest t):JA X rest t:=(⟨λs Y H D I q=>h.h [] s Y H D I q⟩)
def CB(a:Fz X st t)(d:JA X rest u):JA X (st::rest) (Uu t u):=(⟨by
 intro s Y H D I h;rw[execs];erw[_b (thn (a.h s Y H _ I h) λf e q=>?_)];cases f with
 | next =>
  let(a,b,c,q):=q;rwa[d.h e a b D c q]
 | brk=>rwa[_p q]
 | cont=>rwa[_p q]
 | ret u=>rwa[_p q]⟩)
def OT(p:Pl X)(j:∀a b,Xq (X.ja a) b->WY (X.ja a) body (tb b))(k:QH X (h₀::hs) th):Fz X (.Try body (h₀::hs) [] [] pos) (Ou tb th):=(⟨by
 intro s Y H D I h;refine wpAny_Try_except ?_;have f:∀{a} {Y:St}{H:Hp}{s:jW},ZD X [] Y H s->ZD (X.ja a) [] Y H s:=λI=>⟨⟨I.ok.mod,I.ok.kind,I.ok.glob,I.ok.blt,I.ok.above,I.ok.inj,I.ok.has,I.ok.ib,I.ok.hd,I.ok.frames,I.ok.oQ,I.ok.exf,I.ok.bs,I.ok.ia,I.ok.oz,I.ok.iu,I.ok.o7,I.ok.iz⟩,I.os,I.bare,I.base,I.loc,I.cell,I.free,I.iy,I.pin,I.og,I.len⟩;have b:∀{a} {Y:St}{H:Hp}{s:jW}{B:List (jY×Obj)},ZD (X.ja a) B Y H s->ZD X B Y H s:=λI=>⟨⟨I.ok.mod,I.ok.kind,I.ok.glob,I.ok.blt,I.ok.above,I.ok.inj,I.ok.has,I.ok.ib,I.ok.hd,I.ok.frames,I.ok.oQ,I.ok.exf,I.ok.bs,I.ok.ia,I.ok.oz,I.ok.iu,I.ok.o7,I.ok.iz⟩,I.os,I.bare,I.base,I.loc,I.cell,I.free,I.iy,I.pin,I.og,I.len⟩;have l:Xq (X.ja λe a=>wpAny (model X.prog X.w) X.A (noteFrame e X.env) (λ_ c=>wpAny (model X.prog X.w) X.A (setFlight e none) (λ_ d=>wpAny (model X.prog X.w) X.A (handleBy e X.env (h₀::hs)) (SP X [] D) X.xe d) X.xe c) X.xe a)
   λa c _ J=>∃C,c=3 C/\th C D a J:=⟨2 ⟨p.ex,⟨λB d g e a C c x q=>by
  obtain⟨m,i,q⟩:=q;cases i;have i:=(b c).oI (pins':=[]) (λp c=>nomatch c)
  exact Nn i p.pn p.ex p.oQ p.fr x λi c y=>k.h a C _ d g D c y q⟩⟩⟩
 refine wpAny_mono ((j _ _ l).h [] s Y H D (f I) h) (λf e q=>?_) λ_ _ z=>z;have a:SP X [] D f e:=by
  cases f with
  | next=>obtain⟨Y,H,I,q⟩:=q;exact⟨Y,H,b I,q⟩
  | brk=>obtain⟨Y,H,I,q⟩:=q;exact⟨Y,H,b I,q⟩
  | cont=>obtain⟨Y,H,I,q⟩:=q;exact⟨Y,H,b I,q⟩
  | ret u=>obtain⟨v,Y,H,I,r,q⟩:=q;exact⟨v,Y,H,b I,r,q⟩
 cases f with
 | next=>exact wpAny_pure a
 | brk=>exact a
 | cont=>exact a
 | ret u=>exact a⟩)
end
section
variable{P:jZ}{w:kB}{K:uFg}{mg:jR}{Z:Heap}
def Ti.ok0{x qual:Str}{st:Stmt}{f:jY}{d:FuncData}{N ps:jS}{k:Nat}{c:Sp}(F:Ti K x qual st f d)(S:ZK N ps (Zj st))(b:∀vs H Q E,c vs H Q E->vs.9=ps.9)(a:∀ (cdv:jX) (A:kD) (outer:List Env) (s:jW) (H:Hp) (vs:aG) (Q:VK) (E:XK),ZL k (A.deeper (envOfC qual (Zj st) s.heap.objs.size f cdv))->c vs H Q E -> ∃t,JA (Yq YV P w K mg Z N qual (Zj st) f cdv A outer s H E).oE (Yu st) t/\t {nx:=λ_ J=>Q .non J,rt:=Q } (start N vs) H):10 YD YV (k+1) f d ps c:=by
 let(i,od,kV,c,j,e,cdv,h,d,7,p,g):=F.ex;erw[b,λA outer s H e n vs Q E h c l r d=>?_];let m:=b _ _ _ _ d;let j:K.In s.heap:=c.mod.kin.keeps λb o e=>(c.bs b o e).1;let i:s.heap.NoLimit:=c.mod.nolimit.keeps λb o e=>(c.bs b o e).1;let b:∀y∈ps.zip n,(Zj st).names.lookup y.1=8 .local\/((Zj st).names.lookup y.1=8 .cell/\((cellsFrom (s.8+1) (Zj st).names []).lookup y.1).isSome=_t):=λ⟨n,v⟩ o=>by
  rcases S.par n (zH o).1 with q | q
  .rwa[1 q]
  .rwa[2 (q,cellsFrom_some _ _ _ (1 q))]
 erw[codeAny_call_function h.depth (j _ _ p) rfl S.co S.gen rfl (codeRec_of j g) (l _ _ _ _ ?_)];erw[wpAny_newFunctionEnv_cells S.kind b λg j b x=>?_];subst j;erw[i.keeps x.toInCall.keep,codeAny_func ?_];let(t,i,g):=a cdv A outer s H vs Q E (h.deeper _) d;let a:ZD (Yq YV P w K mg Z N qual (Zj st) f cdv A outer s H E) [] (start N vs) H b:=Gn S h.hd c m r x;let I:ZD (Yq YV P w K mg Z N qual (Zj st) f cdv A outer s H E).oE [] (start N vs) H b:=((a.ok.mod,a.ok.kind,a.ok.glob,a.ok.blt,a.ok.above,a.ok.inj,a.ok.has,a.ok.ib,a.ok.hd,a.ok.frames,a.ok.oQ,a.ok.exf,a.ok.bs,a.ok.ia,a.ok.oz,a.ok.iu,a.ok.o7,a.ok.iz),a.os,a.bare,a.base,a.loc,a.cell,a.free,a.iy,a.pin,a.og,a.len);erw[wpAny_mono (i.h b (start N vs) H _ I g) (λg a c=>?_) λe a c=>c.elim];let d:∀{b:St}{J:Hp}{v:V}{u:jX},ZD (Yq YV P w K mg Z N qual (Zj st) f cdv A outer s H E).oE [] b J a->ZH v u->Q v J->CE outer P w H s Q u a :=
  λ{b J v u} a e q=>(v,J,a.os,a.bare,a.base,a.og,e,q)
 cases g with
 | ret u =>
  let(v,b,J,a,e,q):=c;rwa[d a e q]
 | next =>
  let(b,J,a,q):=c;rwa[d (v:=V.non) (u:=Value.none) a rfl q]
 | brk=>let(222,z):=c;rwa[z.elim]
 | cont=>let(222,z):=c;rwa[z.elim]
def YB.fn0{x:Str}{st:Stmt}{N ps:jS}{k:Nat}{c:Sp}(h:YB K mg x st)(S:ZK N ps (Zj st))(d:∀ (kV doc pm:jX) (an:Option jY) (cdv ct:jX) (us:jT),us.9=ps.9->bindArgs (fnOf x x (Wy st) (Yu st) (Zj st) .none kV doc pm an cdv ct) (us,[])=pure (ps.zip us))(b:∀vs H Q E,c vs H Q E->vs.9=ps.9)(a:∀ (f:jY) (cdv:jX) (A:kD) (outer:List Env) (s:jW) (H:Hp) (vs:aG) (Q:VK) (E:XK),ZL k (A.deeper (envOfC x (Zj st) s.heap.objs.size f cdv))->c vs H Q E -> ∃t,JA (Yq YV P w K mg Z N x (Zj st) f cdv A outer s H E).oE (Yu st) t/\t {nx:=λ_ J=>Q .non J,rt:=Q } (start N vs) H):10 Fn x ps (k+1) c:=by
 let(f,c,F,e):=h;rwa[f,c,e,F.kp,F.binds d,F.ok0 S b (a f)]
end
def Ht{b:T8}{P:jZ}{w:kB}{K:uFg}{mg:jR}{Z:Heap}{N:jS}{qual:Str}{a:Scope}{f:jY}{c:jX}{A:kD}{outer:List Env}{s:jW}{H:Hp}{E:XK} :
  Pl (Yq b P w K mg Z N qual a f c A outer s H E).oE:=((3,333))
structure Er (K:uFg) (mg:jR) (c:jU) (errs:jS):Prop where
 g:∀x,x∈errs->mg x=8 (3 (c x))
 x:∀x,x∈errs->Ax K (c x)=_t
 k:∀x,x∈errs->EF K (c x)=_t
 m:mg "MootError"=8 (3 (c "MootError"))
 e:∀x,x∈errs->Av K (c x) (c "MootError")=8 _t
 s:∀x,x∈errs->∀y,y∈errs->Av K (c x) (c y)=8 (decide (x=y))
 i:∀x,x∈errs->∀y,y∈errs->kitOne K (3 (c x)) (3 (c y))=8 (decide (x=y))
 v:∀x,x∈errs->kitOne K (3 (c x)) (.type "ValueError")=8 _t
def Wi{X:Cx}{E:St->XK}{x:Str}{j a pos:Pos}{e:Expr}{te:TE}{c:jU}{es:jS}(i:Xp X E)(f:Er X.K X.mg c es)(h:QE X e te)(g:autoParam (decide (x∈es)=true) y2z)(n:autoParam (nB X x .globalImplicit) y2z)(b:autoParam (X.calm=true) y1z)(d:autoParam (X.ex=[]) y1z)(hs:autoParam (_e [e] X.env=[(_x,eval e X.env)]) y1z):QS X (.Raise (8 (.Call (.Name x j) [e] [] a)) _n pos) (KP E (c x) te):=(Ri i b d (f.x x (od g)) (od n) (f.g x (od g)) h hs)
abbrev lxE(X:Cx)(E:St->XK):jX->jW->Prop:=λ(e:jX) (s':jW)=>∃ Y H a C,e=3 a/\ZD X [] Y H s'/\TB X.s₀.heap H s'.heap a C/\E Y (3 C) _n H
abbrev Cx.lx(X:Cx)(E:St->XK):Cx:=X.ja (lxE X E)
def Oe{X:Cx}{st:Stmt}{t:TS}{E:St->XK}(p:Pl X)(w:Xp X E)(h:Xq (X.lx E) E->Xp (X.lx E) E->PassesOwn (model X.prog X.w) X.A X.env (lxE X E)->QS (X.lx E) st t):QS X st t:=(⟨by
 intro B s Y H D I q;have j:∀{a} {Y:St}{H:Hp}{s:jW}{B:List (jY×Obj)},ZD X B Y H s->ZD (X.ja a) B Y H s:=λI=>⟨⟨I.ok.mod,I.ok.kind,I.ok.glob,I.ok.blt,I.ok.above,I.ok.inj,I.ok.has,I.ok.ib,I.ok.hd,I.ok.frames,I.ok.oQ,I.ok.exf,I.ok.bs,I.ok.ia,I.ok.oz,I.ok.iu,I.ok.o7,I.ok.iz⟩,I.os,I.bare,I.base,I.loc,I.cell,I.free,I.iy,I.pin,I.og,I.len⟩;have b:∀{a} {Y:St}{H:Hp}{s:jW}{B:List (jY×Obj)},ZD (X.ja a) B Y H s->ZD X B Y H s:=λI=>⟨⟨I.ok.mod,I.ok.kind,I.ok.glob,I.ok.blt,I.ok.above,I.ok.inj,I.ok.has,I.ok.ib,I.ok.hd,I.ok.frames,I.ok.oQ,I.ok.exf,I.ok.bs,I.ok.ia,I.ok.oz,I.ok.iu,I.ok.o7,I.ok.iz⟩,I.os,I.bare,I.base,I.loc,I.cell,I.free,I.iy,I.pin,I.og,I.len⟩;have l:PassesOwn (model X.prog X.w) X.A X.env (lxE X E):=by
  rintro e u ⟨c,d,a,C,rfl,g,k,i⟩;refine Kq g p.pn p.ex p.oQ p.fr k λo m f _=>?_;obtain⟨y,n,F,M,x,t,z,r,K,T,A,J,L,v,G⟩:=id f;show wpAny _ _ (field (3 a) 1 >>= _) _ _ _;refine wpAny_bind (wpAny_field t r v ?_);rw[if_neg (show ¬((Value.ref T==Value.none)=true) from by simp)];exact ES (s:={u with heap:=o }) m p.pn f λn f m=>⟨c,d,a,C,rfl,f,m.at_,i⟩
 have f:Xp (X.lx E) E:=⟨λB c d m a C g k i=>by exact⟨c,d,a,C,rfl,(b g).oI (λp l=>nomatch l),k,i⟩⟩;refine wpAny_mono ((h ⟨2 ⟨p.ex,f⟩⟩ f l).h B s Y H D (j I) q) (λf m q=>?_) λe m z=>?_
 .cases f with
  | next=>obtain⟨Y,H,I,q⟩:=q;exact⟨Y,H,b I,q⟩
  | brk=>obtain⟨Y,H,I,q⟩:=q;exact⟨Y,H,b I,q⟩
  | cont=>obtain⟨Y,H,I,q⟩:=q;exact⟨Y,H,b I,q⟩
  | ret u=>obtain⟨v,Y,H,I,r,q⟩:=q;exact⟨v,Y,H,b I,r,q⟩
 .obtain⟨c,d,a,C,rfl,g,k,i⟩:=z
  exact w.h [] c d m a C g k i⟩)
def Ef{X:Cx}{c a:Expr}{b:List Stmt}{d:TI}{g:TG}{t:TS}{pos:Pos}{E:St->XK}(p:Pl X)(j:Xp X E)(f:X.calm=_t)(i:QI (X.lx E) c a d)(h:QG (X.lx E) c g)(e:Xq (X.lx E) E->Xp (X.lx E) E->WY (X.lx E) b t)(hs:autoParam (∀x,foldedSetIterable a X.env x=pure x) y5z):QS X (.For c a b [] pos) (MF d g t):=(Oe p j λb a c=>Wd (X:=X.lx E) c f i h (e b a) hs)
section
variable{X:Cx}
end
section
variable{P:jZ}{w:kB}{A:kD}{E:jQ}{s:jW}
end
section
variable{X:Cx}{B:List (jY×Obj)}{Y:St}{H:Hp}{s:jW}
def ZD.freeze{d:jY}{o:Obj}{U:List (ZV×V)}(I:ZD X B Y H s)(e:H d=8 (.dK U))(a:s.heap.get? d=8 o):ZD X B Y (upd H d (.frz o (.dK U))) s:=by
 let h:=I.write (h':=s.heap) (t':=s.toks) (x:=d) (e:=d) (o:=.frz o (.dK U)) (by rw[e];rwa[True.intro]) (1 S) (λ_ _ _ q=>q) (o,a) (a,5)
 .rwa[h]
 .let(z,y,a,r,q):=(show ZQ X.prog X.w H s.heap d (.dK U) from I.og d _ e);rwa[z,y,a,r,q]
def ZD.nofrz{d:jY}{U:List (ZV×V)}(I:ZD X B Y H s)(e:H d=8 (.dK U)):∀o u,X.H₀ d≠8 (.frz o u):=(λo u z=>by
 have:=I.base.o6 d o u z;rw[e] at this;ext this)
def ZD.thaw{d:jY}{o:Obj}{U:List (ZV×V)}(I:ZD X B Y H s)(e:H d=8 (.frz o (.dK U)))(j:∀o u,X.H₀ d≠8 (.frz o u)):ZD X B Y (upd H d (.dK U)) s:=by
 let a:∀b u,H b=8 u->(∀x,u ≠ .frz o x)->b≠d:=λb u q n z=>by rw[z,e] at q;rwa[n _ (ma q).6]
 let f:∀b,H b=_n->b≠d:=λb q z=>by rw[z,e] at q;ext q
 erw[I.ok,I.os,I.bare,(I.base.keep,I.base.slot,λb g q n i=>?_,I.base.there,λb L q=>?_,λb g u q=>?_,λb k q=>?_),I.loc,I.cell,5,λx c q=>?_,λp h=>?_,λb u q=>?_,I.len]
 .have:=I.base.free b g q n i;rw[Ze (f b this)];rwa[this]
 .have:=I.base.j3 b L q;rw[Ze (a b _ this λ_ z=>nomatch z)];rwa[this]
 .have:=I.base.o6 b g u q;rw[Ze (λz=>j g u (by rw[<- z];rwa[q]))];rwa[this]
 .let(m,g):=I.base.oU b k q;rwa[m,by rw[Ze (a b _ g λ_ z=>nomatch z)];rwa[g]]
 .rw[Ze (f _ I.free)];rwa[I.free]
 .rw[Ze (f _ (I.iy x c q))];rwa[I.iy x c q]
 .let(i,g,j,k,l):=I.pin p h;rwa[i,by rw[Ze (f _ g)];rwa[g],j,k,l]
 .by_cases f:b=d
  .subst f;rw[Zi] at q;ext q;let(2,z,y,g,r,c):=(show ZQ X.prog X.w H s.heap b (.frz o (.dK U)) from I.og b _ e);rwa[z,y,g,r,c]
  .rw[Ze f] at q;erw[(I.og b u q).oP (λ_ _ _ z=>z) (λc z=>?_) λc L z=>?_]
   .rw[Ze (a c _ z λ_ y=>nomatch y)];rwa[z]
   .rw[Ze (a c _ z λ_ y=>nomatch y)];rwa[z]
end
section
variable{te:TE}
inductive Cd(te:TE)(Y:St)(H:Hp)(Q:VK):Prop
 |mk(d U)(_:H d=8 (.dK U))(_:∀o,te Y (upd H d (.frz o (.dK U))) λv J=>J d=8 (.frz o (.dK U))/\Q v (upd J d (.dK U)))
def Xv(h:QE X e te):QE X e (Cd te):=(⟨by
 intro B s Y H Q I q;let(d,U,a,q):=q;let(z,y,i,r,o,g,f,b,c):=(show ZQ X.prog X.w H s.heap d (.dK U) from I.og d _ a);let c:=I.nofrz a
 rwa[thn (h.h B s Y _ _ (I.freeze a b) (q o)) λu i ⟨x,g,a,f,b,d⟩=>(x,2,a.thaw b c,f,d)]⟩)
end
def Gy(d:jY)(o:Obj)(U:List (ZV×V)):It :=
 (λi H=>H d=8 (.frz o (.dK U))/\i<U.9,λi H v J=>J=H/\∃p,U[i]?=8 p/\v=kV p.1,λi H=>H d=8 (.frz o (.dK U))/\U.9<=i)
def jK(h:(Wu P w).is k v=_t):ZH (kV k) v:=by
 cases k with
 | inl i =>
  ext v<;>first
   | rwa[_a (show _x=_t from h) xK]
   | skip
  rename_i j t;let e:j=i:=by
   let h:(j==i)=true:=h;rwa[eq_of_beq h]
  rwa[t,by rw[e]]
 | inr x =>
  ext v<;>first
   | rwa[_a (show _x=_t from h) xK]
   | skip
  rename_i j t;let e:j=x:=by
   let h:(j==x)=true:=h;rwa[eq_of_beq h]
  rwa[t,by rw[e]]
def KV.get{κ:Type}:∀{U:List (κ×V)}{vs:List (κ×jX)}{i:Nat}{p:κ×V}{q:κ×jX},KV U vs->U[i]?=8 p->vs[i]?=8 q->p.1=q.1/\ZH p.2 q.2:=by
 intro U vs i p q r;unfold KV at r
 induction r generalizing i with
 | nil=>intro h;simp at h
 | cons h t c =>
  intro a b;cases i with
  | zero =>
   let a:8 _=8 p:=a;let b:8 _=8 q:=b;ext a;ext b;rwa[h]
  | succ i=>rwa[c (i:=i) a b]
def O4{P:jZ}{w:kB}{K:uFg}{a:Expr}(it d:jY)(o:Obj)(U:List (ZV×V))(vs:List (ZV×jX))(j:Nat)(p:d≠it)(g:KV U vs)(R:∀h:Heap,h.get? d=8 o->h.DictAt (Wu P w) d vs j) :
  VL P w K a (Gy d o U) [it] it (λi h=>h.IsKeyIter it d i vs.length j) where
 mem:=by simp
 obj:=λi h st b c=>by
  let e:b=it:=by simpa using c
  subst e;let(a,N,m,f):=st;rwa[a,N,λv q=>by rw[f] at q;ext q]
 keep:=λi h l st k=>st.at λa q=>k it (by simp) a q
 item:=by
  intro X L Q J m i B s Y H E I r st M;subst L Q J;let(y,z,f2,C,F,G):=r it (by simp);let(u,t):=M;let(f,2):=(show ZQ X.prog X.w H s.heap d (.frz o (.dK U)) from I.og d _ u);let W:=Walks.dictKeys (prog:=X.prog) (w:=X.w) (A:=X.A) (knd:=Wu X.prog X.w) (I.ok.hd m) it d p vs j;erw[W.item i s _ _ (by rw[<- g.9];rwa[t]) (st,R _ f) λv l Z p j O=>?_];let(k,x,hx,hk):=p;let I1:ZD X B Y H {s with heap:=l,toks:=Z }:=I.turned (λb a c e=>O b a (by simpa using c) e) y z C F G;let(a,N,v,x):=id j.1;obtain⟨p,T⟩:∃p,U[i]?=8 p:=(2,xB t);let O:p.1=k:=(KV.get g T hx).1;erw[1,BV (s:={s with heap:=l,toks:=Z }) (n:="dict_keyiterator") N v x aA (kV p.1,H,I1,by rw[O];rwa[jK hk],(3,p,T,3),j.1,λb c=>(r b c).1)]
 done:=by
  intro X L Q J m i B s Y H E I r st M;subst L Q J;let(y,z,f2,C,F,G):=r it (by simp);let(u,t):=M;let(f,2):=(show ZQ X.prog X.w H s.heap d (.frz o (.dK U)) from I.og d _ u);rwa[wpAny_pyNext_dict_end (I.ok.hd m) st (R _ f) (wY (by rw[<- g.9];rwa[t])) λl f=>(3,I.turned (t':=s.toks) (λb a c e=>f b a c e) y z C F G)]
 self:=λ_ _ _ _ _ st h=>wpAny_pyIter_keyiter st h
section
variable{te:TE}
inductive Br(R:It->Hp->Prop)(x:V)(a:Hp):Prop
 |mk(d o U)(_:x=3 d)(_:a d=8 (.frz o (.dK U)))(_:R (Gy d o U) a)
def OF(te:TE):TI:=λY H R=>te Y H λx a=>Br R x a
def NU(a:QE X l te):QI X tg l (OF te):=(⟨by
 intro B s Y H R I h;refine thn (a.h B s Y H _ I h) λu f ⟨x,k,i,b,d,o,U,a,e,q⟩=>?_;subst a;obtain rfl:u=Value.ref d:=b;obtain⟨a,z,g,p,j,n,r,m,b,c⟩:=(show ZQ X.prog X.w k f.heap d (.frz o (.dK U)) from i.og d _ e);rw[a] at b;cases b;have n:∀h:Heap,h.get? d=some o->h.DictAt (Wu X.prog X.w) d p m:=λh e=>⟨o,r,e,c⟩;refine wpAny_pyIter_dict g (n _ a) ?_;have c:d<f.heap.objs.size:=xO a;refine⟨f.heap.objs.size,[f.heap.objs.size],_,_,k,rfl,i.kept (t':=f.toks) λb a e=>xC _ e,O4 f.heap.objs.size d o U p m (yF c) j n,⟨_,xN _ rfl,rfl,rfl⟩,λb a=>?_,q⟩;have e:b=f.heap.objs.size:=by simpa using a
 subst e
 exact i.ix (xD _) (i.og.fresh (xD _))⟩)
end
def RH(Pv:Nat->List V->Hp->Prop)(e:Pv 0 [] H)(h:U.9<=1000000)(c:∀i ys H,i<=U.9->Pv i ys H->H d=8 (.frz o (.dK U)))(b:∀i ys H,Pv i ys H->ys.9<=i)(step:∀i p ys H,U[i]?=8 p->Pv i ys H->Vy nl fv g tt te (kV p.1) H (λy J=>Pv (i+1) (ys ++ [y]) J) λJ=>Pv (i+1) ys J)(f:∀ys H,Pv U.length ys H->∀l,H l=_n->Q (3 l) (upd H l (6 ys))) :
  Uj (Gy d o U) nl fv g tt te Q H:=by
 let a:(U.map λp=>kV p.1).9=U.9:=xA ..;erw[CY (L:=U.map λp=>kV p.1) Pv e (by rw[a];rwa[h]) ?_ ?_ ?_ b ?_ ?_]
 .intro i H ys b p;rw[a] at b;rwa[c i ys H (zC b) p,b]
 .rintro i H x J ys b p ⟨rfl,q,e,rfl⟩;rwa[7,by rw[xG,e];rfl]
 .intro H ys p;rw[a] at p |-;rwa[c _ ys H (xD _) p,xD _]
 .grind
 .intro ys H p;rw[a] at p;rwa[f ys H p]
inductive Dh(K:uFg)(L:aG)(H:Hp)(Q:VK):Prop
 |mk(a) (ns)(_:L=[3 a])(_:ZG K H a (ns.map V.int))(_:ns ≠ [])(_:∀m,m∈ns->(∀x∈ns,x<=m)->Q (4 m) H)
def ND:∀{us:jT},ZJ (ns.map V.int) us->∃L:List (Int×Tok),L.map (·.1)=ns/\us=L.map λp=>Value.int p.1 p.2:=by
 induction ns with
 | nil=>intro us r;ext r;rwa[[],37]
 | cons n ns c =>
  intro us r;cases r with
  | cons a d =>
   let(t,3):=a;let(L,a,b):=c d;rwa[(n,t)::L,by rw[yO,a],by rw[yO,b]]
def eZ(g:X.calm=true):QC X (.builtin "max") (Dh X.K):=(⟨by
 intro B s Y H L a Q I r h;obtain⟨a,f,rfl,b,c,q⟩:=h;obtain⟨u,rfl,c⟩:=Ju r;cases c;obtain⟨c,e,p,_⟩:=I.list b;obtain⟨b,c,d⟩:=ND e;subst d;have d:s.heap.IsList a (intItems b.toArray):=by
  have:=p.isList;have e:intItems b.toArray=(b.map λp=>Value.int p.1 p.2).toArray:=by unfold intItems;simp
  rw[e];exact this
 have a:0<b.toArray.size:=by grind
 refine max_intList (I.ok.hd g) d a λv d e a k=>?_;obtain⟨e,d⟩:=argBest_gt (numAt b.toArray) (b.toArray.size - 1);generalize argBest (λi j=>decide (numAt b.toArray i > numAt b.toArray j)) (b.toArray.size - 1)=j at a e d;obtain⟨t,rfl⟩:=intItems_at a;have num:∀i:Nat,i<b.length->f[i]?=some (numAt b.toArray i):=λi a=>by
  rw[<- c,xG];unfold numAt;rw[List.getElem?_toArray,xB a];rfl
 have e:b.toArray.size=b.length:=xW ..;have e:f.length=b.length:=by rw[<- c,xA]
 refine⟨4 (numAt b.toArray j),H,I.kept k,⟨t,rfl⟩,q _ (xM (num j (by lia))) λx c=>?_⟩;obtain⟨i,a⟩:=List.getElem?_of_mem c;have c:i<b.length:=by have:=(xF.mp a).1;lia
 rw[num i c] at a;cases a
 exact d i (by lia)⟩)
section
variable{o:Expr}{te:TE}
end
def Rg(n:Nat)(f:Nat->Option (List V))(Pv:Nat->List V->Hp->Prop)(j:Pv 0 [] H)(a:n<=1000000)(c:∀i H ys,i<n->Pv i ys H->Jqz.go i H)(k:∀i H x J ys,i<n->Pv i ys H->Jqz.jb i H x J->∃p us,f i=8 us/\x=3 p/\H p=_n/\J=upd H p (7 us))(a:∀H ys,Pv n ys H->Jqz.stop n H)(a:∀i ys H,Pv i ys H->ys.9<=i)(step:∀i us p ys H,i<n->f i=8 us->Pv i ys H->H p=_n->Vy nl fv g tt te (3 p) (upd H p (7 us)) (λy J=>Pv (i+1) (ys ++ [y]) J) λJ=>Pv (i+1) ys J)(b:∀ys H,Pv n ys H->∀l,H l=_n->Q (3 l) (upd H l (6 ys))) :
  Uj Jqz nl fv g tt te Q H:=by
 let b:∀{x:V}{H:Hp}{Y e:V->Hp->Prop}{N d:Hp->Prop},Vy nl fv g tt te x H Y N->Y=e->N=d->Vy nl fv g tt te x H e d:=λh d e=>by subst d;subst e;rwa[h]
 erw[λi m ys H=>m=n - i/\i<=n/\Pv i ys H,(n,by simp,yI _,j),5];rintro i m ys H ⟨rfl,d,p⟩;let d:=a i ys H p;let a:(1000000:Nat)<sizeLine:=by decide
 by_cases a:i<n
 .erw[2 (c i H ys a p,6,n - (i+1),6,λx J y=>?_)];let(q,us,c,3,d,3):=k i H x J ys a p y;erw[b (step i us q ys H a c p d) ?_ ?_]
  .grind
  .grind
 .grind
def RV{K:uFg}{l:jY}{d:Nat}{b:St}{g:TG}{e:Tv}{te:TE}{Q:VK}{H:Hp}(L:aG)(Pv:Nat->List V->Hp->Prop)(f:Pv 0 [] H)(j:L.9<=1000000)(c:∀i ys H,i<=L.9->Pv i ys H->ZG K H l L)(a:∀i ys H,Pv i ys H->ys.9<=i)(step:∀i x p ys H,L[i]?=8 x->Pv i ys H->H p=_n->Vy d b g e te (3 p) (upd H p (7 [4 i,x])) (λy J=>Pv (i+1) (ys ++ [y]) J) λJ=>Pv (i+1) ys J)(h:∀ys H,Pv L.length ys H->∀l,H l=_n->Q (3 l) (upd H l (6 ys))) :
  Uj (Dt K l) d b g e te Q H:=by
 erw[Rg L.length (λi=>(L[i]?).map λx=>[4 i,x]) Pv f j (λi H ys b p=>(L,c i ys H (zC b) p,b)) ?_ (λH ys p=>(L,c _ ys H (xD _) p,xD _)) a ?_ h]
 .rintro i H x J ys b p ⟨q,a,rfl,e,rfl,d⟩;rwa[q,2,by rw[d L (c i ys H (zC b) p)];rfl,3,e,7]
 .grind
def Nc{K:uFg}{a:jY}{L:aG}{e:Nat}{d:St}{g:TG}{f:Tv}{te:TE}{Q:VK}{H:Hp}(Pv:Nat->List V->Hp->Prop)(h:Pv 0 [] H)(k:L.9<=1000000)(c:∀i ys H,i<=L.9->Pv i ys H->ZO K H a L)(b:∀i ys H,Pv i ys H->ys.9<=i)(step:∀i x ys H,L[i]?=8 x->Pv i ys H->Vy e d g f te x H (λy J=>Pv (i+1) (ys ++ [y]) J) λJ=>Pv (i+1) ys J)(j:∀ys H,Pv L.length ys H->∀l,H l=_n->Q (3 l) (upd H l (6 ys))) :
  Uj (Gx K a) e d g f te Q H:=by
 erw[CY (L:=L) Pv h k ?_ ?_ ?_ b step j]
 .intro i H ys b p;rwa[L,L[i],c i ys H (zC b) p,by simp[b]]
 .rintro i H x J ys b p ⟨rfl,y⟩;rwa[7,y L (c i ys _ (zC b) p)]
 .intro H ys p;rwa[L,c _ ys H (xD _) p,xD _]
section
variable{X:Cx}
inductive Be(K:uFg)(L:aG)(H:Hp)(Q:VK):Prop
 |mk(p ys)(_:L=[3 p])(_:((ZG K H p ys/\∀l,H l=_n->Q (3 l) (upd H l (7 ys)))\/(ZO K H p ys/\Q (3 p) H)))
def PU:QC X (.type "tuple") (Be X.K):=(.imp ⟨Qx⟩ λ_ _ _ ⟨p,y,a,b⟩=>(p,y,a,b))
end
section
variable{X:Cx}{tg iter e:Expr}{es ifs:List Expr}{scope:Scope}{pos cpos np:Pos}{locs:jS}{fr:List (Str×Nat)}{g:TG}{tt:Tv}{t:TA}{x:Str}
end
def Ea{P:jZ}{w:kB}{K:uFg}{mg:jR}{Z:Heap}{N:jS}{qual:Str}{a:Scope}{f:jY}{b:jX}{A:kD}{outer:List Env}{s:jW}{H:Hp}{E:XK} :
  Pl (Yq (Tw P w) P w K mg Z N qual a f b A outer s H E):=((3,333))
inductive JT(K:uFg)(x y:V)(H:Hp)(Q:VK):Prop
 |mk(b p) (c) (n) (vs)(_:x=3 b)(_:H b=8 (7 [4 c,5 n]))(_:y=3 p)(_:ZG K H p vs)(_:∀v∈vs,v=.non\/∃a d e,v=3 a/\H a=8 (7 [4 d,5 e]))(_:∀z:Bool,(z=_t↔∃a,V.ref a∈vs/\H a=8 (7 [4 c,5 n]))->Q (.bl (!z)) H)
theorem L9{B:List (jY×Obj)}{Y:St}{H:Hp}{s:jW}{A:kD}{b:jY}{c:Int}{n:Str}(I:ZD X B Y H s)(g:A.units<cLine)(j:H b=8 (7 [4 c,5 n])) :
  ∀{vs:aG}{us:jT},(∀v∈vs,v=.non\/∃a f i,v=3 a/\H a=8 (7 [4 f,5 i]))->ZJ vs us->(∀u∈us,SeqAt.EqAt A s u (3 b) (BZ H c n u))/\(us.any (BZ H c n)=_t↔∃a,V.ref a∈vs/\H a=8 (7 [4 c,5 n]))
 | [],us,h,r=>by
  ext r;rwa[(λu g=>nomatch g),(by simp)]
 | v::vs,us,h,r=>by
  cases r with
  | cons l e =>
   rename_i o d;let(k,m):=L9 I g j (λx d=>h x (xP _ d)) e;rcases h v yC with rfl | ⟨a,f,i,rfl,h1⟩
   .ext l;let(e,h,p,d):=I.tuple (ZO.of j);erw[λu d=>?_,5]
    .rcases xE.mp d with rfl | d
     .rwa[SeqAt.EqAt.none_tuple (show s.heap.IsTuple b e.4 from p) g]
     .rwa[k u d]
    .rw[mh];show (_x || _)=_t↔_;rw[Bool.false_or,m];rwa[λ⟨a,m,e⟩=>(a,xP _ m,e),λ⟨a,m,e⟩=>(a,(xE.mp m).elim (λz=>nomatch z) id,e)]
   .obtain rfl:o=Value.ref a:=l;let e:BZ H c n (3 a)=decide ((Prod.mk (f) (i))=(Prod.mk (c) (n))):=by
     show (match H a with | some (.tup [.int f,.str i])=>decide ((Prod.mk (f) (i))=(Prod.mk (c) (n))) | _=>_x)=_;rw[h1]
    erw[λu d=>?_,5]
    .rcases xE.mp d with rfl | d
     .rw[e];rwa[Xj I g h1 j]
     .rwa[k u d]
    .grind
def KL(h:ZL k X.A):WE X (_c .NotIn) (JT X.K):=(⟨by
 intro B s Y H x y v u Q I j l (b,p,c,n,i,a,e,d,g,f,q);let i:X.A.units+1<cLine:=by have:=h.units;lia
 subst a d;obtain rfl:v=Value.ref b:=j;obtain rfl:u=Value.ref p:=l;let(a,r,h,b):=I.list g;let(b,d):=L9 (A:=X.A.in1) I (by show X.A.units+1<cLine;rwa[i]) e f r;erw[SeqAt.notIn_listAt (BZ H c n) h.isList (λw e=>b w (by simpa using e)) (.bl _,H,I,75)];rw[show a.toArray.any (BZ H c n)=a.any (BZ H c n) by simp]
 rwa[q _ d]⟩)
def Ah(a:Nat->Nat->(Bool->jW->Prop)->jW->Prop)(r:Nat->Nat)(N:Nat)(s:jW):Prop:=∀i j C,i<N->j<N->C (decide (r i<r j)) s->a i j C s
def kp(r:Nat->Nat)(p:Array Nat)(i:Nat):Nat:=r (p.getD i 0)
def Pm(N:Nat)(p:Array Nat):Prop:=p.toList.Perm (List.range N)
def FI(r:Nat->Nat)(p:Array Nat)(m:Nat):Prop:=∀i,i+1<m->kp r p i<=kp r p (i+1)
section
variable{s:jW}{r:Nat->Nat}{N:Nat}{p:Array Nat}
def Pm.size(h:Pm N p):p.5=N:=by
 have:=h.length_eq;rw[yV] at this;simpa using this
def Pm.lt(h:Pm N p)(a:i<N):p.getD i 0<N:=by
 let b:i<p.5:=by rw[h.5];rwa[a]
 let e:p.getD i 0=p[i]:=by simp[Array.getD,b]
 let m:p[i]∈p.toList:=by simp
 rw[e];rwa[yU.mp (h.mem_iff.mp m)]
def Pm.rev(h:Pm N p)(i j:Nat):Pm N (kas_rev p i j):=((Array.perm_iff_toList_perm.mp (mirror_perm p i j _)).trans h)
def Pm.bub(h:Pm N p)(i d:Nat):Pm N (bubble p i d):=((Array.perm_iff_toList_perm.mp (bubble_perm p i d)).trans h)
def Ct(h:p[i]?=q[j]?):kp r p i=kp r q j:=by
 unfold kp;rw[zZ,zZ,h]
def Qz(h:Pm N p)(a:j<=N):kp r (kas_rev p i j) k=if i<=k/\k<j then kp r p (i+j - 1 - k) else kp r p k:=by
 let e:=getElem?_mirror_all (xs:=p) (i:=i) (j:=j) (by rw[h.5];rwa[a]) k
 by_cases c:i<=k/\k<j
 .rw[_j c] at e |-;rwa[Ct e]
 .rw[_i c] at e |-;rwa[Ct e]
def bV(h:Pm N p)(a:k<N)(b:l<=k):kp r (bubble p k (k - l)) i=if i=l then kp r p k else if l<i/\i<=k then kp r p (i - 1) else kp r p i:=by
 let e:=getElem?_bubble (xs:=p) (src:=k) (by rw[h.5];rwa[a]) (k - l) () i;let x:k - (k - l)=l:=by lia
 rw[x] at e
 by_cases c:i=l
 .rw[_j c] at e |-;rwa[Ct e]
 .rw[_i c] at e |-
  by_cases d:l<i/\i<=k
  .rw[_j d] at e |-;rwa[Ct e]
  .rw[_i d] at e |-;rwa[Ct e]
theorem De(h:FI r p m):∀d i,i+d<m->kp r p i<=kp r p (i+d)
 | 0,i,_=>xD _
 | d+1,i,a=>xX (De h d i ()) (h (i+d) ())
end
structure CN (lt:Nat->Nat->Bool):Prop where
 irr:∀i,lt i i=_x
 tr:∀i j k,lt i j=_t->lt j k=_t->lt i k=_t
 neg:∀i j k,lt i j=_t->lt i k=_t\/lt k j=_t
def rk(a:Nat->Nat->Bool)(N i:Nat):Nat:=(List.range N).countP λk=>a k i
theorem GK(h:∀k,p k=_t->q k=_t)(a:p i=_x)(b:q i=_t):∀l:List Nat,i∈l->l.countP p<l.countP q
 | [],m=>nomatch m
 | x::l,m=>by
  let c:=List.countP_mono_left (l:=l) (p:=p) (q:=q) λk _=>h k;rw[List.countP_cons,List.countP_cons];rcases xE.mp m with rfl | m
  .rw[a,b];simp;lia
  .have:=GK h a b l m
   by_cases z:p x=_t
   .rw[z,h x z];simp;lia
   .grind
def Re(W:CN lt)(a:i<N):decide (rk lt N i<rk lt N j)=lt i j:=by
 unfold rk;cases e:lt i j with
 | true=>rwa[yD (GK (λk h=>W.tr k i j h e) (W.irr i) e _ (yU.mpr a))]
 | false =>
  erw[yP (Nat.not_lt.mpr (List.countP_mono_left λk _ h=>?_))];rcases W.neg k j i h with z | z
  .rwa[z]
  .rw[e] at z;ext z
section
variable{prog:jZ}{w:kB}{A:kD}{s:jW}
end
section
variable{X:Cx}{B:List (jY×Obj)}{Y:St}{H:Hp}{s:jW}
end
section
variable{te:TE}
end
end L2
namespace PySem.F
def sub_rgi_reversed:isSubtype (.type "range_iterator") (.type "reversed")=pure false:=by rw[isSubtype_type];kernel_rfl
end PySem.F
namespace L2
open PySem PySem.Spec PyProof.Rows PySem.W
def OD:_o "reversed"=8 (.type "reversed"):=(aA)
def rgi(a n c:Int):Obj:={cls:=.type "range_iterator", data:=.fields #[rawInt a,rawInt n,rawInt c] }
def bG(c:IsRange s.heap r a b 1 t u v)(d : -(2^62)<=a)(d:a<2^62)(d : -(2^62)<=b)(d:b<2^62)(h:Q (3 s.8) {s with heap:=s.heap.push (rgi (a+(Builtin.Range.rangeSize a b 1 - 1) * 1) (Builtin.Range.rangeSize a b 1) (-1)) }):_w (_m prog w) A (call (.builtin "range.__reversed__") [3 r]) Q E s:=by
 let d:s.TypeIs (3 r) "range" := (2,c,3);erw[wpAny_call_entry PySem.F.slot_range_reversed d PySem.F.entry_range_reversed ?_ (PySem.F.args_range_reversed_1 _)];unfold Builtin.«range.__reversed__»;erw[_b (wpAny_of_eq (a:=Value.ref r) S ?_)];unfold Builtin.Range.rangeFields;erw[_b (_b (_d c S (x:=4 a t) S (_b (wpAny_of_eq (a:=8 a) S (_b (_d c S (x:=4 b u) S (_b (wpAny_of_eq (a:=8 b) S (_b (_d c S (x:=4 1 v) S (_b (wpAny_of_eq (a:=8 1) S (_p ?_)))))))))))))];dsimp only;let e:(Builtin.Range.rangeFitsLong a&&Builtin.Range.rangeFitsLong b&&Builtin.Range.rangeFitsLong 1&&Builtin.Range.rangeFitsLong (-1)&&Builtin.Range.rangeFitsLong (a - 1)&&Builtin.Range.rangeFitsLong (Builtin.Range.rangeSize a b 1))=true:=by
  rw[rangeSize_one];simp only[Builtin.Range.rangeFitsLong,yS,decide_eq_true_eq];split<;>lia
 rw[e];simp only[Bool.not_true,zJ,if_false,if_true];rwa[_b (wpAny_newObj_type (_p (1,h)))]
def eK(d:IsRange s.heap r a b 1 t u v)(e : -(2^62)<=a)(f:a<2^62)(g : -(2^62)<=b)(i:b<2^62)(h:Q₁ (3 s.8) {s with heap:=s.heap.push (rgi (a+(Builtin.Range.rangeSize a b 1 - 1) * 1) (Builtin.Range.rangeSize a b 1) (-1)) }) :
  codeAny (_m prog w) A (.call (.builtin "reversed.__new__") ([.type "reversed", 3 r],[])) (wants Q₁ E) s:=by
 let c:s.TypeIs (3 r) "range" := (2,d,3);erw[codeAny_of_tree ?_];show _w _ A.in1 (do checkBuiltinCall "reversed.__new__" ([.type "reversed", 3 r],[]);again (.builtin "reversed.__new__" ([.type "reversed", 3 r],[]))) _ _ s;erw[_b (wpAny_of_eq (PySem.F.newCall_reversed_1 _) (_p (plainId_quiet PySem.F.plain_reversed_new _,codeAny_builtin PySem.F.entry_reversed_new ?_)))];rw[mG PySem.F.plain_reversed_new _];unfold Builtin.«reversed.__new__»;erw[_b (wpAny_of_eq (newClass_reversed _) ?_)]
 try dsimp only
 erw[_b (wpAny_of_eq (a:=_u) (by first | rfl | kernel_rfl) ?_)];erw[_b (wpAny_of_eq (a:=_u) (by first | rfl | kernel_rfl) ?_)]
 try dsimp only
 erw[_b (wpAny_specialOf c PySem.F.slot_range_reversed.lookup ?_)]
 try dsimp only
 erw[_b (wpAny_of_eq (PySem.F.slot_range_reversed.bind _) ?_)]
 try dsimp only
 let c:¬((Value.builtin "range.__reversed__"==Value.none)=_t):=xK
 first
 | rw[_i c]
 | (show _w _ _ (if (Value.builtin "range.__reversed__"==Value.none)=_t then _ else _) _ _ _;rw[_i c])
 erw[_b (wpAny_rule ?_)];erw[_b (m:=runValue (.call (.builtin "range.__reversed__") ([3 r],[]))) (show _w _ _ (call (.builtin "range.__reversed__") [3 r]) _ _ _ from bG d e f g i ?_)]
 first
 | rwa[_p h]
 | rwa[_b (_p (_p h))]
def QZ(j:IsRange s.heap r a b 1 t u v)(e : -(2^62)<=a)(f:a<2^62)(g : -(2^62)<=b)(i:b<2^62)(h:Q (3 s.8) {s with heap:=s.heap.push (rgi (a+(Builtin.Range.rangeSize a b 1 - 1) * 1) (Builtin.Range.rangeSize a b 1) (-1)) }):_w (_m prog w) A (call (.type "reversed") [3 r]) Q E s:=by
 erw[callType_other (U:="range_iterator") (Q₁:=λd c=>d=3 s.8/\c={s with heap:=s.heap.push (rgi (a+(Builtin.Range.rangeSize a b 1 - 1) * 1) (Builtin.Range.rangeSize a b 1) (-1)) }) aA PySem.F.create_reversed (22,PySem.F.mro_reversed) PySem.F.made_reversed PySem.F.sub_rgi_reversed (PySem.F.typeCall_reversed_1 _) (eK j e f g i (3,3)) ?_];rintro d c ⟨rfl,rfl⟩;rwa[(2,xN _ S,3),h]
section
variable{X:Cx}{tg:Expr}
end
section
variable{X:Cx}{tg:Expr}
inductive Am(R:It->Hp->Prop)(vs:aG)(a:Hp):Prop
 |mk(n:Nat)(_:vs=[4 n])(_:n<1000000)(_:R (Ca ((n:Int) - 1) n) a)
def gU(a:TA):TI:=λY H R=>a Y H λb a=>Am R b a
def OA{a:Expr}{g:TA}{p q pos c:Pos}(e:Gl X "reversed")(f:X.mg "reversed"=_n)(i:Gl X "range")(j:X.mg "range"=_n)(d:QA X [a] g)(hs:autoParam (_e [a] X.env=[(_x,eval a X.env)]) y1z)(b:autoParam (_e [.Call (.Name "range" p) [a] [] pos] X.env=[(_x,eval (.Call (.Name "range" p) [a] [] pos) X.env)]) y1z) :
  QI X tg (.Call (.Name "reversed" q) [.Call (.Name "range" p) [a] [] pos] [] c) (gU g):=(⟨by
 let d:=d.h;intro B s Y H R I h;erw[Call_ (Ui I e f OD (callWith_type1 ?_ b rfl))];rw[b];erw[mv ?_];erw[Call_ (Ui I i j boot_range (callWith_type1 (thn (d pos B s Y H _ I h) λe c ⟨h,d,f,g,b⟩=>?_) hs rfl))];let(n,e,b,q):=b;subst e;cases g with
 | cons r b =>
  ext b;let(t,7):=r;erw[call_range_1 (mw ?_)];let b:(n:Int)<1000000:=by lia
  erw[QZ (IsRange.new ..) () () () () ?_];erw[wpAny_pyIter_rangeiter (xN _ rfl) ?_];let g:Builtin.Range.rangeSize 0 (n:Int) 1=(n:Int):=by rw[rangeSize_one];split<;>lia
  erw[2,[_],22,d,75,KG _ ((n:Int) - 1) n,5,λb j=>?_,q]
  .rwa[(f.kept λb o e=>xC _ e).kept λb o e=>xC _ e]
  .show IsRangeIter _ _ ((n:Int) - 1+((0:Nat):Int) * (-1)) ((n:Int) - ((0:Nat):Int)) (-1);let h:(n:Int) - 1+((0:Nat):Int) * (-1)=0+(Builtin.Range.rangeSize 0 (n:Int) 1 - 1) * 1:=by rw[g];lia
   let i:(n:Int) - ((0:Nat):Int)=Builtin.Range.rangeSize 0 (n:Int) 1:=by rw[g];simp
   rw[h,i];rwa[xN _ rfl]
  .let e:=xU.mp j;subst e;let g:ZD X B Y d {c with heap:=c.heap.push {cls:=.type "range", data:=.fields #[4 0 c.toks,4 n t,4 1 (c.toks+1)] },toks:=c.toks+1+1 }:=f.kept λb o e=>xC _ e
   rwa[g.ix (xD _) (g.og.fresh (xD _))]⟩)
end
def LL(r:Nat->Nat)(a b:Nat):Prop:=r a<r b\/(r a=r b/\a<b)
def LL.le(h:LL r a b):r a<=r b:=by rcases h with h | h<;>lia
structure Tl (N m:Nat) (p:Array Nat):Prop where
 pm:Pm N p
 tl:∀j,m<=j->j<N->p.getD j 0=j
 hd:∀j,j<m->p.getD j 0<m
def VH(r:Nat->Nat)(p:Array Nat)(m:Nat):Prop:=∀i,i+1<m->LL r (p.getD i 0) (p.getD (i+1) 0)
def Fm(r:Nat->Nat)(p:Array Nat)(m:Nat):Prop:=∀i,i+1<m->LL r (p.getD (i+1) 0) (p.getD i 0)
section
variable{s:jW}{r:Nat->Nat}{N:Nat}{p:Array Nat}
def VH.up(h:VH r p m):FI r p m:=(λi a=>(h i a).le)
def TN(h:Pm N p)(a:j<=N):(kas_rev p i j).getD k 0=if i<=k/\k<j then p.getD (i+j - 1 - k) 0 else p.getD k 0:=(Qz (r:=id) h a)
def EA(h:Pm N p)(a:k<N)(b:l<=k):(bubble p k (k - l)).getD i 0=if i=l then p.getD k 0 else if l<i/\i<=k then p.getD (i - 1) 0 else p.getD i 0:=(bV (r:=id) h a b)
def Tl.step(h:Tl N n p)(c:n<N):Tl N (n+1) p:=((h.pm,λj a b=>h.tl j () b,λj a=>by
 by_cases e:j<n
 .have:=h.hd j e;lia
 .have:j=n:=by lia
  subst this
  rw[h.tl j (xD _) c];lia))
def Tl.rev(h:Tl N n p)(a:j<=n)(a:n<=N):Tl N n (kas_rev p i j):=((h.pm.rev i j,λk a b=>by rw[TN h.pm (),_i ()];rwa[h.tl k a b],λk a=>by
 rw[TN h.pm ()]
 by_cases c:i<=k/\k<j
 .rw[_j c];rwa[h.hd _ ()]
 .rw[_i c];rwa[h.hd k a]))
theorem Fh(a:Ah cmp r N s):∀f n,1<=n->n+f<=N->Tl N n p->VH r p n->(∀m,n<=m->m<=n+f->Tl N m p->VH r p m->(m<n+f->r (p.getD m 0)<r (p.getD (m - 1) 0))->Q m s)->(kas_asc p f n).kasWp cmp Q s
 | 0,n,b,c,g,h,k=>k n (xD _) (xD _) g h (λz=>by lia)
 | f+1,n,b,c,g,h,k=>by
  erw[a _ _ _ (g.pm.lt ()) (g.pm.lt ()) ?_]
  by_cases c:r (p.getD n 0)<r (p.getD (n - 1) 0)
  .rw[yD c];rwa[k n (xD _) () g h λ_=>c]
  .rw[yP c];erw[Fh a f (n+1) () () (g.step ()) (λi a=>?_) λm a b t u d=>k m () () t u (λz=>d ())]
   by_cases e:i+1<n
   .rwa[h i e]
   .have:i=n - 1:=by lia
    subst this;rw[show n - 1+1=n by lia];let a:=g.tl n (xD _) ();let b:=g.hd (n - 1) ();rw[a] at c |-;unfold LL;lia
structure Dn (r:Nat->Nat) (p:Array Nat) (z n:Nat):Prop where
 a:∀i,i+1<=z->LL r (p.getD (i+1) 0) (p.getD i 0)
 b:∀i,i+1=z->r (p.getD (i+1) 0)<r (p.getD i 0)
 c:∀i,z<=i->i+1<n->r (p.getD i 0)=r (p.getD (i+1) 0)/\p.getD i 0<p.getD (i+1) 0
theorem Dn.eq{b n:Nat}(h:Dn r p b n):∀d,b+d<n->r (p.getD b 0)=r (p.getD (b+d) 0)
 | 0,_=>rfl
 | d+1,a=>(h.eq d ()).trans (h.c (b+d) () ()).1
def Dn.flip{b n:Nat}(h:Dn r p b n)(c:Pm N p)(a:b<n)(a:n<=N):Fm r (kas_rev p b n) n:=(λi d=>by
 rw[TN c a,TN c a]
 by_cases a:i+1<b
 .rw[_i (),_i ()];rwa[h.a i ()]
 .by_cases a:i+1=b
  .rw[_j (),_i (),show b+n - 1 - (i+1)=n - 1 by lia];let e:=h.eq (n - 1 - b) ();rw[show b+(n - 1 - b)=n - 1 by lia] at e;let c:=h.b i a;rw[a] at c;rwa[1 ()]
  .rw[_j (),_j ()];let e:=h.c (b+n - 1 - (i+1)) () ();rw[show b+n - 1 - (i+1)+1=b+n - 1 - i by lia] at e;rwa[2 e])
theorem Em(o:Ah cmp r N s):∀f p n q,Tl N n p->1<=n->n+f<=N->q+1<=n->Dn r p (n - (q+1)) n ->
  (∀j m l,Tl N m j->n<=m->m<=n+f->l+1<=m->Dn r j (m - (l+1)) m->Q (j,m,l) s)->(kas_desc f p n q).kasWp cmp Q s
 | 0,p,n,q,g,a,b,v,h,k=>k p n q g (xD _) (xD _) v h
 | f+1,p,n,q,g,a,b,v,h,k=>by
  erw[o _ _ _ (g.pm.lt ()) (g.pm.lt ()) ?_]
  by_cases c:r (p.getD n 0)<r (p.getD (n - 1) 0)
  .rw[yD c];show (if _t=_t then (if q > 0 then kas_desc f (kas_rev p (n - (q+1)) n) (n+1) 0 else kas_desc f p (n+1) 0) else _).kasWp cmp Q s;rw[_j S]
   by_cases z:q > 0
   .rw[_j z];let x:=h.flip g.pm () ();let t:r ((kas_rev p (n - (q+1)) n).getD n 0)<r ((kas_rev p (n - (q+1)) n).getD (n - 1) 0):=by
     rw[TN g.pm (),TN g.pm (),_i (),_j (),show n - (q+1)+n - 1 - (n - 1)=n - (q+1) by lia];let e:=h.eq q ();rw[show n - (q+1)+q=n - 1 by lia] at e;lia
    erw[Em o f _ (n+1) 0 ((g.rev () ()).step ()) () () () (λi u=>?_,λi u=>?_,λi a b=>by lia) λj m l a b w d e=>k j m l a () () d e]
    .by_cases e:i+1<n
     .rwa[x i e]
     .have:i=n - 1:=by lia
      subst this;rw[show n - 1+1=n by lia];rwa[1 t]
    .grind
   .rw[_i z];let t:q=0:=by lia
    subst t;erw[Em o f p (n+1) 0 (g.step ()) () () () (λi u=>?_,λi u=>?_,λi a b=>by lia) λj m l a b w d e=>k j m l a () () d e]
    .by_cases e:i+1<n
     .rwa[h.a i ()]
     .have:i=n - 1:=by lia
      subst this;rw[show n - 1+1=n by lia];rwa[1 c]
    .grind
  .rw[yP c];show (if _x=_t then _ else KasT.ask (p.getD (n - 1) 0) (p.getD n 0) λd=>if d=_t then .ret (p,n,q) else kas_desc f p (n+1) (q+1)).kasWp cmp Q s;rw[_i xK];erw[o _ _ _ (g.pm.lt ()) (g.pm.lt ()) ?_]
   by_cases d:r (p.getD (n - 1) 0)<r (p.getD n 0)
   .rw[yD d];rwa[k p n q g (xD _) () v h]
   .rw[yP d];let c:=g.tl n (xD _) ();let c:=g.hd (n - 1) ();let c:n+1 - (q+1+1)=n - (q+1):=by lia
    refine Em o f p (n+1) (q+1) (g.step ()) () () () (by
     rw[c];erw[h.a,h.b,λi a b=>?_]
     by_cases e:i+1<n
     .rwa[h.c i a e]
     .have:i=n - 1:=by lia
      subst this;rw[show n - 1+1=n by lia]
      rwa[66]) λj m l a b w d e=>k j m l a () () d e
def SI(h:Pm N p)(a:n<=N)(b:Fm r p n):VH r (kas_rev p 0 n) n:=(λi c=>by
 rw[TN h a,TN h a,_j (),_j ()];have:=b (0+n - 1 - (i+1)) ();rw[show 0+n - 1 - (i+1)+1=0+n - 1 - i by lia] at this;rwa[this])
def FT(r:Nat->Nat)(N:Nat)(Q:Nat×Array Nat->jW->Prop)(s:jW):Prop:=∀m p,1<=m->m<=N->Tl N m p->VH r p m->Q (m,p) s
def MT(c:Ah cmp r N s)(h:Tl N n p)(k:FT r N Q s)(b:1<=n)(a:n<=N)(d:Fm r p n):(kas_tail3 n N p).kasWp cmp Q s:=by
 unfold kas_tail3;rw[KasT.kasWp_bind];rwa[Fh c (N - n) n b () (h.rev (xD _) a) (SI h.pm a d) λm a b t u _=>k m _ () () t u]
def MG(f:Ah cmp r N s)(h:Tl N (n+1) p)(k:FT r N Q s)(a:n+1<=N)(a:Dn r p n (n+1)):(kas_descPart n N p).kasWp cmp Q s:=by
 unfold kas_descPart;rw[KasT.kasWp_bind];erw[Em f (N - (n+1)) p (n+1) 0 h () () () a λi m g a b c d e=>?_];dsimp only
 by_cases z:g > 0
 .rw[_j z];rwa[MT f (a.rev (xD _) ()) k () () (e.flip a.pm () ())]
 .rw[_i z];rwa[MT f a k () () λi a=>e.a i ()]
def O0(g:Ah cmp r N s)(h:Tl N 1 p)(a:1<=N)(k:FT r N Q s):(kas_count N p).kasWp cmp Q s:=by
 unfold kas_count;rw[KasT.kasWp_bind];erw[Fh g (N - 1) 1 (xD _) () h (λi f=>by lia) λm a b t u d=>?_]
 by_cases z:m=N
 .rw[_j (by rw[z];rwa[beq_self_eq_true N])];rwa[k m p a () t u]
 .rw[_i (λe=>z (eq_of_beq e))];let l:=d ()
  by_cases y:m > 1
  .rw[_j y];erw[g _ _ _ (h.pm.lt ()) (h.pm.lt ()) ?_]
   by_cases c:r (p.getD 0 0)<r (p.getD (m - 1) 0)
   .rw[yD c];rwa[k m p a () t u]
   .rw[yP c];let c:∀i,i<m->r (p.getD i 0)=r (p.getD (m - 1) 0):=λi f=>by
     let d:=De u.up i 0 ();let j:=De u.up (m - 1 - i) i ();rw[show 0+i=i by lia] at d;rw[show i+(m - 1 - i)=m - 1 by lia] at j;unfold kp at d j;lia
    erw[MG g ((t.rev (xD _) ()).step ()) k () (λi f=>?_,λi f=>?_,λi a b=>by lia)]
    .rw[TN h.pm (),TN h.pm ()]
     by_cases e:i+1<m
     .rw[_j (),_j ()];let d:=u (0+m - 1 - (i+1)) ();rw[show 0+m - 1 - (i+1)+1=0+m - 1 - i by lia] at d;let e:=c (0+m - 1 - (i+1)) ();let e:=c (0+m - 1 - i) ();rcases d with d | d
      .lia
      .rwa[2 (6,d.2)]
     .rw[_i (),_j ()];let d:i+1=m:=by lia
      rw[d,show 0+m - 1 - i=0 by lia];have:=c 0 ();rwa[1 ()]
    .rw[TN h.pm (),TN h.pm (),_i (),_j (),f,show 0+m - 1 - i=0 by lia];have:=c 0 ();lia
  .rw[_i y];let c:m=1:=by lia
   subst c;erw[MG g (t.step ()) k () (λi f=>?_,λi f=>?_,λi a b=>by lia)]
   .have:i=0:=by lia
    subst this;rwa[1 l]
   .grind
theorem EC(g:Ah cmp r N s)(h:Pm N p)(j:k<N)(e:FI r p k)(q:∀l,l<=k->(∀i,i<l->kp r p i<=kp r p k)->(∀i,l<=i->i<k->kp r p k<kp r p i)->Q l s) :
  ∀f l m,l<=m->m<=k->m - l<=f->(∀i,i<l->kp r p i<=kp r p k)->(∀i,m<=i->i<k->kp r p k<kp r p i)->(kas_place p k f l m).kasWp cmp Q s
 | 0,l,m,a,b,c,lo,d=>q l () lo λi x y=>d i () y
 | f+1,l,m,a,b,c,lo,d=>by
  show (if l>=m then KasT.ret l else _).kasWp cmp Q s
  by_cases z:l>=m
  .rw[_j z];rwa[q l () lo λi x y=>d i () y]
  .rw[_i z];erw[g _ _ _ (h.lt j) (h.lt ()) ?_]
   by_cases y:r (p.getD k 0)<r (p.getD ((l+m) / 2) 0)
   .rw[yD y];erw[EC g h j e q f l ((l+m) / 2) () () () lo λi x w=>?_];have:=De e (i - (l+m) / 2) ((l+m) / 2) ();rw[show (l+m) / 2+(i - (l+m) / 2)=i by lia] at this;rwa[yG y this]
   .rw[yP y];erw[EC g h j e q f ((l+m) / 2+1) m () b () (λi x=>?_) d];have:=De e ((l+m) / 2 - i) i ();rw[show i+((l+m) / 2 - i)=(l+m) / 2 by lia] at this;rwa[xX this (Nat.le_of_not_lt y)]
theorem LP(b:Ah cmp r N s):∀f p k,Tl N k p->k+f<=N->VH r p k->(∀c,Pm N c->VH r c (k+f)->Q c s)->(kas_bin f p k).kasWp cmp Q s
 | 0,p,k,h,a,g,q=>q p h.pm g
 | f+1,p,k,h,a,g,q=>by
  show ((kas_place p k k 0 k).bind λl=>kas_bin f (bubble p k (k - l)) (k+1)).kasWp cmp Q s;rw[KasT.kasWp_bind];refine EC b h.pm () g.up (λl a lo m=>?_) k 0 k () () () (λi x=>by lia) λi x y=>by lia
  let e:=h.tl k (xD _) ();erw[LP b f _ (k+1) (h.pm.bub _ _,λj x y=>?_,λj x=>?_) () (λi x=>?_) λc a b=>q c a (by rw[show k+(f+1)=k+1+f by lia];rwa[b])]
  .rw[EA h.pm () a,_i (),_i ()];rwa[h.tl j () y]
  .rw[EA h.pm () a]
   by_cases c:j=l
   .rw[_j c,e];lia
   .rw[_i c]
    by_cases d:l<j/\j<=k
    .rw[_j d];have:=h.hd (j - 1) ();lia
    .rw[_i d];have:=h.hd j ();lia
  .rw[EA h.pm () a,EA h.pm () a]
   by_cases c:i=l
   .rw[_j c,_i (),_j (),show i+1 - 1=l by lia];rwa[1 (m l () ())]
   .rw[_i c]
    by_cases d:i+1=l
    .rw[_j d,_i ()];let a:=lo i ();let b:=h.hd i ();unfold kp at a;rw[e] at a |-;unfold LL;lia
    .rw[_i d]
     by_cases e:l<i
     .rw[_j (),_j (),show i+1 - 1=i - 1+1 by lia];rwa[g (i - 1) ()]
     .rw[_i (),_i ()];rwa[g i ()]
def Xr(d:Ah cmp r N s)(c:1<=N)(q:∀p,Pm N p->VH r p N->Q p s):(kas_sort N).kasWp cmp Q s:=by
 unfold kas_sort;rw[KasT.kasWp_bind];let b:∀j,j<N->(List.toArray (List.range N)).getD j 0=j:=λj a=>by simp[Array.getD,a]
 erw[O0 d (by show (List.toArray (List.range N)).toList.Perm _;rwa[List.Perm.refl _],λj _ a=>b j a,λj a=>by rw[b j ()];rwa[a]) c λm p a b e u=>?_]
 by_cases c:m<N
 .rw[_j c];erw[LP d _ p _ (by rw[Nat.max_eq_left a];rwa[e]) () (by rw[Nat.max_eq_left a];rwa[u]) λa x y=>q a x ?_];rw[show max m 1+(N - max m 1)=N by lia] at y;rwa[y]
 .rw[_i c];rwa[q p e.pm (by rw[show N=m by lia];rwa[u])]
def LL.tr(h:LL r a b)(g:LL r b c):LL r a c:=by unfold LL at *;lia
theorem VH.lt(h:VH r p m):∀d i,i+d+1<m->LL r (p.getD i 0) (p.getD (i+d+1) 0)
 | 0,i,a=>h i a
 | d+1,i,a=>(VH.lt h d i ()).tr (h (i+d+1) ())
def VH.pair(d:Pm N p)(u:VH r p N):p.toList.Pairwise (LL r):=by
 rw[List.pairwise_iff_getElem];intro i j b c a;let a:=d.5;let a:i<p.5:=by simpa using b
 let b:j<p.5:=by simpa using c
 have:=u.lt (j - i - 1) i ();rw[show i+(j - i - 1)+1=j by lia] at this;simpa [Array.getD,a,b] using this
end
def kI(ks:List Int)(i:Nat):Int:=ks.getD i 0
def LK(ks:List Int)(a b:Nat):Prop:=kI ks a<kI ks b\/(kI ks a=kI ks b/\a<b)
def gX(ks:List Int):CN λi j=>decide (kI ks i<kI ks j):=((λi=>yP (Int.lt_irrefl _),λi j k a b=>by have:=yX a;have:=yX b;rwa[yD ()],
 λi j k a=>by
  have:=yX a
  by_cases c:kI ks i<kI ks k
  .rwa[1 (yD c)]
  .rwa[2 (yD ())]))
def TV(ks:List Int):Nat->Nat:=rk (λi j=>decide (kI ks i<kI ks j)) ks.9
def Gc(a:i<ks.9):(TV ks i<TV ks j)↔kI ks i<kI ks j:=by
 have:=Re (gX ks) (i:=i) (j:=j) a;unfold TV
 by_cases c:kI ks i<kI ks j
 .grind
 .grind
def LL.key(b:i<ks.9)(c:j<ks.9)(h:LL (TV ks) i j):LK ks i j:=by
 let a:=Gc (ks:=ks) (i:=i) (j:=j) b;let b:=Gc (ks:=ks) (i:=j) (j:=i) c;rcases h with h | ⟨h1,h2⟩
 .rwa[1 (a.mp h)]
 .erw[2 (5,h2)];have:¬kI ks i<kI ks j:=λz=>by have:=a.mpr z;lia
  have:¬kI ks j<kI ks i:=λz=>by have:=b.mpr z;lia
  lia
def VH.keys(c:Pm ks.length p)(u:VH (TV ks) p ks.9):p.toList.Pairwise (LK ks):=by
 let b:∀i∈p.toList,i<ks.9:=λi a=>yU.mp (c.mem_iff.mp a);rwa[List.Pairwise.imp_of_mem (λa d h=>LL.key (b _ a) (b _ d) h) (u.pair c)]
def ZS(H:Hp)(P:jY)(nm:Str):Prop:=∃a t,H P=8 (.tbl a)/\a[0]?=8 (5 nm t)
def ZS.same(h:ZS H P nm)(k:ZC H J):ZS J P nm:=(let ⟨c,t,a,b⟩:=h;(c,t,k _ _ a,b))
def ZS.x(h:ZS H P nm)(hs:H s=8 (6 L))(k:ZF s H J):ZS J P nm:=(let ⟨c,t,a,b⟩:=h;(c,t,k _ _ (λz=>by rw[z,hs] at a;ext a) a,b))
def CO(H J:Hp):Prop:=∀b c,H b=8 (.tbl c)->∃a,J b=8 (.tbl (c++a))
def ZS.call(h:ZS H P nm)(k:CO H J):ZS J P nm:=by
 let(c,t,a,b):=h;let(m,e):=k _ _ a;erw[2,t,e,5];let a:0<c.5:=by grind
 rw[Array.getElem?_append_left a];rwa[b]
def YD.tabs{P:jZ}{w:kB}{K:Frag}{mg:jR}{Z:Heap}{k:Nat}{f:jY}{a:FuncData}{ps:jS}{b:Sp}(F:10 YD YV k f a ps b) :
  YD P w K mg Z YV k f a ps (λvs H Q E=>b vs H (λv J=>CO H J->Q v J) E):=((λvs H Q E h=>F.len _ _ _ _ h,λA a s H b j vs Q E e c d i g=>codeAny_mono (F.run A a s H b j vs _ E e c d i g) λr a h=>by
  cases r with
  | error e=>rwa[h]
  | ok a =>
   cases a with
   | ret u=>let(v,J,a,b,e,c,d,q):=h;rwa[v,J,a,b,e,c,d,q e.oU]
   | next=>rwa[h]
   | brk=>rwa[h]
   | cont=>rwa[h]))
def Fn.tabs{P:jZ}{w:kB}{K:Frag}{mg:jR}{Z:Heap}{x:Str}{ps:jS}{k:Nat}{a:Sp}(F:10 Fn x ps k a) :
  Fn P w K mg Z x ps k (λvs H Q E=>a vs H (λv J=>CO H J->Q v J) E):=(let ⟨f,e,a,b,c,d⟩:=F;(f,e,a,b,c,d.tabs))
section
variable{P:jZ}{w:kB}{K:Frag}{mg:jR}{Z:Heap}
def Su{A:kD}{outer:List Env}{s:jW}{H:Hp}{k:Nat}{name qual:Str}{b:Arguments}{d:Expr}{a:Scope}{pm ctv:jX}{c f:jY}{x:Str}{u:jX}{v:V}{te:TE}{Q:VK}(j:ZL k A)(h:10 VI A outer s H)(m:s.heap.get? f=8 (kla_obj name qual b d a [] pm c ctv))(i:s.heap.CodeRec (3 c) qual)(S:ZK [x] [x] a)(l:bindArgs (kla_fn name qual b d a [] pm (3 c) ctv) ([u],[])=pure [(Prod.mk (x) (u))])(r:ZH v u)(g:PE (Yq YV P w K mg Z [x] qual a f (3 c) A outer s H E0) d te)(p:te (start [x] [v]) H Q) :
  codeAny (_m P w) A (.call (3 f) ([u],[])) (CR YV outer P w H s Q E0) s:=by
 let d:s.heap.NoLimit:=h.mod.nolimit.keeps λb o e=>(h.bs b o e).1;let b:∀y ∈ [(Prod.mk (x) (u))],a.names.lookup y.1=8 .local\/(a.names.lookup y.1=8 .cell/\((cellsFrom (s.8+1) a.names []).lookup y.1).isSome=_t):=λ⟨n,v⟩ o=>by
  let e:(Prod.mk (n) (v))=(Prod.mk (x) (u)):=by simpa using o
  ext e;rcases S.par x yC with q | q
  .rwa[1 q]
  .rwa[2 (q,cellsFrom_some _ _ _ (1 q))]
 erw[kla_callFunE j.depth m rfl S.co S.gen rfl i ?_];rw[l];erw[_p (wpAny_newFunctionEnv_cells S.kind b λl m b i=>?_)];subst m;erw[d.keeps i.toInCall.keep,kla_codeExpr ?_];let I:ZD (Yq YV P w K mg Z [x] qual a f (3 c) A outer s H E0) [] (start [x] [v]) H b:=Gn (ps:=[x]) S j.hd h rfl (.cons r .nil) i;rwa[wpAny_mono (g [] b _ H _ I p) (λv d ⟨g,J,a,b,q⟩=>(g,J,a.os,a.bare,a.base,a.og,b,q)) λe d a=>a]
end
def eX{pos p2:Pos}{c cv:jX}(l:jT)(h:TriplesOk l)(e:codeAmong pos (l ++ [rawInt p2.line,rawInt p2.col,c])=8 cv):codeAmong pos l=8 cv\/cv=c:=by
 fun_induction TriplesOk l with
 | case1 =>
  simp only[zM,codeAmong,rawInt] at e;split at e
  .ext e;rwa[2 S]
  .ext e
 | case2 a t b u x rest ih =>
  simp only[yL,codeAmong] at e |-;split at e
  .rename_i hc;rw[_j hc];rwa[1 e]
  .rename_i hc;rw[_i hc];rwa[ih h e]
 | case3 l h1 h2=>rwa[h.elim]
structure Aq (X:Cx) (c P:jY) (nm:Str):Prop where
 code:X.env.code=3 c
 hd:CodeHd X.base c P
 blt:X.base.BuiltinsAt X.mg P
 nmq:X.env.qual ++ "<lambda>"=nm
 gl:_g≠P
section
variable{X:Cx}{B:List (jY×Obj)}{Y:St}{H:Hp}{s:jW}{c P:jY}{nm:Str}{params:Arguments}{body:Expr}{scope:Scope}{lpos:Pos}
def ZD.pin1{f:jY}{o:Obj}(I:ZD X B Y H s)(a:Y8 X B H f)(d:s.heap.get? f=8 o)(b:∀v,o.data ≠ .cell v):ZD X (B ++ [(f,o)]) Y H s:=(I.oI λp e=>(xL.mp e).elim (λz=>I.pin p (xJ _ z)) λz=>by
 let e:p=(f,o):=by simpa using z
 subst e;rwa[d,a.1,a.2.1,a.2.2.1,b])
def OE{Q:jQ}(I:ZD X B Y H s)(h:Aq X c P nm)(hT:ZS X.H₀ P nm)(N:closureFor scope X.env=pure [])(O:defaultsOf params X.env=([],[]))(k:∀ (f a:jY) (ctv:jX) (oc:Obj) (vs:Array jX) (t:Tok) (J:Hp) (s':jW),ZD X (B ++ [(f,kla_obj "<lambda>" nm params body scope [] ((X.mg "__name__").getD .none) a ctv)]) Y J s'->s'.heap.get? a=8 oc->oc.data=.fields vs->vs[1]?=8 (5 nm t)->J a=8 (.own P)->ZS J P nm->ZC H J->Q (3 f) s') :
  _w (_m X.prog X.w) X.A (eval (.Lambda params body scope lpos) X.env) Q X.xe s:=by
 let a1:=hT.call I.base.oU;let(ps,tp,A,m):=a1;let(qs,a7,t',eP,tr,p,x):=I.og P _ A;rw[m] at p;ext p;let C:=h.hd.keeps I.bk;let G:s.heap.Ns _g X.mg:=let ⟨o,es,ep,e,r⟩:=I.ok.mod.glob;(o,es,ep,I.bk _ _ e,r)
 let F:s.heap.BuiltinsAt X.mg P:=let ⟨bm,o,a1,a2,a3,a4,a5,a6⟩:=h.blt;(bm,o,a1,a2,a3,a4,I.bk _ _ a5,a6)
 erw[kla_eval O ?_];rw[h.nmq];cases hf:codeAmong lpos qs.toList with
 | some cv =>
  let(a,3,own,c2,oc,vs,t2,e3,e4,e5,e6):=x _ _ hf;ext e3;erw[kla_makeFunctionHit (mg:=X.mg) N I.ok.glob G h.code C eP tr hf F λctv j tk hk Z=>?_];let T:∀b u,s.heap.get? b=8 u->(j.push (kla_obj "<lambda>" nm params body scope [] ((X.mg "__name__").getD .none) a ctv)).get? b=8 u:=λb u e=>xC _ (hk b u e);let I2:ZD X B Y H {s with heap:=j.push (kla_obj "<lambda>" nm params body scope [] ((X.mg "__name__").getD .none) a ctv),toks:=tk }:=I.kept T;rwa[k j.objs.size a ctv oc vs t2 H _ (I2.pin1 (I.ix Z (I.og.fresh Z)) (xN _ S) (λv z=>by ext z)) (T _ _ e4) e5 e6 own (ps,tp,A,m) λ_ _ e=>e]
 | none =>
  erw[kla_makeFunction (mg:=X.mg) N I.ok.glob G h.code C eP tr hf h.gl F λa ctv j tk hx i U W a5=>?_];let(c2,oc,vs,t2,e3,e4,e5,e6):=W;ext e3;let g:H a=none:=I.og.fresh i;let a2:a≠P:=λz=>by rw[z] at i;rwa[_a (yG (xO eP) i) (zF _)]
  let ext:∀b u,b≠P->s.heap.get? b=8 u->(j.push (kla_obj "<lambda>" nm params body scope [] ((X.mg "__name__").getD .none) a ctv)).get? b=8 u:=λb u n e=>xC _ (hx b u n e);let l:=xC (kla_obj "<lambda>" nm params body scope [] ((X.mg "__name__").getD .none) a ctv) e4;let E:=xC (kla_obj "<lambda>" nm params body scope [] ((X.mg "__name__").getD .none) a ctv) a5;let w:s.8<=j.7:=zC (yT i U);let R:=xN j (o:=kla_obj "<lambda>" nm params body scope [] ((X.mg "__name__").getD .none) a ctv) S;generalize (j.push (kla_obj "<lambda>" nm params body scope [] ((X.mg "__name__").getD .none) a ctv))=h2 at ext l E R |-;let a0:upd H a (.own P) P=8 (.tbl ps):=by rw[Ze a2.6];rwa[A]
  let a4:YT X.prog X.w (upd H a (.own P)) h2:=λb u e=>by
   by_cases b1:b=a
   .subst b1;rw[Zi] at e;ext e;rwa[oc,l]
   .rw[Ze b1] at e
    by_cases K:b=P
    .subst K;rw[A] at e;ext e;erw[2,nm,tp,E,by rw[Array.toList_append];rwa[TriplesOk_snoc _ _ _ _ tr],m,λa8 cv ec=>?_];rw[Array.toList_append] at ec;rcases eX _ tr ec with z | z
     .let(c3,f1,M,c4,o4,v4,t4,f3,f4,f5):=x _ _ z;ext f3;let nb:c3≠b:=λy=>by rw[y,A] at M;ext M
      rwa[c3,f1,by rw[Ze (λy=>by rw[y,g] at M;ext M)];rwa[M],c3,o4,v4,t4,3,ext _ _ nb f4,f5]
     .rwa[a,z,Zi,a,oc,vs,t2,3,l,e5,e6]
    .refine(I.og b u e).oP (λd v hd q=>ext d v ?_ q) (λd q=>by rw[Ze (Zl q g)];rwa[q]) λd L q=>by rw[Ze (Zl q g)];rwa[q]
     rcases hd with z | z
     .rw[z];rwa[K]
     .intro y;rw[y,A] at z;ext z
  let un:Un X.fs [] H (upd H a (.own P)) s.heap h2:=by
   let nP:∀b,H b=_n->b≠P:=λb n z=>by rw[z,A] at n;ext n
   let lt:∀b o,s.heap.get? b=8 o->b≠a:=λb o e z=>by rw[z] at e;rwa[_a (yG (xO e) i) (zF _)]
   erw[λb o e n _ _=>ext b o (nP b n) e,λb o e n _ _=>(o.slots,ext b o (nP b n) e),λb o e n _=>by rw[Ze (lt b o e)];rwa[n],λb o e _=>?_,λb L e=>by rw[Ze (Zl e g)];rwa[e],λb o u e=>by rw[Ze (Zl e g)];rwa[e],λb ps e=>(#[],by rw[Ze (Zl e g),e];simp)]
   by_cases K:b=P
   .rwa[2,by rw[K];rwa[E]]
   .rwa[o,ext b o K e]
  let I2:ZD X B Y (upd H a (.own P)) {s with heap:=h2,toks:=tk }:=I.un un a4;let a3:(upd H a (.own P)) j.7=none:=by rw[Ze (wW U)];rwa[I.og.fresh w]
  rwa[k j.objs.size a ctv oc vs t2 _ _ (I2.pin1 (I.ix w a3) R (λv z=>by ext z)) l e5 e6 Zi (ps,tp,a0,m) (ZC.new g)]
def RP{k:Nat}{A:kD}{f g:jY}{ctv pm:jX}{oc:Obj}{vs:Array jX}{t:Tok}{x:Str}{u:jX}{v w:V}{te:TE}(I:ZD X B Y H s)(L:A.frames=X.A.frames)(O:ZL k A)(M:s.heap.get? f=8 (kla_obj "<lambda>" nm params body scope [] pm g ctv))(J:s.heap.get? g=8 oc)(F:oc.data=.fields vs)(K:vs[1]?=8 (5 nm t))(G:H g=8 (.own P))(d:ZS H P nm)(S:ZK [x] [x] scope)(l:bindArgs (kla_fn "<lambda>" nm params body scope [] pm (3 g) ctv) ([u],[])=pure [(x,u)])(r:ZH v u)(m:∀a:Hp,PE (Yq YV X.prog X.w X.K X.mg X.base [x] nm scope f (3 g) A X.stack s a E0) body te)(N:∀a:Hp,(∀b ys,H b=8 (7 ys)->a b=8 (7 ys))->te [8 v] a λz p=>z=w/\p=a) :
  _w (_m X.prog X.w) A (call (3 f) [u]) (λr y=>ZH w r/\ZD X B Y H y/\y.heap.get? g=8 oc) (λ_ _=>False) s:=by
 classical
 let(R,i,h,e):=d
 letI a:Hp:=λb=>if b=P\/H b=8 (.own P) then _n else H b
 let sub:∀b o,a b=8 o->H b=8 o/\b≠P/\o ≠ .own P:=λb o e=>by grind
 let E:∀b o,H b=8 o->b≠P->o ≠ .own P->a b=8 o:=λb o e d i=>by grind
 let i:∀b,H b=_n->a b=none:=λb e=>by grind
 let j:∀b ys,H b=8 (7 ys)->a b=8 (7 ys):=λb ys e=>E b _ e (λz=>by rw[z,h] at e;ext e) (λz=>by ext z);let n:YT X.prog X.w a s.heap:=λb o e=>by
  let(d,C,T):=sub b o e;erw[(I.og b o d).oP (λ_ _ _ q=>q) (λd q=>E d _ q (λz=>by rw[z,h] at q;ext q) (λz=>by ext z;rwa[C rfl])) j]
 let h:=I.iq;let C:VI X.prog X.w X.K X.mg X.base A X.stack s a:=(L.trans h.frames,h.mod,λb o e=>((h.bs b o e).1,i b (h.bs b o e).2),h.ia,h.o7,λb l=>i b (h.iz b l),n,h.bare);erw[wpAny_call (codeAny_mono (Su (Q:=λz p=>z=w/\p=a) O C M (g,oc,vs,t,7,J,F,K) S l r (m a) (N a j)) λj y h=>?_)];cases j with
 | error e=>rwa[h.elim]
 | ok j =>
  cases j with
  | next=>rwa[False.elim h]
  | brk=>rwa[False.elim h]
  | cont=>rwa[False.elim h]
  | ret j =>
   let(z,p,os,m,j,n,K,C,t):=h;subst C t;let C:a g=none:=_j (2 G);let t:a P=none:=_j (1 rfl);let g:∀b o,H b=8 o->b∉frs X.stack:=λb o e z=>by rw[I.oR b z] at e;ext e
   let h:∀d,H d=8 (.own P)->a d=none:=λd q=>_j (2 q);let p:YT X.prog X.w H y.heap:=λb o e=>by
    by_cases y:o=.own P
    .subst y;let(F,a):=I.og b _ e;rwa[F,j.keep _ _ a (h _ e) (g _ _ e) (by simp)]
    by_cases F:b=P
    .subst F;erw[(I.og b o e).oP (λd v a q=>?_) (λ_ q=>q) λ_ _ q=>q];rcases a with z | z
     .subst z;rwa[j.keep _ _ q t (g _ _ e) (by simp)]
     .rwa[j.keep _ _ q (h _ z) (g _ _ z) (by simp)]
    .let a:b≠P/\o ≠ .own P:=(F,y);erw[(n b o (E b o e a.1 a.2)).oP (λ_ _ _ q=>q) (λd q=>(sub d _ q).1) λd L q=>(sub d _ q).1]
   erw[K,I.ie (ch:=[]) os (λb o e n l a=>j.keep b o e (i b n) l a,λb o e n l a=>j.slot b o e (i b n) l a,λb o e n a=>n,λb o e a=>j.there b o e a,λ_ _ e=>e,λ_ _ _ e=>e,λb R e=>(#[],by rw[e];simp)) p m (λb z=>_a z (by simp)),j.keep _ _ J C (g _ _ G) (by simp)]
end
def Jc(b:Bool)(ks:List Int)(x y:Nat):Prop:=(if b=_t then kI ks y<kI ks x else kI ks x<kI ks y)\/(kI ks x=kI ks y/\x<y)
def Ba(b:Bool)(ks:List Int)(vs out:jT):Prop:=∃p:List Nat,p.Perm (List.range vs.9)/\p.Pairwise (Jc b ks)/\out=p.map λi=>vs.getD i Value.none
def EI{a:Type}{l:List a}{d:a}(h:i<l.9):l.reverse.getD i d=l.getD (l.9 - 1 - i) d:=by grind
def eY(b:ks.9=vs.9)(a:Pm vs.length p)(u:VH (TV ks) p vs.9):Ba _x ks vs (p.toList.map λi=>vs.getD i Value.none):=((p.toList,a,by rw[<- b] at a u;exact(u.keys a).imp λh=>by unfold Jc;rw[_i xK];rwa[h],3))
def NQ(b:ks.9=vs.9)(d:Pm vs.length p)(u:VH (TV ks.reverse) p vs.9):Ba _t ks vs (p.toList.map λi=>vs.reverse.getD i Value.none).reverse:=by
 let c:∀i∈p.toList,i<vs.9:=λi a=>yU.mp (d.mem_iff.mp a);let e:(List.range vs.9).map (λi=>vs.9 - 1 - i)=(List.range vs.9).reverse:=by
  apply List.ext_getElem
  .simp
  .intro i f g;simp
 erw[(p.toList.map λi=>vs.9 - 1 - i).reverse,(List.reverse_perm _).trans ?_,55]
 .have:=d.map λi=>vs.9 - 1 - i;rw[e] at this;rwa[this.trans (List.reverse_perm _)]
 .rw[List.pairwise_reverse,List.pairwise_map];let e:Pm ks.reverse.length p:=by rw[zW,b];rwa[d]
  let d:VH (TV ks.reverse) p ks.reverse.9:=by rw[zW,b];rwa[u]
  erw[List.Pairwise.imp_of_mem ?_ (d.keys e)];intro i j a d h;let a:=c i a;let d:=c j d;unfold LK kI at h;rw[EI (),EI (),b] at h;unfold Jc kI;rw[_j S];rcases h with h | ⟨f,g⟩
  .rwa[1 h]
  .rwa[2 (f.6,6)]
 .rw[List.map_reverse,mK];congr 1;erw[wN λi a=>?_];rwa[EI (c i a)]
section
variable{X:Cx}{B:List (jY×Obj)}{Y:St}{H:Hp}{s:jW}
def ZD.track{D:jY}{u:HO}(I:ZD X B Y H s)(b:Y8 X B H D)(j:X.s₀.8<=D)(d:ZQ X.prog X.w (upd H D u) s.heap D u):ZD X B Y (upd H D u) s:=by
 let(a,g,c,e,h,i):=b;erw[I.ok,I.os,I.bare,(I.base.keep,I.base.slot,λb o e n k=>?_,I.base.there,λb L e=>?_,λb o v e=>?_,λb l e=>?_),I.loc,I.cell,5,λx c e=>?_,λp f=>?_,Mz I.og a d,I.len]
 .rw[Ze (λz=>by rw[z] at e;rwa[_a (yG (xO e) j) (zF _)])];rwa[I.base.free b o e n k]
 .have:=I.base.j3 b L e;rw[Ze (Zl this a)];rwa[this]
 .have:=I.base.o6 b o v e;rw[Ze (Zl this a)];rwa[this]
 .let(m,d):=I.base.oU b l e;rwa[m,by rw[Ze (Zl d a)];rwa[d]]
 .rw[Ze g.6];rwa[I.free]
 .rw[Ze (h x c e)];rwa[I.iy x c e]
 .let(a,b,c):=I.pin p f;rwa[a,by rw[Ze (i p f)];rwa[b],c]
def ZD.oJ{D:jY}{g:Array jX->Array jX}(I:ZD X B Y H s)(a:Y8 X B H D):ZD X B Y H {s with heap:=s.heap.update D (Obj.mapSeq g) }:=(I.turned (it:=D) (t':=s.toks) (λb o c e=>by rw[zX _ _ _ _ c];rwa[e]) a.1 a.2.1 a.2.2.2.1 a.2.2.2.2.1 a.2.2.2.2.2)
def ZD.pin2(I:ZD X B Y H s)(c:Y8 X B H a)(d:Y8 X B H b)(h:s.heap.get? a=8 oa)(i:s.heap.get? b=8 ob)(f:∀v,oa.data ≠ .cell v)(g:∀v,ob.data ≠ .cell v):ZD X (B ++ [(a,oa),(b,ob)]) Y H s:=(I.oI λp e=>(xL.mp e).elim (λz=>I.pin p (xJ _ z)) λz=>by
  rcases xE.mp z with e | z
  .subst e;rwa[h,c.1,c.2.1,c.2.2.1,f]
  .let e:p=(b,ob):=by simpa using z
   subst e;rwa[i,d.1,d.2.1,d.2.2.1,g])
def ZD.at1(I:ZD X (B++pl) Y H s)(h:p∈pl):s.heap.get? p.1=8 p.2:=((I.pin p (xJ _ (xJ _ h))).1)
def Ft(X:Cx)(B:List (jY×Obj))(Y:St)(H:Hp)(f:jX)(a:jY)(oc:Obj)(vs:jT)(ks:List Int):Prop:=∀(i:Nat)(v:jX)(k:Int),vs[i]?=8 v->ks[i]?=8 k->∀(b:List (jY×Obj))(s:jW),ZD X (B++b) Y H s->s.heap.get? a=8 oc ->
 _w (_m X.prog X.w) X.A.in1.in1 (call f [v]) (λr c=>(∃t,r=4 k t)/\ZD X (B++b) Y H c/\c.heap.get? a=8 oc) (λ_ _=>False) s
variable{a kS:jY}{keys:Array jX}{b:Bool}{e e1:Nat}{Pf:PySem.Fin->jW->Prop}{E:jQ}
def LQ{st:SortSt}{o:jT}(I:ZD X (B ++ [(kS,seqObj "list" keys e),(a,seqObj "list" #[] e1)]) Y H s)(l:Y8 X B H kS)(k:Y8 X B H a)(f:kS≠a)(d:keys.5<64)(d:o.9<64)(hs:(arrOf st).map (·.2)=List.toArray o)(i:failedOf st=_n)(h:∀ (d:jW) (c:Nat),ZD X B Y H d->d.heap.get? a=8 (seqObj "list" (List.toArray (if b then o.reverse else o)) c)->Pf (.done (.ret .none)) d) :
  _w (_m X.prog X.w) X.A.in1.in1 (ksk_tail a b e1 (3 kS) st) Pf E s:=by
 let m:=I.at1 (p:=(kS,seqObj "list" keys e)) (.head _);let j:=I.at1 (p:=(a,seqObj "list" #[] e1)) (.tail _ (.head _));let d:(s.heap.update kS (Obj.mapSeq λ_=>(#[]:Array jX))).get? a=8 (seqObj "list" #[] e1):=by rw[zX _ _ _ _ f.6];rwa[j]
 let j:=(I.j5).oJ (g:=λ_=>(#[]:Array jX)) l;let f:(if b then ((arrOf st).map (·.2)).reverse else (arrOf st).map (·.2))=List.toArray (if b then o.reverse else o):=by
  rw[hs];ext b<;>simp
 unfold ksk_tail
 try dsimp only
 erw[_b (listUpdate_at m S ?_ (by rw[sizeLine_eq];lia) (yI _))];erw[_b (wpAny_letGo ?_)];erw[_b (seqEpoch_at d S ?_)];rw[f];let f:(List.toArray (if b then o.reverse else o)).5<=_z+1:=by
  rw[sizeLine_eq];ext b<;>simp<;>lia
 erw[_b (listUpdate_at d S ?_ (yI _) f)];rw[i];simp only[bne_self_eq_false,zJ,if_false];let f:=j.oJ (g:=λ_=>List.toArray (if b then o.reverse else o)) k;rwa[_p (h _ _ f (get?_update_seq d λ_=>List.toArray (if b then o.reverse else o)))]
def Xb{c d:Type}{l:List c}{m:List d}(h:l.9=m.9):(l.zip m).reverse=l.reverse.zip m.reverse:=by
 unfold List.zip;rw[List.reverse_zipWith h]
def iA(h:IntsAre kv ks):IntsAre kv.reverse ks.reverse:=by
 induction h with
 | nil=>rwa[.nil]
 | cons n t _ c=>rw[List.reverse_cons,List.reverse_cons];rwa[ksk_snoc c]
def KZ(h:IntsAre kv ks):∀{i:Nat},i<ks.9->∃t,kv.getD i Value.none=4 (kI ks i) t:=by
 induction h with
 | nil=>intro i c;simp at c
 | cons n t _ d =>
  intro i c;cases i with
  | zero=>rwa[t,7]
  | succ i =>
   let(f,e):=d (i:=i) (by simpa using c);rwa[f,by unfold kI at e |-;simpa using e]
def Pi(h:IntsAre kv ks)(s:jW):Ah (kas_ask X.prog X.w A oneType' kv) (TV ks) ks.length s:=by
 intro i j C c g d;let(t,d):=KZ h c;let(u,f):=KZ h g;unfold kas_ask;rw[d,f,keyLt'_oneType];erw[oneLt_int ?_];have:=Gc (ks:=ks) (i:=i) (j:=j) c
 by_cases c:kI ks i<kI ks j
 .grind
 .grind
def bX(I:ZD X (B ++ [(kS,seqObj "list" keys e),(a,seqObj "list" #[] e1)]) Y H s)(F:Y8 X B H kS)(C:Y8 X B H a)(r:kS≠a)(w:IntsAre keys.toList ks)(f:ks.9=vs.9)(d:vs.9<64)(h:∀j out c,ZD X B Y H j->j.heap.get? a=8 (seqObj "list" (List.toArray out) c)->Ba b ks vs out->Pf (.done (.ret .none)) j) :
  _w (_m X.prog X.w) X.A.in1.in1 (ksk_end a b vs.toArray e1 (3 kS) keys) Pf E s:=by
 let z:keys.5=vs.9:=by
  let v:=w.9;rw[zO] at v;lia
 let step:∀t:Sem PySem.Fin,_w (_m X.prog X.w) X.A.in1.in1 t Pf E s->_w (_m X.prog X.w) X.A.in1.in1 (if b=_t then (do let _ <- rule "list.sort.reverse";t) else t) Pf E s:=by
  intro t d;split
  .rwa[_b (wpAny_rule d)]
  .rwa[d]
 obtain⟨l,g,d,x,n,y,i,m⟩:∃(l:jT)(g:List Int)(d:jT),(if b=_t then (keys.zip vs.4).reverse else keys.zip vs.4)=l.toArray.zip d.4/\IntsAre l g/\g.9=d.9/\d.9=vs.9 /\
   ∀p:Array Nat,Pm d.length p->VH (TV g) p d.9->Ba b ks vs (if b then (p.toList.map λi=>d.getD i Value.none).reverse else p.toList.map λi=>d.getD i Value.none):=by
  cases b with
  | false =>
   erw[keys.toList,ks,vs,by rw[_i xK,Array.toArray_toList],w,f,3,λp k u=>?_];rw[_i xK];rwa[eY f k u]
  | true =>
   erw[keys.toList.reverse,ks.reverse,vs.reverse,5,iA w,by rw[zW,zW,f],zW,λp k u=>?_]
   .rw[_j S];apply Array.toList_inj.mp;rw[Array.toList_reverse,ksk_zip,Xb (by rw[zO];rwa[z])];simp
   .rw[_j S];rw[zW] at k u;rwa[NQ f k u]
 let t:l.9=d.9:=by have:=n.9;lia
 unfold ksk_end
 try dsimp only
 erw[step _ ?_];rw[x]
 by_cases f:vs.toArray.5<2
 .rw[_j f,_j f];erw[_b (_p ?_)];rw[StateT.run_pure];erw[_b (_p ?_)]
  try dsimp only
  let z:d.9<2:=by simp at f;lia
  let u:Pm d.length (List.toArray (List.range d.9)):=List.Perm.refl _;let x:=m _ u λi u=>by lia
  let u:((List.toArray (List.range d.9)).toList.map λi=>d.getD i Value.none)=d:=by
   apply List.ext_getElem
   .simp
   .intro i v f;simp at v;simp[v]
  rw[u] at x;erw[LQ (o:=d) (b:=b) I F C r () () ?_ S λj c u v=>h j _ c u v x];show Array.map (λx=>x.2) (l.toArray.zip d.4)=_;apply Array.toList_inj.mp;rw[Array.toList_map,ksk_zip];simp only[List.toList_toArray];rw[List.map_snd_zip ()]
 .rw[_i f,_i f];let z:2<=d.9:=by simp at f;lia
  rw[ksk_kind w ()];erw[_b (_p ?_)];erw[_b (wpAny_mono (kat_run (ks:=l) (vs:=d) (κ:=oneType') (G:=λp j=>j=s/\Pm d.length p/\VH (TV g) p d.9) (Q:=λf j=>j=s/\∃p:Array Nat,(arrOf f).map (·.2)=List.toArray (p.toList.map λi=>d.getD i Value.none)/\failedOf f=_n/\Pm d.length p/\VH (TV g) p d.9) t z () (λp f j x l w g=>(g.1,p,kat_snds t l,w,g.2.1,g.2.2)) (Xr (by have:=Pi (X:=X) (A:=X.A.in1.in1) n s;rw[y] at this;rwa[this]) () λp a b=>(3,a,b))) ?_ λ_ _ e=>e)];rintro⟨⟨⟩,f⟩ j ⟨rfl,p,g,l,k,n⟩
  try dsimp only
  let f:(p.toList.map λi=>d.getD i Value.none).9=d.9:=by rw[xA,zO,k.5]
  rwa[LQ (o:=p.toList.map λi=>d.getD i Value.none) (b:=b) I F C r () () g l λj c u v=>h j _ c u v (m p k n)]
def fO(I:ZD X (B ++ [(kS,seqObj "list" #[] 0),(a,seqObj "list" #[] e1)]) Y H s)(hc:s.heap.get? c'=8 oc)(fk:Y8 X B H kS)(fa:Y8 X B H a)(hka:kS≠a)(nck:c'≠kS)(hlen:ks.9=vs.9)(h64:vs.9<64)(turn:Ft X B Y H f c' oc vs ks)(h:∀s' out c,ZD X B Y H s'->s'.heap.get? a=8 (seqObj "list" (List.toArray out) c)->Ba b ks vs out->Pf (.done (.ret .none)) s') :
  _w (_m X.prog X.w) X.A.in1.in1 (ksk_rest a f b vs.toArray e1 (3 kS)) Pf E s:=by
 unfold ksk_rest;erw[_b (wpAny_rule ?_)]
 first
  | rw[List.forIn_toArray]
  | (rw[<- Array.forIn_toList];simp only[List.toList_toArray])
  | rw[<- Array.forIn_toList]
 erw[_b (ksk_fold (λi s'=>∃kA e,ZD X (B ++ [(kS,seqObj "list" kA e),(a,seqObj "list" #[] e1)]) Y H s'/\s'.heap.get? c'=8 oc/\IntsAre kA.toList (ks.take i)) vs 0 s (#[],(0),I,hc,by simpa using IntsAre.nil) ?step ?done)]
 case step =>
  rintro j x s' hx ⟨kA,e,I',hc',hk⟩;simp only[Nat.zero_add] at hk |-;let hj:j<vs.9:=(xF.mp hx).1;obtain⟨k,hkj⟩:∃k,ks[j]?=8 k:=(2,xB ());let hz:kA.5<=vs.9:=by
   let h1:=hk.9;rw[zO,xY] at h1;lia
  erw[_b (wpAny_attempt (wpAny_mono (turn j x k hx hkj _ s' I' hc') (λv s'' he=>?_) λ_ _ hF=>hF.elim))];let((t2,3),I2,hc2):=he
  try dsimp only
  let nk:=I2.at1 (p:=(kS,seqObj "list" kA e)) (.head _);let na:=I2.at1 (p:=(a,seqObj "list" #[] e1)) (.tail _ (.head _));let ek:ks.take (j+1)=ks.take j ++ [k]:=by rw[xQ,hkj];simp
  let ea:(kA.push (Value.int k t2)).toList=kA.toList ++ [Value.int k t2]:=by simp
  erw[_b (listUpdate_at nk S ?_ (by rw[sizeLine_eq];lia) (xX (wX (Array.size_push ..)) (by rw[sizeLine_eq];lia)))];let I3:=(I2.j5).oJ (g:=(·.push (4 k t2))) fk;erw[_p (3,kA.push (4 k t2),2,I3.pin2 fk fa (get?_update_seq nk (·.push (4 k t2))) (by rw[zX _ _ _ _ hka.6];rwa[na]) (λv z=>by ext z) (λv z=>by ext z),5,by rw[ea,ek];rwa[ksk_snoc hk])];show (s''.heap.update kS _).get? c'=_;rw[zX _ _ _ _ nck];rwa[hc2]
 case done =>
  rintro s' ⟨kA,e,I',hc',hk⟩;let hk':IntsAre kA.toList ks:=by grind
  let nk:=I'.at1 (p:=(kS,seqObj "list" kA e)) (.head _)
  try dsimp only
  erw[_b (listItems_at nk S ?_)];rwa[bX I' fk fa hka hk' hlen h64 h]
def Rm(I:ZD X B Y H s)(t:s.heap.get? c'=8 oc)(m:Y8 X B H a)(l:s.heap.get? a=8 (seqObj "list" vs.toArray n))(p:c'≠a)(i:ks.9=vs.9)(o:vs.9<64)(k:Ft X B Y H f c' oc vs ks)(h:∀d out c,ZD X B Y H d->d.heap.get? a=8 (seqObj "list" (List.toArray out) c)->Ba b ks vs out->Pf (.done (.ret .none)) d) :
  _w (_m X.prog X.w) X.A.in1.in1 (ksk_tree a f b) Pf E s:=by
 let w:a<s.8:=xO l;obtain⟨e1,j⟩:∃e1,(s.heap.update a (Obj.mapSeq λ_=>(#[]:Array jX))).get? a=8 (seqObj "list" #[] e1):=(2,get?_update_seq l λ_=>#[]);let d:((s.heap.update a (Obj.mapSeq λ_=>(#[]:Array jX))).push (seqObj "tuple" vs.toArray 0)).7=s.8+1:=by rw[size_push',Heap.size_update]
 let r:=I.oJ (g:=λ_=>(#[]:Array jX)) m;let v:ZD X B Y H {s with heap:=((s.heap.update a (Obj.mapSeq λ_=>(#[]:Array jX))).push (seqObj "tuple" vs.toArray 0)).push (seqObj "list" #[] 0) }:=r.kept (t':=s.toks) λb u e=>xC _ (xC _ e);let r:Y8 X B H ((s.heap.update a (Obj.mapSeq λ_=>(#[]:Array jX))).push (seqObj "tuple" vs.toArray 0)).7:=I.ix (by rw[d];lia) (I.og.fresh (by rw[d];lia));unfold ksk_tree;erw[_b (listItems_at l S ?_)];erw[_b (listUpdate_at l S ?_ (by rw[xW,sizeLine_eq];lia) (yI _))];erw[_b (seqEpoch_at j S ?_)];erw[_b (wpAny_newTuple ?_ (by show vs.9<=_;rw[sizeLine_eq];lia))];erw[_b (wpAny_newList ?_ (yI _))];erw[wpAny_holding ?_];refine fO (s:={s with heap:=((s.heap.update a (Obj.mapSeq λ_=>(#[]:Array jX))).push (seqObj "tuple" vs.toArray 0)).push (seqObj "list" #[] 0) }) (kS:=((s.heap.update a (Obj.mapSeq λ_=>(#[]:Array jX))).push (seqObj "tuple" vs.toArray 0)).7)
  (v.pin2 r m (xN _ S) (xC _ (xC _ j)) (λv z=>by ext z) (λv z=>by ext z)) ?_ r m (by rw[d];rwa[wW (wI w)]) (by rw[d];rwa[yF (wI (xO t))]) i o k h
 erw[xC _ (xC _ ?_)];rw[zX _ _ _ _ p];rwa[t]
def Rq(I:ZD X B Y H s)(t:s.heap.get? c'=8 oc)(g:s.heap.IsList l vs.4)(i:ks.9=vs.9)(p:vs.9<64)(d:argsOk "sorted" ([3 l],kw))(r:∀x,argsOk "list.sort" ([3 x],kw))(u:∀x,Builtin.«list.sort» ([3 x],kw)=ksk_tree x f b)(n:Ft X B Y H f c' oc vs ks)(h:∀D k out c,ZD X B Y H k->Y8 X B H D->X.s₀.8<=D->k.heap.get? D=8 (seqObj "list" (List.toArray out) c)->Ba b ks vs out->Q (3 D) k) :
  _w (_m X.prog X.w) X.A (call (.builtin "sorted") [3 l] kw) Q E s:=by
 erw[call_function_entry_kw kind_sorted plain_sorted entry_sorted d ?_];unfold Builtin.«sorted»;erw[_b (m:=checkCount "sorted" 1 1 _) (_p ?_)];erw[_b (collect_list g ?_ (by rw[sizeLine_eq];lia))];erw[_b (wpAny_newList ?_ (by rw[sizeLine_eq];lia))];let g:((s.heap.push (seqObj "list" #[] 0)).update s.heap.objs.size (Obj.mapSeq (· ++ vs.4))).7=s.8+1:=by
  rw[Heap.size_update,size_push']
 let j:(((s.heap.push (seqObj "list" #[] 0)).update s.heap.objs.size (Obj.mapSeq (· ++ vs.4))).push (seqObj "list" vs.toArray 0)).get? (s.8+1)=8 (seqObj "list" vs.toArray 0):=by
  rw[<- g];rwa[xN _ S]
 let keep:∀b o,s.heap.get? b=8 o->(((s.heap.push (seqObj "list" #[] 0)).update s.heap.objs.size (Obj.mapSeq (· ++ vs.4))).push (seqObj "list" vs.toArray 0)).get? b=8 o:=λb o q=>by
  let d:b<s.8:=xO q;rw[Heap.get?_push_ne _ _ _ (by rw[g];rwa[yF (wI d)]),zX _ _ _ _ (yF d),Heap.get?_push_ne _ _ _ (yF d)];rwa[q]
 show _w _ _ _ _ _ {s with heap:=((s.heap.push (seqObj "list" #[] 0)).update s.heap.objs.size (Obj.mapSeq (· ++ vs.4))).push (seqObj "list" vs.toArray 0) };rw[g];erw[_b (wpAny_holding (wpAny_call_entry_kw slot_list_sort (2,j,3) entry_list_sort ?body (r _)))]
 case body =>
  let d:=u (s.8+1);show _w (_m X.prog X.w) X.A.in1.in1 (Builtin.«list.sort» ([3 (s.8+1)],kw)) _ _ _;rw[d];let d:ZD X B Y H {s with heap:=((s.heap.push (seqObj "list" #[] 0)).update s.heap.objs.size (Obj.mapSeq (· ++ vs.4))).push (seqObj "list" vs.toArray 0) }:=I.kept (t':=s.toks) keep;let g:Y8 X B H (s.8+1):=I.ix () (I.og.fresh ());erw[Rm (s:={s with heap:=((s.heap.push (seqObj "list" #[] 0)).update s.heap.objs.size (Obj.mapSeq (· ++ vs.4))).push (seqObj "list" vs.toArray 0) }) d (keep _ _ t) g j (yF (wI (xO t))) i p n λk out c i d j=>(1,5)];rwa[_p (1,h _ k out c i g (zU I.sz) d j)]
end
inductive J6(K:Frag)(b:Bool)(te:TE)(vs:aG)(H:Hp)(Q:VK):Prop
 |mk(a:jY) (L:aG) (c:List Int)(_:vs=[3 a])(_:ZG K H a L)(_:L.9<64)(_:c.9=L.9)(_:(∀(i:Nat)(x:V)(k:Int),L[i]?=8 x->c[i]?=8 k->∀a:Hp,(∀b d,H b=8 (7 d)->a b=8 (7 d))->te [8 x] a λz d=>z=4 k/\d=a))(_:∀(l:jY)(p:List Nat)(J:Hp),ZC H J->J l=_n->p.Perm (List.range L.9)->p.Pairwise (Jc b c)->Q (3 l) (upd J l (6 (p.map λi=>L.getD i .non))))
theorem HM(r:ZJ L vs):∀p:List Nat,ZJ (p.map λi=>L.getD i .non) (p.map λi=>vs.getD i Value.none)
 | []=>.nil
 | i::p=>.cons (by
   show ZH (L.getD i .non) (vs.getD i Value.none);rw[xR,xR];cases e:L[i]? with
   | none=>rw[r.none_of e];rfl
   | some x=>let(u,a,b):=r.get e;rw[a];rwa[b]) (HM r p)
section
variable{X:Cx}{c P:jY}{nm x:Str}{params:Arguments}{body:Expr}{scope:Scope}{lpos p kp kp2 pos:Pos}{e:Expr}{te:TE}{k:Nat}
structure AC (X:Cx) (nm x:Str) (params:Arguments) (body:Expr) (scope:Scope) (te:TE):Prop where
 cl:closureFor scope X.env=pure []
 df:defaultsOf params X.env=([],[])
 S:ZK [x] [x] scope
 bd:∀(pm cv ctv u:jX),bindArgs (kla_fn "<lambda>" nm params body scope [] pm cv ctv) ([u],[])=pure [(x,u)]
 bo:∀(f:jY)(cv:jX)(A:kD)(s:jW)(H2:Hp),QE (Yq YV X.prog X.w X.K X.mg X.base [x] nm scope f cv A X.stack s H2 E0) body te
def iX{b:Bool}{kw:jY->List (Str×jX)}{B:List (jY×Obj)}{Y:St}{H:Hp}{s:jW}{Q:VK}{a f d:jY}{ctv pm:jX}{oc:Obj}{vs:Array jX}{t:Tok}{g:Hp}(n:AC X nm x params body scope te)(v:ZL k X.A)(i:3<=k)(j:∀l f,argsOk "sorted" ([3 l],kw f))(r:∀x f,argsOk "list.sort" ([3 x],kw f))(y:∀x f,Builtin.«list.sort» ([3 x],kw f)=ksk_tree x (3 f) b)(I:ZD X (B ++ [(f,kla_obj "<lambda>" nm params body scope [] pm d ctv)]) Y H s)(u:s.heap.get? d=8 oc)(N:oc.data=.fields vs)(O:vs[1]?=8 (5 nm t))(own:H d=8 (.own P))(T:ZS H P nm)(m:ZC g H)(h:J6 X.K b te [3 a] g Q):_w (_m X.prog X.w) X.A (call (.builtin "sorted") [3 a] (kw f)) (EP X B Y Q) X.xe s:=by
 let(z,L,C,i,o,t,g,d,q):=h;ext i;let i:ZG X.K H a L:=by
  rcases o with(z | ⟨o,z⟩) | z
  .rwa[1 (1 (m _ _ z))]
  .rwa[1 (2 (o,m _ _ z))]
  .rwa[2 z]
 let(g,B,E,2):=I.list i;let U:=B.9;let A:ZL (k - 2) X.A.in1.in1:=(ZL.in1 (k:=k - 2) (ZL.in1 (k:=k - 2+1) (v.mono ())));erw[Rq (f:=3 f) (oc:=oc) (ks:=C) (b:=b) I u E.isList () () (j a f) (λx=>r x f) (λx=>y x f) (λi v J I r j o E y=>?_) λD u j M K F R o Y=>?_]
 .let W:∃j,L[i]?=8 j/\ZH j v:=by
   let G:i<L.9:=by have:=(xF.mp I).1;lia
   let(u,C,v):=B.get (xB G);rw[I] at C;ext C;rwa[2,xB G,v]
  let(j,u,C):=W;erw[wpAny_mono (RP (P:=P) (pm:=pm) (ctv:=ctv) (te:=te) (w:=4 J) E S A ?_ y N O own T n.S (n.bd _ _ _ _) C (λy=>(n.bo _ _ _ _ _).h) λy n=>d i j J u r y λb d e=>n b d (m _ _ e)) (λr n ⟨d,j,v⟩=>(d,j,v)) λ_ _ z=>z];rwa[(E.pin _ (xJ _ (yR _ (xJ _ yC)))).1]
 .let(j,d,r,3):=Y;let n:L.9=g.9:=U;let u:j.9=L.9:=by have:=d.length_eq;rw[yV] at this;lia
  erw[3 D,2,(K.track (u:=6 (j.map λi=>L.getD i .non)) F R (5,j.map λi=>g.getD i Value.none,M,HM B j,o)).j5,3,q D j H m F.1 (by rw[n];rwa[d]) r];rw[xA,u];rwa[xX (zC t) aA]
def dO{t:TA}(d:Aq X c P nm)(j:ZS X.H₀ P nm)(o:ZL k X.A)(l:3<=k)(n:Nm X.env.scope "sorted" .globalImplicit)(g:X.mg "sorted"=_n)(f:QA X [e] t)(b:AC X nm x params body scope te)(hs:autoParam (backTo pos (_e [e] X.env)=(_x,eval e X.env)::backTo pos (_e [] X.env)) y1z)(a:autoParam ((backTo pos (_e [e] X.env)).any (·.1)=false) y1z) :
  QE X (.Call (.Name "sorted" p) [e] [(8 "key", .Lambda params body scope lpos,kp)] pos) (Bk (J6 X.K _x te) t):=(⟨by
 intro B s Y H Q I h;erw[wpAny_Call_Name_kw (Ui I n.1 g SW ?_ n.2.2.2 n.2.1)];erw[callWith_kw (thn (f.h pos B s Y H _ I h) λr i ⟨s,f,h,m,g⟩=>?_) hs a rfl rfl];let(a,L,r,i,f):=id g;subst i;let(u,7,a):=Ju m;ext a;erw[kws_cons (OE h d j b.cl b.df λf u h v s t J w d m i j own a r=>kws_nil ?_)]
 rwa[iX (kw:=λf=>[(Str.ofString "key", 3 f)]) b o l (λl f=>ksk_s1 _ _) (λx f=>ksk_l1 _ _) (λx f=>ksk_t1 _ _) d m i j own a r g]⟩)
end
def GY{K:Frag}{h:Heap}{c P:jY}(X:K.In h)(e:codeHdIn K c P=_t):CodeHd h c P:=(PySem.W.codeHd_of_K X e)
def Jv(K:Frag)(mg:jR)(x:Str)(st:Stmt)(c:jY):Prop:=∃f g od kV a h d e b,
 K.lookup f=8 (g,od,.func (fnOf x x (Wy st) (Yu st) (Zj st) .none kV a h d (3 c) e),b)/\codeIn K (3 c) x=_t/\keepIn K (3 f)=_t/\mg x=8 (3 f)
def SL{K:Frag}{mg:jR}{h:Heap}{x:Str}{st:Stmt}{f c:jY}{oc:jX}{od an:Option jY}{osl:Array (Option jX)}{kV doc pm ct:jX}(b:K.In h)(G:h.Ns _g mg)(a:nsIn K _g x=8 (8 (3 f)))(l:K.lookup f=8 (oc,od,.func (fnOf x x (Wy st) (Yu st) (Zj st) .none kV doc pm an (3 c) ct),osl))(d:codeIn K (3 c) x=_t)(k:keepIn K (3 f)=_t):Jv K mg x st c:=((f,oc,od,kV,doc,pm,an,ct,osl,l,d,k,mg_of b G a))
structure AX (K:Frag) (mg:jR) (c P:jY):Prop where
 hd:codeHdIn K c P=_t
 bm:∃bm o,mg "__builtins__"=8 (3 bm)/\bm≠builtinsNs/\bm≠_g/\bm≠P/\K.lookup bm=8 o/\o.cls=.type "module" /\ o.dict=8 builtinsNs/\o.data=.plain
 gl:_g≠P
section
variable{P:jZ}{w:kB}{K:uFg}{mg:jR}{Z:Heap}
def Jv.fnQ{x:Str}{st:Stmt}{N ps:jS}{k:Nat}{b:Sp}{c T:jY}(h:Jv K mg x st c)(B:AX K mg c T)(e:K.In Z)(S:ZK N ps (Zj st))(g:∀ (kV doc pm:jX) (an:Option jY) (cdv ct:jX) (us:jT),us.9=ps.9->bindArgs (fnOf x x (Wy st) (Yu st) (Zj st) .none kV doc pm an cdv ct) (us,[])=pure (ps.zip us))(d:∀vs H Q E,b vs H Q E->vs.9=ps.9)(a:∀ (f:jY) (A:kD) (outer:List Env) (s:jW) (H:Hp) (vs:aG) (Q:VK) (E:XK),ZL k (A.deeper (envOfC x (Zj st) s.heap.objs.size f (3 c)))->Aq (Yq YV P w K mg Z N x (Zj st) f (3 c) A outer s H E).oE c T (x ++ ".<locals>." ++ "<lambda>")->b vs H Q E -> ∃t,WY (Yq YV P w K mg Z N x (Zj st) f (3 c) A outer s H E).oE (Yu st) t/\t {nx:=λ_ J=>Q .non J,rt:=Q } (start N vs) H):10 Fn x ps (k+1) b:=by
 let(f,m,od,kV,doc,pm,an,ct,l,j,b,kp,i):=h;erw[f,2,i,kp,.all (g kV doc pm an (3 c) ct),ER j b S d λA outer s H vs Q E u b=>?_];let L:Aq (Yq YV P w K mg Z N x (Zj st) f (3 c) A outer s H E).oE c T (x ++ ".<locals>." ++ "<lambda>") :=
  (7,GY e B.hd,let ⟨r,o,d,g,i,j,l,m,n,p⟩:=B.bm;(r,o,d,g,i,j,e _ _ l,(m,n,p)),7,B.gl)
 let(t,h,q):=a f A outer s H vs Q E u L b;rwa[t,h.h.oE,q]
end
section
variable{P:jZ}{w:kB}{K:uFg}{mg:jR}{Z:Heap}{x nm:Str}{scope:Scope}{f:jY}{cv:jX}{A:kD}{outer:List Env}{s:jW}{H:Hp}{E:XK}{pos:Pos}
def PQ:Bj (Yq YV P w K mg Z [x] nm scope f cv A outer s H E) (Tx K):=(⟨Gm (X:=Yq YV P w K mg Z [x] nm scope f cv A outer s H E)⟩)
def Oi(n:autoParam (Nm scope x .local) y4z):QE (Yq YV P w K mg Z [x] nm scope f cv A outer s H E) (.Name x pos) (YL 0):=(qvN 0 (yD n))
def fX{y:Str}{v:V}{u:jX}(a:mg y=8 u)(r:ZH v u)(n:autoParam (Nm scope y .globalImplicit) y4z):QE (Yq YV P w K mg Z [x] nm scope f cv A outer s H E) (.Name y pos) (tC v):=(Yv a r (yD n))
end
structure Tb where
 c:jY
 P:jY
 nm:Str
def JD(ts:List Tb)(b:jY):Option HO:=(ts.find? λt=>t.P==b).map λt=>.tbl #[5 t.nm 0]
def HZ(ts:List Tb)(H:Hp):Prop:=∀t∈ts,ZS H t.P t.nm
def D9(K:uFg)(ts:List Tb):Sp:=λc H Q _=>∃(a:jY)(b:List Int),c=[3 a]/\ZG K H a (b.map V.int)/\b.9<=63/\HZ ts H/\∀J,Q (.bl _t) J
def Nz{P:jZ}{w:kB}{K:uFg}{mg mb:jR}{k:Nat}{m a:jY}{b:FuncData}{x:Str}{c:jW}{vs:jT}{ns:List Int}{ts:List Tb}(U:K.In c.heap)(J:c.heap.Ns _g mg)(p:c.heap.Ns builtinsNs mb)(Y:∀x:Str,x ≠ "__name__" -> mb x=_o x)(v:c.heap.NoLimit)(hg:c.gens=#[])(X:c.heap.get? a=_s {cls:=.type "list", data:=.seq vs.4 })(d:IntsAre vs ns)(hl:ns.9<=63)(hr:ZL k callerA)(B:∀t∈ts,c.heap.get? t.P=_s {cls:=.none,data:=.fields #[] }/\codeHdIn K t.c t.P=_t/\K.lookup t.P=_n)(n:(ts.map (·.P)).Nodup)(F:∀Z:Heap,K.In Z->Z.Ns _g mg->10 YD YV k m b [x] (D9 K ts))(G:∀ (s:jW) (u:jX),BindsTo s b ([u],[]) [(x,u)]) :
  codeAny (_m P w) callerA (.call (3 m) ([3 a],[])) (λr C=>r=.ok (.ret (.bool _t))/\OldK c.heap C.heap/\C.os=c.os/\AllBare C.gens) c:=by
 let rv:=Hm d;let Q:=d.9;let N:ns.9<=sizeLine:=xX hl aA;let f:∀b u,JD ts b=8 u->∃t∈ts,t.P=b/\u=.tbl #[5 t.nm 0]:=λb u e=>by
  unfold JD at e;let(t,i,j):=xS.mp e;rwa[t,List.mem_of_find?_eq_some i,by simpa using List.find?_some i,j.6]
 let g:∀t∈ts,∃u,JD ts t.P=8 u:=λt A=>by
  unfold JD;cases e:ts.find? (λd=>d.P==t.P) with
  | none=>have:=List.find?_eq_none.mp e t A;simp at this
  | some d=>rwa[8]
 let E:∀t∈ts,JD ts t.P=8 (.tbl #[5 t.nm 0]):=λt A=>by
  let(u,e):=g t A;let(d,i,j,M):=f _ _ e;have:d=t:=by
   let I:∀{l:List Tb}{t d:Tb},(l.map (·.P)).Nodup->t∈l->d∈l->d.P=t.P->d=t:=by
    intro l
    induction l with
    | nil=>intro t d _ h;ext h
    | cons y l g =>
     intro t d g h l o;rw[yO,yM] at g;rcases xE.mp h with z | z
     .grind
     .grind
   rwa[I n A i j]
  rw[e,M,this]
 let y:∀H:Hp,(∀b u,H b=8 u->(b=a/\∃o L,u=.frz o (6 L))\/JD ts b=8 u)->HZ ts H->ZG K H a (ns.map V.int)->YT P w H c.heap->(H a≠_n->K.lookup a=_n)->
   codeAny (_m P w) callerA (.call (3 m) ([3 a],[])) (λr C=>r=.ok (.ret (.bool _t))/\OldK c.heap C.heap/\C.os=c.os/\AllBare C.gens) c:=by
  intro H W hT hS O d;let g:∀{b:jY}{o:Obj},c.heap.get? b=8 o->H b=_n->(Ag c.heap H).get? b=8 o:=λe n=>iY e n;let a0:∀{b:jY}{o:Obj}{T:Array DictEntry}{R:Nat},c.heap.get? b=8 o->o.data=.dict T R->H b=none:=λ{b o T R} e d=>by
   cases q:H b with
   | none=>rfl
   | some u =>
    rcases W b u q with⟨n,_⟩ | n
    .grind
    .let(t,i,j,2):=f b u n;subst j;rw[(B t i).1] at e;ext e;ext d
  let l:∀{b:jY}{m:jR},c.heap.Ns b m->(Ag c.heap H).Ns b m:=λ{b m} ⟨o,T,R,e,d,r⟩=>(o,T,R,g e (a0 e d),d,r)
  let d:K.In (Ag c.heap H):=λb o e=>g (U b o e) (by
   cases q:H b with
   | none=>rfl
   | some u =>
    rcases W b u q with⟨n,_⟩ | n
    .grind
    .let(t,i,j,2):=f b u n;subst j
     rw[(B t i).2.2] at e;ext e)
  let m:Mod K mg (Ag c.heap H):=(d,l J,(mb,l p,Y),let ⟨g,i,j⟩:=v;(g,l i,j));let g:VI P w K mg (Ag c.heap H) callerA [] c H:=(3,m,λb o e=>SC e,wX (iD _ _),trivial,λb p=>_a (show b∈([]:jV) from p) (by simp),O,.of_eq hg);erw[codeAny_mono ((F _ d (l J)).run callerA [] c H ([3 a],[]) [3 a] [3 a] (λv _=>v=.bl _t) E0 hr g (G c (3 a)) (.cons S .nil) (a,ns,3,hS,hl,hT,λ_=>rfl)) λr C h=>?_];cases r with
  | error e=>rwa[h.elim]
  | ok d =>
   cases d with
   | next=>rwa[False.elim h]
   | brk=>rwa[False.elim h]
   | cont=>rwa[False.elim h]
   | ret u =>
    let(v,J,os,g,l,d,m,q):=h;let h:v=.bl true:=q;subst h;obtain rfl:u=Value.bool true:=m;let h:∀b:jY,b∉frs []:=λb z=>_a (show b∈([]:jV) from z) (by simp);erw[7,(λb o e=>?_,λb o e=>l.there b o e (by simp)),os,g];cases q:H b with
    | none=>rwa[1 (l.keep b o e q (h b) (by simp))]
    | some u =>
     rcases W b u q with⟨_,g,L,z⟩ | z
     .subst z;let h:=l.o6 b g _ q;let(I,2):=O b _ q;let(g,2):=d b _ h;rw[e] at I;ext I;rwa[1 g]
     .let(t,i,j,M):=f b u z;subst j M;let(I,g,2):=B t i;rw[I] at e;ext e;let(m,h):=l.oU _ _ q;let(C,22,l,2):=d _ _ h;let(v,G,2222222,d,h,m,n,2):=GY U g;rwa[2 (1 ((t.c,v,G,d,h,m,n),3,#[],C,3,by rw[l];simp))]
 let d:∀(H:Hp),(∀t∈ts,H t.P=8 (.tbl #[5 t.nm 0]))->∀b u,JD ts b=8 u->ZQ P w H c.heap b u:=λH h b u z=>by
  let(t,i,j,M):=f b u z;subst j M;rwa[#[],t.nm,(0),(B t i).1,trivial,3,λc g e=>by ext e]
 let g:∀t∈ts,t.P≠a:=λt A z=>by grind
 cases c:K.lookup a with
 | some o =>
  let e:=U a o c;rw[X] at e;ext e;erw[y (JD ts) (λb u z=>2 z) (λt A=>(22,E t A,3)) (2 (2,vs.4,2,c,333,by rw[xW,Q];rwa[N],by simpa using rv)) (λb u z=>d _ E b u z) λz=>?_];exfalso;cases q:JD ts a with
  | none=>rwa[z q]
  | some u=>let(t,i,j,2):=f a u q;rwa[g t i j]
 | none =>
  let h:∀t∈ts,(λb=>if b=a then 8 (HO.frz {cls:=.type "list", data:=.seq vs.4 } (6 (ns.map V.int))) else JD ts b) t.P=8 (.tbl #[5 t.nm 0]):=λt A=>by grind
  erw[y (λb=>if b=a then 8 (.frz {cls:=.type "list", data:=.seq vs.4 } (6 (ns.map V.int))) else JD ts b) (λb u z=>?_) (λt A=>(22,h t A,3)) (1 (2 ({cls:=.type "list", data:=.seq vs.4 },_j S))) (λb u z=>?_) λ_=>c]
  .by_cases p:b=a
   .let c:=(_j p).symm.trans z;ext c;rwa[1 (p,21)]
   .rwa[2 ((_i p).symm.trans z)]
  .by_cases p:b=a
   .let c:=(_j p).symm.trans z;ext c;subst p;rwa[X,by rw[xA];rwa[N],vs,2,rv,X]
   .grind
def walkLawT{l:PySem.W.OpenLaw}{q:jZ}{loose:jS}{XP:(jR)->Heap->Prop}{YP:kB->Heap->Prop}{d:DefRec}{K KT:Params->uFg}{ts:List Tb}(b:l.most=8 63)(a:d.params.defaults=[])(y:∀w h,YP w h->(KT w.params).In h)(g:∀p h,(KT p).In h->(K p).In h)(i:∀p,∀t∈ts,(KT p).lookup t.P=_s {cls:=.none,data:=.fields #[] }/\codeHdIn (K p) t.c t.P=_t/\(K p).lookup t.P=_n)(n:(ts.map (·.P)).Nodup)(F:∀w mg j h,(K w.params).In h->h.Ns _g mg->mg d.name=8 (3 j)-> ∃k:FuncData,(∀s u,BindsTo s k ([u],[]) [("_law_script", u)])/\∀Z:Heap,(K w.params).In Z->Z.Ns _g mg->YD l.prog w (K w.params) mg Z YV 40 j k ["_law_script"] (D9 (K w.params) ts)) :
  PySem.W.WalkO q loose XP YP l.row.toRowW d [] (λf vs=>PySem.call f vs):=by
 erw[Att.attach_call b a λw r v mg H j o J B x a vs I G Y E C z m e b c A=>?_];let a:=y w _ Y;let o:=g _ _ a;let(k,r,g):=F w mg j _ o G.T.g m;rwa[Nz o G.T.g G.T.b G.T.builtins G.T.nolimit A e b c (3,aA,aA) (λt b=>(a _ _ (i w.params t b).1,(i w.params t b).2)) n g r]
def gM(h:∀p∈scope.names,p.2 ≠ .free):closureFor scope env=pure []:=by
 let go:∀(l:List (Str×NameKind))(cs:List (Str×jY)),(∀p∈l,p.2 ≠ .free)->
   (forIn l cs (λ(x:Str×NameKind) (r:List (Str×jY))=>if (x.2==NameKind.free)=_t then (do let a <- cellOf env x.1;pure (ForInStep.yield ((x.1,a)::r)):Sem (ForInStep (List (Str×jY)))) else pure (ForInStep.yield r)):Sem _)=pure cs:=by
  intro l
  induction l with
  | nil=>intro cs _;rfl
  | cons p l ih =>
   intro cs hp;rw[List.forIn_cons];let e2:(p.2==NameKind.free)=false:=by simpa using hp p yC
   simp only[e2,zJ,if_false,pure_bind];rwa[ih cs λq hq=>hp q (xP _ hq)]
 unfold closureFor;let e':=congrArg (λm:Sem (List (Str×jY))=>m >>= λr=>pure r) (go scope.names [] h);simp only[pure_bind] at e';rwa[e']
def Frag.In.left{K T:Frag}{h:Heap}(x:Frag.In (K++T:List (jY×Obj)) h):K.In h:=(λa o e=>x a o (by
 show List.lookup a (K++T)=8 o;rw[List.lookup_append];have:List.lookup a K=8 o:=e
 rw[this];rfl))
section
variable{ta:TE}
def Rn(K:Frag)(ta:TE):TT:=λY H Q=>ta Y H λx J=>∃k,MW K x J k/\Q k J
def KI(c:QE X a ta)(d:∀b,isTrue a X.env b=(do let v <- b;standAt a.pos;holding [v] (truthy v))):QT X a (Rn X.K ta):=(⟨by
 let c:=c.h;intro B s Y H Q I h
 rwa[isTrue_plain (thn (c B s Y H _ I h) λv g ⟨x,b,c,f,e⟩=>gO B g Y b x v Q c f e) (d _)]⟩)
end
section
variable{X:Cx}{o:Expr}{to:TE}{name:Str}{apos cpos:Pos}{T id:String}{r:V->List V->Hp->VK->Prop}
def cC:QM X "list.clear" Bf:=(⟨by
 intro B s Y H x d v b Q I a c h;let(l,L,77,b,q):=h;ext a;let a:=c.zero;subst a;let(z,a,n,r,c,e):=I.ou b;erw[call_meets F.slot_list_clear (2,e,7) F.entry_list_clear (F.args_list_clear_1 _) (AutoSeq1.list_clear_list_0 l a.toArray n (by rw[xW];lia)) (e,5)]
 rwa[.non,2,I.lset (its':=[]) (ys:=[]) b e rfl .nil (yI _),7,q]⟩)
def iK(i:PlainAttrs T)(c:Slot T name id)(f:typeOf (.builtin id)=pure (.type "method_descriptor"))(d:QM X id r)(e:QE X o to)(a:autoParam (attributeBase o name X.env (eval o X.env)=eval o X.env) y1z)(b:autoParam ((apos.endLine==cpos.line)=true) y1z):QE X (.Call (.Attribute o name apos) [] [] cpos) (fG X.K T r to):=(⟨by
 let d:=d.h;let e:=e.h;intro B s Y H Q I h;erw[wpAny_Call_method0_late a b (thn (e B s Y H _ I h) λv k ⟨x,e,a,b,l,j⟩=>?_)];let(g,h):=HR a b l
 rwa[T,id,i,c,f,g,h,mn rfl (PySem.evalArgs_none (d B k Y e x [] v [] Q a b .nil j))]⟩)
end
theorem LH(c:l≠it):∀n i s Q,s.heap.IsListIter it l i->s.heap.IsList l items->i+n<=items.5 ->
  (∀h',h'.IsListIter it l (i+n)->Heap.SameBut it s.heap h'->Q ((items.toList.drop i).take n) {s with heap:=h' })->_w (_m prog w) A (draw (3 it) n) Q E s
 | 0,i,s,Q,a,_,_,hQ=>by
  show _w _ _ (pure []) Q E s;rwa[_p (by simpa using hQ s.heap a (Heap.SameBut.refl ..))]
 | n+1,i,s,Q,a,e,b,hQ=>by
  let d:i<items.5:=by lia
  show _w _ _ (pyNext (3 it) >>= _) Q E s;erw[_b (wpAny_pyNext_list_item a e (x:=items[i]) (by simp[d]) λf b a=>?_)];erw[_b (wpAny_holding (LH c n (i+1) _ _ b (e.extBut a.extBut c) () λe b c=>_p ?_))];let f:items.toList.drop i=items[i]::items.toList.drop (i+1):=by simp[zT,d]
  have:=hQ e (by rw[show i+(n+1)=i+1+n by lia];rwa[b]) (a.trans c);rw[f,List.take_succ_cons] at this;rwa[this]
def Sk {x1} (g:A.handled=_n) (e:s.heap.IsList l items) (b:(assignEach elts env).9=items.5) (a:(assignEach elts env).findIdx? (·.1)=_n) (h:∀h',Heap.ExtBut s.heap.objs.size s.heap h'->_w (_m prog w) A (assignInOrder ((assignEach elts env).map (·.2)) items.toList) Q E {s with heap:=h' }) :
  _w (_m prog w) A (assign (.Tuple elts x1 pos) env (3 l)) Q E s:=by
 let d:l≠s.8:=by let(o,c,2):=e;rwa[yF (xO c)]
 rw[assign_Tuple];erw[_b (wpAny_standAt ?_)];unfold unpack;rw[b,a];erw[_b (wpAny_holding ?_)];unfold unpackItems;erw[_b ?_]
 .unfold notIterableAtAll;erw[_b (wpAny_specialOf e.typeIs slot_list_iter.lookup ?_)];erw[_p ?_];simp only[zJ,if_false];erw[_b (wpAny_holding (wpAny_pyIter_list e ?_))];erw[_b (wpAny_holding (LH d items.size 0 _ _ (2,xN _ S,33) (e.push _) () λf b a=>?_))];let c:List.take items.size (List.drop 0 items.toList)=items.toList:=by
   rw[mD];rwa[zR (by simp)]
  rw[c];rw[_i (by simp)];let c:f.IsList l items:=(e.push _).extBut a.extBut d;erw[_b (wpAny_holding (wpAny_pyNext_list_end g b c (by simp) λb c=>?_))];simp only[Option.isSome_none,zJ,if_false];erw[_p (h b λb o d e=>c b o d (a.extBut b o d (xC _ e)))]
section
variable{X:Cx}{pos:Pos}
inductive ET(K:uFg)(n:Nat)(t:Jo)(v:V)(Y:St)(H:Hp)(Q:St->Hp->Prop):Prop
 |mk(a L)(_:v=3 a)(_:ZG K H a L)(_:L.9=n)(_:t L Y H Q)
def dD{es:List Expr}{k:Nat}{t:Jo}{n:Nat}(e:X.calm=_t)(h:BC X es t)(i:autoParam ((assignEach es X.env).9=n) y1z)(b:autoParam ((assignEach es X.env).findIdx? (·.1)=none) y1z):QG X (.Tuple es k pos) (ET X.K n t):=(⟨by
 intro B s Y H v u Q I r c;let(a,L,d,l,g,c):=c;subst d;ext r;let(p,d,(o,m,j,a,2,f),r):=I.list l;erw[Sk (I.ok.hd e) (o,j,a,m,f) (by simp[i,<- g,d.9]) b λb f=>?_];let a:ZD X B Y H {s with heap:=b }:=I.kept (t':=s.toks) λb o e=>f b o (yF (xO e)) e
 rwa[h.h B _ Y H L _ Q a (by simpa using d) c]⟩)
end
inductive Cs(L:aG)(H:Hp)(Q:VK):Prop
 |mk(i j l)(_:L=[4 i,4 j,4 l])(_:∀m,(m=i\/m=j\/m=l)->m<=i->m<=j->m<=l->Q (4 m) H)
def RN(b:X.calm=_t):QC X (.builtin "min") Cs:=(⟨by
 intro B s Y H L a Q I r h;let(i,j,l,7,q):=h;cases r with
 | cons c a=>cases a with
  | cons d a=>cases a with
   | cons e a =>
    ext a;let(a,7):=c;let(a,7):=d;let(a,7):=e;erw[min_three_ints (I.ok.hd b) λa b k=>?_]
    by_cases b:j<i
    .rw[_j b]
     by_cases a:l<j
     .rw[_j a];rwa[4 l,H,I.kept k,(_,rfl),q l (2 (2 rfl)) () () ()]
     .rw[_i a];rwa[4 j,H,I.kept k,(_,rfl),q j (2 (1 rfl)) () () ()]
    .rw[_i b]
     by_cases a:l<i
     .rw[_j a];rwa[4 l,H,I.kept k,(_,rfl),q l (2 (2 rfl)) () () ()]
     .rw[_i a];rwa[4 i,H,I.kept k,(_,rfl),q i (1 rfl) () () ()]⟩)
def erB(K:uFg)(c:jU)(errs:jS):Bool :=
 decide (nsIn K _g "MootError"=8 (8 (3 (c "MootError"))))&&errs.all λx=>decide (nsIn K _g x=8 (8 (3 (c x))))&&Ax K (c x)&&EF K (c x)&&decide (Av K (c x) (c "MootError")=8 _t)&&decide (kitOne K (3 (c x)) (.type "ValueError")=8 _t) &&
  errs.all λy=>decide (Av K (c x) (c y)=8 (decide (x=y)))&&decide (kitOne K (3 (c x)) (3 (c y))=8 (decide (x=y)))
def Pr{K:uFg}{h:Heap}{mg:jR}{c:jU}{errs:jS}(X:K.In h)(G:h.Ns _g mg)(e:erB K c errs=_t):Er K mg c errs:=by
 unfold erB at e;rw[yS,zY] at e;let(d,e):=e;let b:∀x,x∈errs->(((((nsIn K _g x=8 (8 (3 (c x)))/\Ax K (c x)=_t)/\EF K (c x)=_t)/\Av K (c x) (c "MootError")=8 _t)/\kitOne K (3 (c x)) (.type "ValueError")=8 _t)/\∀y,y∈errs->Av K (c x) (c y)=8 (decide (x=y))/\kitOne K (3 (c x)) (3 (c y))=8 (decide (x=y))):=λx a=>by grind
 rwa[λx a=>mg_of X G (b x a).1.1.1.1.1,λx a=>(b x a).1.1.1.1.2,λx a=>(b x a).1.1.1.2,mg_of X G (yX d),λx a=>(b x a).1.1.2,λx a y d=>((b x a).2 y d).1,λx a y d=>((b x a).2 y d).2,λx a=>(b x a).1.2]
end L2
namespace Law
open PySem L2
abbrev lg:List Str:=["self","name","day","weight"]
abbrev lj:List Str:=["_law_src_here","_law_base"]
abbrev lp:List Str:=["_law_src_here","_law_moot","_law_world","_law_names_here","_law_things","_law_day","_law_held","_law_thing","_law_brought_here","_law_due","_law_found","_law_name"]
abbrev lu:List Str:=["self","name","day"]
abbrev lz:List Str:=["_law_src_here","_law_moot","_law_world","_law_names_here"]
abbrev lA:List Str:=["_law_suits","_law_told","_law_case","_law_ones","_law_others","_law_need","_law_named","_law_lost","_law_found","_law_name","_law_weight"]
abbrev lB:List Str:=["_law_deed_here"]
abbrev lC:List Str:=["_law_src_here","_law_world","_law_names_here","_law_day"]
abbrev lD:List Str:=["self","day","need","ones","others","oath"]
abbrev lE:List Str:=["_law_world","_law_deed_here","_law_deeds","_law_suits","_law_trials","_law_ones","_law_others","_law_named"]
abbrev lF:List Str:=["self","name","day","heir"]
abbrev lG:List Str:=["_law_deeds","_law_name","_law_day"]
abbrev lH:List Str:=["self","name"]
abbrev lI:List Str:=["brought","events","folk","day"]
abbrev lJ:List Str:=["self","thing","day"]
abbrev lK:List Str:=["_law_found","_law_due"]
abbrev lL:List Str:=["_law_src_here","_law_many"]
abbrev lM:List Str:=["_law_src_here","_law_moot","_law_world","_law_names_here","_law_many"]
abbrev lN:List Str:=["_law_src_here","_law_world","_law_suits","_law_case","_law_swearers"]
abbrev lO:List Str:=["_law_src_here","_law_names_here"]
abbrev lP:List Str:=["_law_world","_law_deed_here"]
abbrev lQ:List Str:=["_law_moot","_law_deed_here"]
abbrev lR:List Str:=["_law_deeds","_law_brought_here","_law_events","_law_day"]
abbrev lS:List Str:=["suits","case","name"]
abbrev lT:List Str:=["_law_world","_law_thing"]
abbrev lU:List Str:=["_law_name"]
abbrev lV:List Str:=["self","case","name","day","need","ones","others"]
abbrev lW:List Str:=["_law_src_here","_law_world","_law_names_here"]
abbrev lX:List Str:=["_law_src_here","_law_world"]
abbrev lY:List Str:=["self"]
abbrev lZ:List Str:=["_law_src_here","_law_many","_law_letters"]
abbrev i0:List Str:=["self","names","day"]
abbrev i3:List Str:=["_law_src_here","_law_things","_law_many"]
abbrev i4:List Str:=["_law_deeds","_law_name"]
abbrev i5:List Str:=["name","weight"]
abbrev i6:List Str:=["case","side","gone"]
abbrev i7:List Str:=["suits"]
abbrev i8:List Str:=["self","rows"]
def top(i:Nat):Stmt:=PySem.Challenge.pw_forsworn_k36_things_of_a_moot.main.body.getD i (.Pass ((0),(0),(0),(0)))
structure Txt (mg:jR):Prop where
 len:mg "len"=_n
 list:mg "list"=_n
 range:mg "range"=_n
 isinstance:mg "isinstance"=_n
 bool:mg "bool"=_n
 int:mg "int"=_n
 str:mg "str"=_n
 tuple:mg "tuple"=_n
 zip:mg "zip"=_n
 all:mg "all"=_n
 max:mg "max"=_n
 enumerate:mg "enumerate"=_n
 sum:mg "sum"=_n
 set:mg "set"=_n
 min:mg "min"=_n
 reversed:mg "reversed"=_n
 ValueError:mg "ValueError"=_n
 sorted:mg "sorted"=_n
inductive VY:Sp
 |mk(i)(_:vs=[4 i]/\Q (.bl _t) H)
abbrev GI:Stmt:=top 73
def XR(a:YB K mg "_law_whole" GI)(T:Txt mg):10 Fn "_law_whole" ["_law_found"] 1 VY:=by
 erw[a.fq ["_law_found"] λH b Q E a h=>?_];let(i,3,k):=h;erw[72,(Zf (Zr (AW (Z1 Jf T.isinstance Uv (0 Q0 (Ux (v:=.ty "int") T.int Kc S))) (Bc (Om (Z1 Jf T.isinstance Uv (0 Q0 (Ux (v:=.ty "bool") T.bool Gd S)))))))),5];let(f,a,c):=isi (K:=K) (H:=H) (d:=4 i) S "int" aA;let(g,b,e):=isi (K:=K) (H:=H) (d:=4 i) S "bool" aA;rwa[12, "int", f,1,a,c,1,Z7 (12, "bool", g,1,b,e,1,k)]
inductive VU(n:Nat):Sp
 |mk(v1 v2) (d)(_:vs=[v1,v2]/\YC H d v1/\YC H d v2/\d.deep<=n/\∀J,ZC H J->Q (.bl _t) J)
abbrev Ck:Stmt:=top 74
def Rf:ZK ["_law_found","_law_due","_law_one_here","_law_other"] lK (Zj Ck):=(fsc)
def Nq(b1:YB K mg "_law_same" Ck)(T:Txt mg)(b2:10 Fn "_law_whole" ["_law_found"] 1 VY)(b3:10 Fn "_law_same" lK (k+1) (λvs H Q E=>0<n/\VU (n - 1) vs H Q E)):10 Fn "_law_same" lK (k+2) (VU n):=by
 erw[b1.fnQ Rf (λ_ _ _ _ _ _=>al2 λ_ _=>rfl) (λvs H Q E h=>?_) (λf c2 A b7 s H vs Q E hr h=>?_)]
 .let(v1,v2,d,32):=h;rfl
 .let(v1,v2,d,3,t,l,hf,q):=h;let hk:1<=k+1:=Nat.le_add_left _ _
  refine(2,(11 (Zt (Zo FY Q1 Y3 (Zq _)) (Zf (Zr (J5 FY Q0 Y3 (Zq _)))) Zs) (Zt (Wz (Z1 Jf T.isinstance Uv (0 Q1 (Ux (v:=.ty "bool") T.bool Gd S)))) (Zf (Zr (AW (Z1 Jf T.isinstance Uv (0 Q0 (Ux (v:=.ty "bool") T.bool Gd S))) (Bc (J5 Yh Q0 Q1 (Zq _)))))) Zs) (Zt (Wz (Z1 Jf T.isinstance Uv (0 Q1 (Ux (v:=.ty "int") T.int Kc S)))) (Zf (Zr (AW (Zm b2 (0 Q0)) (Bc (J5 Yh Q0 Q1 (Zq _)))))) Zs) (Zt (Wz (Z1 Jf T.isinstance Uv (0 Q1 (Ux (v:=.ty "str") T.str Kd S)))) (Zf (Zr (AW (Z1 Jf T.isinstance Uv (0 Q0 (Ux (v:=.ty "str") T.str Kd S))) (Bc (J5 Yh Q0 Q1 (Zq _)))))) Zs) (Zt (QW.pt (CZ (Zo DX (Z1 Jf T.isinstance Uv (0 Q1 (Ux (v:=.ty "list") T.list V9 S))) (Z1 Jf T.isinstance Uv (0 Q0 (Ux (v:=.ty "list") T.list V9 S))) (Zq _)) (Cr (Zo DX (Z1 Jf T.isinstance Uv (0 Q1 (Ux (v:=.ty "tuple") T.tuple Gz S))) (Z1 Jf T.isinstance Uv (0 Q0 (Ux (v:=.ty "tuple") T.tuple Gz S))) (Zq _))))) (Zf (Zr Ul)) Zs) (Zt (Zo DX (Z1 Yw T.len Yk (0 Q0)) (Z1 Yw T.len Yk (0 Q1)) (Zq _)) (Zf (Zr Ul)) Zs) (Wd mL S (gE T.zip (0 Q0 Q1)) (Ar (by rfl) (Yr (Yc 2) (Yr (Yc 3) Vx)))
 (Zf (Zt (Uk (Wz (Zm b3 (0 Q2 Q3)))) (Zf (Zr Ul)) Zs))) (Zr Ul)),5)
  let q0:=q H (ZC.refl _);let ne:∀{b:Bool}{A B:Prop},B->if (!decide (V.bl b=V.bl b))=_t then A else B:=λh=>Vz (λz=>_a S z) λ_=>h
  let dt:∀v:V,decide (v=v)=true:=λv=>yD S;let(m,r,j):=isi (K:=K) l "bool" aA;let(C,G,u):=isi (K:=K) l "int" aA;let(U,W,M):=isi (K:=K) l "str" aA;let(a4,a8,a0):=isi (K:=K) l "list" aA;let(a6,b0,a2):=isi (K:=K) l "tuple" aA;let(b8,c0,b4):=isi (K:=K) t "bool" aA;let(b9,c1,b5):=isi (K:=K) t "str" aA;let(a3,a7,X):=isi (K:=K) t "list" aA;let(a5,a9,a1):=isi (K:=K) t "tuple" aA;erw[1315];rw[l.oA];cases d with
  | non =>
   ext t;rwa[Z7 (13,q0)]
  | bl b =>
   ext t;ext l;erw[Zz (12, "bool", m,1,r,j,1,Z7 (12, "bool", b8,1,c0,b4,1,Z7 (1,135)))];rw[dt];rwa[q0]
  | int i =>
   ext t;ext l;erw[Zz (12, "bool", m,1,r,j,1,Zz (12, "int", C,1,G,u,1,Z7 (1,i,31,Z7 (1,135))))];rw[dt];rwa[q0]
  | str x =>
   ext t;ext l;erw[Zz (12, "bool", m,1,r,j,1,Zz (12, "int", C,1,G,u,1,Zz (12, "str", U,1,W,M,1,Z7 (12, "str", b9,1,c1,b5,1,Z7 (1,135)))))];rw[dt];rwa[q0]
  | lst F =>
   erw[Zz (12, "bool", m,1,r,j,1,Zz (12, "int", C,1,G,u,1,Zz (12, "str", U,1,W,M,1,Zz (12, "list", a4,1,a8,a0,12, "list", a3,1,a7,X,31,ne (12, "tuple", a6,1,b0,a2,12, "tuple", a5,1,a9,a1,31,ne ?_)))))];let(I,a,3,N,p1):=t;let(L,c,3,O,p2):=l;let hl:a.9=c.9:=p1.length.trans p2.length.6;erw[1,I,a,3,1 (9 N),1,L,c,3,1 (9 O),31,Vz (λz=>_a (by rw[hl]) z) (λ_=>(11,I,L,3,1 (a,c,9 N,9 O,5)))];erw[MA a c hl (λi Y J=>ZC H J/\∃w3 w4,Y=[8 (3 I),8 (3 L),w3,w4]) (ZC.refl _,_n,_n,3) (λi Y J _ ⟨g,_⟩=>(9 (g _ _ N),9 (g _ _ O))) ?_ λY J ⟨g,_⟩=>q J g];rintro i x y p Y J hx hy ⟨g,w3,w4,rfl⟩ hp;let(dx,ex,rx):=p1.get hx;let(dy,ey,ry):=p2.get hy;rw[ex] at ey;ext ey;let e:=g.trans (ZC.new (o:=7 [x,y]) hp);let dd:=Gk ex;let b6:Uo F+1<=n:=hf;rwa[p,1,ZO.of Zi,3,x,[y],3,y,[],33116,x,y,dx,3,rx.oy e,ry.oy e,6,λH2 R=>(1,Zz (e.trans R,21))]
  | tup F =>
   erw[Zz (12, "bool", m,1,r,j,1,Zz (12, "int", C,1,G,u,1,Zz (12, "str", U,1,W,M,1,Zz (12, "list", a4,1,a8,a0,12, "list", a3,1,a7,X,31,ne (12, "tuple", a6,1,b0,a2,12, "tuple", a5,1,a9,a1,31,ne ?_)))))];let(I,a,3,N,p1):=t;let(L,c,3,O,p2):=l;let hl:a.9=c.9:=p1.length.trans p2.length.6;erw[1,I,a,3,2 (ZO.of N),1,L,c,3,2 (ZO.of O),31,Vz (λz=>_a (by rw[hl]) z) (λ_=>(11,I,L,3,2 (a,c,ZO.of N,ZO.of O,5)))];erw[MA a c hl (λi Y J=>ZC H J/\∃w3 w4,Y=[8 (3 I),8 (3 L),w3,w4]) (ZC.refl _,_n,_n,3) (λi Y J _ ⟨g,_⟩=>(ZO.of (g _ _ N),ZO.of (g _ _ O))) ?_ λY J ⟨g,_⟩=>q J g];rintro i x y p Y J hx hy ⟨g,w3,w4,rfl⟩ hp;let(dx,ex,rx):=p1.get hx;let(dy,ey,ry):=p2.get hy;rw[ex] at ey;ext ey;let e:=g.trans (ZC.new (o:=7 [x,y]) hp);let dd:=Gk ex;let b6:Uo F+1<=n:=hf;rwa[p,1,ZO.of Zi,3,x,[y],3,y,[],33116,x,y,dx,3,rx.oy e,ry.oy e,6,λH2 R=>(1,Zz (e.trans R,21))]
def eV(a:YB K mg "_law_same" Ck):10 Fn "_law_same" lK k (λ_ _ _ _=>False):=by
 let(f,b,F,c):=a;rwa[f,b,c,F.kp,F.binds λ_ _ _ _ _ _ b a=>match b,a with | [_,_],_=>rfl,(λ_ _ _ _ h=>h.elim,λ_ _ _ _ _ _ _ _ _ _ _ _ _ h=>h.elim)]
theorem HD(a:YB K mg "_law_same" Ck)(T:Txt mg)(b:10 Fn "_law_whole" ["_law_found"] 1 VY):∀n:Nat,10 Fn "_law_same" lK (n+2) (VU n)
 | 0=>Nq (k:=0) a T b ((eV a).imp λ_ _ _ _ h=>_a h.1 (zF _))
 | n+1=>Nq (k:=n+1) a T b ((HD a T b n).imp λ_ _ _ _ h=>h.2)
@[elab_as_elim] theorem nw {a:jY}{o:HO}{H:Hp}{b:Hp->Prop}(c:H a=_n) (h:∀J,ZC H J->J a=8 o->b J):b (upd H a o):=h _ (ZC.new c) Zi
section
variable{K:uFg}
inductive Ay(K:uFg):Sp
 |mk(a:jY) (b:List Int)(_:vs=[3 a]/\ZG K H a (b.map V.int)/\∀(s a:jY)(J:Hp),H s=_n->H a=_n->ZM J s a->ZC H J->Q (3 s) J)
abbrev Lw:Stmt:=top 71
def dH(a:YB K mg "_law_src" Lw)(T:Txt mg):10 Fn "_law_src" ["_law_script"] 1 (Ay K):=by
 erw[a.fq ["_law_script"] λH b Q E a h=>?_];let(a,e,3,b,k):=h;erw[72,(Zf (Zr (Yl (0 (Jm Aa T.list V9 (0 (Ak CV Q0 JY (As Zd)))) Zd Zd Zd Zd)))),5];erw[11,a,1,b,λl g=>?_];let a:∃d:List Int,TC (e.map V.int) _n (8 63)=d.map V.int:=by
  unfold TC;rw[<- List.map_drop,<- List.map_take];rwa[8]
 let(d,h):=a;erw[l,1,1 (9 Zi),λc a=>(aB S,λs b=>?_)];let f:c≠l:=λz=>by rw[z,Zi] at a;ext a
 let f:ZC H (upd H l (6 (TC (e.map V.int) _n (8 63)))):=ZC.new g;let g:=f.trans (ZC.new (o:=6 (TC (e.map V.int) _n (8 63))) a);let e:c≠s:=λz=>by rw[<- z,Zi] at b;ext b
 erw[k s c _ (g.free b) (f.free a) (d,(0),(0),(1),(0),Zi,by rw[Ze e,Zi,h],aA,e) (g.trans (ZC.new b))]
inductive YI:Sp
 |mk(s la) (b)(_:vs=[3 s,4 b]/\ZM H s la/\0<b/\b<1073741824/\∀d J,0<=d->d<b->ZM J s la->ZF s H J->Q (4 d) J)
abbrev Nu:Stmt:=top 72
def NY(a:YB K mg "_law_next" Nu)(T:Txt mg):10 Fn "_law_next" lj 1 YI:=by
 erw[a.fq ["_law_src_here","_law_base","_law_cell","_law_digit"] λH b Q E a h=>?_];let(s,m,b,3,(o,i,a,st,cnt,f,l,d,e),j,c,k):=h;erw[72,(11 (TQ (Z3 Wh (Zh Z6 Q0 Zd) Zd) (Bg Q0 Zd Bl)) (Zt (Zo Vm (Zh Z6 Q0 Zd) Zd (Zq _)) (11 (Zv 2 Zd) (Zt (Zo TU (Zh Z6 Q0 Zd) (Z1 Yw T.len Yk (0 (Zh Z6 Q0 Zd))) (Zq _)) (11 (Zv 2 (Zh Z6 (Zh Z6 Q0 Zd) (Zh Z6 Q0 Zd))) (TQ (Z3 Wh (Zh Z6 Q0 Zd) Zd) (Bg Q0 Zd Bl))) Zs) (TQ (Z3 BG (Z3 Wh (Z3 Wh (Z3 Lg (Zh Z6 Q0 Zd) Zd) (Z3 BG Q2 Zd)) (Zh Z6 Q0 Zd)) Zd) (Bg Q0 Zd Bl)) (Zt (Zo A6 Q2 (Z3 Pd Zd Zd) (Zq _)) (Zf (TQ Q2 (Bg Q0 Zd Bl))) Zs)) Zs) (Zt (Zo AI (Zh Z6 Q0 Zd) Zd (Zq _)) (11 (Zv 3 (Z3 BG (Zh Z6 Q0 Zd) Q1)) (TQ (Z3 Eo (Zh Z6 Q0 Zd) Q1) (Bg Q0 Zd Bl)) (Zr Q3)) Zs) (Zr (Z3 BG (Z3 Eo (Z3 BG (Z3 Lg (Zh Z6 Q0 Zd) Zd) Zd) Zd) Q1))),5];let g:∀(c:Hp)(f a st cnt d:Int),0<=d->d<b->ZF s H c->c s=8 (6 [3 m,4 f,4 a,4 st,4 cnt])->0<=f->Q (4 d) c:=λc f a st cnt d m n i h b =>
  k d c m n (o,f,a,st,cnt,h,i _ _ e l,b,e) i
 (repeat' (first | refine Zx (fun _=>?_) (fun _=>?_) | refine⟨_,rfl,?_⟩ | refine⟨_,_,rfl,rfl,?_⟩ | refine⟨_,_,rfl,rfl,(.inr ⟨by decide,by decide⟩:JX _ _),?_⟩ | refine⟨_,_,rfl,rfl,(⟨by first | decide | assumption | lia, by first | decide | assumption | lia⟩:Ls _ _),?_⟩ | refine⟨_,_,rfl,rfl,(⟨by decide,by decide,by decide⟩:GH _ _),?_⟩ | refine⟨_,_,rfl,rfl,(show (0:Int)<_ by first | decide | assumption | lia),?_⟩ | refine⟨_,_,_,_,rfl,rfl,(by first | assumption | exact ZG.of (by repeat (first | exact Zi | assumption | rw[Ze (by first | assumption | (apply Ne.symm;assumption))]))),(by rfl),?_⟩ | refine⟨_,_,_,_,rfl,rfl,(by first | assumption | exact ZG.of (by repeat (first | exact Zi | assumption | rw[Ze (by first | assumption | (apply Ne.symm;assumption))]))),bC (by lia) (by lia),?_⟩ | refine⟨_,_,_,_,rfl,rfl,(by repeat (first | exact Zi | assumption | rw[Ze (by first | assumption | (apply Ne.symm;assumption))])),(by rfl),?_⟩ | refine⟨_,_,rfl,.inl (by first | assumption | exact ZG.of (by repeat (first | exact Zi | assumption | rw[Ze (by first | assumption | (apply Ne.symm;assumption))]))),?_⟩ | fail ""))
 all_goals erw[g _ _ _ _ _ _ (Int.emod_nonneg _ ()) (Int.emod_lt_of_pos _ j) ?_ Zi ()]
 all_goals repeat (first | rwa[ZF.refl]| erw[ZF.trans ?_ ZF.upd])
end
inductive UO:Sp
 |mk(s la) (n)(_:vs=[3 s,4 n]/\ZM H s la/\0<=n/\n<=100/\∀x J,(x.9:Int)=n->BE x->ZM J s la->ZF s H J->Q (5 x) J)
def Qk(a:List Nat):(List.map cs (a.map λc=>(⟨#[c]⟩:Str))).flatten=a:=by
 induction a with
 | nil=>rfl
 | cons c r a=>rw[yO,yO,wV,a];rfl
abbrev CF:Stmt:=top 76
def eF:ZK lZ lL (Zj CF):=(fsc)
def Kz:Nm (Zj CF) "_law_letters" .cell:=(aA)
def Qy:Nm (Zj CF) "_law_src_here" .cell:=(aA)
def Pk(a:YB K mg "_law_word" CF)(T:Txt mg)(c:10 Fn "_law_next" lj 1 YI):10 Fn "_law_word" lL 2 UO:=by
 erw[a.fq lZ λH b Q E a h=>?_];let(s,l,n,3,a,b,d,k):=h
 refine(32,(11 (FO (i:=2) eF.nd Kz Z5) (Zr (Ys F.plainAttrs_str F.slot_str_join F.type_str_join NB Z5 (0 (Vg (locs:=["_law_k"]) (fr:=[("_law_src_here",(0)),("_law_letters",(2))]) (3,aA,aA,aA,aA,aA) (.ig Qy (.ig Kz .nil)) S (J3 T.range (0 Q1)) ⟨λ_ _ _ _ _ _=>by
  let b:(inN ["_law_k"] [("_law_src_here",(0)),("_law_letters",(2))]).Nodup:=aA
  rwa[(Y9 0 b),Jb,(Zh EJ (Wp 2) (Zm c (0 (Wp 1) Zd) (n:=nmC)))]⟩))))),5)
 erw[71,n,3665];erw[Mh (n:=n.toNat) (λi j e=>ZM e s l/\ZF s H e/\∃b:List Nat,b.9=i/\j=b.map (λc=>V.str ⟨#[c]⟩)/\∀c∈b,97<=c/\c<=122) (a,ZF.refl,[],33,(λ_ z=>nomatch z)) () ?_ ?_ ?_]
 .rintro i j e ⟨_,_,b,h,rfl,_⟩;rw[xA];lia
 .rintro i j e a ⟨f,g,b,h,rfl,m⟩ n d;let(a,3):=Uh d;erw[([_],33),5];(repeat' (first | refine Z7 ?_ | refine⟨_,rfl,?_⟩));erw[s,l,(26),3,f,aA,aA,λd o l n a i=>?_];erw[letters,d,13,aA,GD l n,a,g.trans i,b ++ [97+d.toNat],by rw[xI,h];rfl,by rw[xH];rfl,λc a=>?_];rcases xL.mp a with z | z
  .rwa[m c z]
  .grind
 .rintro j e ⟨f,g,b,h,rfl,m⟩ l i;let e:(b.map λc=>V.str ⟨#[c]⟩)=(b.map λc=>(⟨#[c]⟩:Str)).map V.str:=by rw[mK];rfl
  let d:∀l:List Nat,((l.map λc=>(⟨#[c]⟩:Str)).map (·.length)).sum=l.9:=by
   intro l
   induction l with
   | nil=>rfl
   | cons c r j=>rw[yO,yO,List.sum_cons,j,yN];show 1+r.9=_;lia
  erw[2,l,b.map λc=>(⟨#[c]⟩:Str),33,9 (by rw[Zi,e]),55]
  .rw[d,xA];show b.9+b.9 * 0<=16777216;lia
  .let d:cs (Txt.join "" (b.map λc=>(⟨#[c]⟩:Str)))=b:=by rw[fU,Qk]
   erw[k _ _ ?_ (λc a=>m c (by rw[d] at a;rwa[a])) (f.keep (ZC.new i)) (g.trans (ZF.new i))];rw[<- Vr,d,h];lia
theorem ph{b:Type} [DecidableEq b]:∀(L M:List b),L.Nodup->(∀a∈L,a∈M)->L.9<=M.9
 | [],_,_,_=>yI _
 | a::L,M,nd,h=>by
  let(f,b):=yM.mp nd;let c:=h a yC;have:=ph L (M.erase a) b λb d=>(List.mem_erase_of_ne (λ(e:b=a)=>f (by rw[<- e];rwa[d]))).mpr (h b (xP _ d));rw[List.length_erase_of_mem c] at this;let b:0<M.9:=List.length_pos_of_mem c;rw[yN];lia
def V4(a:Str)(j:Nat):Str:=a++⟨#[97+j % 26]⟩++⟨#[97+j / 26]⟩
def DA(a:Str)(j:Nat):cs (V4 a j)=cs a ++ [97+j % 26,97+j / 26]:=by
 unfold V4;rw[Eg,Eg];simp[cs]
def Xk(h:V4 stem i=V4 stem j):i=j:=by
 let e:cs (V4 stem i)=cs (V4 stem j):=by rw[h]
 rw[DA,DA] at e;let a:=List.append_cancel_left e;injection a with b a
 injection a with a _
 lia
def Mi(a:Str)(j:Nat):(V4 a j).9=a.9+2:=by
 rw[<- Vr,DA,xI,Vr];rfl
def iH(h:BE stem)(a:j<676):BE (V4 stem j):=by
 intro c a;rw[DA] at a;rcases xL.mp a with z | z
 .rwa[h c z]
 .simp at z;lia
def PY{a:jS}{b:Str}(h:∀j,j<a.9->V4 b j∈a):V4 b a.9∉a:=by
 intro c;let c:((List.range (a.9+1)).map (V4 b)).Nodup:=by
  rw[List.nodup_iff_pairwise_ne,List.pairwise_map];rwa[List.Pairwise.imp (λh e=>h (Xk e)) (List.nodup_iff_pairwise_ne.mp List.nodup_range)]
 have:=ph _ a c λa b=>by grind
 rw[xA,yV] at this;lia
def KH(x:Str)(a:jS):inV (5 x) (a.map V.str)=decide (x∈a):=by
 unfold inV;rw[List.any_map,zI,List.any_eq_true,wT];constructor
 .rintro⟨y,a,e⟩;have:y=x:=by simpa [eqV] using e
  rw[<- this];rwa[a]
 .intro h;rwa[x,h,by simp[eqV]]
def LG(a:jS):(a.map V.str).all Ai=true:=by
 rw[List.all_map,zY];intro x _;rfl
def Vs(x:Str):Prop:=BE x/\1<=x.9/\x.9<=12
section
variable{K:uFg}
inductive WJ(K:uFg):Sp
 |mk(a:jY) (b:jS) (x:Str)(_:vs=[3 a,5 x]/\ZG K H a (b.map V.str)/\b.9<=600/\Vs x/\∀y:Str,Vs y->y∉b->Q (5 y) H)
abbrev IJ:Stmt:=top 75
def OL(a:YB K mg "_law_unlike" IJ)(T:Txt mg):10 Fn "_law_unlike" ["_law_names_here","_law_name"] 1 (WJ K):=by
 erw[a.fq ["_law_names_here","_law_name","_law_letters","_law_stem","_law_tries"] λH b Q E a h=>?_];let(a,d,x,3,o,b,(l,m,n),k):=h;erw[72,(11 (Zv 2 Z5) (Zv 3 (Ak DZ Q1 JY (As Zd))) (Wd mL S (J3 T.range (0 (Z3 Wh (Z1 Yw T.len Yk (0 Q0)) Zd))) (Yc 4) (11 (Zt (Zo MM Q1 Q0 S) (Zf (Zr Q1)) Zs) (Zv 1 (Z3 DN (Z3 DN Q3 (Zh EJ Q2 (Z3 BG Q4 Zd))) (Zh EJ Q2 (Z3 Eo Q4 Zd)))))) (Zr Q1)),5];let b:(13:Nat)<=sizeLine:=by decide
 erw[1,(10),3,x,365];let b:cs (Txt.slice x _n (8 10))=(cs x).take 10:=EV x aA;let g:(Txt.slice x _n (8 10)).9<=10:=by rw[<- Vr,b,xY];lia
 let e:BE (Txt.slice x _n (8 10)):=λc f=>l c (by rw[b] at f;rwa[List.mem_of_mem_take f]);show Uu _ _ _ [8 (3 a),8 (5 x),8 (5 letters),8 (5 (Txt.slice x _n (8 10))),_n] H;generalize Txt.slice x _n (8 10)=b at g e;erw[1,a,1,1 o,416,by rw[xA];lia,5];refine Ap (d.9+1) (by rw[xA];lia) (λi Y J=>J=H/\∃(c:Str)(v:Option V),Y=[8 (3 a),8 (5 c),8 (5 letters),8 (5 b),v]/\Vs c/\(i=0\/c=V4 b (i - 1))/\∀j,j+1<i->V4 b j∈d)
  (3,x,_n,3,(l,m,n),1 S,λj l=>by lia) ?_ ?_
 .rintro i Y J m ⟨rfl,c,v,rfl,f,h,g⟩;erw[11,a,1,1 o,3,LG d,15];rw[KH];erw[Vz (λd=>?_) (λm=>?_)]
  .rwa[1,k c f d]
  .let d:i<=600:=by lia
   erw[1114,by show (0:Int)<26;decide,letters,4,aA,GD (Int.emod_nonneg _ aA) (Int.emod_lt_of_pos _ aA),b,1355]
   .show b.9+1<=_z;lia
   erw[114,(aA,aA),letters,4,aA,GD (Int.ediv_nonneg () aA) (),455]
   .show (b++_).9+1<=_z;rw[mO];show b.9+1+1<=_z;lia
   let d:((0:Int)+(i:Nat)) % 26=((i % 26:Nat):Int):=by lia
   let m:((0:Int)+(i:Nat)) / 26=((i / 26:Nat):Int):=by lia
   erw[7,V4 b i,8 (4 (0+(i:Nat))),5,(iH e (),by rw[Mi];lia,by rw[Mi];lia),2 S,λj l=>?_]
   .show [8 (V.ref a),8 (V.str _),8 (V.str letters),8 (V.str b),8 (V.int _)]=_;unfold V4;rw[d,m];rfl
   .grind
 .rintro Y J ⟨rfl,c,v,rfl,f,h,g⟩;erw[1,k c f ?_];rcases h with z | z
  .lia
  .rw[z];rwa[PY λj l=>g j ()]
inductive Tr:Sp
 |mk(s b:jY) (n:Int)(_:vs=[3 s,4 n]/\ZM H s b/\0<=n/\n<=100/\∀(l:jY)(a:jS)(J:Hp),(a.9:Int)=n->a.Nodup->(∀x∈a,Vs x)->H l=_n->J l=8 (6 (a.map V.str))->ZM J s b->ZF s H J->Q (3 l) J)
abbrev IS:Stmt:=top 77
def cS(c:YB K mg "_law_names" IS)(T:Txt mg)(b:10 Fn "_law_next" lj 1 YI)(a:10 Fn "_law_word" lL 2 UO)(d:10 Fn "_law_unlike" ["_law_names_here","_law_name"] 1 (WJ K)):10 Fn "_law_names" lL 3 Tr:=by
 erw[c.fq ["_law_src_here","_law_many","_law_style","_law_stem","_law_at","_law_names_here","_law_k","_law_name"] λH e Q E c h=>?_];let(s,A,n,3,c,e,f,k):=h;erw[72,(11 (Zv 2 (Zm b (0 Q0 Zd))) (Zv 3 (Zm a (0 Q0 (Z3 Wh Zd (Zm b (0 Q0 Zd)))))) (Zv 4 (Zm b (0 Q0 (Z1 G0 T.len Yk (0 Q3))))) (Zv 5 (Yl Zb)) (Wd mL S (J3 T.range (0 Q1)) (Yc 6) (11 (Zv 7 (Z3 DN (Z3 DN (Ak DZ Q3 JY (As Q4)) (Zm a (0 Q0 Zd))) (Ak DZ Q3 (As (Z3 Wh Q4 Zd)) JY))) (Zt (Zo Yh Q2 Zd (Zq _)) (Zf (Zv 7 (Ak DZ Q3 JY (As (Z3 Wh Zd (Zm b (0 Q0 (Z1 G0 T.len Yk (0 Q3))))))))) Zs) (Zt (Zo Yh Q2 Zd (Zq _)) (Zf (Zv 7 (Zm a (0 Q0 (Z3 Wh Zd (Zm b (0 Q0 Zd))))))) Zs) (Zk (Ys aD aE aF Yz Q5 (0 (Zm d (0 Q5 Q7))))))) (Zr Q5)),5];let hz:(200:Nat)<=sizeLine:=by decide
 erw[1,s,A,(3),3,c,aA,aA,λg e c d a b=>?_];erw[11,s,A,(11),3,a,aA,aA,λd1 f d e a c=>?_];erw[4,s,A,1,a,66,λf i d t a e=>?_];erw[11,f,36,s,A,1,a,66,λd i p j m a=>?_];erw[aB S,λl j=>?_];let r:ZF s H i:=((b.trans c).trans e).trans a;let(B,U):=m.ne j;let R:H l=none:=by
  cases e:H l with
  | none=>rfl
  | some o=>rwa[_a (r l o B e) (by rw[j];simp)]
 erw[1,n,3665];show AY _ _ _ _ [8 (3 s),8 (4 n),8 (4 g),8 (5 f),8 (4 d),8 (3 l),_n,_n] (upd i l (6 []));let W:∀x:Str,BE x->1<=x.9->x.9<=12->Vs x:=λx a b c=>(a,b,c);refine Ap n.toNat S (λi Y J=>∃(a:jS)(N O:Option V),Y=[8 (3 s),8 (4 n),8 (4 g),8 (5 f),8 (4 d),8 (3 l),N,O]/\a.9=i/\a.Nodup/\(∀x∈a,Vs x)/\J l=8 (6 (a.map V.str))/\ZM J s A/\ZF s H J)
  ([],_n,_n,33,List.nodup_nil,(λ_ z=>nomatch z),Zi,m.keep (ZC.new j),r.trans (ZF.new j)) ?_ ?_
 .rintro i Y H5 j ⟨a,N,O,rfl,G,L,F,I,M,E⟩;let y:cs (Txt.slice f _n (8 d))=(cs f).take d.toNat:=EV f p;let e2:cs (Txt.slice f (8 (d+1)) _n)=(cs f).drop (d+1).toNat:=Pa f ();let j:(Txt.slice f _n (8 d)).9<=11:=by rw[<- Vr,y,xY,Vr];lia
  let j:(Txt.slice f (8 (d+1)) _n).9+(d+1).toNat=f.9:=by rw[<- Vr,e2,wL,Vr];lia
  let v:(Txt.slice f _n (8 d)).9=d.toNat:=by rw[<- Vr,y,xY,Vr];lia
  erw[11,d,3,f,361,s,A,(1),3,M,aA,aA,λX r m j u p=>?_];let m:r l=8 (6 (a.map V.str)):=p l _ B I;erw[465];erw[1141,f,365];let Q:(Txt.slice f _n (8 d)++X).9=d.toNat+1:=by rw[mO,v];lia
  erw[4,by rw[Q];lia,5];let C:Vs (Txt.slice f _n (8 d)++X++Txt.slice f (8 (d+1)) _n):=by
   erw[W _ (λc v=>?_) ?_ ?_]
   .rw[Eg,Eg,y,e2] at v;rcases xL.mp v with v | v
    .rcases xL.mp v with v | v
     .rwa[t c (List.mem_of_mem_take v)]
     .rwa[j c v]
    .rwa[t c (List.mem_of_mem_drop v)]
   .rw[mO,Q];lia
   .rw[mO,Q];lia
  generalize Txt.slice f _n (8 d)++X++Txt.slice f (8 (d+1)) _n=W at C;show Uu _ _ _ [8 (3 s),8 (4 n),8 (4 g),8 (5 f),8 (4 d),8 (3 l),8 (4 (0+(i:Nat))),8 (5 W)] r;let Q:∀(D:YG),(∀ Y J,(∃(a:jS)(N O:Option V),Y=[8 (3 s),8 (4 n),8 (4 g),8 (5 f),8 (4 d),8 (3 l),N,O]/\a.9=i+1/\a.Nodup/\(∀x∈a,Vs x)/\J l=8 (6 (a.map V.str))/\ZM J s A/\ZF s H J)->D.nx Y J)->
    ∀(x:Str)(r:Hp),Vs x->r l=8 (6 (a.map V.str))->ZM r s A->ZF s H r ->
    Fp (FW K "list" VP (YL 5) (TF (Ad (WJ K) (TF (YL 5) (TF (YL 7) V3))) V3)) D
     [8 (3 s),8 (4 n),8 (4 g),8 (5 f),8 (4 d),8 (3 l),8 (4 (0+(i:Nat))),8 (5 x)] r:=by
   intro D X x r hx m u p;erw[1,1 (32,9 m),11,l,a,x,3,9 m,6,hx,λy hy j=>?_];erw[l,4,m,by rw[xA];lia,X _ _ (a ++ [y],21,by rw[xI,G];rfl,KB L j,λz hz=>?_,555)]
   .grind
   .rw[Zi,xH];rfl
   .rwa[u.oj ZF.upd B U]
   .intro b o j e;have:b≠l:=λz=>by rw[z,R] at e;ext e
    rw[Ze this];rwa[p b o j e]
  let b:∀(D:YG),(∀ Y J,(∃(a:jS)(N O:Option V),Y=[8 (3 s),8 (4 n),8 (4 g),8 (5 f),8 (4 d),8 (3 l),N,O]/\a.9=i+1/\a.Nodup/\(∀x∈a,Vs x)/\J l=8 (6 (a.map V.str))/\ZM J s A/\ZF s H J)->D.nx Y J)->
    ∀(x:Str)(r:Hp),Vs x->r l=8 (6 (a.map V.str))->ZM r s A->ZF s H r ->
    Uu (E5 (BN (Jr CC (YL 2) (tC (4 2)))) (JJ (Ad UO (TF (YL 0) (TF (Jr (Ae λi j=>4 (i+j)) (tC (4 1)) (Ad YI (TF (YL 0) (TF (tC (4 12)) V3)))) V3))) (Wv 7)) Y7)
     (Fp (FW K "list" VP (YL 5) (TF (Ad (WJ K) (TF (YL 5) (TF (YL 7) V3))) V3))) D
     [8 (3 s),8 (4 n),8 (4 g),8 (5 f),8 (4 d),8 (3 l),8 (4 (0+(i:Nat))),8 (5 x)] r:=by
   intro D X x r hx m u p;erw[131,Zx (λ_=>?_) (λ_=>?_)]
   .erw[11,s,A,(12),3,u,aA,aA,λd o H d1 g e=>?_];erw[4,s,A,1,g,66,λy z U n j i=>?_];rwa[Q D X y z (n,66) (i l _ B (e l _ B m)) j ((p.trans e).trans i)]
   .rwa[Q D X x r hx m u p]
  erw[131,Zx (λ_=>?_) (λ_=>?_)]
  .erw[111,f,36,s,A,1,u,66,λd o H d1 g e=>?_];erw[41,f,365];let i:cs (Txt.slice f _n (8 (1+d)))=(cs f).take (1+d).toNat:=EV f ();erw[b _ (λY J h=>h) _ o (λc v=>t c (by rw[i] at v;rwa[List.mem_of_mem_take v]),55) (e l _ B m) g ((E.trans p).trans e)]
   .rw[<- Vr,i,xY,Vr];lia
   .rw[<- Vr,i,xY,Vr];lia
  .rwa[b _ (λY J h=>h) W r C m u (E.trans p)]
 .rintro Y H5 ⟨a,N,O,rfl,G,L,F,I,M,E⟩;rwa[1,k l a H5 () L F R I M E]
end
def okc(c:Nat):Bool:=decide (97<=c)&&decide (c<=122)
def Ud(x:Str):Bool:=(decide (1<=x.9)&&decide (x.9<=12))&&(cs x).all okc
def bM(h:Vs x):Ud x=true:=by
 let(d,a,b):=h;unfold Ud;rw[yD a,yD b,Bool.true_and,Bool.true_and,zY];intro c e;let(a,b):=d c e;unfold okc;rw[yD a,yD b];rfl
inductive UE:Sp
 |mk(x)(_:vs=[5 x]/\x.9<=1000/\∀J,ZC H J->Q (.bl (Ud x)) J)
def Nv(a:i<x.9):(cs x)[i]?=8 (x.cps.getD i 0):=by
 unfold cs;have:i<x.cps.5:=a;rw[zZ,Array.getElem?_eq_getElem this,Array.getElem?_toList,Array.getElem?_eq_getElem this];rfl
def leA(c:Nat):(!decide ((⟨#[c]⟩:Str).cps.toList<("a":Str).cps.toList))=decide (97<=c):=by
 let e:("a":Str).cps.toList=[97]:=aA
 rw[e];show (!decide (([c]:List Nat)<[97]))=_;rw[zI,Bool.not_eq_true',decide_eq_false_iff_not,wT,Mw];lia
def leZ(c:Nat):(!decide (("z":Str).cps.toList<(⟨#[c]⟩:Str).cps.toList))=decide (c<=122):=by
 let e:("z":Str).cps.toList=[122]:=aA
 rw[e];show (!decide (([122]:List Nat)<[c]))=_;rw[zI,Bool.not_eq_true',decide_eq_false_iff_not,wT,Mw];lia
def HU{b c:Type}{l:List b}{i:Nat}{a:b}(f:b->c)(h:l[i]?=8 a):(l.take (i+1)).map f=(l.take i).map f ++ [f a]:=by
 rw[xQ,h,xH];rfl
abbrev Mp:Stmt:=top 32
def dP(c:YB K mg "is_name" Mp)(T:Txt mg)(b:∃t,mg "LONGEST_NAME"=8 (4 12 t)):10 Fn "is_name" ["text"] 1 UE:=by
 let(d,a):=b;let b:ZH (4 12) (4 12 d):=(d,3);erw[c.fq ["text"] λH d Q E c h=>?_];let(x,3,c,k):=h
 refine(32,(Zf (Zr (AW (Nj Vm Vm Zd (Z1 G0 T.len Yk (0 Q0)) (Yv a b)) (Bc (Z1 (Rt (by rfl)) T.all SM (0 (Vg (locs:=["sign"]) (fr:=[]) (3,aA,aA,aA,aA,aA) .nil S (XS Q0) ⟨λ_ _ _ _ _ _=>by
  let a:(inN ["sign"] []).Nodup:=aA
  rwa[(Y9 0 a),Jb,(Nj Hh Hh Z5 (Yj 0) Z5)]⟩))))))),5)
 let a:(1000:Nat)<=sizeLine:=by decide
 erw[1,x,3641,Zx (λa=>?_) (λa=>?_)]
 .erw[41,Zx (λa=>?_) (λa=>?_)]
  .erw[1,x,35];erw[QK (λi d J=>J=H/\d=((cs x).take i).map λc=>V.bl (okc c)) (3,3) () ?_ ?_ ?_]
   .grind
   .rintro i d J c ⟨rfl,rfl⟩ a b;let(a,3):=Uh b;erw[([_],33),Z7 ?_];erw[1415];rw[leA];erw[Zx (λa=>?_) (λa=>?_)]
    .erw[435];dsimp only;rw[leZ,HU _ (Nv c)];unfold okc;rw[yD a,Bool.true_and]
    .erw[75];rw[HU _ (Nv c)];unfold okc;rw[yP a,wJ]
   .rintro d J ⟨rfl,rfl⟩ l a;erw[l,(cs x).map okc,3,9 (by rw[Zi,<- Vr,xZ,mK];rfl),5];let e:((cs x).map okc).all id=Ud x:=by
     unfold Ud;rw[List.all_map,yD (show 1<=x.9 by lia),yD (show x.9<=12 by lia)];rfl
    rw[e];rwa[k _ (ZC.new a)]
  .erw[(?_:Q (.bl _x) H)];let e:Ud x=false:=by
    unfold Ud;rw[yP (show ¬x.9<=12 by lia),Bool.and_false,wJ]
   rw[<- e];rwa[k H (ZC.refl _)]
 .erw[1,Zz ?_];let e:Ud x=false:=by
   unfold Ud;rw[yP (show ¬ 1<=x.9 by lia),wJ,wJ]
  rw[<- e];rwa[k H (ZC.refl _)]
section
variable{w:kB}{K:uFg}
inductive ZI where
 | come (n:Str) (d w:Int) | rise (n:Str) (d w:Int) | die (n:Str) (d:Int) (h:Str)
def Zw:List ZI->Str->Option Int
 | [],_=>_n
 | .come m d _::r,n=>if m=n then 8 d else Zw r n
 | .rise _ _ _::r,n=>Zw r n
 | .die _ _ _::r,n=>Zw r n
def Zy:List ZI->Str->Option (Int×Str)
 | [],_=>_n
 | .die m d h::r,n=>if m=n then 8 (d,h) else Zy r n
 | .come _ _ _::r,n=>Zy r n
 | .rise _ _ _::r,n=>Zy r n
def Ee(a b:List ZI)(n:Str):Zw (a++b) n=(Zw a n).or (Zw b n):=by
 induction a with
 | nil=>rfl
 | cons x r c =>
  cases x with
  | come m d w =>
   rw[yL,Zw,Zw]
   by_cases e:m=n
   .rw[_j e,_j e];rfl
   .rw[_i e,_i e,c]
  | rise m d w=>rw[yL,Zw,Zw,c]
  | die m d h=>rw[yL,Zw,Zw,c]
def Cc(a b:List ZI)(n:Str):Zy (a++b) n=(Zy a n).or (Zy b n):=by
 induction a with
 | nil=>rfl
 | cons x r c =>
  cases x with
  | come m d w=>rw[yL,Zy,Zy,c]
  | rise m d w=>rw[yL,Zy,Zy,c]
  | die m d h =>
   rw[yL,Zy,Zy]
   by_cases e:m=n
   .rw[_j e,_j e];rfl
   .rw[_i e,_i e,c]
def Eu{F:List ZI}{n:Str}{d w:Int}(h:Zw F n=_n)(x:Str):Zw (F ++ [.come n d w]) x=if x=n then 8 d else Zw F x:=by
 rw[Ee,Zw,Zw]
 by_cases e:x=n
 .grind
 .grind
def Fl(x:Str):Zw (F ++ [.die n d h]) x=Zw F x:=by
 rw[Ee,Zw,Zw];cases Zw F x<;>rfl
def E9{F:List ZI}{n:Str}{d w:Int}(x:Str):Zy (F ++ [.come n d w]) x=Zy F x:=by
 rw[Cc,Zy,Zy];cases Zy F x<;>rfl
def DO(a:Zy F n=_n)(x:Str):Zy (F ++ [.die n d h]) x=if x=n then 8 (d,h) else Zy F x:=by
 rw[Cc,Zy,Zy]
 by_cases e:x=n
 .grind
 .grind
def Vp(F:List ZI)(n:Str)(day:Int):Bool:=match Zy F n with
 | some x=>decide (x.1<=day)
 | none=>_x
def TY(a c dd b:jY):List (Str×V):=Zu "heirs" (3 b) (Zu "deaths" (3 dd) (Zu "weights" (3 c) (Zu "comings" (3 a) [])))
def Cy(a c dd b:jY):(TY a c dd b).lookup ("comings":Str)=8 (3 a):=by
 unfold TY;rw[Wf,_i aA,Wf,_i aA,Wf,_i aA,Wf,_j S]
def FD(b a dd c:jY):(TY b a dd c).lookup ("weights":Str)=8 (3 a):=by
 unfold TY;rw[Wf,_i aA,Wf,_i aA,Wf,_j S]
def BD(a c dd b:jY):(TY a c dd b).lookup ("deaths":Str)=8 (3 dd):=by
 unfold TY;rw[Wf,_i aA,Wf,_j S]
def Ly(b c dd a:jY):(TY b c dd a).lookup ("heirs":Str)=8 (3 a):=by
 unfold TY;rw[Wf,_j S]
def EO(m:Str):Prop:=¬m="heirs" /\ ¬m="deaths" /\ ¬m="weights" /\ ¬m="comings"
instance (m:Str):Decidable (EO m):=by unfold EO;rwa[inferInstance]
def Wc(a c dd b:jY)(h:autoParam (EO m) y4z):(TY a c dd b).lookup m=none:=by
 let(a,b,c,d):=h;unfold TY;rw[Wf,_i a,Wf,_i b,Wf,_i c,Wf,_i d];rfl
structure FL where
 p:jY
 dc:jY
 dw:jY
 dd:jY
 dh:jY
structure ZX (C:jY) (H:Hp) (L:FL) (F:List ZI):Prop where
 ob:∃dx,H L.p=8 (.ins C dx (TY L.dc L.dw L.dd L.dh))
 c:∃U:List (ZV×V),H L.dc=8 (.dK U)/\U.9<=F.9/\∀n:Str,Z2 U (2 n)=(Zw F n).map V.int
 w:∃U:List (ZV×V),H L.dw=8 (.dK U)/\U.9<=F.9
 d:∃U:List (ZV×V),H L.dd=8 (.dK U)/\U.9<=F.9/\∀n:Str,Z2 U (2 n)=(Zy F n).map λx=>V.int x.1
 h:∃U:List (ZV×V),H L.dh=8 (.dK U)/\U.9<=F.9/\∀n:Str,Z2 U (2 n)=(Zy F n).map λx=>V.str x.2
 a1:L.dc≠L.dw
 a2:L.dc≠L.dd
 a3:L.dc≠L.dh
 a4:L.dw≠L.dd
 a5:L.dw≠L.dh
 a6:L.dd≠L.dh
def DB(H J:Hp):Prop:=∀b o,(∀L,o ≠ 6 L)->H b=8 o->J b=8 o
def ZC.n(h:ZC H J):DB H J:=(λb o _ e=>h b o e)
def ZF.n(h:ZF s H J)(hs:H s=8 (6 L)):DB H J:=(λb o n e=>h b o (λz=>by rw[z,hs] at e;rwa[n L (ma e).6]) e)
def ZX.keep(h:ZX C H L F)(k:DB H J):ZX C J L F:=by
 let((o,y),(t,g,i,j),(u,A,B),(v,l,m,n),(x,p,r,s),a,b,c,d,e,f):=h;rwa[(o,k _ _ (λ_ z=>nomatch z) y),(t,k _ _ (λ_ z=>nomatch z) g,i,j),(u,k _ _ (λ_ z=>nomatch z) A,B),(v,k _ _ (λ_ z=>nomatch z) l,m,n),(x,k _ _ (λ_ z=>nomatch z) p,r,s),a,b,c,d,e,f]
def YW(H J:Hp):Prop:=(∀b L,H b=8 (6 L)->J b=8 (6 L))/\∀b L,H b=8 (7 L)->J b=8 (7 L)
def YW.j8(h:H l=8 (.dK U)):YW H (upd H l (.dK kvs')):=((λb L e=>by rw[Ze (λz=>by rw[z,h] at e;ext e)];rwa[e],λb L e=>by rw[Ze (λz=>by rw[z,h] at e;ext e)];rwa[e]))
structure VA (K:uFg) (C:jY):Prop where
 cl:UK K C
 nc:ZY K C "comings"
 nw:ZY K C "weights"
 nd:ZY K C "deaths"
 nh:ZY K C "heirs"
variable{C:jY}
inductive VF(C:jY):Sp
 |mk(L) (F) (n) (day)(_:vs=[3 L.p,5 n,4 day]/\ZX C H L F/\Q (.bl (Vp F n day)) H)
abbrev Mu:Stmt:=Yt (top 36) 11
def P0(a:ZU K C "died_by" "Folk.died_by" Mu)(b:VA K C):10 Mt C "died_by" lu 1 (VF C):=by
 erw[a.mq lu λH a Q E c h=>?_];let(L,F,n,d,3,a,k):=h;erw[72,(Zf (Zr (AW (J5 (Cb c) Q1 (Z0 Q0) S) (Bc (J5 Vm (AS c (Z0 Q0) Q1 (λ_ _=>rfl)) Q2 (Zq _)))))),5];let(c,d):=a.ob;let(U,e,g,f):=a.d;let g:=YF.k (k:=Sum.inr n) e;rw[f] at g;unfold Vp at k;erw[11,L.p,C,c,21,d,b.cl,b.nd,BD _ _ _ _,L.dd,1,g,15];cases e:Zy F n with
 | none =>
  rw[e] at k;rwa[Zz k]
 | some x =>
  rw[e] at k g;erw[Z7 ?_];rwa[1,L.p,C,c,21,d,b.cl,b.nd,BD _ _ _ _,1,L.dd,4 x.1,3,g,14,k]
end
section
variable{C:jY}
inductive Jq(C:jY):Sp
 |mk(p dx)(_:vs=[3 p]/\H p=8 (.ins C dx [])/\∀L J,L.p=p->ZX C J L []->(∀b o,H b=8 o->b≠p->J b=8 o)->(∀b,b=L.dc\/b=L.dw\/b=L.dd\/b=L.dh->H b=_n)->Q .non J)
abbrev Hk:Stmt:=Yt (top 36) 0
def bI(a:ZU K C "__init__" "Folk.__init__" Hk)(i:VA K C):10 Mt C "__init__" lY 1 (Jq C):=by
 erw[a.mq lY λH b Q E a h=>?_];let(p,d,3,b,k):=h;erw[72,(11 (Uc Q0 BF) (Uc Q0 BF) (Uc Q0 BF) (Uc Q0 BF)),5];intro a j;let l:p≠a:=Zl b j;erw[1,p,C,d,[],3,(by rw[Ze l];rwa[b]),i.cl,i.nc,(by show 0<1000;decide),5];let m:(upd (upd H a (.dK [])) p (.ins C d (Zu "comings" (3 a) []))) p=8 (.ins C d (Zu "comings" (3 a) [])):=Zi;let h:(upd (upd H a (.dK [])) p (.ins C d (Zu "comings" (3 a) []))) a=8 (.dK []):=by rw[Ze l.6,Zi]
 let t:∀b o,H b=8 o->b≠p->(upd (upd H a (.dK [])) p (.ins C d (Zu "comings" (3 a) []))) b=8 o:=λb o e n=>by rw[Ze n,Ze (Zl e j)];rwa[e]
 generalize (upd (upd H a (.dK [])) p (.ins C d (Zu "comings" (3 a) [])))=g at m h t |-;intro c f;let r:p≠c:=Zl m f;let A:a≠c:=Zl h f;erw[1,p,C,d,1,(by rw[Ze r];rwa[m]),i.cl,i.nw,(by show 1<1000;decide),5];let s:(upd (upd g c (.dK [])) p (.ins C d (Zu "weights" (3 c) (Zu "comings" (3 a) [])))) p=8 (.ins C d (Zu "weights" (3 c) (Zu "comings" (3 a) []))):=Zi;let m:(upd (upd g c (.dK [])) p (.ins C d (Zu "weights" (3 c) (Zu "comings" (3 a) [])))) a=8 (.dK []):=by rw[Ze l.6,Ze A];rwa[h]
 let y:(upd (upd g c (.dK [])) p (.ins C d (Zu "weights" (3 c) (Zu "comings" (3 a) [])))) c=8 (.dK []):=by rw[Ze r.6,Zi]
 let x:∀b o,H b=8 o->b≠p->(upd (upd g c (.dK [])) p (.ins C d (Zu "weights" (3 c) (Zu "comings" (3 a) [])))) b=8 o:=λb o e n=>by rw[Ze n,Ze (Zl (t b o e n) f)];rwa[t b o e n]
 generalize (upd (upd g c (.dK [])) p (.ins C d (Zu "weights" (3 c) (Zu "comings" (3 a) []))))=h at s m y x |-;intro f g;let v:p≠f:=Zl s g;let B:a≠f:=Zl m g;let E:c≠f:=Zl y g;let t:(Zu "comings" (V.ref a) []).9<=0+1:=AO "comings" (V.ref a) [];let t:=AO "weights" (V.ref c) (Zu "comings" (V.ref a) []);let t:=AO "deaths" (V.ref f) (Zu "weights" (V.ref c) (Zu "comings" (V.ref a) []));erw[1,p,C,d,1,(by rw[Ze v];rwa[s]),i.cl,i.nd,65];let u:(upd (upd h f (.dK [])) p (.ins C d (Zu "deaths" (3 f) (Zu "weights" (3 c) (Zu "comings" (3 a) []))))) p=8 (.ins C d (Zu "deaths" (3 f) (Zu "weights" (3 c) (Zu "comings" (3 a) [])))):=Zi;let s:(upd (upd h f (.dK [])) p (.ins C d (Zu "deaths" (3 f) (Zu "weights" (3 c) (Zu "comings" (3 a) []))))) a=8 (.dK []):=by rw[Ze l.6,Ze B];rwa[m]
 let z:(upd (upd h f (.dK [])) p (.ins C d (Zu "deaths" (3 f) (Zu "weights" (3 c) (Zu "comings" (3 a) []))))) c=8 (.dK []):=by rw[Ze r.6,Ze E];rwa[y]
 let t:(upd (upd h f (.dK [])) p (.ins C d (Zu "deaths" (3 f) (Zu "weights" (3 c) (Zu "comings" (3 a) []))))) f=8 (.dK []):=by rw[Ze v.6,Zi]
 let y:∀b o,H b=8 o->b≠p->(upd (upd h f (.dK [])) p (.ins C d (Zu "deaths" (3 f) (Zu "weights" (3 c) (Zu "comings" (3 a) []))))) b=8 o:=λb o e n=>by rw[Ze n,Ze (Zl (x b o e n) g)];rwa[x b o e n]
 generalize (upd (upd h f (.dK [])) p (.ins C d (Zu "deaths" (3 f) (Zu "weights" (3 c) (Zu "comings" (3 a) [])))))=m at u s z t y |-;intro h g;let x:p≠h:=Zl u g;let F:a≠h:=Zl s g;let G:c≠h:=Zl z g;let I:f≠h:=Zl t g;erw[1,p,C,d,1,(by rw[Ze x];rwa[u]),i.cl,i.nh,65];erw[k (p,a,c,f,h) _ S ((d,Zi),([],5,xD _,λn=>rfl),([],5,xD _),([],5,xD _,λn=>rfl),([],5,xD _,λn=>rfl),A,B,F,E,G,I) (λb o e n=>?_) λb d=>?_]
 .show (upd (upd m h _) p _) a=_;rw[Ze l.6,Ze F];rwa[s]
 .show (upd (upd m h _) p _) c=_;rw[Ze r.6,Ze G];rwa[z]
 .show (upd (upd m h _) p _) f=_;rw[Ze v.6,Ze I];rwa[t]
 .show (upd (upd m h _) p _) h=_;rw[Ze x.6,Zi]
 .rw[Ze n,Ze (Zl (y b o e n) g)];rwa[y b o e n]
 .cases a:H b with
  | none=>rfl
  | some o =>
   rcases d with z | z | z | z<;>subst z
   .rw[j] at a;ext a
   .grind
   .grind
   .grind
end
section
variable{w:kB}{C:jY}
def Wg(f:Str->Option (List (ZV×V))):ZI->Str->Option (List (ZV×V))
 | .come n d w,m=>if m=n then 8 [(1 d,4 w)] else f m
 | .rise n d w,m=>if m=n then (f m).map λl=>Z9 l (1 d) (4 w) else f m
 | .die _ _ _,m=>f m
def kw(F:List ZI):Str->Option (List (ZV×V)):=F.foldl Wg λ_=>_n
def Up(F:List ZI)(x:ZI):kw (F ++ [x])=Wg (kw F) x:=by
 unfold kw;rw[zB];rfl
def V1:List ZI->List Str
 | []=>[]
 | .come n _ _::r=>n::V1 r
 | .rise _ _ _::r=>V1 r
 | .die _ _ _::r=>V1 r
def Eb(a b:List ZI):V1 (a++b)=V1 a++V1 b:=by
 induction a with
 | nil=>rfl
 | cons x r c=>ext x<;>simp[V1,c]
def EU{F:List ZI}{n:Str}{d w:Int}(x:Str):Zw (F ++ [.rise n d w]) x=Zw F x:=by
 rw[Ee,Zw,Zw];cases Zw F x<;>rfl
def E8{F:List ZI}{n:Str}{d w:Int}(x:Str):Zy (F ++ [.rise n d w]) x=Zy F x:=by
 rw[Cc,Zy,Zy];cases Zy F x<;>rfl
def Ir{l:List (ZV×V)}{k:ZV}{v:V}{p:ZV×V}(h:p∈Z9 l k v):p=(k,v)\/p∈l:=by
 unfold Z9 at h;split at h
 .grind
 .grind
def Gh(l:List (ZV×V)):Prop:=∀p∈l,∃d w,p=(1 d,4 w)
theorem MD:∀(F:List ZI)(f:Str->Option (List (ZV×V))),(∀n l,f n=8 l->Gh l)->∀n l,F.foldl Wg f n=8 l->Gh l
 | [],f,h,n,l,e=>h n l e
 | x::r,f,h,n,l,e=>by
  erw[MD r (Wg f x) (λm W Z=>?_) n l e];cases x with
  | come T d U =>
   rw[Wg] at Z;split at Z
   .ext Z;intro p Y;rwa[d,U,xU.mp Y]
   .rwa[h m W Z]
  | rise T d U =>
   rw[Wg] at Z;split at Z
   .cases X:f m with
    | none=>rw[X] at Z;ext Z
    | some R =>
     rw[X] at Z;ext Z;intro p Y;rcases Ir Y with rfl | Y
     .rwa[d,U,7]
     .rwa[h m R X p Y]
   .rwa[h m W Z]
  | die T d Q=>rwa[h m W Z]
def bY(h:kw F n=8 l):Gh l:=(MD F _ (λ_ _ z=>by ext z) n l h)
def Bx(a:Option (List (ZV×V)))(day wt:Int):Prop:=∃l m,a=8 l/\Z2 l (1 m)=8 (4 wt)/\m<=day/\∀d v,Z2 l (1 d)=8 v->d<=day->d<=m
def JQ(c:Option (List (ZV×V)))(day a b:Int):Prop:=(c=_n/\a = -1/\b=0)\/∃l,c=8 l/\((a = -1/\b=0/\∀d v,Z2 l (1 d)=8 v->¬d<=day)\/
 (0<=a/\a<=day/\Z2 l (1 a)=8 (4 b)/\∀d v,Z2 l (1 d)=8 v->d<=day->d<=a))
def Ep:Z2 [((1 d:ZV),v)] (1 j)=if j=d then 8 v else none:=by
 by_cases e:j=d
 .subst e;rw[_j S];rwa[TX S]
 .rw[_i e];simp[Z2,wA,Ne.symm e]
def B4{l:List (ZV×V)}{d j:Int}{v:V}:Z2 (Z9 l (1 d) v) (1 j)=if j=d then 8 v else Z2 l (1 j):=by
 rw[TZ]
 by_cases e:j=d
 .rw[_j e,_j (by rw[e])]
 .grind
def SZ{f:Str->Option (List (ZV×V))}{n:Str}{d w day a b:Int}(h:JQ (f n) day a b)(j:f n=_n)(i:0<=d) :
  (a<=d->d<=day->JQ (Wg f (.come n d w) n) day d w)/\(¬(a<=d/\d<=day)->JQ (Wg f (.come n d w) n) day a b):=by
 rw[Wg,_j S];rcases h with⟨_,c,g⟩ | ⟨l,e,_⟩
 .erw[λ_ a=>2 (1,2 (i,a,by rw[Ep,_j S],λb v e _=>?_)),λa=>2 (1,1 (c,g,λb v e k=>?_))]
  .rw[Ep] at e
   by_cases z:b=d
   .lia
   .rw[_i z] at e;ext e
  .rw[Ep] at e
   by_cases z:b=d
   .rwa[a (6,6)]
   .rw[_i z] at e;ext e
 .rw[j] at e;ext e
def Pj{f:Str->Option (List (ZV×V))}{n:Str}{e:List (ZV×V)}{d w day a b:Int}(h:JQ (f n) day a b)(c:f n=8 e)(g:0<=d) :
  (a<=d->d<=day->JQ (Wg f (.rise n d w) n) day d w)/\(¬(a<=d/\d<=day)->JQ (Wg f (.rise n d w) n) day a b):=by
 rw[Wg,_j S,c];rw[c] at h;rcases h with⟨e,_⟩ | ⟨l,e,h⟩
 .ext e
 ext e;erw[λa b=>2 (1,2 (g,b,by rw[B4,_j S],λb v e c=>?_)),λa=>2 (1,5)]
 .rw[B4] at e
  by_cases z:b=d
  .lia
  .grind
 .rcases h with⟨g,i,j⟩ | ⟨g,i,j,h4⟩
  .erw[1 (g,i,λb v e c=>?_)];rw[B4] at e
   by_cases z:b=d
   .rwa[a (6,6)]
   .rw[_i z] at e;rwa[j b v e c]
  .erw[2 (g,i,5,λb v e c=>?_)]
   .rw[B4,_i (λz=>a (6,6))];rwa[j]
   .rw[B4] at e
    by_cases z:b=d
    .grind
    .rw[_i z] at e;rwa[h4 b v e c]
def RZ(h:JQ kv day last found)(e:kv=8 l)(b:Z2 l (1 d0)=8 v)(a:d0<=day):Bx kv day found:=by
 rcases h with⟨z,_⟩ | ⟨l',e',h⟩
 .rw[e] at z;ext z
 .rw[e] at e';ext e';rcases h with⟨_,_,h⟩ | ⟨_,h2,h3,h4⟩
  .rwa[_a a (h d0 v b)]
  .rwa[l,last,e,h3,h2,h4]
theorem Ld:∀(F:List ZI)(f:Str->Option (List (ZV×V)))(g:Str->Option Int),(∀m,(f m).isSome=(g m).isSome)->∀m,(F.foldl Wg f m).isSome=((g m).or (Zw F m)).isSome
 | [],f,g,h,m=>by rw[Zw];show (f m).isSome=_;rw[h m];cases g m<;>rfl
 | x::r,f,g,h,m=>by
  let e:Zw (x::r) m=(Zw [x] m).or (Zw r m):=Ee [x] r m;let a:=Ld r (Wg f x) (λm=>(g m).or (Zw [x] m)) (λm=>?_) m
  .rw[zL,a,e];cases g m<;>rfl
  .cases x with
   | come n d w =>
    rw[Wg,Zw,Zw]
    by_cases z:m=n
    .grind
    .grind
   | rise n d w =>
    rw[Wg,Zw,Zw];let a:=h m
    by_cases z:m=n
    .grind
    .grind
   | die n d w=>rw[Wg,Zw,Zw,h m];cases g m<;>rfl
def EW(F:List ZI)(n:Str):(kw F n).isSome=(Zw F n).isSome:=by
 have:=Ld F (λ_=>_n) (λ_=>_n) (λ_=>rfl) n;rwa[this]
structure WX (H:Hp) (L:FL) (F:List ZI) (wa:jU):Prop where
 w:∃U:List (ZV×V),H L.dw=8 (.dK U)/\U.9<=F.9/\∀n l,kw F n=8 l->Z2 U (2 n)=8 (3 (wa n))/\H (wa n)=8 (.dK l)/\l.9<=F.9
 ord:∃U:List (ZV×V),H L.dc=8 (.dK U)/\(U.map λp=>kV p.1)=(V1 F).map V.str
 ap:∀n l,kw F n=8 l->wa n≠L.dc/\wa n≠L.dw/\wa n≠L.dd/\wa n≠L.dh
 inj:∀n m l l',kw F n=8 l->kw F m=8 l'->wa n=wa m->n=m
def WX.keep(h:WX H L F wa)(k:DB H J):WX J L F wa:=by
 let((a,b,c,m),(g,i,j),f,d):=h;rwa[(a,k _ _ (λ_ z=>nomatch z) b,c,λn l e=>let ⟨a,b,c⟩:=m n l e;(a,k _ _ (λ_ z=>nomatch z) b,c)),(g,k _ _ (λ_ z=>nomatch z) i,j),f,d]
def WX.start(h:ZX C H L []):WX H L [] wa:=by
 let(k,d,e):=h.w;let(c,a,b,2):=h.c;rwa[(k,d,e,(λn l e=>by ext e)),(c,a,by rw[mJ (Nat.le_zero.mp b)];rfl),(λn l e=>by ext e),(λn m l a e=>by ext e)]
def fE(H:Hp)(L:FL)(F:List ZI)(a:jU):Prop:=∃U:List (ZV×V),H L.dw=8 (.dK U)/\∀p∈U,∃n l,kw F n=8 l/\p=(Sum.inr n,V.ref (a n))
def own(L:FL)(F:List ZI)(a:jU)(b:jY):Prop:=b=L.p\/b=L.dc\/b=L.dw\/b=L.dd\/b=L.dh\/∃n l,kw F n=8 l/\b=a n
structure Fk (C:jY) (H:Hp) (L:FL) (F:List ZI) (wa:jU):Prop where
 f:ZX C H L F
 w:WX H L F wa
 all:fE H L F wa
def WW(L:FL)(F:List ZI)(a:jU)(H J:Hp):Prop:=∀b o,H b=8 o->¬own L F a b->J b=8 o
def BL(L:FL)(F:List ZI)(d:jU)(a:List ZI)(c:jU)(H:Hp):Prop:=∀b,own L a c b->own L F d b\/H b=_n
def Fk.at(h:Fk C H L F wa)(k:∀b o,own L F wa b->H b=8 o->J b=8 o):Fk C J L F wa:=by
 let(((v,d),(A,n,p,r),(B,P,Q),(E,s,t,u),(G,x,y,z),a,c,e,i,j,l),((I,R,T,U),(K,N,O),m,f),(M,W,X)):=h;let kp:=k L.p _ (1 S) d;let g:=λo=>k L.dc o (2 (1 S));let d:=λo=>k L.dw o (2 (2 (1 S)));rwa[((v,kp),(A,g _ n,p,r),(B,d _ P,Q),(E,k L.dd _ (2 (2 (2 (1 S)))) s,t,u),(G,k L.dh _ (2 (2 (2 (2 (1 S))))) x,y,z),a,c,e,i,j,l), ((I,d _ R,T,λn l e=>let ⟨a,b,c⟩:=U n l e;(a,k _ _ (2 (2 (2 (2 (2 (n,l,e,3)))))) b,c)),(K,g _ N,O),m,f),(M,d _ W,X)]
def Fk.there(h:Fk C H Lqz F wa)(f:own Lqz F wa b):∃o,H b=8 o/\(∀L,o ≠ 6 L)/\∀L,o ≠ 7 L:=by
 let(((p,g),(s,a,k),(t,i,y),(u,c,m),(v,d,r),2),((x,z,A,j),2),2):=h;rcases f with rfl | rfl | rfl | rfl | rfl | ⟨n,l,e,rfl⟩
 .rwa[2,g,(λ_ z=>nomatch z),(λ_ z=>nomatch z)]
 .rwa[2,a,(λ_ z=>nomatch z),(λ_ z=>nomatch z)]
 .rwa[2,i,(λ_ z=>nomatch z),(λ_ z=>nomatch z)]
 .rwa[2,c,(λ_ z=>nomatch z),(λ_ z=>nomatch z)]
 .rwa[2,d,(λ_ z=>nomatch z),(λ_ z=>nomatch z)]
 .rwa[2,(j n l e).2.1,(λ_ z=>nomatch z),(λ_ z=>nomatch z)]
def WW.lt(h:Fk C H Lqz F wa)(k:WW Lqz F wa H J):YW H J:=((λb L e=>k b _ e λc=>by let(f,a,d,2):=h.there c;rw[e] at a;ext a;rwa[d L S],λb L e=>k b _ e λc=>by let(f,a,2,b):=h.there c;rw[e] at a;ext a;rwa[b L S]))
def Fk.cnt(h:Fk C H L F wa):∃U,H L.dc=8 (.dK U)/\U.9=(V1 F).9:=by
 let(U,a,b):=h.w.ord;rwa[U,a,by have:=congrArg List.length b;(rw[xA,xA] at this;assumption)]
end
section
variable{C:jY}{c:jU}
abbrev errs:List Str:=["NoName","NoMeasure","Unknown","Taken","NoThing","NoCase","NoOath","NotYet","Dead","NoHeir","TooMany","SwornTwice","Forsworn","TooLight","Broken","NoDeed"]
def Vh{d:Int}(h:d.natAbs<=1000000000000000000):d.natAbs.log2<1920:=by
 by_cases z:d.natAbs=0
 .rw[z];decide +kernel
 .rw[Nat.log2_lt z];rwa[yT h aA]
def okI(d:Int):Prop:=d.natAbs<=1000000000000000000
def due(E:XK)(c:jU)(H:Hp)(k:Prop):Option Str->Prop
 | none=>k
 | some x=>E (3 (c x)) _n H
def due.cut(k:due E c H Q (a.or b))(f:a=_n->due E c H Q b->R):due E c H R a:=by cases a with
 | none=>rwa[f S k]
 | some x=>rwa[k]
def due.of(h:a=_n)(k:Q):due E c H Q a:=by rw[h];rwa[k]
def eM(lo a d:Int):Option Str:=if lo<=d/\d<=a then _n else 8 "NoMeasure"
inductive WZ(lo a:Int)(c:jU):Sp
 |mk(d)(_:vs=[4 d]/\okI d/\due E c H (Q .non H) (eM lo a d))
abbrev GM:Stmt:=top 26
def cN(d:YB K mg "check_day" GM)(b:∃t,mg "LAST_DAY"=8 (4 9999 t))(f:Er K mg c errs):10 YZ "check_day" 1 (WZ 0 9999 c):=by
 let(e,a):=b;let b:ZH (4 9999) (4 9999 e):=(e,3);erw[d.fx ["day"] ["day"] λH e Q E d h=>?_];let(d,3,e,k):=h;erw[72,(Zf (Zt (Uk (BK Vm Vm Zd Q0 (Yv a b))) (Zf (Wi Wa f (Wn (Wb Q0 (Y0 Wm))))) Zs)),5];unfold eM at k;erw[141,Zx (λa=>?_) (λz=>?_)]
 .erw[41,Vz (λz=>?_) (λb=>?_)]
  .rw[_i (λy=>z y.2)] at k;rwa[1,2 (d,3,Vh e),aA,λ_=>k]
  .rw[_j (a,b)] at k;rwa[k]
 .rw[_i (λy=>z y.1)] at k;rwa[_x,3,Z7 (1,2 (d,3,Vh e),aA,λ_=>k)]
abbrev GZ:Stmt:=top 27
def XW(d:YB K mg "check_weight" GZ)(b:∃t,mg "MOST_WEIGHT"=8 (4 1000 t))(f:Er K mg c errs):10 YZ "check_weight" 1 (WZ 1 1000 c):=by
 let(e,a):=b;let b:ZH (4 1000) (4 1000 e):=(e,3);erw[d.fx ["weight"] ["weight"] λH e Q E d h=>?_];let(d,3,e,k):=h;erw[72,(Zf (Zt (Uk (BK Vm Vm Zd Q0 (Yv a b))) (Zf (Wi Wa f (Wn (Wb Q0 (Y0 Wm))))) Zs)),5];unfold eM at k;erw[141,Zx (λa=>?_) (λz=>?_)]
 .erw[41,Vz (λz=>?_) (λb=>?_)]
  .rw[_i (λy=>z y.2)] at k;rwa[1,2 (d,3,Vh e),aA,λ_=>k]
  .rw[_j (a,b)] at k;rwa[k]
 .rw[_i (λy=>z y.1)] at k;rwa[_x,3,Z7 (1,2 (d,3,Vh e),aA,λ_=>k)]
abbrev Mn:Stmt:=top 28
def Pp(d:YB K mg "check_need" Mn)(b:∃t,mg "MOST_NEED"=8 (4 12000 t))(f:Er K mg c errs):10 YZ "check_need" 1 (WZ 1 12000 c):=by
 let(e,a):=b;let b:ZH (4 12000) (4 12000 e):=(e,3);erw[d.fx ["need"] ["need"] λH e Q E d h=>?_];let(d,3,e,k):=h;erw[72,(Zf (Zt (Uk (BK Vm Vm Zd Q0 (Yv a b))) (Zf (Wi Wa f (Wn (Wb Q0 (Y0 Wm))))) Zs)),5];unfold eM at k;erw[141,Zx (λa=>?_) (λz=>?_)]
 .erw[41,Vz (λz=>?_) (λb=>?_)]
  .rw[_i (λy=>z y.2)] at k;rwa[1,2 (d,3,Vh e),aA,λ_=>k]
  .rw[_j (a,b)] at k;rwa[k]
 .rw[_i (λy=>z y.1)] at k;rwa[_x,3,Z7 (1,2 (d,3,Vh e),aA,λ_=>k)]
abbrev Lh:Stmt:=top 29
def iN(d:YB K mg "check_money" Lh)(b:∃t,mg "MOST_MONEY"=8 (4 1000000 t))(f:Er K mg c errs):10 YZ "check_money" 1 (WZ 1 1000000 c):=by
 let(e,a):=b;let b:ZH (4 1000000) (4 1000000 e):=(e,3);erw[d.fx ["many"] ["many"] λH e Q E d h=>?_];let(d,3,e,k):=h;erw[72,(Zf (Zt (Uk (BK Vm Vm Zd Q0 (Yv a b))) (Zf (Wi Wa f (Wn (Wb Q0 (Y0 Wm))))) Zs)),5];unfold eM at k;erw[141,Zx (λa=>?_) (λz=>?_)]
 .erw[41,Vz (λz=>?_) (λb=>?_)]
  .rw[_i (λy=>z y.2)] at k;rwa[1,2 (d,3,Vh e),aA,λ_=>k]
  .rw[_j (a,b)] at k;rwa[k]
 .rw[_i (λy=>z y.1)] at k;rwa[_x,3,Z7 (1,2 (d,3,Vh e),aA,λ_=>k)]
def V2(F:List ZI)(n:Str):Option Str:=if Zw F n=_n then 8 "Unknown" else _n
inductive YO(C:jY)(c:jU):Sp
 |mk(L) (F) (n)(_:vs=[3 L.p,5 n]/\ZX C H L F/\(Zw F n=_n->n.9<=100)/\due E c H (Q .non H) (V2 F n))
abbrev HP:Stmt:=Yt (top 36) 17
def Xz(a:ZU K C "check_known" "Folk.check_known" HP)(b:VA K C)(e:Er K mg c errs):10 YA C "check_known" 1 (YO C c):=by
 erw[a.mx lH lH λH a Q E f h=>?_];let(L,F,n,3,a,d,k):=h;erw[72,(Zf (Zt (Zo (Iq f) Q1 (Z0 Q0) S) (Zf (Wi Wa e (Wn (Y0 (Wb Q1 Wm))))) Zs)),5];let(g,h):=a.ob;let(U,e,i,f):=a.c;erw[11,L.p,C,g,21,h,b.cl,b.nc,Cy _ _ _ _,L.dc,1,YF.k (k:=Sum.inr n) e,15];unfold V2 at k;rw[f];cases a:Zw F n with
 | none =>
  rw[_j a] at k;let d:=d a;rwa[Z7 (aA,1,1 (n,36),λ_=>k)]
 | some d =>
  rw[_i (by rw[a];intro z;ext z)] at k;rwa[Zz k]
def Va(d day:Int):Option Str:=if day<d then 8 "NotYet" else _n
inductive YX(C:jY)(c:jU):Sp
 |mk(L) (F) (n) (d day)(_:vs=[3 L.p,5 n,4 day]/\ZX C H L F/\Zw F n=8 d/\(day<d->n.9<=100/\okI day)/\due E c H (Q .non H) (Va d day))
abbrev Nf:Stmt:=Yt (top 36) 18
def fW(a:ZU K C "check_there" "Folk.check_there" Nf)(e:VA K C)(g:Er K mg c errs):10 YA C "check_there" 1 (YX C c):=by
 erw[a.mx lu lu λH a Q E i h=>?_];let(L,F,n,d,b,3,a,l,f,k):=h;erw[72,(Zf (Zt (Zo TU Q2 (AS i (Z0 Q0) Q1 (λ_ _=>rfl)) (Zq _)) (Zf (Wi Wa g (Wn (Wb Q1 (Y0 (Wb Q2 Wm)))))) Zs)),5];let(j,m):=a.ob;let(U,h,g,i):=a.c;let g:=YF.k (k:=Sum.inr n) h;rw[i,l] at g;erw[11,L.p,C,j,21,m,e.cl,e.nc,Cy _ _ _ _,1,L.dc,4 d,3,g,5];unfold Va at k;erw[41,Zx (λz=>?_) (λz=>?_)]
 .rw[_j z] at k;have ⟨f,a⟩:=f z;rwa[1,1 (n,36),aA,1,2 (b,3,Vh a),λ_=>k]
 .rw[_i z] at k;rwa[k]
def A0(F:List ZI)(n:Str)(day:Int):Option Str:=if Vp F n day=_t then 8 "Dead" else _n
inductive WV(C:jY)(c:jU):Sp
 |mk(L) (F) (n) (day)(_:vs=[3 L.p,5 n,4 day]/\ZX C H L F/\n.9<=100/\okI day/\due E c H (Q .non H) (A0 F n day))
abbrev GX:Stmt:=Yt (top 36) 19
def OQ(b:ZU K C "check_living" "Folk.check_living" GX)(e:VA K C)(f:Er K mg c errs)(a:10 Mt C "died_by" lu 1 (VF C)):10 YA C "check_living" 2 (WV C c):=by
 erw[b.mx lu lu λH d Q E b h=>?_];let(L,F,n,b,3,d,i,g,k):=h;erw[72,(Zf (Zt (Wz (Ve Q0 e.cl a (0 Q1 Q2))) (Zf (Wi Wa f (Wn (Wb Q1 (Y0 (Wb Q2 Wm)))))) Zs)),5];let(a,e):=d.ob;erw[1,L.p,a,1,e,Wc _ _ _ _ aA,11,L,F,n,b,3,d,15];unfold A0 at k;cases a:Vp F n b with
 | true =>
  rw[_j a] at k;rwa[Z7 (1,1 (n,36),aA,1,2 (b,3,Vh g),λ_=>k)]
 | false =>
  rw[_i (by rw[a];decide)] at k;rwa[Zz k]
def AB(F:List ZI)(n:Str):Option Str:=if Zy F n=_n then _n else 8 "Dead"
inductive WS(C:jY)(c:jU):Sp
 |mk(L) (F) (n)(_:vs=[3 L.p,5 n]/\ZX C H L F/\n.9<=100/\due E c H (Q .non H) (AB F n))
abbrev MH:Stmt:=Yt (top 36) 20
def Ox(a:ZU K C "check_untold" "Folk.check_untold" MH)(b:VA K C)(d:Er K mg c errs):10 YA C "check_untold" 1 (WS C c):=by
 erw[a.mx lH lH λH a Q E e h=>?_];let(L,F,n,3,a,f,k):=h;erw[72,(Zf (Zt (Zo (Cb e) Q1 (Z0 Q0) S) (Zf (Wi Wa d (Wn (Y0 (Wb Q1 (Y0 Wm)))))) Zs)),5];let(f,g):=a.ob;let(U,d,h,e):=a.d;erw[11,L.p,C,f,21,g,b.cl,b.nd,BD _ _ _ _,L.dd,1,YF.k (k:=Sum.inr n) d,15];unfold AB at k;rw[e];cases a:Zy F n with
 | none =>
  rw[_j a] at k;rwa[Zz k]
 | some x =>
  rw[_i (by rw[a];intro z;ext z)] at k;rwa[Z7 (aA,1,1 (n,36),aA,λ_=>k)]
def okN(n:Str):Prop:=n.9<=100/\∀x∈n.cps.toList,x<16^8
def TH(F:List ZI)(n:Str)(day wt:Int):Option Str:=if Ud n=_x then 8 "NoName" else (eM 0 9999 day).or ((eM 1 1000 wt).or ((if Zw F n=_n then _n else 8 ("Taken":Str)).or (if (V1 F).9<40 then _n else 8 ("TooMany":Str))))
inductive WO(C:jY)(c:jU):Sp
 |mk(L) (F) (wa) (n) (day wt)(_:vs=[3 L.p,5 n,4 day,4 wt]/\Fk C H L F wa/\F.9<=1000/\okN n/\okI day/\okI wt/\∀J,ZC H J->due E c J (Q .non J) (TH F n day wt))
abbrev Nr:Stmt:=Yt (top 36) 14
def NX(f:ZU K C "check_coming" "Folk.check_coming" Nr)(T:Txt mg)(d:VA K C)(b:∃t,mg "MOST_FOLK"=8 (4 40 t))(i:Er K mg c errs)(e:10 Fn "is_name" ["text"] 1 UE)(m:10 YZ "check_day" 1 (WZ 0 9999 c))(g:10 YZ "check_weight" 1 (WZ 1 1000 c)):10 YA C "check_coming" 2 (WO C c):=by
 let(h,a):=b;let b:ZH (4 40) (4 40 h):=(h,3);erw[f.mx lg lg λH f Q E p h=>?_];let(L,F,u,n,f,s,3,j,t,l,o,r,k):=h;let h:=j.f;erw[72,(11 (Zt (Uk (Wz (Zm e (0 Q1)))) (Zf (Wi Wa i (Wn (Rp Q1 (Y0 Wm))))) Zs) (Zk (Wq Z8 m (0 Q2))) (Zk (Wq Z8 g (0 Q3))) (Zt (Zo (Cb p) Q1 (Z0 Q0) S) (Zf (Wi Wa i (Wn (Y0 (Wb Q1 (Y0 Wm)))))) Zs) (Zt (Zo A6 (Z1 NG T.len Yk (0 (Z0 Q0))) (Yv a b) (Zq _)) (Zf (Wi Wa i (Wn (Y0 (Wb (Yv a b) (Y0 Wm)))))) Zs)),5];let a:=l.1;erw[1,n,36,λa g=>(1,5)];replace k:=k a g;unfold TH at k;cases e:Ud n with
 | false =>
  rw[_j e] at k;rwa[Z7 (1,(n,36,l.2),aA,λ_=>k)]
 | true =>
  rw[_i (by rw[e];decide)] at k;erw[Zz ?_];let a:=h.keep (ZC.n g);let(e,h):=a.ob;let(U,b,l,i):=a.c;let(a,l,m):=j.cnt;obtain rfl:U=a:=by have:=g _ _ l;rw[b] at this;ext this;rfl
  let g:=YF.k (k:=Sum.inr n) b;rw[i] at g;erw[1,f,3,o,due.cut k λa k=>?_];erw[1,s,3,r,due.cut k λa k=>?_];erw[11,L.p,C,e,21,h,d.cl,d.nc,Cy _ _ _ _,L.dc,1,g,15];cases a:Zw F n with
  | some f =>
   rw[_i (by rw[a];intro z;ext z)] at k;rwa[Z7 (aA,1,1 (n,36),aA,λ_=>k)]
  | none =>
   rw[_j a,zK] at k;erw[Zz (1,L.p,C,e,21,h,d.cl,d.nc,Cy _ _ _ _,L.dc,U,3,b,41,Zx (λz=>?_) (λz=>?_))]
   .rw[_i ()] at k;rwa[aA,2 ((40),3,aA),aA,λ_=>k]
   .rw[_j ()] at k;rwa[k]
def AA(F:List ZI)(n:Str)(day wt:Int):Option Str:=(eM 0 9999 day).or ((eM 1 1000 wt).or ((V2 F n).or ((Va ((Zw F n).getD 0) day).or (A0 F n day))))
inductive UL(C:jY)(c:jU):Sp
 |mk(L) (F) (n) (day wt)(_:vs=[3 L.p,5 n,4 day,4 wt]/\ZX C H L F/\n.9<=100/\okI day/\okI wt/\due E c H (Q .non H) (AA F n day wt))
def BW(h:V2 F n=_n):∃d,Zw F n=8 d:=by
 unfold V2 at h;cases e:Zw F n with
 | none=>rw[_j e] at h;ext h
 | some d=>rwa[d,7]
abbrev IH:Stmt:=Yt (top 36) 15
def Ow(e:ZU K C "check_rise" "Folk.check_rise" IH)(g:VA K C)(m:10 YZ "check_day" 1 (WZ 0 9999 c))(i:10 YZ "check_weight" 1 (WZ 1 1000 c))(b:10 YA C "check_known" 1 (YO C c))(d:10 YA C "check_there" 1 (YX C c))(a:10 YA C "check_living" 2 (WV C c)):10 YA C "check_rise" 3 (UL C c):=by
 erw[e.mx lg lg λH f Q E e h=>?_];let(L,F,n,f,p,3,e,l,j,o,k):=h;erw[72,(11 (Zk (Wq Z8 m (0 Q2))) (Zk (Wq Z8 i (0 Q3))) (Zk (Yg Z8 Q0 g.cl b (0 Q1))) (Zk (Yg Z8 Q0 g.cl d (0 Q1 Q2))) (Zk (Yg Z8 Q0 g.cl a (0 Q1 Q2)))),5];let(a,b):=e.ob;unfold AA at k;erw[1,f,3,j,due.cut k λd k=>?_];erw[1,p,3,o,due.cut k λd k=>?_];erw[1,L.p,a,1,b,Wc _ _ _ _ aA,1,L,F,n,3,e,λ_=>l,due.cut k λh k=>?_];let(d,g):=BW h;rw[g,mP] at k;erw[1,L.p,a,1,b,Wc _ _ _ _ aA,11,L,F,n,d,f,3,e,g,λ_=>(l,j),due.cut k λd k=>?_];rwa[1,L.p,a,1,b,Wc _ _ _ _ aA,11,L,F,n,f,3,e,l,j,k]
def A7(F:List ZI)(n a:Str)(day:Int):Option Str:=(eM 0 9999 day).or ((V2 F n).or ((V2 F a).or ((Va ((Zw F n).getD 0) day).or ((Va ((Zw F a).getD 0) day).or ((AB F n).or (if a=n\/Zy F a≠_n then 8 ("NoHeir":Str) else _n))))))
inductive Je(C:jY)(c:jU):Sp
 |mk(L) (F) (n he) (day)(_:vs=[3 L.p,5 n,4 day,5 he]/\ZX C H L F/\n.9<=100/\he.9<=100/\okI day/\due E c H (Q .non H) (A7 F n he day))
abbrev K4:Stmt:=Yt (top 36) 16
def Ot(e:ZU K C "check_death" "Folk.check_death" K4)(i:VA K C)(p:Er K mg c errs)(o:10 YZ "check_day" 1 (WZ 0 9999 c))(a:10 YA C "check_known" 1 (YO C c))(b:10 YA C "check_there" 1 (YX C c))(d:10 YA C "check_untold" 1 (WS C c)):10 YA C "check_death" 2 (Je C c):=by
 erw[e.mx lF lF λH e Q E r h=>?_];let(L,F,n,f,g,3,e,m,j,l,k):=h;erw[72,(11 (Zk (Wq Z8 o (0 Q2))) (Zk (Yg Z8 Q0 i.cl a (0 Q1))) (Zk (Yg Z8 Q0 i.cl a (0 Q3))) (Zk (Yg Z8 Q0 i.cl b (0 Q1 Q2))) (Zk (Yg Z8 Q0 i.cl b (0 Q3 Q2))) (Zk (Yg Z8 Q0 i.cl d (0 Q1))) (Zt (QW.pt (CZ (Zo Yh Q3 Q1 (Zq _)) (Cr (Zo (Cb r) Q3 (Z0 Q0) S)))) (Zf (Wi Wa p (Wn (Wb Q3 (Y0 (Wb Q1 Wm)))))) Zs)),5];let(a,b):=e.ob;unfold A7 at k;erw[1,g,3,l,due.cut k λd k=>?_];erw[1,L.p,a,1,b,Wc _ _ _ _ aA,1,L,F,n,3,e,λ_=>m,due.cut k λh k=>?_];let(d,o):=BW h;erw[1,L.p,a,1,b,Wc _ _ _ _ aA,1,L,F,f,3,e,λ_=>j,due.cut k λr k=>?_];let(p,h):=BW r;rw[o,h,mP,mP] at k;erw[1,L.p,a,1,b,Wc _ _ _ _ aA,11,L,F,n,d,g,3,e,o,λ_=>(m,l),due.cut k λd k=>?_];erw[1,L.p,a,1,b,Wc _ _ _ _ aA,11,L,F,f,p,g,3,e,h,λ_=>(j,l),due.cut k λd k=>?_];erw[1,L.p,a,1,b,Wc _ _ _ _ aA,1,L,F,n,3,e,m,due.cut k λd k=>?_];let(U,d,g,h):=e.d;let g:=YF.k (k:=Sum.inr f) d;rw[h] at g;erw[1131,Zx (λz=>?_) (λz=>?_)]
 .let d:f=n:=by injection z
  rw[_j (1 d)] at k;rwa[Z7 (1,1 (f,36),aA,1,1 (n,36),λ_=>k)]
 .let d:f≠n:=λy=>z (by rw[y]);erw[11,L.p,C,a,21,b,i.cl,i.nd,BD _ _ _ _,L.dd,1,g,15];cases a:Zy F f with
  | none =>
   rw[_i (by rw[a];rwa[λy=>y.elim d λw=>w S])] at k;rwa[Zz k]
  | some x =>
   rw[_j (2 (by rw[a];intro w;ext w))] at k;rwa[Z7 (1,1 (f,36),aA,1,1 (n,36),λ_=>k)]
def Vt(h:eM lo hi d=_n):lo<=d/\d<=hi:=by
 unfold eM at h
 by_cases z:lo<=d/\d<=hi
 .rwa[z]
 .rw[_i z] at h;ext h
def cX(h:Ud x=_t):Vs x:=by
 unfold Ud at h;simp only[yS,decide_eq_true_eq,zY] at h;rwa[λc a=>by have:=h.2 c a;unfold okc at this;simpa using this,h.1.1,h.1.2]
def Fe(h:TH F n day wt=_n):Vs n/\(0<=day/\day<=9999)/\(1<=wt/\wt<=1000)/\Zw F n=_n/\(V1 F).9<40:=by
 unfold TH at h
 by_cases z:Ud n=_x
 .rw[_j z] at h;ext h
 .rw[_i z] at h;simp only[yH] at h;erw[cX (by simpa using z),Vt h.1,Vt h.2.1,5];let(a,b):=h.2.2;erw[Classical.byContradiction λy=>?_,Classical.byContradiction λy=>?_]
  .rw[_i y] at a;ext a
  .rw[_i y] at b;ext b
def EZ(h:Va d day=_n):d<=day:=by
 unfold Va at h
 by_cases z:day<d
 .rw[_j z] at h;ext h
 .lia
def LN(h:AA F n day wt=_n):(0<=day/\day<=9999)/\(1<=wt/\wt<=1000)/\(∃d,Zw F n=8 d/\d<=day)/\Vp F n day=false:=by
 unfold AA at h;simp only[yH] at h;let(f,g,i,b,a):=h;let(d,e):=BW i;rw[e] at b;erw[Vt f,Vt g,(d,e,EZ b),5];unfold A0 at a;cases z:Vp F n day with
 | false=>rfl
 | true=>rw[_j z] at a;ext a
def bZ(h:A7 F n he day=_n):(0<=day/\day<=9999)/\(∃d,Zw F n=8 d/\d<=day)/\(∃d,Zw F he=8 d/\d<=day)/\Zy F n=_n/\Zy F he=_n/\he≠n:=by
 unfold A7 at h;simp only[yH] at h;let(l,a,f,g,i,b,j):=h;let(d,k):=BW a;let(e,a):=BW f;rw[k] at g;rw[a] at i;let f:Zy F n=none:=by
  unfold AB at b
  by_cases z:Zy F n=_n
  .rwa[z]
  .rw[_i z] at b;ext b
 by_cases z:he=n\/Zy F he≠_n
 .rw[_j z] at j;ext j
 .erw[Vt l,(d,k,EZ g),(e,a,EZ i),f,5,λy=>z (1 y)]
  by_cases y:Zy F he=_n
  .rwa[y]
  .rwa[_a (2 y) z]
end
section
variable{C:jY}
def Uy(l:List (ZV×V))(day:Int):List Int:=l.filterMap λp=>match p.1 with
 | .inl d=>if d<=day then 8 d else _n
 | .inr _=>_n
def jH{l:List (ZV×V)}{i:Nat}{d wt day:Int}(h:l[i]?=8 (1 d,4 wt)):Uy (l.take (i+1)) day=Uy (l.take i) day++(if d<=day then [d] else []):=by
 unfold Uy;rw[xQ,h,wE];congr 1
 by_cases e:d<=day
 .simp[e]
 .simp[e]
def upTo_mem:x∈Uy l day↔(∃v,(1 x,v)∈l)/\x<=day:=by
 unfold Uy;rw[List.mem_filterMap];constructor
 .grind
 .grind
def dZ{l:List (ZV×V)}{k:ZV}{v:V}(h:Z2 l k=8 v):(k,v)∈l:=by
 unfold Z2 at h;cases e:l.find? λa=>decide (a.1=k) with
 | none=>rw[e] at h;ext h
 | some p =>
  rw[e] at h;ext h;let b:=List.mem_of_find?_eq_some e;let a:=List.find?_some e;let a:p.1=k:=by simpa using a
  rw[<- a];rwa[b]
def PZ{l:List (ZV×V)}{k:ZV}{v:V}(h:(k,v)∈l):∃u,Z2 l k=8 u:=by
 unfold Z2;cases e:l.find? λa=>decide (a.1=k) with
 | none =>
  have:=List.find?_eq_none.mp e (k,v) h;rwa[_a (yD S) this]
 | some p=>rwa[p.2,7]
inductive Tq(C:jY):Sp
 |mk(L) (F) (wa) (n) (day d0 wt)(_:vs=[3 L.p,5 n,4 day]/\ZX C H L F/\WX H L F wa/\F.9<=1000/\0<=day/\day<=9999/\Zw F n=8 d0/\d0<=day/\Bx (kw F n) day wt/\∀J,ZC H J->Q (4 wt) J)
abbrev Gp:Stmt:=Yt (top 36) 6
def EN:Nm (Zj Gp) "day" .cell:=(aA)
def XE(d:ZU K C "weight" "Folk.weight" Gp)(T:Txt mg)(e:VA K C)(l:10 YZ "check_day" 1 (WZ 0 9999 c))(a:10 YA C "check_known" 1 (YO C c))(b:10 YA C "check_there" 1 (YX C c)) :
  Mt P w K mg Z C "weight" lu 2 (Tq C):=by
 erw[d.mq ["self","name","day","told"] λH d Q E i h=>?_];let(L,F,j,n,f,r,y,7,d,W,s,o,p,g,m,u,k):=h
 refine(72,(11 (Zk (Wq Xq.never l (0 (qvC 2 EN)))) (Zk (Yg Xq.never Q0 e.cl a (0 Q1))) (Zk (Yg Xq.never Q0 e.cl b (0 Q1 (qvC 2 EN)))) (Zv 3 (AS i (Z0 Q0) Q1 (λ_ _=>rfl))) (Zr (AS i Q3 (Z1 (eZ (by rfl)) T.max BY (0 (Xv (Vg (locs:=["since"]) (fr:=[("day",(2))]) (7,aA,aA,aA,aA,aA) (.ig EN .nil) rfl (NU Q3) ⟨λ_ _ _ _ _ _=>by
  let a:(inN ["since"] [("day",(2))]).Nodup:=aA
  rwa[(Y9 0 a),(Um (Zo Vm (Yj 0) (Wp 1) (Zq _))),(Yj 0)]⟩)))) (λ_ _=>rfl)))),5)
 let a:=aC
 let(b,m):=d.ob;erw[8,f,7,(by unfold okI;lia),due.of (_j (o,p)) ?_];erw[8,L.p,b,8,m,Wc _ _ _ _ aA,8,L,F,n,7,d,λz=>(by rw[g] at z;ext z),due.of (_i (by rw[g];intro z;ext z)) ?_];erw[8,L.p,b,8,m,Wc _ _ _ _ aA,88,L,F,n,r,f,7,d,g,λz=>_a z (),due.of (_i ()) ?_];let(l,t,a,h,r,s):=u;let(i,d,o,g):=W.w;let(i,x,o):=g n l a;let hint:=bY a;let g:=YF.k (k:=Sum.inr n) d;rw[i] at g;erw[8,L.p,C,b,28,m,e.cl,e.nw,FD _ _ _ _,8,L.dw,3 (j n),7,g,5];erw[8,j n,l,x,λo=>?_];erw[8,j n,o,l,7,Zi,5];erw[RH (λi a J=>J=upd H (j n) (.frz o (.dK l))/\a=(Uy (l.take i) f).map V.int) (7,7) () (λi a J _ ⟨e,_⟩=>by rw[e];rwa[Zi]) ?_ ?_ ?_]
 .rintro i a J ⟨_,rfl⟩;rw[xA];unfold Uy;erw[xX (List.length_filterMap_le _ _) ?_];rw[xY];lia
 .rintro i p a J g ⟨rfl,rfl⟩ d b;let(d,7):=Uh b;let(d,b,7):=hint p (xM g);erw[([_],77),5];erw[88,d,f,7785];rw[jH g];erw[Zx (λe=>?_) (λe=>?_)]
  .erw[875];rw[_j e,xH];rfl
  .grind
 .rintro a J ⟨rfl,rfl⟩ q b;rw[xZ];let d:q≠j n:=λz=>by rw[z,Zi] at b;ext b
  erw[by rw[Ze d.6];rwa[Zi],5];let a:H q=none:=by rw[Ze d] at b;rwa[b]
  let S:ZC H (upd (upd (upd H (j n) (.frz o (.dK l))) q (6 ((Uy l f).map V.int))) (j n) (.dK l)):=λb m e=>by
   by_cases z:b=j n
   .rw[z,Zi];rw[z,x] at e;rwa[e]
   .rw[Ze z,Ze (Zl e a),Ze z];rwa[e]
  let b:(upd (upd (upd H (j n) (.frz o (.dK l))) q (6 ((Uy l f).map V.int))) (j n) (.dK l)) q=8 (6 ((Uy l f).map V.int)):=by rw[Ze d,Zi]
  generalize (upd (upd (upd H (j n) (.frz o (.dK l))) q (6 ((Uy l f).map V.int))) (j n) (.dK l))=e at S b |-;let a:t∈Uy l f:=upTo_mem.mpr ((2,dZ h),r);erw[q,Uy l f,7,9 b,(λz=>by rw[z] at a;ext a),λm f d=>?_];let((v,g),b):=upTo_mem.mp f;let(u,f):=PZ g;let g:=s m u f b;let b:=d t a;let a:m=t:=by lia
  subst a;let a:=YF.k (k:=Sum.inl m) (S _ _ x);rw[h] at a;rwa[j n,4 y,7,a,k e S]
inductive Tf(C:jY):Sp
 |mk(L) (F) (wa) (n) (day wt)(_:vs=[3 L.p,5 n,4 day,4 wt]/\Fk C H L F wa/\F.9<=1000/\okN n/\okI day/\okI wt/\TH F n day wt=_n/\∀a J,Fk C J L (F ++ [.come n day wt]) a->WW L F wa H J->BL L F wa (F ++ [.come n day wt]) a H->Q .non J)
abbrev Lz:Stmt:=Yt (top 36) 1
def Ss(Y:ZU K C "come" "Folk.come" Lz)(N:VA K C)(X:10 YA C "check_coming" 2 (WO C c)) :
  Mt P w K mg Z C "come" lg 3 (Tf C):=by
 erw[Y.mq lg λH Y Q E U h=>?_];let(L,F,B,n,Y,T,3,R,I,G,J,E,Q,k):=h;let(M,(A,z),(x,u),v,O):=Fe Q;erw[72,(11 (Zk (Yg Xq.never Q0 N.cl X (0 Q1 Q2 Q3))) (JV U (Z0 Q0) Q1 Q2) (JV U (Z0 Q0) Q1 (iL Q2 Q3))),5];let O:=R.f;let M:=R.w;let X:=aC
 let(X,U):=O.ob;erw[1,L.p,X,1,U,Wc _ _ _ _ aA,111,L,F,B,n,Y,T,3,R,I,G,J,E,λU J=>due.of Q ?_];let Q:=O.keep (ZC.n J);let W:=M.keep (ZC.n J);let(O,X,y9):=R.all;let y7:=J _ _ X;let u:kw F n=none:=by
  have:=EW F n;rw[v] at this;cases e:kw F n with
  | none=>rfl
  | some l=>rw[e] at this;ext this
 let((A,X),(O,R,M,c3),2,(k3,s,I,e3),(k4,m,E,h3),G,p,j,i,h,a6):=Q;let((M,r,x,w4),(z,Q,o2),I,E):=W;rw[R] at Q;ext Q;let f:L.p≠L.dc:=λz=>by rw[z,R] at X;ext X
 let t:L.p≠L.dw:=λz=>by rw[z,r] at X;ext X
 erw[11,L.p,C,A,21,X,N.cl,N.nc,Cy _ _ _ _,1,L.dc,1,WD.k (k:=Sum.inr n) R (),5];let x:=YW.j8 (kvs':=Z9 O (Sum.inr n) (4 Y)) R;let R:∀b o,b≠L.dc->U b=8 o->(upd U L.dc (.dK (Z9 O (Sum.inr n) (4 Y)))) b=8 o:=λb o Q e=>by rw[Ze Q];rwa[e]
 let E:(upd U L.dc (.dK (Z9 O (Sum.inr n) (4 Y)))) L.dc=8 (.dK (Z9 O (Sum.inr n) (4 Y))):=Zi;generalize (upd U L.dc (.dK (Z9 O (Sum.inr n) (4 Y))))=Q at x R E |-;let g:=R _ _ f X;let x:=R _ _ G.symm r;let f:=R _ _ p.symm s;let d:=R _ _ j.symm m;intro q X;erw[11,Zi,[(Sum.inl Y,4 T)],3,by show 1<=15;decide,5];let U:ZC Q (upd (upd Q q (.dK [])) q (.dK (Az [] [(Sum.inl Y,4 T)]))):=λb o e=>by rw[Ze (Zl e X),Ze (Zl e X)];rwa[e]
 let a:(upd (upd Q q (.dK [])) q (.dK (Az [] [(Sum.inl Y,4 T)]))) q=8 (.dK [(Sum.inl Y,4 T)]):=Zi;generalize (upd (upd Q q (.dK [])) q (.dK (Az [] [(Sum.inl Y,4 T)])))=Q at U a |-;erw[1,L.p,C,A,21,U _ _ g,N.cl,N.nw,FD _ _ _ _,1,L.dw,1,WD.k (k:=Sum.inr n) (U _ _ x) (),5];let N:=YW.j8 (kvs':=Z9 M (Sum.inr n) (3 q)) (U _ _ x);let N:=Ug O (Sum.inr n:ZV) (V.int Y);let N:=Ug M (Sum.inr n:ZV) (V.ref q);let M:(F ++ [ZI.come n Y T]).9=F.9+1:=by rw[xI];rfl
 let q1:q≠L.dc:=λz=>by rw[z,E] at X;ext X
 let q2:q≠L.dw:=λz=>by rw[z,x] at X;ext X
 let N:q≠L.dd:=λz=>by rw[z,f] at X;ext X
 let N:q≠L.dh:=λz=>by rw[z,d] at X;ext X
 let s:∀m l,kw F m=8 l->Q (B m)=8 (.dK l)/\B m≠q:=λm l e=>by
  let Q:=R _ _ (I m l e).1 (w4 m l e).2.1;rwa[U _ _ Q,Zl Q X]
 let N:∀m l,kw (F ++ [.come n Y T]) m=8 l->(m=n/\l=[(Sum.inl Y,4 T)])\/(m≠n/\kw F m=8 l):=λm l e=>by
  rw[Up,Wg] at e;split at e
  .rename_i z;ext e;rwa[1 (z,3)]
  .rename_i z;rwa[2 (z,e)]
 refine k (λm=>if m=n then q else B m) _ (((A,by rw[Ze t];rwa[U _ _ g]),(2,by rw[Ze G];rwa[U _ _ E],6,λx=>?_),(2,Zi,6),(k3,by rw[Ze i.6];rwa[U _ _ f],6,λx=>?_),(k4,by rw[Ze h.6];rwa[U _ _ d],6,λx=>?_),G,p,j,i,h,a6),
  ((2,Zi,6,λm l e=>?_),(2,by rw[Ze G];rwa[U _ _ E],5),λm l e=>?_,λm G l Q e L z=>?_),(2,Zi,λp G=>?_)) (λb o e E=>?_) (λb B=>?_)
 .rw[TZ,Eu v]
  by_cases e:x=n
  .subst e;rw[_j S,_j S];rfl
  .grind
 .rw[E9];rwa[e3 x]
 .rw[E9];rwa[h3 x]
 ·(try dsimp only)
  rcases N m l e with⟨rfl,rfl⟩ | ⟨Q,L⟩
  .rw[_j S];rwa[by rw[TZ,_j S],by rw[Ze q2];rwa[a],by rw[M];show 1<=_;lia]
  .rw[_i Q];let(M,A,x):=w4 m l L;rwa[by rw[TZ,_i (λz=>Q (Sum.inr.inj z))];rwa[M],by rw[Ze (I m l L).2.1];rwa[(s m l L).1],6]
 .let M:Z2 O (Sum.inr n:ZV)=none:=by rw[c3,v];rfl
  rw[fB _ M,xH,Eb,xH,o2];rfl
 .grind
 .grind
 .rw[r] at y7;ext y7;rcases Ir G with rfl | G
  .rwa[n,[(Sum.inl Y,4 T)],by rw[Up,Wg,_j S],by (try dsimp only);rw[_j S]]
  .let(m,l,e,3):=y9 p G;let Q:m≠n:=λz=>by rw[z,u] at e;ext e
   rwa[m,l,by rw[Up,Wg,_i Q];rwa[e],by (try dsimp only);rw[_i Q]]
 .rw[Ze (λz=>E (2 (2 (1 z))))];rwa[U _ _ (R b o (λz=>E (2 (1 z))) (J _ _ e))]
 .rcases B with z | z | z | z | z | ⟨m,l,e,z⟩
  .rwa[1 (1 z)]
  .rwa[1 (2 (1 z))]
  .rwa[1 (2 (2 (1 z)))]
  .rwa[1 (2 (2 (2 (1 z))))]
  .rwa[1 (2 (2 (2 (2 (1 z)))))]
  ·(try dsimp only at z)
   rcases N m l e with⟨rfl,rfl⟩ | ⟨Q,y⟩
   .rw[_j S] at z;erw[.inr ?_];cases Y:H b with
    | none=>rfl
    | some o =>
     have:=R _ _ (by rw[z];rwa[q1]) (J _ _ Y);rw[z,X] at this;ext this
   .rw[_i Q] at z;rwa[1 (2 (2 (2 (2 (2 (m,l,y,z))))))]
inductive Jd(C:jY):Sp
 |mk(L) (F) (wa) (n) (day wt)(_:vs=[3 L.p,5 n,4 day,4 wt]/\Fk C H L F wa/\F.9<=1000/\n.9<=100/\okI day/\okI wt/\AA F n day wt=_n/\∀J,Fk C J L (F ++ [.rise n day wt]) wa->WW L F wa H J->BL L F wa (F ++ [.rise n day wt]) wa H->Q .non J)
abbrev Mj:Stmt:=Yt (top 36) 2
def dS(b:ZU K C "rise" "Folk.rise" Mj)(j:VA K C)(a:10 YA C "check_rise" 3 (UL C c)):10 Mt C "rise" lg 4 (Jd C):=by
 erw[b.mq lg λH b Q E e h=>?_];let(L,F,m,n,d,i,3,b,g,o,l,p,f,k):=h;let((h,r),(v,x),(s,g,t),u):=LN f;erw[72,(11 (Zk (Yg Xq.never Q0 j.cl a (0 Q1 Q2 Q3))) (JV e (AS e (Z0 Q0) Q1 (λ_ _=>rfl)) Q2 Q3)),5];let a:=b.f;let W:=b.w;let(Y,y8,y9):=b.all;let b:=aC
 let(b,e):=a.ob;erw[1,L.p,b,1,e,Wc _ _ _ _ aA,111,L,F,n,d,i,3,a,o,l,p,due.of f ?_];obtain⟨l,f⟩:∃l,kw F n=8 l:=by
  have:=EW F n;rw[g] at this;cases e:kw F n with
  | none=>rw[e] at this;ext this
  | some l=>rwa[l,7]
 let((t,b),(u,o,g,N),2,(U,O,h,Q),(X,R,p,T),E,G,H,I,J,M):=a;let((v,p,s,A),(r,g,o2),a,h):=W;rw[o] at g;ext g;let(B,r,g):=A n l f;let(y,s,z3,z4):=a n l f;let x:L.p≠m n:=λz=>by rw[z,r] at b;ext b
 let g:=YF.k (k:=Sum.inr n) p;rw[B] at g;erw[11,L.p,C,t,21,b,j.cl,j.nw,FD _ _ _ _,1,L.dw,3 (m n),3,g,1,m n,1,WD.k (k:=Sum.inl d) r (),5];let a:=YW.j8 (kvs':=Z9 l (Sum.inl d) (4 i)) r;let a:=Ug l (Sum.inl d:ZV) (V.int i);let a:(F ++ [ZI.rise n d i]).9=F.9+1:=by rw[xI];rfl
 let j:∀m a,kw (F ++ [.rise n d i]) m=8 a->(m=n/\a=Z9 l (Sum.inl d) (4 i))\/(m≠n/\kw F m=8 a):=λm a e=>by
  rw[Up,Wg] at e;split at e
  .grind
  .rename_i z;rwa[2 (z,e)]
 let r:∀m a,kw (F ++ [.rise n d i]) m=8 a->∃g,kw F m=8 g:=λm a e=>by grind
 refine k _ (((t,by rw[Ze x];rwa[b]),(u,by rw[Ze y.6];rwa[o],6,λx=>by rw[EU];rwa[N x]),(v,by rw[Ze s.6];rwa[p],6),(U,by rw[Ze z3.6];rwa[O],6,λx=>by rw[E8];rwa[Q x]),(X,by rw[Ze z4.6];rwa[R],6,λx=>by rw[E8];rwa[T x]),E,G,H,I,J,M),
  ((v,by rw[Ze s.6];rwa[p],6,λm a e=>?_),(u,by rw[Ze y.6];rwa[o],5),λm a e=>?_,λm p k o e b z=>?_),(Y,by rw[Ze s.6];rwa[y8],λp t=>?_)) (λb o e s=>?_) (λb k=>?_)
 .rcases j m a e with⟨rfl,rfl⟩ | ⟨b,y⟩
  .rwa[B,Zi,6]
  .let(j,o,u):=A m a y;rwa[j,by rw[Ze (λz=>b (h m n a l y f z))];rwa[o],6]
 .rw[Eb,o2];show _=((V1 F)++[]).map V.str;rw[xT]
 .grind
 .grind
 .let(m,a,e,3):=y9 p t
  by_cases b:m=n
  .subst b;rwa[m,Z9 l (Sum.inl d) (4 i),by rw[Up,Wg,_j S,f];rfl,7]
  .rwa[m,a,by rw[Up,Wg,_i b];rwa[e],7]
 .rw[Ze (λz=>s (2 (2 (2 (2 (2 (n,l,f,z)))))))];rwa[e]
 .rcases k with z | z | z | z | z | ⟨m,a,e,z⟩
  .rwa[1 (1 z)]
  .rwa[1 (2 (1 z))]
  .rwa[1 (2 (2 (1 z)))]
  .rwa[1 (2 (2 (2 (1 z))))]
  .rwa[1 (2 (2 (2 (2 (1 z)))))]
  .let(g,y):=r m a e;rwa[1 (2 (2 (2 (2 (2 (m,g,y,z))))))]
inductive A3(C:jY):Sp
 |mk(L) (F) (wa) (n hr) (day)(_:vs=[3 L.p,5 n,4 day,5 hr]/\Fk C H L F wa/\F.9<=1000/\n.9<=100/\hr.9<=100/\okI day/\A7 F n hr day=_n/\∀J,Fk C J L (F ++ [.die n day hr]) wa->WW L F wa H J->BL L F wa (F ++ [.die n day hr]) wa H->Q .non J)
abbrev Ks:Stmt:=Yt (top 36) 3
def RM(a:ZU K C "die" "Folk.die" Ks)(i:VA K C)(b:10 YA C "check_death" 2 (Je C c)) :
  Mt P w K mg Z C "die" lF 3 (A3 C):=by
 erw[a.mq lF λH a Q E e h=>?_];let(L,F,p,n,j,a,3,d,g,o,f,m,l,k):=h;let(222,B,g,h):=bZ l;erw[72,(11 (Zk (Yg Xq.never Q0 i.cl b (0 Q1 Q2 Q3))) (JV e (Z0 Q0) Q1 Q2) (JV e (Z0 Q0) Q1 Q3)),5];let b:=d.f;let((T,x1,e,x3),(U,X,Y),h,p):=d.w;let(W,y8,y9):=d.all;let d:kw (F ++ [.die n a j])=kw F:=by rw[Up];rfl
 let e:=aC
 let(e,g):=b.ob;erw[1,L.p,e,1,g,Wc _ _ _ _ aA,111,L,F,n,j,a,3,b,o,f,m,due.of l ?_];let((l,e),(M,x,o,R),(N,I,G),(f,g,v,z),(y,J,A,E),Q,t,u,r,s,m):=b;let b:L.p≠L.dd:=λz=>by rw[z,g] at e;ext e
 let A:L.p≠L.dh:=λz=>by rw[z,J] at e;ext e
 erw[11,L.p,C,l,21,e,i.cl,i.nd,BD _ _ _ _,1,L.dd,1,WD.k (k:=Sum.inr n) g (),5];let O:=YW.j8 (kvs':=Z9 f (Sum.inr n) (4 a)) g;let v:(upd H L.dd (.dK (Z9 f (Sum.inr n) (4 a)))) L.p=8 (.ins C l (TY L.dc L.dw L.dd L.dh)):=by rw[Ze b];rwa[e]
 let g:∀b o,b≠L.dd->H b=8 o->(upd H L.dd (.dK (Z9 f (Sum.inr n) (4 a)))) b=8 o:=λb o E e=>by rw[Ze E];rwa[e]
 let E:(upd H L.dd (.dK (Z9 f (Sum.inr n) (4 a)))) L.dd=8 (.dK (Z9 f (Sum.inr n) (4 a))):=Zi;let G:(upd H L.dd (.dK (Z9 f (Sum.inr n) (4 a)))) L.dw=8 (.dK N):=by rw[Ze r];rwa[I]
 let I:(upd H L.dd (.dK (Z9 f (Sum.inr n) (4 a)))) L.dc=8 (.dK M):=by rw[Ze t];rwa[x]
 let x:(upd H L.dd (.dK (Z9 f (Sum.inr n) (4 a)))) L.dh=8 (.dK y):=by rw[Ze m.6];rwa[J]
 generalize (upd H L.dd (.dK (Z9 f (Sum.inr n) (4 a))))=H at O g v E G I x |-;erw[11,L.p,C,l,21,v,i.cl,i.nh,Ly _ _ _ _,1,L.dh,1,WD.k (k:=Sum.inr n) x (),5];let i:=YW.j8 (kvs':=Z9 y (Sum.inr n) (5 j)) x;let i:=Ug f (Sum.inr n:ZV) (V.int a);let f:=Ug y (Sum.inr n:ZV) (V.str j);let f:(F ++ [ZI.die n a j]).9=F.9+1:=by rw[xI];rfl
 refine k _ (((l,by rw[Ze A];rwa[v]),(M,by rw[Ze u];rwa[I],6,λx=>?_),(N,by rw[Ze s];rwa[G],6),(2,by rw[Ze m];rwa[E],6,λx=>?_),(2,Zi,6,λx=>?_),Q,t,u,r,s,m),
  ((T,by rw[Ze s];rwa[g _ _ r x1],6,λm l e=>?_),(U,by rw[Ze u];rwa[g _ _ t X],5),λm l e=>h m l (by rw[<- d];rwa[e]),λm i l f e a z=>p m i l f (by rw[<- d];rwa[e]) (by rw[<- d];rwa[a]) z),(W,by rw[Ze s];rwa[g _ _ r y8],λp i=>?_)) (λb o e f=>?_) (λb a=>?_)
 .rw[Fl];rwa[R x]
 .rw[TZ,DO B]
  by_cases e:x=n
  .subst e;rw[_j S,_j S];rfl
  .grind
 .rw[TZ,DO B]
  by_cases e:x=n
  .subst e;rw[_j S,_j S];rfl
  .grind
 .rw[d] at e;let(j,k,n):=x3 m l e;let(22,n,r):=h m l e;rwa[j,by rw[Ze r];rwa[g _ _ n k],6]
 .rw[Eb,Y];show _=((V1 F)++[]).map V.str;rw[xT]
 .let(m,l,e,q):=y9 p i;rwa[m,l,by rw[d];rwa[e],q]
 .rw[Ze (λz=>f (2 (2 (2 (2 (1 z))))))];rwa[g b o (λz=>f (2 (2 (2 (1 z))))) e]
 .erw[.inl ?_];unfold own at a |-;rw[d] at a;rwa[a]
end
def Ue(H J:Hp):Prop:=∀b L,H b=8 (7 L)->J b=8 (7 L)
def Uq(a:H l=8 (6 L)):Ue H (upd H l o):=(λb c e=>by
 rw[Ze (λz=>by rw[z,a] at e;ext e)];rwa[e])
def E7(h:a≠b):¬(V.str a=V.str b):=(λz=>h (by injection z))
abbrev Vi:=List (Str×Int)
def DJ(p:Str×Int):D:=7 [5 p.1,4 p.2]
def FH(a:Vi):D:=6 (a.map DJ)
def ZR(H:Hp):Vi->List V->Prop
 | [],c=>c=[]
 | p::r,c=>∃a b,c=3 a::b/\H a=8 (7 [5 p.1,4 p.2])/\ZR H r b
theorem ZR.mono(k:Ue H J):∀{b:Vi}{vs:aG},ZR H b vs->ZR J b vs
 | [],_,h=>h
 | _::_,_,⟨a,vs',e,h1,h2⟩=>(a,vs',e,k _ _ h1,ZR.mono k h2)
theorem ZR.rep:∀{b:Vi}{vs:aG},ZR H b vs->ZN H (b.map DJ) vs
 | [],_,h=>h
 | p::_,_,⟨a,vs',e,h1,h2⟩=>(3 a,vs',e,(a,1,h1,(5 p.1,13,(4 p.2,[],333))),ZR.rep h2)
theorem ZR.of:∀{b:Vi}{vs:aG},ZN H (b.map DJ) vs->ZR H b vs
 | [],_,h=>h
 | p::_,_,⟨v,vs',e,⟨a,us,e2,h1,⟨x,r1,e3,e4,⟨y,r2,e5,e6,e7⟩⟩⟩,h2⟩=>by
  subst e2 e7 e5 e3;ext e4;ext e6;rwa[a,vs',e,h1,ZR.of h2]
def ZR.len(h:ZR H sd vs):vs.9=sd.9:=by
 have:=(ZR.rep h).9;rw[xA] at this;rwa[this]
theorem ZR.get:∀{b:Vi}{vs:aG}{i:Nat}{v:V},ZR H b vs->vs[i]?=8 v->∃p a,b[i]?=8 p/\v=3 a/\H a=8 (7 [5 p.1,4 p.2])
 | [],vs,i,v,h,e=>by ext h;simp at e
 | p::b,vs,i,v,⟨a,vs',e1,h1,h2⟩,e=>by
  subst e1;cases i with
  | zero=>simp at e;subst e;rwa[p,a,33,h1]
  | succ i=>simp at e;rwa[ZR.get (i:=i) h2 e]
theorem ZR.snoc(d:H a=8 (7 [5 p.1,4 p.2])):∀{c:Vi}{vs:aG},ZR H c vs->ZR H (c ++ [p]) (vs ++ [3 a])
 | [],vs,h=>by ext h;rwa[a,[],3,d,7]
 | q::c,vs,⟨b,vs',e,h1,h2⟩=>by subst e;rwa[b,vs' ++ [3 a],3,h1,ZR.snoc d h2]
def wts(a:Vi):List Int:=a.map (·.2)
def YY(a:Vi):Prop:=(∀p∈a,1<=p.2/\p.2<=1000)/\a.9<=60
def YY.bnd(h:YY sd):∀n∈wts sd,-1000000000<=n/\n<=1000000000:=(λn a=>by
 let(p,b,3):=zP.mp a;have:=h.1 p b;show -1000000000<=p.2/\p.2<=1000000000;lia)
def Xw{a:Vi}{i:Nat}{p:Str×Int}(h:a[i]?=8 p):(wts a)[i]?=8 p.2:=by unfold wts;rw[xG,h];rfl
def YQ(H:Hp)(c:Vi)(v:V):Prop:=∃a b,v=3 a/\H a=8 (6 b)/\ZR H c b
def ZC.t(h:ZC H J):Ue H J:=(λb L e=>h b _ e)
def YQ.mono(h:YQ H sd v)(k:ZC H J):YQ J sd v:=(let ⟨a,d,e,b,c⟩:=h;(a,d,e,k _ _ b,c.mono λb L e=>k b _ e))
inductive UV:Sp
 |mk(v) (sd)(_:vs=[v]/\YQ H sd v/\YY sd/\∀J,ZC H J->Q (4 (wts sd).sum) J)
def bJ(f:H a=8 (6 vs))(d:ZR H sd vs)(b:sd.9<=60)(g:∀l,H l=_n->Q (3 l) (upd H l (6 ((wts sd).map V.int)))) :
  Uj (JO K a) 2 fv (J8 K 2 (UD (Wv 0) (UD (Wv 1) GB))) (λ_ H Q=>Q _t H) (YL 1) Q H:=by
 let b:=d.len;erw[Uw (L:=vs) (λi c J=>J=H/\c=((wts sd).take i).map V.int) (3,3) () (λi c J _ ⟨e,_⟩=>by rw[e];rwa[9 f]) ?_ ?_ ?_]
 .grind
 .rintro i x c J j ⟨rfl,rfl⟩ f b;let(u,v,3):=Dg b;let(p,b,h,3,f):=d.get j;erw[b,1,ZO.of f,3214,([_,_],33),Z7 ?_];erw[135];rw[xQ,Xw h,xH];rfl
 .rintro c J ⟨rfl,rfl⟩ l b;let e:(wts sd).take vs.9=wts sd:=zR (by unfold wts;rw[xA];lia);rw[e];rwa[g l b]
abbrev Iw:Stmt:=top 33
def gD(a:YB K mg "total" Iw)(T:Txt mg):10 Fn "total" ["side"] 1 UV:=by
 erw[a.fq ["side"] λH b Q E e h=>?_];let(v,f,3,(a,b,3,d,e),c,k):=h
 refine(32,(Zf (Zr (Z1 (Dl (by rfl)) T.sum E4 (0 (Vg (locs:=i5) (fr:=[]) (3,aA,aA,aA,aA,aA) .nil S (Y2 Q0) ⟨λ_ _ _ _ _ _=>by
  let b:(inN i5 []).Nodup:=aA
  rwa[(BS 2 (by rfl) (Yr (Y9 0 b) (Yr (Y9 1 b) Vx))),Jb,(Yj 1)]⟩))))),5)
 erw[1,a,3,(2,9 d),5];erw[bJ d e c.2 λl a=>?_];rwa[l,wts f,3,9 Zi,c.bnd,by unfold wts;rw[xA];have:=c.2;lia,k _ (ZC.new a)]
structure ZW where
 ones:Vi
 others:Vi
 need:Int
 named:Option (Int×Str)
def B0:Option (Int×Str)->D
 | none=>.non
 | some (c,n)=>7 [4 c,5 n]
def Wx(t:ZW):D:=7 [FH t.ones,FH t.others,4 t.need,B0 t.named]
def YQ.of(h:YC H (FH sd) v):YQ H sd v:=by
 let(a,d,e,b,c):=h;rwa[a,d,e,b,ZR.of c]
def LM(h:YC H (Wx t) v):∃a b c d,v=3 a/\H a=8 (7 [b,c,4 t.need,d])/\YQ H t.ones b/\YQ H t.others c/\YC H (B0 t.named) d:=by
 let(a,s,e,l,(b,m,3,f,(c,n,3,g,(r,o,3,i,(d,p,3,j,k))))):=h;ext i;ext k;rwa[a,b,c,d,e,l,.of f,.of g,j]
theorem ZR.app(d:ZR H b ws):∀{a:Vi}{vs:aG},ZR H a vs->ZR H (a++b) (vs++ws)
 | [],vs,h=>by ext h;rwa[d]
 | p::a,vs,⟨c,vs',e,h1,h2⟩=>by subst e;rwa[c,vs'++ws,3,h1,ZR.app d h2]
def GR(f:H a=8 (6 vs))(d:ZR H sd vs)(b:sd.9<=1000)(g:∀l,H l=_n->Q (3 l) (upd H l (6 ((sd.map (·.1)).map V.str)))) :
  Uj (JO K a) 2 fv (J8 K 2 (UD (Wv 0) (UD (Wv 1) GB))) (λ_ H Q=>Q _t H) (YL 0) Q H:=by
 let b:=d.len;erw[Uw (L:=vs) (λi c J=>J=H/\c=((sd.map (·.1)).take i).map V.str) (3,3) () (λi c J _ ⟨e,_⟩=>by rw[e];rwa[9 f]) ?_ ?_ ?_]
 .grind
 .rintro i x c J j ⟨rfl,rfl⟩ f b;let(u,v,3):=Dg b;let(p,b,h,3,f):=d.get j;erw[b,1,ZO.of f,3214,([_,_],33),Z7 ?_];erw[135];let e:(sd.map (·.1))[i]?=8 p.1:=by rw[xG,h];rfl
  rw[xQ,e,xH];rfl
 .rintro c J ⟨rfl,rfl⟩ l b;let e:(sd.map (·.1)).take vs.9=sd.map (·.1):=zR (by rw[xA];lia);rw[e];rwa[g l b]
def TL(t:ZW):Prop:=YY t.ones/\YY t.others/\1<=t.need/\t.need<=12000
def Im(L:aG)(c:Nat):TC L _n (8 (c:Int))=L.take c:=by
 unfold TC;rw[HT.sIx_none,HT.sIx_nat,mD,Nat.sub_zero]
 by_cases h:c<=L.9
 .rw[mE h]
 .grind
def IV(L:aG)(c:Nat):TC L (8 (c:Int)) _n=L.drop c:=by
 unfold TC;rw[HT.sIx_none,HT.sIx_nat]
 by_cases h:c<=L.9
 .rw[mE h];rwa[zR (by rw[wL];lia)]
 .rw[Nat.min_eq_right (),wU (xD _),wU ()];rwa[List.take_nil]
abbrev Ao:=List (List ZV×V)
def Yx(c:Int)(n:Str):List ZV:=[1 c,2 n]
def brk(U:Ao)(c:Int)(n:Str):Bool:=(Z2 U (Yx c n)).isSome
def keep(br:Int->Str->Bool)(c:Int)(a:Vi):Vi:=a.filter λp=>!br c p.1
def Ur(br:Int->Str->Bool)(c:Int)(a:Vi):Int:=(wts (keep br c a)).sum
inductive J7:Sp
 |mk(c) (v) (g) (sd) (U)(_:vs=[4 c,v,3 g]/\YQ H sd v/\YY sd/\H g=8 (.dT U)/\∀J,ZC H J->Q (4 (Ur (brk U) c sd)) J)
def KW{br:Int->Str->Bool}{c:Int}{a:Vi}{i:Nat}{p:Str×Int}(h:a[i]?=8 p):keep br c (a.take (i+1))=keep br c (a.take i)++(if br c p.1 then [] else [p]):=by
 unfold keep;rw[xQ,h,yQ];cases e:br c p.1<;>simp[e]
abbrev Dv:Stmt:=top 63
def Sf:Nm (Zj Dv) "case" .cell:=(aA)
def eA:Nm (Zj Dv) "gone" .cell:=(aA)
def OR(a:YB K mg "kept_weight" Dv)(T:Txt mg):10 Fn "kept_weight" i6 1 J7:=by
 erw[a.fq i6 λH e Q E f h=>?_];let(c,v,g,n,U,3,(a,e,3,l,d),m,r,k):=h
 refine(32,(Zf (Zr (Z1 (Dl (by rfl)) T.sum E4 (0 (Vg (locs:=i5) (fr:=[("case",(0)),("gone",(2))]) (3,aA,aA,aA,aA,aA) (.ig Sf (.ig eA .nil)) S (Y2 Q1) ⟨λ_ _ _ _ _ _=>by
  let b:(inN i5 [("case",(0)),("gone",(2))]).Nodup:=aA
  rwa[(BS 2 (by rfl) (Yr (Y9 0 b) (Yr (Y9 1 b) Vx))),(Um (Zo (Iq f) (Yb (0 (Wp 2) (Yj 0))) (Wp 3) rfl)),(Yj 1)]⟩))))),5)
 let b:(2000:Nat)<=sizeLine:=by decide
 let j:=d.len;let b:=m.2;erw[1,a,3,(2,9 l),5];erw[Uw (L:=e) (λi f J=>ZC H J/\f=(wts (keep (brk U) c (n.take i))).map V.int) (λ_ _ e=>e,3) () (λi f J _ ⟨e,_⟩=>9 (e _ _ l)) ?_ ?_ ?_]
 .rintro i f J ⟨_,rfl⟩;unfold wts keep;rw[xA,xA];erw[xX (yE _ _) ?_];rw[xY];lia
 .rintro i x f J l ⟨a,rfl⟩ h b;let(h,i,3):=Dg b;let(p,b,h,3,i):=d.get l;erw[b,1,ZO.of (a _ _ i),3214,([_,_],33),5];erw[11,aB S,λq b=>?_];erw[nw (o:=7 [4 c,5 p.1]) b λi d b=>?_];erw[1,g,1,YF.t (d _ _ (a _ _ r)) (k:=Yx c p.1) b,15];let e:=KW (br:=brk U) (c:=c) h;show if (!brk U c p.1)=_t then _ else _
  cases b:brk U c p.1 with
  | true =>
   rw[b,_j S,xT] at e;erw[Zz ?_];rwa[a.trans d,by rw[e]]
  | false =>
   rw[b,_i xK] at e;erw[Z7 ?_];erw[1,a.trans d,5];rw[e];unfold wts;rw[xH,xH];rfl
 .rintro f J ⟨a,rfl⟩ l b;rw[j,xZ];erw[l,wts (keep (brk U) c n),3,9 Zi,λn c=>?_,5,k _ (a.trans (ZC.new b))]
  .let(p,h,3):=zP.mp c;rwa[m.bnd _ (zP.mpr (p,(zN.mp h).1,3))]
  .unfold wts keep;rw[xA];rwa[xX (yE _ _) ()]
def TM(br:Int->Str->Bool)(c:Int)(t:ZW):Int:=Ur br c t.ones - Ur br c t.others - t.need
def ZT(H:Hp)(b:List ZW)(l:jY):Prop:=∃a,H l=8 (6 a)/\ZN H (b.map Wx) a
def ZT.mono(h:ZT H ss l)(k:ZC H J):ZT J ss l:=(let ⟨c,a,b⟩:=h;(c,k _ _ a,b.oy k))
def ZT.get{H:Hp}{d:List ZW}{l:jY}{us:aG}{i:Nat}{t:ZW}(b:ZN H (d.map Wx) us)(h:d[i]?=8 t) :
  ∃a c f g,us[i]?=8 (3 a)/\H a=8 (7 [c,f,4 t.need,g])/\YQ H t.ones c/\YQ H t.others f/\YC H (B0 t.named) g:=by
 let d:=b.9;rw[xA] at d;let e:i<us.9:=by rw[d];rwa[(xF.mp h).1]
 let j:us[i]?=8 us[i]:=xB e;let(d,e,n):=b.get j;rw[xG,h] at e;ext e;let(a,c,f,g,e,d,h,k,m):=LM n;rwa[a,c,f,g,by rw[j,e],d,h,k,m]
inductive UA:Sp
 |mk(l g:jY) (c:Nat) (a:List ZW) (t:ZW) (U:Ao)(_:vs=[3 l,4 c,3 g]/\ZT H a l/\a[c]?=8 t/\TL t/\H g=8 (.dT U)/\∀J,ZC H J->Q (4 (TM (brk U) c t)) J)
abbrev Iy:Stmt:=top 62
def dB(c:YB K mg "margin_without" Iy)(T:Txt mg)(a:∃t,mg "ONES"=8 (4 0 t))(d:∃t,mg "OTHERS"=8 (4 1 t))(h:∃t,mg "NEED"=8 (4 2 t))(j:10 Fn "kept_weight" i6 1 J7):10 Fn "margin_without" ["suits","case","gone"] 2 UA:=by
 let(b,e):=a;let(f,a):=d;let(g,d):=h;let i:ZH (4 0) (4 0 b):=(b,3);let b:ZH (4 1) (4 1 f):=(f,3);let f:ZH (4 2) (4 2 g):=(g,3);erw[c.fq ["suits","case","gone","suit"] λH g Q E c h=>?_];let(l,g,c,v,t,U,3,(u,r,m),s,(p,n,22),o,k):=h;erw[72,(11 (Zv 3 (Zh Z6 Q0 Q1)) (Zr (Z3 JI (Z3 JI (Zm j (0 Q1 (Zh Zn Q3 (Yv e i)) Q2)) (Zm j (0 Q1 (Zh Zn Q3 (Yv a b)) Q2))) (Zh Zn Q3 (Yv d f))))),5];let(d,b,e,v,i,a,f,h,j):=ZT.get (l:=l) m s;erw[11,l,u,c,3 d,33,9 r,Yo i,5];erw[11,d,2,(0),b,33,ZO.of a,31,c,b,g,t.ones,U,3,f,p,o,λf b=>?_];erw[11,d,2,(1),e,33,ZO.of (b _ _ a),31,c,e,g,t.others,U,3,h.mono b,n,b _ _ o,λe c=>?_];erw[41,d,2,(2),13,ZO.of (c _ _ (b _ _ a)),34,k e (b.trans c)]
abbrev AN:=Int×Str
def Ye(a:List AN):Nat->List ZW->List Bool×List AN
 | _,[]=>([],a)
 | i,t::r =>
  (decide (0<=TM (λc n=>decide ((c,n)∈(Ye a (i+1) r).2)) i t)::(Ye a (i+1) r).1,
   if decide (0<=TM (λc n=>decide ((c,n)∈(Ye a (i+1) r).2)) i t)=_t then (Ye a (i+1) r).2++t.named.toList else (Ye a (i+1) r).2)
theorem Ei(a:List AN):∀b i,(Ye a i b).1.9=b.9
 | [],_=>rfl
 | t::r,i=>by rw[Ye,yN,Ei a r (i+1),yN]
def WU(U:Ao)(a:List AN):Prop:=∀c n,brk U c n=decide ((c,n)∈a)
def WU.put(h:WU U gn):WU (Z9 U (Yx c n) v) (gn ++ [(Prod.mk (c) (n))]):=by
 intro a b;unfold brk;rw[TZ]
 by_cases e:Yx a b=Yx c n
 .rw[_j e];let d:(Prod.mk (a) (b))=(Prod.mk (c) (n)):=by
   unfold Yx at e;injection e with g f
   injection f with f _
   ext g;ext f;rfl
  rw[d];rwa[(yD (xJ _ (xU.mpr S))).6]
 .rw[_i e];erw[(h a b).trans ?_];let d:¬(Prod.mk (a) (b))=(Prod.mk (c) (n)):=λz=>e (by injection z with e f;rw[e,f]);have:((Prod.mk (a) (b))∈gn ++ [(Prod.mk (c) (n))])↔((Prod.mk (a) (b))∈gn):=by rw[xL,xU];rwa[λz=>z.elim id (λz=>_a z d),.inl]
  rw[decide_eq_decide];rwa[this.6]
theorem Ij(r:List Bool)(b:Bool):∀c:Nat,((List.replicate (c+1) _x++r).map V.bl).set c (.bl b)=(List.replicate c _x++(b::r)).map V.bl
 | 0=>rfl
 | c+1=>by
  rw[zA,yL,yO,List.set_cons_succ,Ij r b c,zA,yL,yO]
theorem Ms(r:List Bool)(b:Bool):∀c:Nat,((List.replicate c _x++(b::r)).map V.bl)[c]?=8 (.bl b)
 | 0=>rfl
 | c+1=>by
  rw[zA,yL,yO,List.getElem?_cons_succ];rwa[Ms r b c]
def Xl(h:c<n):ixN n (c:Int)=8 c:=by
 unfold ixN;rw[_j (),_j (),yJ]
inductive Th:Sp
 |mk(l m) (ss) (ms) (more)(_:vs=[3 l,3 m]/\ZT H ss l/\(∀t∈ss,TL t)/\ss.9<=1000/\H m=8 (6 ms)/\ZN H (more.map λx=>B0 (8 x)) ms/\more.9<=1000/\∀a J,H a=_n->J a=8 (6 ((Ye more 0 ss).1.map V.bl))->ZC H J->Q (3 a) J)
abbrev Mb:Stmt:=top 55
def OS(b3:YB K mg "settled_with" Mb)(T:Txt mg)(C3:∃t,mg "NAMED"=8 (4 3 t))(b2:10 Fn "margin_without" ["suits","case","gone"] 2 UA):10 Fn "settled_with" ["suits","more"] 3 Th:=by
 let(t3,s):=C3;let u:ZH (4 3) (4 3 t3):=(t3,3);erw[b3.fq ["suits","more","gone","oath","standing","case"] λH vs Q E hr h=>?_];let(l,m,j,ms,f,3,G,b6,c1,hm,a6,c3,k):=h;erw[72,(11 (Zv 2 IL) (Wd mL S (Y2 Q1) (Yc 3) (Zf (JV hr Q2 Q3 Ul))) (Zv 4 (Z3 KO (Yl (0 Ul)) (Z1 Yw T.len Yk (0 Q0)))) (Wd mL S (Pn T.range (0 (Z3 JI (Z1 Yw T.len Yk (0 Q0)) Zd) (Vj Vl Zd) (Vj Vl Zd))) (Yc 5) (11 (TQ (J5 A6 (Zm b2 (0 Q0 Q5 Q2)) Zd (Zq _)) (Bg Q4 Q5 Bl)) (Zt (QW.pt (V0 (Wz (Zh Z6 Q4 Q5)) (Jg (Zo A2 (Zh Zn (Zh Z6 Q0 Q5) (Yv s u)) Y3 (Zq _))))) (Zf (JV hr Q2 (Zh Zn (Zh Z6 Q0 Q5) (Yv s u)) Ul)) Zs))) (Zr Q4)),5];let hz:=aC
 erw[λg hg=>?_];let S0:ZC H (upd H g (.dT [])):=ZC.new hg;let a5:ms.9=f.9:=by have:=a6.9;rw[xA] at this;rwa[this]
 erw[1,m,3,(2,9 (S0 _ _ hm)),5];erw[Vo ms (λi Y J=>∃(U:Ao)(v3:Option V),Y=[8 (3 l),8 (3 m),8 (3 g),v3,_n,_n]/\J g=8 (.dT U)/\WU U (f.take i)/\U.9<=i/\ZC H J) ([],_n,3,Zi,λc n=>rfl,xD _,S0) (λi Y J _ ⟨_,_,_,_,_,_,e⟩=>9 (e _ _ hm)) ?_ ?_]
 .rintro i x Y J hx ⟨U,v3,rfl,v,C,b5,sm⟩;let(d,hd,b7):=a6.get hx;rw[xG] at hd;obtain⟨⟨c,n⟩,ho⟩:∃o,f[i]?=8 o:=by cases e:f[i]? with | none=>rw[e] at hd;cases hd | some t=>rwa[t,7]
  rw[ho] at hd;ext hd;let(b,bs,3,hb,(y1,r1,3,e1,(y2,r2,3,e2,e3))):=b7;ext e1;ext e2;ext e3;let hi:i<ms.9:=(xF.mp hx).1;erw[11,g,1,WD.t v (k:=Yx c n) (sm _ _ hb) (),5];erw[21,Zi,5,xX (Ug _ _ _) (),5]
  .rw[xQ,ho];rwa[C.put]
  .intro b' o e;rw[Ze (λz=>by rw[z,hg] at e;ext e)];rwa[sm b' o e]
 .rintro Y H1 ⟨U,v3,rfl,a1,C,b5,X⟩;rw[a5,xZ] at C;let(us,a3,O):=G.mono X;let b9:us.9=j.9:=by have:=O.9;rw[xA] at this;rwa[this]
  erw[aB S,λq hq=>?_];erw[nw (o:=6 [.bl _x]) hq λH2 S2 k2=>?_];erw[1,l,us,3,1 (9 (S2 _ _ a3)),q,4,k2,665,λst F=>?_]
  .grind
  let L:H st=none:=(X.trans S2).free F;let I:g≠st:=λz=>by rw[<- z,S2 _ _ a1] at F;ext F
  let S3:=ZC.new (o:=6 (List.replicate (us.9:Int).toNat [V.bl _x]).flatten) F;let k3:(upd H2 st (6 (List.replicate (us.9:Int).toNat [V.bl _x]).flatten)) st=8 (6 ((List.replicate j.length _x).map V.bl)):=by
   rw[Zi,yJ,b9];have:∀n:Nat,(List.replicate n [V.bl _x]).flatten=(List.replicate n _x).map V.bl:=by
    intro n
    induction n with
    | zero=>rfl
    | succ n ih=>rw[zA,wV,ih,zA,yO];rfl
   rw[this]
  generalize (upd H2 st (6 (List.replicate (us.9:Int).toNat [V.bl _x]).flatten))=H3 at S3 k3 |-;let M:=S2.trans S3;let c0:=X.trans M;erw[1,l,us,3,1 (9 (M _ _ a3)),41121,(66,aA,aA),5]
  refine Km j.length () (λi Y J=>∃(U:Ao)(v3 v5:Option V),Y=[8 (3 l),8 (3 m),8 (3 g),v3,8 (3 st),v5]/\
    J st=8 (6 ((List.replicate (j.9 - i) _x++(Ye f (j.9 - i) (j.drop (j.9 - i))).1).map V.bl))/\J g=8 (.dT U)/\WU U (Ye f (j.9 - i) (j.drop (j.9 - i))).2/\U.9<=1000+i/\ZC H J)
   (U,2,_n,35,M _ _ a1,56,c0) ?_ ?_
  .rw[Nat.sub_zero,List.drop_length,Ye,xT];rwa[k3]
  .rw[Nat.sub_zero,List.drop_length,Ye];rwa[C]
  .rintro i Y J hi ⟨U,v3,v5,rfl,r,v,p,a2,y⟩;obtain⟨c,hc⟩:∃c,j.9 - i=c+1:=(j.9 - i - 1,6);let b4:j.9 - (i+1)=c:=by lia
   let N:c<j.9:=by lia
   let ec:((us.9:Int) - 1 - (i:Nat))=((c:Nat):Int):=by lia
   rw[hc] at r p;rw[ec,b4];let ht:j[c]?=8 j[c]:=xB N;let b0:j[c]∈j:=yY N;let ed:j.drop c=j[c]::j.drop (c+1):=zT N;rw[ed];generalize j[c]=t at ht b0 ed |-;let(c4,c2,b8):=G.mono y;let a0:brk U=λ(a:Int) (n:Str)=>decide ((a,n)∈(Ye f (c+1) (j.drop (c+1))).2):=funext λa=>funext λb=>p a b;let a7:Ye f c (t::j.drop (c+1))=(decide (0<=TM (brk U) c t)::(Ye f (c+1) (j.drop (c+1))).1,if decide (0<=TM (brk U) c t)=_t then (Ye f (c+1) (j.drop (c+1))).2++t.named.toList else (Ye f (c+1) (j.drop (c+1))).2):=by rw[a0,Ye]
   rw[a7];generalize Ye f (c+1) (j.drop (c+1))=R at r p |-;erw[111,l,g,c,j,t,U,3,G.mono y,ht,b6 t b0,v,λH4 s4=>?_];let a8:=s4 _ _ r;erw[TM (brk U) c t,(0),3311,st,2,c,c,33,a8,55]
   .rwa[Xl (by rw[xA,xI,wC];lia)]
   dsimp only;generalize decide (0<=TM (brk U) c t)=b;rw[Ij];let A:ZC H (upd H4 st (6 ((List.replicate c _x++(b::R.1)).map V.bl))):=λx o e=>by
    rw[Ze (λz=>by rw[z,L] at e;ext e)];rwa[s4 _ _ (y _ _ e)]
   let k5:(upd H4 st (6 ((List.replicate c _x++(b::R.1)).map V.bl))) st=8 (6 ((List.replicate c _x++(b::R.1)).map V.bl)):=Zi;let B:(upd H4 st (6 ((List.replicate c _x++(b::R.1)).map V.bl))) g=8 (.dT U):=by rw[Ze I];rwa[s4 _ _ v]
   generalize (upd H4 st (6 ((List.replicate c _x++(b::R.1)).map V.bl)))=H5 at A k5 B |-;let(b1,a4,W):=G.mono A;let(ta,u1,u2,u4,hu,a9,h1,h2,h4):=ZT.get (l:=l) W ht;erw[11,st,2,c,.bl b,33,9 k5,Yo (Ms ..),b,35];cases b with
   | false =>
    erw[Zz (Zz ?_)];rwa[U,21,k5,B,p,6,A]
   | true =>
    erw[Z7 ?_];erw[11,l,b1,c,3 ta,33,9 a4,Yo hu,ta,2,(3),u4,33,ZO.of a9,3315];cases hn:t.named with
    | none =>
     rw[hn] at h4;ext h4;erw[Zz ?_];rwa[U,21,k5,B,by show WU U (R.2 ++ []);rw[xT];rwa[p],6,A]
    | some o =>
     rw[hn] at h4;let(oc,on):=o;let(d,bs,3,hb,(y1,r1,3,e1,(y2,r2,3,e2,e3))):=h4;ext e1;ext e2;ext e3;erw[Z7 ?_];erw[111,l,b1,c,3 ta,33,9 a4,Yo hu,ta,2,(3),3 d,33,ZO.of a9,35];erw[g,1,WD.t B (k:=Yx oc on) hb (),5];erw[221,by rw[Ze I.6];rwa[k5],Zi,p.put,xX (Ug _ _ _) (),5];intro b' o e;rw[Ze (λz=>by rw[z,hg] at e;ext e)];rwa[A b' o e]
  .rintro Y J ⟨U,v3,v5,rfl,r,v,p,a2,y⟩;rw[Nat.sub_self] at r;rwa[1,k st J L r y]
inductive UN:Sp
 |mk(l) (ss)(_:vs=[3 l]/\ZT H ss l/\(∀t∈ss,TL t)/\ss.9<=1000/\∀a J,H a=_n->J a=8 (6 ((Ye [] 0 ss).1.map V.bl))->ZC H J->Q (3 a) J)
abbrev KJ:Stmt:=top 54
def iV(a:YB K mg "settled" KJ)(T:Txt mg)(b:10 Fn "settled_with" ["suits","more"] 3 Th):10 Fn "settled" i7 4 UN:=by
 erw[a.fq i7 λH c Q E a h=>?_];let(l,e,7,d,c,a,k):=h;erw[72,(Zf (Zr (Zm b (0 Q0 (Yl Zb))))),5];erw[8,aB rfl,λq b=>?_];let S:=ZC.new (o:=6 []) b;rwa[l,q,e,[],[],7,d.mono S,c,a,Zi,7,yI _,λd J a b c=>k d J (S.free a) b (S.trans c)]
def LC(bs:List Bool)(a:List ZW)(c:Nat)(n:Str):Prop:=∃j t,c<j/\a[j]?=8 t/\bs[j]?=8 _t/\t.named=8 ((c:Int),n)
def Vu(cs:List Nat):List V:=cs.map λ(c:Nat)=>V.int (c:Int)
def nmd(a:List ZW)(c:Int)(n:Str)(j:Nat):Bool:=match a[j]? with
 | some u=>decide (u.named=8 (c,n))
 | none=>_x
def nmd_iff:nmd ss c n j=_t↔∃u,ss[j]?=8 u/\u.named=8 (c,n):=by
 unfold nmd;cases e:ss[j]? with
 | none=>rwa[(λz=>nomatch z),(λ⟨u,z,_⟩=>nomatch z)]
 | some u=>rwa[λz=>(u,3,yX z),λ⟨v,z,q⟩=>by ext z;rwa[yD q]]
def Vc(a:List ZW)(c:Int)(n:Str)(cs:List Nat):List Nat:=cs.filter (nmd a c n)
def Dx{a:List ZW}{c:Int}{n:Str}{cs:List Nat}{i j:Nat}(h:cs[i]?=8 j):Vc a c n (cs.take (i+1))=Vc a c n (cs.take i)++(if nmd a c n j then [j] else []):=by
 unfold Vc;rw[xQ,h,yQ];cases e:nmd a c n j<;>simp[e]
def OC(a:List ZW)(c:Int)(n:Str)(cs:List Nat):(Vc a c n cs).9<=cs.9:=(yE _ _)
def Lx(H:Hp)(g:jY)(b:List ZW)(cs:List Nat):Prop:=∃U:Ao,H g=8 (.dT U)/\U.9<=cs.9/\(∀p∈U,∃c n,p.1=Yx c n/\Vc b c n cs ≠ [])/\∀c n,(Z2 U (Yx c n)=_n/\Vc b c n cs=[])\/∃a,Z2 U (Yx c n)=8 (3 a)/\H a=8 (6 (Vu (Vc b c n cs)))
structure CQ (H J:Hp) (g:jY) (ss:List ZW) (cs:List Nat) (U:Ao):Prop where
 at_:J g=8 (.dT U)
 len:U.9<=cs.9
 keys:∀p∈U,∃c n,p.1=Yx c n/\Vc ss c n cs ≠ []
 no:∀c n,Z2 U (Yx c n)=_n->Vc ss c n cs=[]
 yes:∀c n v,Z2 U (Yx c n)=8 v->∃a,v=3 a/\H a=_n/\a≠g/\J a=8 (6 (Vu (Vc ss c n cs)))
 one:∀c n c' n' a,Z2 U (Yx c n)=8 (3 a)->Z2 U (Yx c' n')=8 (3 a)->(Prod.mk (c) (n))=(Prod.mk (c') (n'))
inductive UH:Sp
 |mk(l lc) (ss) (cs)(_:vs=[3 l,3 lc]/\ZT H ss l/\cs.9<=1000/\(∀j∈cs,j<ss.9)/\H lc=8 (6 (Vu cs))/\∀g J,H g=_n->Lx J g ss cs->(∀U c n a,J g=8 (.dT U)->Z2 U (Yx c n)=8 (3 a)->H a=_n)->ZC H J->Q (3 g) J)
def Gq(e:Yx c n=Yx c' n'):(Prod.mk (c) (n))=(Prod.mk (c') (n')):=by
 unfold Yx at e;injection e with b a
 injection a with a _
 ext b;ext a;rfl
def R0{l:Ao}{k:List ZV}{v:V}{p:List ZV×V}(h:p∈Z9 l k v):p=(k,v)\/p∈l:=by
 unfold Z9 at h;split at h
 .grind
 .grind
abbrev MN:Stmt:=top 59
def bF(a6:YB K mg "naming" MN)(T:Txt mg)(C3:∃t,mg "NAMED"=8 (4 3 t)):10 Fn "naming" ["suits","cases"] 1 UH:=by
 let(t3,s):=C3;let F:ZH (4 3) (4 3 t3):=(t3,3);erw[a6.fq ["suits","cases","named_by","case","oath"] λH vs Q E hr h=>?_];let(l,lc,m,cs,3,b2,b5,a9,a2,k):=h;erw[72,(11 (Zv 2 IL) (Wd mL S (Y2 Q1) (Yc 3) (11 (Zv 4 (Zh Zn (Zh Z6 Q0 Q3) (Yv s F))) (Zt (Zo A2 Q4 Y3 (Zq _)) (Zf (Zk (Ys aD aE aF Yz (Sm hr Q2 Q4 (Yl Zb)) (0 Q3)))) Zs))) (Zr Q2)),5];let hz:=aC
 erw[λg hg=>?_];let S0:ZC H (upd H g (.dT [])):=ZC.new hg;erw[1,lc,3,(2,9 (S0 _ _ a2)),5];erw[Vo (Vu cs) (λi Y J=>∃(U:Ao)(v3 v4:Option V),Y=[8 (3 l),8 (3 lc),8 (3 g),v3,v4]/\CQ H J g m (cs.take i) U/\ZC H J) ([],_n,_n,3,(Zi,xD _,(λp L=>nomatch L),λc n _=>rfl,(λc n v e=>nomatch e),(λc n c' n' a e=>nomatch e)),S0) (λi Y J _ ⟨_,_,_,_,_,e⟩=>9 (e _ _ a2)) ?_ ?_]
 .rintro i x Y J hx ⟨U,v3,v4,rfl,I,sm⟩;let hi:i<cs.9:=by
   have:=(xF.mp hx).1;unfold Vu at this;rw[xA] at this;rwa[this]
  obtain⟨j,y,ex⟩:∃j,cs[i]?=8 j/\x=4 (j:Int):=by
   unfold Vu at hx;rw[xG] at hx;let(j,h1,W):=xS.mp hx;rwa[j,h1,W.6]
  subst ex;let tl:(cs.take i).9=i:=by rw[xY];lia
  let b7:(cs.take (i+1)).9=i+1:=by rw[xY];lia
  let C:∀c n,Vc m c n (cs.take i)≠ []->Vc m c n (cs.take (i+1))≠ []:=λc n h z=>by
   rw[Dx y] at z;rwa[h (List.append_eq_nil_iff.mp z).1]
  let N:=I.len;rw[tl] at N;obtain⟨t,ht⟩:∃t,m[j]?=8 t:=(2,xB (a9 j (xM y)));let(us,b0,a4):=b2.mono sm;let(ta,u1,u2,u4,hu,b3,22,h4):=ZT.get (l:=l) a4 ht;erw[11,l,us,j,3 ta,33,9 b0,Yo hu,ta,2,(3),u4,33,ZO.of b3,35];cases hn:t.named with
  | none =>
   rw[hn] at h4;ext h4;erw[131,Vz (λz=>_a S z) (λ_=>?_)];let same:∀c n,Vc m c n (cs.take (i+1))=Vc m c n (cs.take i):=λc n=>by
    rw[Dx y];have:nmd m c n j=false:=by
     cases e:nmd m c n j with
     | false=>rfl
     | true=>let(u,q1,q2):=nmd_iff.mp e;rw[ht] at q1;ext q1;rw[hn] at q2;ext q2
    rw[this,_i xK,xT]
   rwa[U,21,(I.at_,6,λp L=>let ⟨c,n,e,h⟩:=I.keys p L;(c,n,e,C c n h),λc n e=>by rw[same];rwa[I.no c n e],λc n v e=>by rw[same];rwa[I.yes c n v e],I.one),sm]
  | some o =>
   rw[hn] at h4;let(d,f):=o;let(b,bs,3,hb,(y1,r1,3,e1,(y2,r2,3,e2,e3))):=h4;ext e1;ext e2;ext e3;let B:Vc m d f (cs.take (i+1))=Vc m d f (cs.take i)++[j]:=by rw[Dx y,nmd_iff.mpr (t,ht,hn),_j S]
   let same:∀c n,(Prod.mk (c) (n))≠(Prod.mk (d) (f))->Vc m c n (cs.take (i+1))=Vc m c n (cs.take i):=λc n b1=>by
    rw[Dx y];have:nmd m c n j=false:=by
     cases e:nmd m c n j with
     | false=>rfl
     | true=>let(u,q1,q2):=nmd_iff.mp e;rw[ht] at q1;ext q1;rw[hn] at q2;rwa[_a (ma q2).symm b1]
    rw[this,_i xK,xT]
   let O:Vu (Vc m d f (cs.take i))++[V.int j]=Vu (Vc m d f (cs.take (i+1))):=by rw[B];unfold Vu;rw[xH];rfl
   let jl:=OC m d f (cs.take i);rw[tl] at jl;erw[131,Vz (λ_=>?_) (λz=>nomatch z)];erw[1,g,3,2 (U,1 I.at_),1,aB S,λq X=>?_];let M:=ZC.new (o:=6 []) X;let kq:(upd J q (6 [])) q=8 (6 []):=Zi;let gq:q≠g:=λz=>by rw[z,I.at_] at X;ext X
   let a3:H q=none:=sm.free X;generalize (upd J q (6 []))=H1 at M kq |-;let a5:=sm.trans M;erw[U,Yx d f,b,M _ _ I.at_,3,M _ _ hb,6,λv hv=>?_,λhv=>?_]
   .let(a,3,a7,a8,ha):=I.yes d f v hv;let a0:=M _ _ ha;erw[1 (32,9 a0),1,a,4,a0,by unfold Vu;rw[xA];lia,5];erw[U,21,(56,λp L=>let ⟨c,n,e,h⟩:=I.keys p L;(c,n,e,C c n h),λc n e=>?_,λc n v e=>?_,I.one),5]
    .rw[Ze a8.6];rwa[M _ _ I.at_]
    .rw[same c n (λz=>by ext z;rw[hv] at e;ext e)];rwa[I.no c n e]
    .let(R,3,h1,W,G):=I.yes c n v e;erw[R,3,h1,W,5]
     by_cases r:(Prod.mk (c) (n))=(Prod.mk (d) (f))
     .ext r;rw[hv] at e;ext e;rw[Zi,O]
     .rw[same c n r,Ze (λz=>r (by rw[z] at e;rwa[I.one c n d f a e hv]))];rwa[M _ _ G]
    .intro b' o e;rw[Ze (λz=>by rw[z,a7] at e;ext e)];rwa[a5 b' o e]
   .let a1:(upd H1 g (.dT (Z9 U (Yx d f) (3 q)))) q=8 (6 []):=by rw[Ze gq];rwa[kq]
    erw[1 (32,9 a1),1,q,4,a1,by show 0<_z;lia,5];let j0:=I.no d f hv;erw[Z9 U (Yx d f) (3 q),21,(5,xX (Ug _ _ _) (),λp L=>?_,λc n e=>?_,λc n v e=>?_,λc n c' n' a e e'=>?_),5]
    .rw[Ze gq.6,Zi]
    .rcases R0 L with rfl | L
     .rwa[d,f,3,by rw[B];simp]
     .let(c,n,e,h):=I.keys p L;rwa[c,n,e,C c n h]
    .rw[TZ] at e
     by_cases r:Yx c n=Yx d f
     .rw[_j r] at e;ext e
     .rw[_i r] at e;rw[same c n (λz=>r (by ext z;rfl))];rwa[I.no c n e]
    .rw[TZ] at e
     by_cases r:Yx c n=Yx d f
     .rw[_j r] at e;ext e;let A:=Gq r;ext A;rwa[q,3,a3,gq,by rw[Zi,B,j0];rfl]
     .rw[_i r] at e;let(R,3,h1,W,G):=I.yes c n v e;erw[R,3,h1,W,5];let aq:R≠q:=λz=>by rw[z,X] at G;ext G
      rw[same c n (λz=>r (by ext z;rfl)),Ze aq,Ze W];rwa[M _ _ G]
    .rw[TZ] at e e';let no:∀c n,Z2 U (Yx c n)=8 (3 q)->False:=λc n z=>by
      let(R,z1,22,G):=I.yes c n _ z;ext z1;rw[X] at G;ext G
     by_cases r:Yx c n=Yx d f
     .by_cases A:Yx c' n'=Yx d f
      .rwa[(Gq r).trans (Gq A).6]
      .grind
     .rw[_i r] at e
      by_cases A:Yx c' n'=Yx d f
      .grind
      .rw[_i A] at e';rwa[I.one _ _ _ _ _ e e']
    .intro b' o e;rw[Ze (λz=>by rw[z,a3] at e;ext e),Ze (λz=>by rw[z,hg] at e;ext e)];rwa[a5 b' o e]
 .rintro Y J ⟨U,v3,v4,rfl,I,sm⟩;let el:(Vu cs).9=cs.9:=by unfold Vu;rw[xA]
  rw[el,xZ] at I;erw[1,k g J hg (U,I.at_,I.len,I.keys,λc n=>?_) (λb6 c n a e1 e2=>?_) sm]
  .cases e:Z2 U (Yx c n) with
   | none=>rwa[1 (3,I.no c n e)]
   | some v =>
    let(a,322,G):=I.yes c n v e;rwa[2 (a,3,G)]
  .rw[I.at_] at e1;ext e1;let(R,z,b4,22):=I.yes c n _ e2;ext z;rwa[b4]
def stT(bs:List Bool)(i:Nat):List Nat:=(List.range i).filter λj=>bs.getD j _x
def stL(bs:List Bool):List Nat:=stT bs bs.9
def Qw{bs:List Bool}{i:Nat}{b:Bool}(h:bs[i]?=8 b):stT bs (i+1)=stT bs i++(if b then [i] else []):=by
 unfold stT;rw[wB,yQ];ext b<;>simp[h]
def KY(bs:List Bool)(i:Nat):(stT bs i).9<=i:=(xX (yE _ _) (by rw[yV];rwa[xD _]))
def stL_mem:j∈stL bs↔bs[j]?=8 true:=by
 unfold stL stT;rw[zN,yU,xR];constructor
 .grind
 .grind
abbrev JR(ss:List ZW):List Bool:=(Ye [] 0 ss).1
def Et(a:List ZW)(c:Int)(n:Str):List Nat:=Vc a c n (stL (JR a))
inductive VD:Sp
 |mk(l) (ss)(_:vs=[3 l]/\ZT H ss l/\(∀t∈ss,TL t)/\ss.9<=1000/\∀g J,H g=_n->Lx J g ss (stL (JR ss))->(∀U c n a,J g=8 (.dT U)->Z2 U (Yx c n)=8 (3 a)->H a=_n)->ZC H J->Q (3 g) J)
abbrev MJ:Stmt:=top 58
def bR(a:YB K mg "breaking" MJ)(T:Txt mg)(e:10 Fn "settled" i7 4 UN)(b:10 Fn "naming" ["suits","cases"] 1 UH) :
  Fn P w K mg Z "breaking" i7 5 VD:=by
 erw[a.fq i7 λH c Q E a h=>?_];let(l,a,7,d,f,c,k):=h
 refine(72,(Zf (Zr (Zm b (0 Q0 (Vg (locs:=["case","stands"]) (fr:=[]) (7,aA,aA,aA,aA,aA) .nil rfl (HF T.enumerate (0 (Zm e (0 Q0)))) ⟨λ_ _ _ _ _ _=>by
  let b:(inN ["case","stands"] []).Nodup:=aA
  rwa[(BS 2 (by rfl) (Yr (Y9 0 b) (Yr (Y9 1 b) Vx))),(Um (Wz (Yj 1))),(Yj 0)]⟩))))),5)
 erw[88,l,a,7,d,f,c,λc e f b g=>?_];let h:(JR a).9=a.9:=Ei [] a 0;erw[c,8,9 b,5];erw[RV ((JR a).map V.bl) (λi c J=>ZC e J/\c=Vu (stT (JR a) i)) (λ_ _ e=>e,7) (by rw[xA];lia) (λi c J _ ⟨e,_⟩=>9 (e _ _ b)) ?_ ?_ ?_]
 .rintro i c J ⟨_,rfl⟩;unfold Vu;rw[xA];rwa[KY _ _]
 .rintro i x p c J m ⟨f,rfl⟩ j n b;let(m,n,7):=Dg b;erw[nw (o:=7 [4 i,x]) j λm Sp kp=>?_];obtain⟨b,j,rfl⟩:∃b,(JR a)[i]?=8 b/\x=.bl b:=by grind
  erw[p,8,ZO.of kp,728287,([_,_],77),5];erw[8,b,75];let e:=Qw j;cases b with
  | true =>
   erw[Z7 ?_];erw[8,f.trans Sp,5];rw[e];unfold Vu;rw[xH];rfl
  | false =>
   erw[Zz ?_];rwa[f.trans Sp,by rw[e];simp]
 .rintro c J ⟨f,rfl⟩ e b;rw[xA];let c:=ZC.new (o:=6 (Vu (stL (JR a)))) b;let S:=(g.trans f).trans c;let b:=KY (JR a) (JR a).9;erw[l,e,a,stL (JR a),7,d.mono S,by unfold stL;lia,λj e=>?_,Zi,λg m c a b d=>?_]
  .rw[<- h];rwa[(xF.mp (stL_mem.mp e)).1]
  .rwa[k g m (S.free c) a (λU c n a e f=>S.free (b U c n a e f)) (S.trans d)]
section
variable{K:uFg}{C CM:jY}
def fz(L:jV)(H:Hp):Hp:=λb=>if b∈L then H b else match H b with
 | some (.tup t)=>8 (7 t)
 | _=>_n
def BO(h:fz L H b=8 o):H b=8 o/\(b∈L\/∃t,o=7 t):=by
 unfold fz at h;split at h
 .rename_i m;rwa[h,1 m]
 .grind
def Us(m:b∈L)(h:H b=8 o):fz L H b=8 o:=by unfold fz;rw[_j m];rwa[h]
def Wr(h:H b=8 (7 t)):fz L H b=8 (7 t):=by
 unfold fz;split
 .rwa[h]
 .rw[h]
def Ej:ZC (fz L H) H:=(λ_ _ e=>(BO e).1)
def Vn(a:Ue H J)(c:∀x∈L,∀o,H x=8 o->J x=8 o)(s:∀x∈L,x∈xs'):ZC (fz L H) (fz xs' J):=(λb o e=>by
 obtain⟨e,m | ⟨t,rfl⟩⟩:=BO e
 .rwa[Us (s b m) (c b m o e)]
 .rwa[Wr (a b t e)])
def WA(H:Hp)(L:jV)(l:jY)(F:List D):Prop:=∃a,H l=8 (6 a)/\ZN (fz L H) F a
def WA.mono(h:WA H L l F)(k:∀o,H l=8 o->J l=8 o)(s:ZC (fz L H) (fz xs' J)):WA J xs' l F:=(let ⟨c,a,b⟩:=h;(c,k _ a,b.oy s))
def WA.get(h:WA H L l F):∃vs,H l=8 (6 vs)/\ZN H F vs/\vs.9=F.9:=(let ⟨vs,a,b⟩:=h;(vs,a,b.oy Ej,b.9))
structure ML where
 p:jY
 L:FL
 ld:jY
 lb:jY
 lh:jY
 lq:jY
 lt:jY
 ly:jY
 lv:jY
 dp:jY
def Vb(M:ML):List (Str×V):=Zu "penances" (3 M.dp) (Zu "verdicts" (3 M.lv) (Zu "trial_days" (3 M.ly) (Zu "trials" (3 M.lt) (Zu "debts" (3 M.lq) (Zu "happenings" (3 M.lh) (Zu "bringings" (3 M.lb) (Zu "folk" (3 M.L.p) (Zu "deeds" (3 M.ld) []))))))))
local macro_rules | `(tactic| walk_at "mf")=>`(tactic| (unfold Vb;repeat (first | rw[Wf,if_pos (by decide +kernel)] | rw[Wf,if_neg (by decide +kernel)])))
def Jt(M:ML):(Vb M).lookup ("deeds":Str)=8 (3 M.ld):=by walk_at "mf"
def V5(M:ML):(Vb M).lookup ("folk":Str)=8 (3 M.L.p):=by walk_at "mf"
def AF(M:ML):(Vb M).lookup ("bringings":Str)=8 (3 M.lb):=by walk_at "mf"
def C6(M:ML):(Vb M).lookup ("happenings":Str)=8 (3 M.lh):=by walk_at "mf"
def Kr(M:ML):(Vb M).lookup ("debts":Str)=8 (3 M.lq):=by walk_at "mf"
def AG(M:ML):(Vb M).lookup ("trials":Str)=8 (3 M.lt):=by walk_at "mf"
def Kw(M:ML):(Vb M).lookup ("trial_days":Str)=8 (3 M.ly):=by walk_at "mf"
def LX(M:ML):(Vb M).lookup ("verdicts":Str)=8 (3 M.lv):=by walk_at "mf"
def Iu(M:ML):(Vb M).lookup ("penances":Str)=8 (3 M.dp):=by walk_at "mf"
def ML.oK(M:ML)(l:jY):ML:={M with lv:=l }
def NK(M:ML)(l:jY):Zu "verdicts" (3 l) (Vb M)=Vb (M.oK l):=by
 let(p,L,ld,b,c,d,e,f,lv,a):=M;rfl
def FP(m:Str):Prop:=¬m="penances" /\ ¬m="verdicts" /\ ¬m="trial_days" /\ ¬m="trials" /\ ¬m="debts" /\ ¬m="happenings" /\ ¬m="bringings" /\ ¬m="folk" /\ ¬m="deeds"
instance (m:Str):Decidable (FP m):=by unfold FP;rwa[inferInstance]
def Yi(M:ML)(h:autoParam (FP m) y4z):(Vb M).lookup m=none:=by
 let(a,b,c,d,e,f,g,i,j):=h;unfold Vb;rw[Wf,_i a,Wf,_i b,Wf,_i c,Wf,_i d,Wf,_i e,Wf,_i f,Wf,_i g,Wf,_i i,Wf,_i j];rfl
abbrev gG:=VA
structure ZP (K:uFg) (C:jY):Prop where
 cl:UK K C
 nd:ZY K C "deeds"
 nf:ZY K C "folk"
 nb:ZY K C "bringings"
 nh:ZY K C "happenings"
 nq:ZY K C "debts"
 nt:ZY K C "trials"
 ny:ZY K C "trial_days"
 nv:ZY K C "verdicts"
 np:ZY K C "penances"
structure Mo where
 il:List D
 i9:List D
 o8:List (List D)
 ij:List D
 oX:List ZW
 days:List Int
 j9:List Bool
 pen:Str->Option Int
 oF:Nat
def ML.ls(M:ML):List jY:=[M.ld,M.lb,M.lq,M.lt,M.ly,M.lv]
def Mo.at_(m:Mo)(M:ML)(qs:jV):List (jY×List D) :=
 (M.ld,m.il)::(M.lb,m.i9)::(M.lq,m.ij)::(M.lt,m.oX.map Wx)::(M.ly,m.days.map D.int)::(M.lv,m.j9.map D.bl)::qs.zip m.o8
structure ZE (C CM:jY) (H:Hp) (M:ML) (F:List ZI) (wa:jU) (L:jV) (m:Mo) (qs:jV):Prop where
 ob:∃dx,H M.p=8 (.ins CM dx (Vb M))
 fk:Fk C H M.L F wa
 ls:∀p∈m.at_ M qs,WA H L p.1 p.2
 hl:H M.lh=8 (6 (qs.map V.ref))
 hn:qs.9=m.o8.9
 pn:∃U:List (ZV×V),H M.dp=8 (.dK U)/\U.9<=m.oF/\∀n:Str,Z2 U (2 n)=(m.pen n).map V.int
 nl:(M.lh::(M.ls++qs)).Nodup
 nx:∀x∈L,x∉M.lh::(M.ls++qs)
 xl:∀x∈L,∃vs,H x=8 (6 vs)
 np:M.p≠M.L.p
 nd:¬own M.L F wa M.dp
def mo(M:ML)(F:List ZI)(a:jU)(L qs:jV)(b:jY):Prop:=b=M.p\/b=M.dp\/b∈M.lh::(M.ls++qs)\/b∈L\/own M.L F a b
variable{M:ML}{qs:jV}{m:Mo}
def DF{p:jY×List D}(h:p∈m.at_ M qs):p.1∈M.ls++qs:=by
 unfold Mo.at_ at h;simp only[xE] at h;rcases h with rfl | rfl | rfl | rfl | rfl | rfl | h
 iterate 6 (erw[yR _ ?_];unfold ML.ls;simp only[xE,true_or,or_true])
 rwa[xJ _ (zH h).1]
def ZE.keep(h:ZE C CM H M F wa L m qs)(k:∀b o,mo M F wa L qs b->H b=8 o->J b=8 o)(a:Ue H J):ZE C CM J M F wa L m qs:=by
 let((c,p),d,i,f,g,(U,t,u,v),l,r,w,n,j):=h;let s:=Vn (L:=L) (xs':=L) a (λx a o e=>k x o (2 (2 (2 (1 a)))) e) (λ_ z=>z);rwa[(c,k _ _ (1 S) p),d.at λb o c e=>k b o (2 (2 (2 (2 c)))) e,λp c=>(i p c).mono (λo e=>k _ o (2 (2 (1 (xP _ (DF c))))) e) s, k _ _ (2 (2 (1 yC))) f,g,(U,k _ _ (2 (1 S)) t,u,v),l,r,λx a=>let ⟨c,e⟩:=w x a;(c,k _ _ (2 (2 (2 (1 a)))) e),n,j]
def ZE.same(h:ZE C CM H M F wa L m qs)(k:ZC H J):ZE C CM J M F wa L m qs:=(h.keep (λb o _ e=>k b o e) λ_ _ e=>k _ _ e)
def ZE.x(h:ZE C CM H M F wa L m qs)(hs:H s=8 (6 ys))(c:¬mo M F wa L qs s)(k:ZF s H J):ZE C CM J M F wa L m qs:=(h.keep (λb o a e=>k b o (λz=>c (z▸a)) e) λb ys e=>k b _ (λz=>by rw[z,hs] at e;ext e) e)
def ZE.nown(h:ZE C CM H M F wa L m qs)(e:H b=8 (6 ys)):¬own M.L F wa b:=(λz=>by
 let(o,a,c,2):=h.fk.there z;rw[e] at a;ext a;rwa[c ys S])
def ZE.pown(h:ZE C CM H M F wa L m qs):¬own M.L F wa M.p:=(λz=>by
 let(b,a):=h.ob;let((2,(i,b,2),(j,f,2),(k,c,2),(o,d,2),2),((p,r,s,g),2),2):=h.fk;rcases z with z | z | z | z | z | ⟨n,l,e,z⟩
 .rwa[h.np z]
 .rw[z,b] at a;ext a
 .rw[z,f] at a;ext a
 .rw[z,c] at a;ext a
 .rw[z,d] at a;ext a
 .rw[z,(g n l e).2.1] at a;ext a)
def ZE.iw(h:ZE C CM H M F wa L m qs)(a:Fk C J M.L ds' wa')(t:WW M.L F wa H J)(f:BL M.L F wa ds' wa' H):ZE C CM J M ds' wa' L m qs:=by
 let T:=WW.lt h.fk t;let B:=h.pown;let((k,p),b,r,l,n,(U,i,y,A),u,w,j,v,g):=h;let s:=Vn (L:=L) (xs':=L) T.2 (λx d o e=>by let(c,b):=j x d;rw[e] at b;ext b;rwa[T.1 _ _ e]) (λ_ z=>z)
 exact((k,t _ _ p B),a,λp k=>by
  let(c,a,b):=r p k
  rwa[c,T.1 _ _ a,b.oy s],T.1 _ _ l,n,(U,t _ _ i g,y,A),u,w,λx d=>let ⟨c,e⟩:=j x d;(c,T.1 _ _ e),v,λz=>(f _ z).elim g λz=>by rw[i] at z;ext z)
end
section
variable{M:ML}{qs:jV}
def DK{l:jY}(h:l∈M.ls++qs):l∈M.lh::(M.ls++qs):=(xP _ h)
def ZE.lst(h:ZE C CM H M F wa L m qs)(b:l∈M.lh::(M.ls++qs)):∃ys,H l=8 (6 ys):=by
 rcases xE.mp b with rfl | b
 .rwa[2,h.hl]
 have:∃p∈m.at_ M qs,p.1=l:=by
  rcases xL.mp b with z | z
  .unfold ML.ls at z;simp only[xE,xV,or_false] at z;unfold Mo.at_;rcases z with rfl | rfl | rfl | rfl | rfl | rfl
   .rwa[(M.ld,m.il),by simp,7]
   .rwa[(M.lb,m.i9),by simp,7]
   .rwa[(M.lq,m.ij),by simp,7]
   .rwa[(M.lt,m.oX.map Wx),by simp,7]
   .rwa[(M.ly,m.days.map D.int),by simp,7]
   .rwa[(M.lv,m.j9.map D.bl),by simp,7]
  .let(i,c,e):=List.getElem_of_mem z;let a:i<m.o8.9:=h.hn▸c;erw[(qs[i],m.o8[i]),5,e];have:(qs[i],m.o8[i])∈qs.zip m.o8:=xM (i:=i) (by rw[yZ];rwa[xB c,xB a]);rwa[xJ [(M.ld,m.il),(M.lb,m.i9),(M.lq,m.ij),(M.lt,m.oX.map Wx),(M.ly,m.days.map D.int),(M.lv,m.j9.map D.bl)] this]
 let(p,d,3):=this;let(f,e,2):=h.ls p d;rwa[f,e]
def ZE.there(h:ZE C CM H M F wa L m qs)(a:mo M F wa L qs b):∃o,H b=8 o:=by
 rcases a with rfl | rfl | a | a | a
 .let(c,e):=h.ob;rwa[2,e]
 .let(U,e,2):=h.pn;rwa[2,e]
 .let(c,e):=h.lst a;rwa[2,e]
 .let(c,e):=h.xl b a;rwa[2,e]
 .let(o,e,2):=h.fk.there a;rwa[o,e]
def ZE.put(h:ZE C CM H M F wa L m qs)(a:l∈M.ls++qs)(n:m'.o8.9=m.o8.9)(r:m'.pen=m.pen)(t:m'.oF=m.oF)(k:∀p∈m'.at_ M qs,(p∈m.at_ M qs/\p.1≠l)\/(p.1=l/\ZN (fz L H) p.2 zs)):ZE C CM (upd H l (6 zs)) M F wa L m' qs:=by
 let(b,e):=h.lst (DK a);let nw:=h.nown e;let b:=h;let((j,b),u,y,w,v,(U,d,G,I),g,i,J,E,A):=h;let o:Ue H (upd H l (6 zs)):=Uq e;let f:∀x∈L,x≠l:=λx c z=>i x c (z▸DK a);let s:ZC (fz L H) (fz L (upd H l (6 zs))):=Vn o (λx c o e=>by rw[Ze (f x c)];rwa[e]) (λ_ z=>z);let B:M.lh≠l:=λz=>(yM.mp g).1 (z▸a)
 refine((j,by rw[Ze (λz=>by rw[z,e] at b;ext b)];rwa[b]),u.at λb o j a=>by rw[Ze (λz:b=l=>nw (z▸j))];rwa[a],λp a=>?_,by rw[Ze B];rwa[w],by rw[n];rwa[v],
  (U,by rw[Ze (λz=>by rw[z,e] at d;ext d)];rwa[d],by rw[t];rwa[G],by rw[r];rwa[I]),g,i,λx c=>?_,E,A)
 .rcases k p a with⟨a,b⟩ | ⟨a,b⟩
  .rwa[(y p a).mono (λo e=>by rw[Ze b];rwa[e]) s]
  .rwa[zs,by rw[a,Zi],b.oy s]
 .let(d,e):=J x c;rwa[d,by rw[Ze (f x c)];rwa[e]]
def ZE.freeze(h:ZE C CM H M F wa L m qs)(e:H a=8 (6 vs))(n:a∉M.lh::(M.ls++qs)):ZE C CM H M F wa (a::L) m qs:=by
 let(l,b,f,d,c,o,i,k,r,j,g):=h;let s:ZC (fz L H) (fz (a::L) H):=Vn (λ_ _ e=>e) (λ_ _ _ e=>e) (λ_ z=>xP _ z);rwa[l,b,λp b=>(f p b).mono (λ_ e=>e) s,d,c,o,i,λx b=>(xE.mp b).elim (λz=>z▸n) (k x),λx b=>(xE.mp b).elim (λz=>(vs,z▸e)) (r x),j,g]
def ZE.oH(h:ZE C CM H M F wa L m qs)(e:H M.dp=8 (.dK U)) :
  ZE C CM (upd H M.dp (.dK (Z9 U (2 n) (4 c)))) M F wa L {m with pen:=λx=>if x=n then 8 c else m.pen x,oF:=m.oF+1 } qs:=by
 let d:=h;let((p,g),u,y,w,v,(a,b,f,i),A,E,r,B,k):=h;rw[e] at b;ext b;let j:∀l∈M.lh::(M.ls++qs),l≠M.dp:=λl b z=>by let(f,a):=d.lst b;rw[z,e] at a;ext a
 let o:Ue H (upd H M.dp (.dK (Z9 U (2 n) (4 c)))):=λb t f=>by rw[Ze (λz=>by rw[z,e] at f;ext f)];rwa[f]
 let i:∀x∈L,x≠M.dp:=λx d z=>by let(l,a):=r x d;rw[z,e] at a;ext a
 let s:ZC (fz L H) (fz L (upd H M.dp (.dK (Z9 U (2 n) (4 c))))):=Vn o (λx d o e=>by rw[Ze (i x d)];rwa[e]) (λ_ z=>z)
 refine((p,by rw[Ze (λz=>by rw[z,e] at g;ext g)];rwa[g]),u.at λb o g f=>by rw[Ze (λz:b=M.dp=>k (z▸g))];rwa[f],λp b=>(y p b).mono (λo e=>by rw[Ze (j _ (DK (DF b)))];rwa[e]) s,
  by rw[Ze (j _ yC)];rwa[w],v,(2,Zi,xX (Ug _ _ _) (by show U.9+1<=m.oF+1;lia),λx=>?_),A,E,λx d=>?_,B,k)
 .rw[TZ];show _=(if x=n then 8 c else m.pen x).map V.int
  by_cases z:x=n
  .rw[_j (by rw[z]),_j z];rfl
  .grind
 .let(l,a):=r x d;rwa[l,by rw[Ze (i x d)];rwa[a]]
def ZE.oK(h:ZE C CM H M F wa L m qs)(e:H M.p=8 (.ins CM dx (Vb M)))(g:H l=8 (6 (bs.map V.bl)))(n:¬mo M F wa L qs l) :
  ZE C CM (upd H M.p (.ins CM dx (Vb (M.oK l)))) (M.oK l) F wa L {m with j9:=bs } qs:=by
 let f:=h;let(2,y,E,B,A,(U,j,N,O),v,K,w,J,G):=h;let u:∀l∈M.lh::(M.ls++qs),l≠M.p:=λl g z=>by let(a,c):=f.lst g;rw[z,e] at c;ext c
 let i:l≠M.p:=λz=>n (1 z);let o:Ue H (upd H M.p (.ins CM dx (Vb (M.oK l)))):=λb t d=>by rw[Ze (λz=>by rw[z,e] at d;ext d)];rwa[d]
 let k:∀x∈L,x≠M.p:=λx a z=>by let(t,c):=w x a;rw[z,e] at c;ext c
 let s:ZC (fz L H) (fz L (upd H M.p (.ins CM dx (Vb (M.oK l))))):=Vn o (λx a o e=>by rw[Ze (k x a)];rwa[e]) (λ_ z=>z);let P:=f.pown;let Q:∀(H:Hp)(bs:List Bool),ZN H (bs.map D.bl) (bs.map V.bl):=λH bs=>by
  induction bs with
  | nil=>rfl
  | cons b r f=>rwa[4,f]
 let I:∀x,x∈M.lh::((M.oK l).ls++qs)->x∈M.lh::(M.ls++qs)\/x=l:=λx a=>by
  simp only[ML.ls,ML.oK,xE,xL,xV,or_false] at a |-;rcases a with z | (z | z | z | z | z | z) | z<;>simp[z]
 let f:l∉M.lh::(M.ls++qs):=λz=>n (2 (2 (1 z)))
 refine((dx,Zi),y.at λb o r d=>by rw[Ze (λz:b=M.p=>P (z▸r))];rwa[d],λp d=>?_,by show (upd H M.p _) M.lh=_;rw[Ze (u _ yC)];rwa[B],A,
  (U,by show (upd H M.p _) M.dp=_;rw[Ze (λz=>by rw[z,e] at j;ext j)];rwa[j],N,O),5,λx a z=>(I x z).elim (K x a) (λz=>n (2 (2 (2 (1 (z▸a)))))),λx a=>?_,J,G)
 .by_cases z:p=(l,bs.map D.bl)
  .subst z;rwa[2,by show (upd H M.p _) l=_;rw[Ze i];rwa[g],Q _ bs]
  .let b:p∈m.at_ M qs:=by
    simp only[Mo.at_,ML.oK,xE] at d |-;rcases d with y | y | y | y | y | y | y
    .rwa[1 y]
    .rwa[2 (1 y)]
    .rwa[2 (2 (1 y))]
    .rwa[2 (2 (2 (1 y)))]
    .rwa[2 (2 (2 (2 (1 y))))]
    .rwa[_a y z]
    .grind
   rwa[(E p b).mono (λo e=>by rw[Ze (u _ (DK (DF b)))];rwa[e]) s]
 .simp only[ML.ls,ML.oK,yM,xE,xL,yL,zM,not_or] at v f |-;let((b,d,g,i,j,R,o),(r,s,u,y,T,z),(A,B,E,U,G),(I,J,W,K),(N,X,O),(Y,P),Z,Q):=v;let(v,R,T,U,W,X,Z,Y):=f;rwa[(b,d,g,i,j,Ne.symm v,o),(r,s,u,y,Ne.symm R,z),(A,B,E,Ne.symm T,G),(I,J,Ne.symm U,K),(N,Ne.symm W,O),(Ne.symm X,P),Y,Q]
 .let(t,c):=w x a;rwa[t,by rw[Ze (k x a)];rwa[c]]
end
def ZE.rep(h:ZE C CM H M F wa L m qs)(b:(l,c)∈m.at_ M qs)(e:H l=8 (6 vs)):ZN (fz L H) c vs:=by
 let(d,a,r):=h.ls _ b;rw[e] at a;ext a;rwa[r]
theorem y7z:∀{a:jV}{b:List (List D)}{i:Nat}{q:jY}{x:List D},a[i]?=8 q->a.zip (b.set i x)=(a.zip b).set i ⟨q,x⟩
 |[],_,_,_,_,h=>by simp at h
 |_::_,[],_,_,_,_=>rfl
 |_::_,_::_,0,_,_,h=>by cases h;rfl
 |a::_,b::_,_+1,_,_,h=>congrArg (List.cons (Prod.mk a b)) (y7z h)
theorem ZE.y8z{m':Mo}{l c}(h:ZE C CM H M F wa L m qs)(hi:(m.at_ M qs)[i]?=8 ⟨l,c⟩)(e:H l=8 (6 vs))(n:YC (fz L H) d v)(a:m'.o8.9=m.o8.9)(b:m'.pen=m.pen)(f:m'.oF=m.oF)(g:m'.at_ M qs=(m.at_ M qs).set i ⟨l,c ++ [d]⟩):ZE C CM (upd H l (6 (vs ++ [v]))) M F wa L m' qs:=by
 have k:(m.at_ M qs).map (λp=>p.1)=M.ls ++ qs:=by
  show _::_::_::_::_::_::(qs.zip m.o8).map _=_
  rw[List.map_fst_zip (Nat.le_of_eq h.hn)];rfl
 have o:=(yM.mp h.nl).2
 rw[<- k] at o
 have r:=(xF.mp hi).1
 have s:=xM hi
 refine h.put (DF s) a b f λp x=>?_
 rw[g] at x
 rcases List.getElem?_of_mem x with⟨j,y⟩
 by_cases z:i=j
 .subst z;rw[List.getElem?_set_self r] at y;cases y;exact 2 ⟨rfl,(h.rep s e).snoc n⟩
 .rw[List.getElem?_set_ne z] at y;exact 1 ⟨xM y,λu=>z ((List.getElem?_inj (by rw[xA];exact r) o).mp (by rw[xG,xG,hi,y];exact congrArg _s u.symm))⟩
def ZE.ga{l c}(h:ZE C CM H M F wa L m qs)(i:Nat)(e:(m.at_ M qs)[i]?=8 ⟨l,c⟩):∃vs,H l=8 (6 vs)/\ZN H c vs/\vs.9=c.9:=((h.ls _ (xM e)).get)
def ZE.deed(h:ZE C CM H M F wa L m qs)(e:H M.ld=8 (6 vs))(n:YC (fz L H) d v):ZE C CM (upd H M.ld (6 (vs ++ [v]))) M F wa L {m with il:=m.il ++ [d] } qs:=(h.y8z (i:=0) rfl e n rfl rfl rfl rfl)
def ZE.debt(h:ZE C CM H M F wa L m qs)(e:H M.lq=8 (6 vs))(n:YC (fz L H) d v):ZE C CM (upd H M.lq (6 (vs ++ [v]))) M F wa L {m with ij:=m.ij ++ [d] } qs:=(h.y8z (i:=2) rfl e n rfl rfl rfl rfl)
def ZE.trial(h:ZE C CM H M F wa L m qs)(e:H M.lt=8 (6 vs))(n:YC (fz L H) (Wx d) v):ZE C CM (upd H M.lt (6 (vs ++ [v]))) M F wa L {m with oX:=m.oX ++ [d] } qs:=(h.y8z (i:=3) rfl e n rfl rfl rfl (by unfold Mo.at_;rw[xH];rfl))
def ZE.day(h:ZE C CM H M F wa L m qs)(e:H M.ly=8 (6 vs))(n:YC (fz L H) (4 d) v):ZE C CM (upd H M.ly (6 (vs ++ [v]))) M F wa L {m with days:=m.days ++ [d] } qs:=(h.y8z (i:=4) rfl e n rfl rfl rfl (by unfold Mo.at_;rw[xH];rfl))
def ZE.brg(h:ZE C CM H M F wa L m qs)(e:H M.lb=8 (6 vs))(n:YC (fz L H) d v):ZE C CM (upd H M.lb (6 (vs ++ [v]))) M F wa L {m with i9:=m.i9 ++ [d] } qs:=(h.y8z (i:=1) rfl e n rfl rfl rfl rfl)
def ZE.hap(h:ZE C CM H M F wa L m qs){q:jY}(f:qs[i]?=8 q)(g:m.o8[i]?=8 c)(e:H q=8 (6 vs))(n:YC (fz L H) d v) :
  ZE C CM (upd H q (6 (vs ++ [v]))) M F wa L {m with o8:=m.o8.set i (c ++ [d]) } qs:=(h.y8z (i:=i+6) (by show (qs.zip m.o8)[i]?=_;rw[yZ];exact ⟨f,g⟩) e n (wS ..) rfl rfl (by unfold Mo.at_;rw[y7z f];rfl))
def ZE.newq(h:ZE C CM H M F wa L m qs){q:jY}(r:H q=8 (6 []))(n:¬mo M F wa L qs q) :
  ZE C CM (upd H M.lh (6 ((qs ++ [q]).map V.ref))) M F wa L {m with o8:=m.o8 ++ [[]] } (qs ++ [q]):=by
 let a:=h;let nw:=h.nown h.hl;let((c,b),l,t,d,i,(U,g,y,A),f,k,B,w,u):=h;let e:Ue H (upd H M.lh (6 ((qs ++ [q]).map V.ref))):=Uq d;let j:∀x∈L,x≠M.lh:=λx a z=>k x a (z▸yC);let s:ZC (fz L H) (fz L (upd H M.lh (6 ((qs ++ [q]).map V.ref)))):=Vn e (λx a o e=>by rw[Ze (j x a)];rwa[e]) (λ_ z=>z);let v:M.lh∉M.ls++qs:=(yM.mp f).1;let p:q∉M.lh::(M.ls++qs):=λz=>n (2 (2 (1 z)));let f:q≠M.lh:=λz=>p (z▸yC)
 refine((c,by rw[Ze (λz=>by rw[z,d] at b;ext b)];rwa[b]),l.at λb o l c=>by rw[Ze (λz:b=M.lh=>nw (z▸l))];rwa[c],λp c=>?_,Zi,by rw[xI,i];show _=(m.o8 ++ [[]]).9;rw[xI];rfl,
  (U,by rw[Ze (λz=>by rw[z,d] at g;ext g)];rwa[g],y,A),5,λx a z=>?_,λx a=>?_,w,u)
 .by_cases z:p=(q,[])
  .subst z;rwa[[],by show (upd H M.lh _) q=_;rw[Ze f];rwa[r],7]
  .let b:p∈m.at_ M qs:=by
    simp only[Mo.at_,xE] at c |-;rw[List.zip_append i] at c;rcases c with y | y | y | y | y | y | y
    .rwa[1 y]
    .rwa[2 (1 y)]
    .rwa[2 (2 (1 y))]
    .rwa[2 (2 (2 (1 y)))]
    .rwa[2 (2 (2 (2 (1 y))))]
    .grind
    .rcases xL.mp y with y | y
     .grind
     .rwa[_a (xU.mp y) z]
   rwa[(t p b).mono (λo e=>by rw[Ze (λz:p.1=M.lh=>v (z▸DF b))];rwa[e]) s]
 .grind
 .rw[<- yW,<- yL] at z;rcases xL.mp z with z | z
  .rwa[k x a z]
  .rwa[n (2 (2 (2 (1 (xU.mp z▸a)))))]
 .let(c,b):=B x a;rwa[c,by rw[Ze (j x a)];rwa[b]]
section
variable{C CM:jY}{c:jU}
abbrev inB(i:Int)(n:Nat):Prop:=0<=i/\i<n
def Jl(m:Mo)(i:Int):Option Str:=if inB i m.i9.9 then _n else 8 "NoThing"
inductive WG(C CM:jY)(c:jU):Sp
 |mk(M) (F) (wa) (L) (m) (qs) (i)(_:vs=[3 M.p,4 i]/\ZE C CM H M F wa L m qs/\okI i/\due E c H (Q .non H) (Jl m i))
abbrev K7:Stmt:=Yt (top 69) 41
def SS(a:ZU K CM "check_thing" "Moot.check_thing" K7)(T:Txt mg)(Tm:ZP K CM)(b:Er K mg c errs):10 YA CM "check_thing" 1 (WG C CM c):=by
 erw[a.mx ["self","thing"] ["self","thing"] λH e Q E a h=>?_];let(M,F,f,L,m,a,i,3,W,d,k):=h;erw[72,(Zf (Zt (Uk (BK Vm TU Zd Q1 (Z1 Yw T.len Yk (0 (Z0 Q0))))) (Zf (Wi Wa b (Wn (Y0 (Wb Q1 Wm))))) Zs)),5];let(f,g):=W.ob;let(e,a,2,b):=W.ga 1 rfl;unfold Jl at k;rw[<- b] at k;erw[141,Zx (λb=>?_) (λz=>?_)]
 .erw[1,M.p,CM,f,21,g,Tm.cl,Tm.nb,AF _,M.lb,e,3,1 (9 a),41,Vz (λz=>?_) (λa=>?_)]
  .rw[_i (λy=>z y.2)] at k;rwa[aA,1,2 (i,3,Vh d),λ_=>k]
  .rw[_j (b,a)] at k;rwa[k]
 .rw[_i (λy=>z y.1)] at k;rwa[_x,3,Z7 (aA,1,2 (i,3,Vh d),λ_=>k)]
inductive To(c:jU):Sp
 |mk(l) (us) (i)(_:vs=[3 l,4 i]/\H l=8 (6 us)/\okI i/\due E c H (Q .non H) (if inB i us.9 then _n else 8 "NoCase"))
abbrev Hx:Stmt:=top 60
def Qh(a:YB K mg "check_case" Hx)(T:Txt mg)(b:Er K mg c errs):10 YZ "check_case" 1 (To c):=by
 erw[a.fx ["suits","case"] ["suits","case"] λH d Q E a h=>?_];let(l,e,i,3,d,a,k):=h;erw[72,(Zf (Zt (Uk (BK Vm TU Zd Q1 (Z1 Yw T.len Yk (0 Q0)))) (Zf (Wi Wa b (Wn (Y0 (Wb Q1 Wm))))) Zs)),5];erw[141,Zx (λb=>?_) (λz=>?_)]
 .erw[1,l,e,3,1 (9 d),41,Vz (λz=>?_) (λd=>?_)]
  .rw[_i (λy=>z y.2)] at k;rwa[aA,1,2 (i,3,Vh a),λ_=>k]
  .rw[_j (b,d)] at k;rwa[k]
 .rw[_i (λy=>z y.1)] at k;rwa[_x,3,Z7 (aA,1,2 (i,3,Vh a),λ_=>k)]
def Wj(m:Mo):Option Str:=if m.il.9<400 then _n else 8 "TooMany"
inductive YS(C CM:jY)(c:jU):Sp
 |mk(M) (F) (wa) (L) (m) (qs)(_:vs=[3 M.p]/\ZE C CM H M F wa L m qs/\due E c H (Q .non H) (Wj m))
abbrev Hn:Stmt:=Yt (top 69) 43
def PN(d:ZU K CM "check_moments" "Moot.check_moments" Hn)(T:Txt mg)(Tm:ZP K CM)(f:Er K mg c errs)(b:∃t,mg "MOST_MOMENTS"=8 (4 400 t)):10 YA CM "check_moments" 1 (YS C CM c):=by
 let(e,a):=b;let b:ZH (4 400) (4 400 e):=(e,3);erw[d.mx lY lY λH d Q E e h=>?_];let(M,F,g,L,m,e,3,W,k):=h;erw[72,(Zf (Zt (Zo A6 (Z1 Yw T.len Yk (0 (Z0 Q0))) (Yv a b) (Zq _)) (Zf (Wi Wa f (Wn (Y0 (Wb (Yv a b) (Y0 Wm)))))) Zs)),5];let(e,f):=W.ob;let(d,a,2,b):=W.ga 0 rfl;unfold Wj at k;erw[1,M.p,CM,e,21,f,Tm.cl,Tm.nd,Jt _,M.ld,d,3,1 (9 a),41,Zx (λz=>?_) (λz=>?_)]
 .rw[_i ()] at k;rwa[aA,2 ((400),3,aA),aA,λ_=>k]
 .rw[_j ()] at k;rwa[k]
end
section
variable{c:jU}
def Uf(a:List ZW)(i:Int)(n:Str):Option Str:=match a[i.toNat]? with
 | some t=>if inB i a.9 then (if n∈(t.ones++t.others).map (·.1) then _n else 8 "NoOath") else 8 "NoCase"
 | none=>8 "NoCase"
inductive VZ(c:jU):Sp
 |mk(l) (ss) (i) (n)(_:vs=[3 l,4 i,5 n]/\ZT H ss l/\(∀t∈ss,TL t)/\okI i/\n.9<=100/\∀J,ZC H J->due E c J (Q .non J) (Uf ss i n))
abbrev Hz:Stmt:=top 61
def NP(f:YB K mg "check_oath" Hz)(T:Txt mg)(a:∃t,mg "ONES"=8 (4 0 t))(e:∃t,mg "OTHERS"=8 (4 1 t))(m:Er K mg c errs)(g:10 YZ "check_case" 1 (To c)) :
  YZ P w K mg Z "check_oath" 2 (VZ c):=by
 let(b,d):=a;let(h,a):=e;let e:ZH (4 0) (4 0 b):=(b,3);let b:ZH (4 1) (4 1 h):=(h,3);erw[f.fx lS lS λH i Q E f h=>?_];let(l,f,i,n,3,j,x,C,p,k):=h
 refine(32,(11 (Zk (Wq Z8 g (0 Q0 Q1))) (Zt (Zo MM Q2 (Vg (locs:=["swearer","weight"]) (fr:=[]) (3,aA,aA,aA,aA,aA) .nil S (Y2 (Z3 JN (Zh Zn (Zh Z6 Q0 Q1) (Yv d e)) (Zh Zn (Zh Z6 Q0 Q1) (Yv a b)))) ⟨λ_ _ _ _ _ _=>by
  let a:(inN ["swearer","weight"] []).Nodup:=aA
  rwa[(BS 2 (by rfl) (Yr (Y9 0 a) (Yr (Y9 1 a) Vx))),Jb,(Yj 0)]⟩) S) (Zf (Wi Wa m (Wn (Wb Q2 (Y0 (Wb Q1 Wm)))))) Zs)),5)
 let a:=aC
 let(r,v,a):=id j;let h:r.9=f.9:=by have:=a.9;rw[xA] at this;rwa[this]
 erw[11,l,r,i,3,v,C,5]
 by_cases b:inB i f.9
 .unfold Uf at k;rw[_j (by rw[h];rwa[b])];let(j,3):=yK b.1;let d:j<f.9:=by have:=b.2;lia
  let m:f[j]?=8 f[j]:=xB d;generalize f[j]=t at m;rw[yJ,m] at k;dsimp only at k;rw[_j b] at k;let(p,G,I,J,E,g,(A,y,3,s,d),(B,z,3,u,e),F):=ZT.get (l:=l) a m;let(F,a,22):=x t (xM m);let m:=d.len;let m:=e.len;let m:=F.2;let m:=a.2;erw[111,l,r,j,3 p,33,9 v,Yo E,p,2,(0),3 A,33,ZO.of g,35];erw[11,l,r,j,3 p,33,9 v,Yo E,p,2,(1),3 B,33,ZO.of g,35];erw[A,B,y,z,33,s,u,6,λq a=>?_];erw[nw (o:=6 (y++z)) a λl g j=>?_];let a:ZR l (t.ones++t.others) (y++z):=ZR.mono (ZC.t g) (ZR.app e d);erw[q,3,(2,9 j),5];erw[GR j a (by rw[xI];lia) λd a=>?_];erw[d,1,1 (9 Zi),3,LG _,15];rw[KH];erw[Vz (λz=>?_) (λz=>?_)]
  .rw[_i z] at k;rwa[1,1 (n,36),aA,1,2 (1,Vh C),λ_=>k _ (g.trans (ZC.new a))]
  .rw[_j z] at k;rwa[k _ (g.trans (ZC.new a))]
 .rw[_i (by rw[h];rwa[b])];let e:Uf f i n=8 "NoCase" := by
   unfold Uf;cases f[i.toNat]? with
   | none=>rfl
   | some t=>rwa[_i b]
  let k:=k H (ZC.refl H);rw[e] at k;rwa[k]
inductive VB:Sp
 |mk(l:jY) (a:List ZW) (i:Nat) (n:Str)(_:vs=[3 l,4 i,5 n]/\ZT H a l/\(∀t∈a,TL t)/\a.9<=1000/\n.9<=100/\Uf a i n=_n/\∀(b:jY)(J:Hp),H b=_n->J b=8 (6 (Vu (Et a i n)))->ZC H J->Q (3 b) J)
abbrev KA:Stmt:=top 56
def iB(d:YB K mg "breakers" KA)(T:Txt mg)(e:10 YZ "check_oath" 2 (VZ c))(b:10 Fn "breaking" i7 5 VD) :
  Fn P w K mg Z "breakers" lS 6 VB:=by
 erw[d.fq lS λH d Q E r h=>?_];let(l,m,i,n,7,g,f,d,p,j,k):=h;erw[72,(11 (Zk (Wq Xq.never e (0 Q0 Q1 Q2))) (Zr (Kh r (Zm b (0 Q0)) (Yb (0 Q1 Q2)) (Yl Zb)))),5];let b:i<m.9:=by
  unfold Uf at j;cases e:m[(i:Int).toNat]? with
  | none=>rw[e] at j;ext j
  | some t=>rw[yJ] at e;rwa[(xF.mp e).1]
 erw[888,l,m,i,n,7,g,f,by unfold okI;lia,p,λh b=>?_];rw[j];erw[8,l,m,7,g.mono b,f,d,λg d r ⟨U,h,m,p,j⟩ l f=>(g,7,2 (U,1 h),5)];erw[88,aB rfl,λq d=>?_];erw[nw (o:=7 [4 i,5 n]) d λd p t=>?_];erw[aB rfl,λe r=>?_];erw[nw (o:=6 []) r λm g s=>?_];let d:=p.trans g;let S:=(b.trans f).trans d;erw[2,YF.t (d _ _ h) (k:=Yx i n) (g _ _ t),5];rcases j i n with⟨g,j⟩ | ⟨a,g,j⟩
 .rw[g];erw[k e m (((b.trans f).trans p).free r) ?_ S];unfold Et;rw[j];rwa[s]
 .rw[g];rwa[k a m (b.free (l U i n a h g)) (d _ _ j) S]
end
section
variable{C CM:jY}{c:jU}
def DY{t u:TS}{D:_}{Y:St}{H:Hp}(a:Hp->Prop)(h:(∀J,a J->u D Y J)->Uu t u D Y H)(k:∀J,a J->u D Y J):Uu t u D Y H:=(h k)
theorem CG:∀{ps:jS}{i:Nat}{n x:Str},ps[i]?=8 n->(∀j<i,∀y,ps[j]?=8 y->f y=_n)->f n=8 x->ps.findSome? f=8 x
 | [],i,n,x,h,_,_=>by ext h
 | p::ps,0,n,x,h,_,e=>by ext h;rw[List.findSome?_cons,e]
 | p::ps,i+1,n,x,h,a,e=>by rw[List.findSome?_cons,a 0 () p S];rwa[CG (i:=i) h (λj d y b=>a (j+1) () y b) e]
def Ey{f:Str->Option Str}{ps:jS}(a:∀j<ps.9,∀y,ps[j]?=8 y->f y=_n):ps.findSome? f=none:=by
 rw[List.findSome?_eq_none_iff];intro x d;let(j,b,e):=List.getElem_of_mem d;rwa[a j b x (by rw[xB b,e])]
def DE{f:Str->Option Str}{ps:jS}{i:Nat}{n:Str}(h:ps[i]?=8 n)(a:∀j<i,∀y,ps[j]?=8 y->f y=_n)(e:f n=_n):∀j<i+1,∀y,ps[j]?=8 y->f y=none:=(λj b y d=>by grind)
structure WH (m:Mo):Prop where
 ok:∀t∈m.oX,TL t
 dl:m.days.9=m.oX.9
 br:∀(i:Nat)(e:D),m.i9[i]?=8 e->∃(x:Str)(d:Int),e=7 [5 x,4 d]
 le:m.oX.9<=60
 vl:m.j9.9=m.oX.9
 hb:m.o8.9=m.i9.9
 hl:∀q∈m.o8,q.9<=m.il.9
 ql:m.ij.9<=m.il.9
def brD(m:Mo)(i:Int):Int:=match m.i9[i.toNat]? with
 | some (.tup [_,.int d])=>d
 | _=>0
def Vv(F:List ZI)(m:Mo)(day:Int)(ps:jS)(b:Option Int)(a:Option (Int×Str)):Option Str :=
 (ps.findSome? (V2 F)).or ((b.bind (Jl m)).or ((a.bind λp=>Uf m.oX p.1 p.2).or ((ps.findSome? λn=>Va ((Zw F n).getD 0) day).or ((b.bind λi=>Va (brD m i) day).or
  ((a.bind λp=>Va (m.days.getD p.1.toNat 0) day).or (ps.findSome? λn=>A0 F n day))))))
def thV:Option Int->V
 | none=>.non
 | some i=>4 i
def oaV(H:Hp):Option (Int×Str)->V->Prop
 | none,v=>v=.non
 | some (i,n),v=>okI i/\n.9<=100/\∃a,v=3 a/\H a=8 (7 [4 i,5 n])
inductive YN(C CM:jY)(c:jU):Sp
 |mk(M) (F) (wa) (L) (m) (qs) (day) (pl) (ps) (th) (oa) (v2)(_:vs=[3 M.p,4 day,3 pl,thV th,v2]/\ZE C CM H M F wa L m qs/\WH m/\H pl=8 (6 (ps.map V.str))/\(∀n∈ps,n.9<=100)/\okI day/\(∀i,th=8 i->okI i)/\oaV H oa v2/\∀J,ZC H J->due E c J (Q .non J) (Vv F m day ps th oa))
abbrev MO:Stmt:=Yt (top 69) 40
def bE(b:ZU K CM "check_named" "Moot.check_named" MO)(i:VA K C)(Tm:ZP K CM)(n:Er K mg c errs)(e:10 YA C "check_known" 1 (YO C c))(f:10 YA C "check_there" 1 (YX C c))(d:10 YA C "check_living" 2 (WV C c))(a:10 YA CM "check_thing" 1 (WG C CM c))(j:10 YZ "check_oath" 2 (VZ c)):10 YA CM "check_named" 3 (YN C CM c):=by
 erw[b.mx ["self","day","people","thing","oath","name"] ["self","day","people","thing","oath"] λH R Q E b h=>?_];let(M,F,E,L,m,p,b,Q,B,O,oa,v2,3,W,ok,l,o,hd,a0,G,k):=h
 refine(32,(11 (Ef Ea Wa (by rfl) (Y2 Q2) (Yc 5)
 (λg h=>(Zf (Zk (Yg g (Z0 Q0) i.cl e (0 Q5)))))) (Zt (Zo A2 Q3 Y3 (Zq _)) (Zf (Zk (Yg Z8 Q0 Tm.cl a (0 Q3)))) Zs) (Zt (Zo A2 Q4 Y3 (Zq _)) (Zf (Zk (Wq Z8 j (0 (Z0 Q0) (Zh Zn Q4 Zd) (Zh Zn Q4 Zd))))) Zs) (Ef Ea Wa (by rfl) (Y2 Q2) (Yc 5)
 (λg h=>(Zf (Zk (Yg g (Z0 Q0) i.cl f (0 Q5 Q1)))))) (Zt (QW.pt (V0 (Zo A2 Q3 Y3 (Zq _)) (Jg (Zo TU Q1 (Zh Zn (Zh Z6 (Z0 Q0) Q3) Zd) (Zq _))))) (Zf (Wi Wa n (Wn (Y0 (Wb Q3 (Y0 (Wb Q1 Wm))))))) Zs) (Zt (QW.pt (V0 (Zo A2 Q4 Y3 (Zq _)) (Jg (Zo TU Q1 (Zh Z6 (Z0 Q0) (Zh Zn Q4 Zd)) (Zq _))))) (Zf (Wi Wa n (Wn (Y0 (Wb Q1 Wm))))) Zs) (Ef Ea Wa (by rfl) (Y2 Q2) (Yc 5)
 (λg h=>(Zf (Zk (Yg g (Z0 Q0) i.cl d (0 Q5 Q1))))))),5)
 let(N,g):=W.ob;let d:=W.fk.f;let(dx,ob):=d.ob;let r:∀{i:Nat}{v:V},(B.map V.str)[i]?=8 v->∃n,v=5 n/\B[i]?=8 n/\n.9<=100:=λ{i v} I=>by
  rw[xG] at I;let(a,e,f):=xS.mp I;rwa[a,f.6,e,o a (xM e)]
 let u:(B.map V.str).9=B.9:=xA ..;unfold Vv at k;erw[1,Q,3,(2,9 l),5];erw[Vo (B.map V.str) (λi Y J=>∃h:Option V,Y=[8 (3 M.p),8 (4 b),8 (3 Q),8 (thV O),8 v2,h]/\H=J/\∀j<i,∀y,B[j]?=8 y->V2 F y=_n) (_n,33,λj t=>_a t ()) (λi Y J _ ⟨_,_,e,_⟩=>by rw[<- e];rwa[9 l]) ?_ ?_]
 .rintro i v Y J I ⟨h,rfl,rfl,f⟩;let(n,3,o,hl):=r I;erw[1,M.p,CM,N,21,g,Tm.cl,Tm.nf,V5 _,M.L.p,dx,1,ob,Wc _ _ _ _ aA,1,M.L,F,n,3,d,λ_=>hl,5];cases e:V2 F n with
  | none=>rwa[13,DE o f e]
  | some x =>
   rw[CG o f e] at k;rwa[k H (ZC.refl H)]
 rintro Y J ⟨h,rfl,rfl,f⟩;rw[u] at f;rw[Ey f,zK] at k;let z:∀i n,B[i]?=8 n->∃d,Zw F n=8 d:=λi n hi=>by
  have:=f i (xF.mp hi).1 n hi;unfold V2 at this;cases e:Zw F n with
  | none=>rw[_j e] at this;ext this
  | some d=>rwa[d,7]
 try dsimp only
 erw[DY (λJ=>ZC H J/\O.bind (Jl m)=_n) (λA=>?_) (λX ⟨s,U⟩=>?_)]
 .cases O with
  | none=>rwa[131,Zz (A H (ZC.refl H,3))]
  | some i =>
   erw[131,Z7 (1,M.p,N,1,g,Yi _ aA,1,M,F,E,L,m,p,i,3,W,a0 i S,5)];rw[zE] at k;cases e:Jl m i with
   | none=>rwa[A H (ZC.refl H,e)]
   | some x=>rw[e] at k;rwa[k H (ZC.refl H)]
 rw[U,zK] at k;let L:=W.same s
 try dsimp only
 erw[DY (λJ=>ZC H J/\(oa.bind λp=>Uf m.oX p.1 p.2)=_n) (λA=>?_) (λT ⟨E,e2⟩=>?_)]
 .cases oa with
  | none =>
   obtain rfl:=G;rwa[131,Zz (A X (s,3))]
  | some p =>
   let(hi,o,a,3,f):=G;let(ts,X,t2,2):=L.ga 3 rfl;erw[131,Z7 (1,M.p,CM,N,21,s _ _ g,Tm.cl,Tm.nt,AG _,1,a,2,(0),13,ZO.of (s _ _ f),31,a,2,(1),13,ZO.of (s _ _ f),35)];erw[M.lt,m.oX,p.1,p.2,3,(ts,X,t2),ok.ok,hi,o,λJ L=>?_];rw[zE] at k;cases e:Uf m.oX p.1 p.2 with
   | none=>rwa[A J (s.trans L,e)]
   | some x=>rw[e] at k;rwa[k J (s.trans L)]
 rw[e2,zK] at k;let s:=W.same E;let X:=s.fk.f;erw[1,Q,3,(2,9 (E _ _ l)),5];erw[Vo (B.map V.str) (λi Y J=>∃h:Option V,Y=[8 (3 M.p),8 (4 b),8 (3 Q),8 (thV O),8 v2,h]/\T=J/\∀j<i,∀y,B[j]?=8 y->Va ((Zw F y).getD 0) b=_n) (h,33,λj t=>_a t ()) (λi Y J _ ⟨_,_,e,_⟩=>by rw[<- e];rwa[9 (E _ _ l)]) ?_ ?_]
 .rintro i v Y J I ⟨h,rfl,rfl,f⟩;let(n,3,o,hl):=r I;let(d,L):=z i n o;erw[1,M.p,CM,N,21,E _ _ g,Tm.cl,Tm.nf,V5 _,M.L.p,dx,1,E _ _ ob,Wc _ _ _ _ aA,11,M.L,F,n,d,b,3,X,L,λ_=>(hl,hd),5];let z:Va ((Zw F n).getD 0) b=Va d b:=by rw[L];rfl
  cases e:Va d b with
  | none=>rwa[13,DE o f (z.trans e)]
  | some x =>
   rw[CG o f (z.trans e)] at k;rwa[k T E]
 rintro Y J ⟨h,rfl,rfl,z⟩;rw[u] at z;rw[Ey z,zK] at k
 try dsimp only
 erw[DY (λJ=>ZC H J/\(O.bind λi=>Va (brD m i) b)=_n) (λA=>?_) (λH3 ⟨L,e3⟩=>?_)]
 .cases O with
  | none=>rwa[131,Zz (Zz (A T (E,3)))]
  | some i =>
   let(R,b1,b2,z):=s.ga 1 rfl;let s:inB i m.i9.9:=by
    rw[zE] at U;unfold Jl at U
    by_cases z:inB i m.i9.9
    .rwa[z]
    .rw[_i z] at U;ext U
   let(j,3):=yK s.1;let t:j<R.9:=by have:=s.2;lia
   let(e,X,re):=b2.get (xB t);let(x,d,3):=ok.br j e X;let(a,U,ea,f,(4,(4,3))):=re;let U:brD m (j:Int)=d:=by unfold brD;rw[yJ,X]
   rw[zE,U] at k;erw[131,Z7 (11,M.p,CM,N,21,E _ _ g,Tm.cl,Tm.nb,AF _,1,M.lb,R,j,13,9 b1,Yo (xB t),a,2,(1),2,ea,3,ZO.of f,341,Zx (λz=>?_) (λz=>?_))]
   .let e:Va d b=8 "NotYet" := _j z;rw[e] at k;rwa[aA,1,2 (1,Vh (a0 _ S)),aA,1,2 (1,Vh hd),λ_=>k T E]
   .rwa[A T (E,by rw[zE,U];rwa[_i z])]
 rw[e3,zK] at k;let U:=W.same L
 try dsimp only
 erw[DY (λJ=>ZC H J/\(oa.bind λp=>Va (m.days.getD p.1.toNat 0) b)=_n) (λA=>?_) (λH ⟨E,e4⟩=>?_)]
 .cases oa with
  | none =>
   obtain rfl:=G;rwa[131,Zz (Zz (A H3 (L,3)))]
  | some p =>
   let(i,n):=p;let(hi,o,a,3,f):=G;let(R,G,p,T):=U.ga 4 rfl;rw[xA] at T;let s:inB i m.oX.9:=by
    rw[zE] at e2;unfold Uf at e2
    by_cases z:inB i m.oX.9
    .rwa[z]
    .grind
   let(j,3):=yK s.1;let t:j<R.9:=by have:=s.2;have:=ok.dl;lia
   let(e,X,re):=p.get (xB t);rw[xG] at X;let(d,s,3):=xS.mp X;let re:R[j]= 4 d:=re;let p:m.days.getD (j:Int).toNat 0=d:=by rw[yJ,xR,s];rfl
   rw[zE] at k;dsimp only at k;rw[p] at k;erw[131,Z7 (11,M.p,CM,N,21,L _ _ g,Tm.cl,Tm.ny,Kw _,1,a,2,(0),13,ZO.of (L _ _ f),3,M.ly,R,j,4 d,33,9 G,re▸Yo (xB t),41,Zx (λz=>?_) (λz=>?_))]
   .let e:Va d b=8 "NotYet" := _j z;rw[e] at k;rwa[aA,1,2 (1,Vh hd),λ_=>k H3 L]
   .rwa[A H3 (L,by rw[zE];dsimp only;rw[p];rwa[_i z])]
 rw[e4,zK] at k;let d:=W.same E;let a:=d.fk.f;erw[1,Q,3,(2,9 (E _ _ l)),5];erw[Vo (B.map V.str) (λi Y J=>∃h:Option V,Y=[8 (3 M.p),8 (4 b),8 (3 Q),8 (thV O),8 v2,h]/\H=J/\∀j<i,∀y,B[j]?=8 y->A0 F y b=_n) (h,33,λj t=>_a t ()) (λi Y J _ ⟨_,_,e,_⟩=>by rw[<- e];rwa[9 (E _ _ l)]) ?_ ?_]
 .rintro i v Y J I ⟨h,rfl,rfl,f⟩;let(n,3,o,hl):=r I;erw[1,M.p,CM,N,21,E _ _ g,Tm.cl,Tm.nf,V5 _,M.L.p,dx,1,E _ _ ob,Wc _ _ _ _ aA,11,M.L,F,n,b,3,a,hl,hd,5];cases e:A0 F n b with
  | none=>rwa[13,DE o f e]
  | some x =>
   rw[CG o f e] at k;rwa[k H E]
 rintro Y J ⟨h,rfl,rfl,a⟩;rw[u] at a;rw[Ey a] at k;rwa[k _ E]
end
section
variable{C CM:jY}
def wOk(F:List ZI)(day:Int)(f:Str->Int)(n:Str):Prop:=∃d,Zw F n=8 d/\d<=day/\Bx (kw F n) day (f n)
inductive WN(C CM:jY):Sp
 |mk(M:ML) (F:List ZI) (e:jU) (L:jV) (m:Mo) (d:jV) (c:jY) (b:jS) (a:Int) (f:Str->Int)(_:vs=[3 M.p,3 c,4 a]/\ZE C CM H M F e L m d/\F.9<=1000/\H c=8 (6 (b.map V.str))/\b.9<=60/\0<=a/\a<=9999/\(∀n∈b,wOk F a f n)/\∀(l:jY)(a:aG)(J:Hp),H l=_n->ZC H J->J l=8 (6 a)->ZR J (b.map λn=>(n,f n)) a->Q (3 l) J)
abbrev Ew:Stmt:=Yt (top 69) 38
def XO:Nm (Zj Ew) "day" .cell:=(aA)
def SB:Nm (Zj Ew) "self" .cell:=(aA)
def eS(b:ZU K CM "weighed" "Moot.weighed" Ew)(e:VA K C)(Tm:ZP K CM)(a:10 Mt C "weight" lu 2 (Tq C)):10 Mt CM "weighed" i0 3 (WN C CM):=by
 erw[b.mq i0 λH c Q E b h=>?_];let(M,F,z,L,m,l,i,d,g,f,7,W,j,b,c,o,s,v,k):=h
 refine(72,(Zf (Zr (Vg (locs:=["name"]) (fr:=[("self",(0)),("day",(2))]) (7,aA,aA,aA,aA,aA) (.ig SB (.ig XO .nil)) rfl (Y2 Q1) ⟨λ_ _ _ _ _ _=>by
  let c:(inN ["name"] [("self",(0)),("day",(2))]).Nodup:=aA
  rwa[(Y9 0 c),Jb,(Yb (0 (Yj 0) (Ve (GO (Wp 1)) e.cl a (0 (Yj 0) (Wp 2)))))]⟩))),5)
 let a:(60:Nat)<=sizeLine:=by decide
 let(h,c):=W.ob;let(l,y):=W.fk.f.ob;erw[8,i,7,(2,9 b),5];erw[Uw (L:=d.map V.str) (λi a J=>ZC H J/\ZR J ((d.take i).map λn=>(n,f n)) a) (ZC.refl H,7) (by rw[xA];lia) (λi a J _ ⟨e,_⟩=>9 (e _ _ b)) ?_ ?_ ?_]
 .rintro i a J ⟨_,r⟩;rw[r.len,xA,xY];lia
 .rintro i x a J d ⟨S,r⟩ e b;let(u,7):=Uh b;rw[xG] at d;let(n,e,7):=xS.mp d;let(d,i,m,t):=v n (xM e);let b:=W.same S;erw[([_],77),Z7 ?_];erw[88,M.p,CM,h,28,S _ _ c,Tm.cl,Tm.nf,V5 _,M.L.p,l,8,S _ _ y,Wc _ _ _ _ aA,88,M.L,F,z,n,g,d,f n,7,b.fk.f,b.fk.w,j,o,s,i,m,t,λc b=>?_];erw[aB rfl,λq c=>((S.trans b).trans (ZC.new c),5)];rw[xQ,e,xH];rwa[ZR.snoc (p:=(n,f n)) Zi (ZR.mono (ZC.t (b.trans (ZC.new c))) r)]
 .rintro a J ⟨S,r⟩ l b;rw[xA,xZ] at r;rwa[k l a _ (S.free b) (S.trans (ZC.new b)) Zi (ZR.mono (ZC.t (ZC.new b)) r)]
def BU(m:Mo)(n:Str)(i:Nat):Bool:=match (m.oX[i]?).bind (·.named) with
 | some p=>decide (p.2=n)&&m.j9.getD i _x&&decide ((m.pen n).getD 0<=(i:Int))
 | none=>_x
def BA(m:Mo)(k:Nat)(n:Str):Bool:=(List.range k).any (BU m n)
def Df(m:Mo)(n:Str):Bool:=BA m m.oX.length n
def Lc(m:Mo)(k:Nat)(n:Str):BA m (k+1) n=(BA m k n || BU m n k):=by
 unfold BA;rw[wB,List.any_append];simp
inductive UX(C CM:jY):Sp
 |mk(M) (F) (wa) (L) (m) (qs)(_:vs=[3 M.p]/\ZE C CM H M F wa L m qs/\m.j9.9=m.oX.9/\m.oX.9<=60/\∀g U J,H g=_n->ZC H J->J g=8 (.dK U)->(∀n:Str,(Z2 U (2 n)).isSome=Df m n)->Q (3 g) J)
abbrev IE:Stmt:=Yt (top 69) 37
def Pe(c:ZU K CM "forsworn_names" "Moot.forsworn_names" IE)(T:Txt mg)(Tm:ZP K CM)(b:∃t,mg "NAMED"=8 (4 3 t)):10 Mt CM "forsworn_names" lY 1 (UX C CM):=by
 let(d,a):=b;let b:ZH (4 3) (4 3 d):=(d,7);erw[c.mq ["self","names","case","suit","oath"] λH d Q E c h=>?_];let(M,F,g,L,m,f,7,W,e,d,k):=h
 refine(72,(11 (Zv 1 BF) (Wd mL rfl (HF T.enumerate (0 (Z0 Q0))) (Ar (by rfl) (Yr (Yc 2) (Yr (Yc 3) Vx)))
 (11 (Zv 4 (Zh Zn Q3 (Yv a b))) (Zt (QW.pt (V0 (Zo A2 Q4 Y3 (Zq _)) (V0 (Wz (Zh Z6 (Z0 Q0) Q2)) (Jg (Zo A6 Q2 (Kh c (Z0 Q0) (Zh Zn Q4 Zd) Zd) (Zq _)))))) (Zf (JV c Q1 (Zh Zn Q4 Zd) Ul)) Zs))) (Zr Q1)),5)
 let a:=aC
 let(O,a):=W.ob;erw[λg E=>?_];erw[nw (o:=.dK []) E λB y kg=>?_];erw[Z4 ?_];let b:=W.same y;let(h,c,R,s):=b.ga 3 rfl;let(N,L,v,u):=b.ga 5 rfl;rw[xA] at s u;let(pk,p1,d,p3):=b.pn;let d:∀{o:HO}{b:jY},H b=8 o->b≠g:=λe z=>by rw[z,E] at e;ext e
 erw[8,M.p,CM,O,28,y _ _ a,Tm.cl,Tm.nt,AG _,M.lt,h,7,9 c,5];refine fZ h (λi Y J=>∃(v u v4:Option V)(U:List (ZV×V)),Y=[8 (3 M.p),8 (3 g),v,u,v4]/\ZC H J/\J g=8 (.dK U)/\(∀b o,b≠g->B b=8 o->J b=8 o)/\U.9<=i/\∀n:Str,(Z2 U (2 n)).isSome=BA m i n) (_n,_n,_n,[],7,y,kg,λ_ _ _ e=>e,yI _,λ_=>rfl)
  (λi Y J _ ⟨_,_,_,_,_,_,_,G,_,_⟩=>9 (G _ _ (d ((W.ga 3 rfl).choose_spec.1)) c)) ?_ ?_
 .rintro i x p Y J r ⟨a0,a1,a2,U,rfl,S,I,G,hk,A⟩ c;erw[nw (o:=7 [4 i,x]) c λf Sp kp=>?_];let c:i<h.9:=(xF.mp r).1;obtain⟨t,Q⟩:∃t,m.oX[i]?=8 t:=(2,xB ());obtain⟨h,j⟩:∃h,m.j9[i]?=8 h:=(2,xB ());let(ta,u1,u2,u4,X,c,22,x):=ZT.get (l:=M.lt) R Q;rw[X] at r;ext r;let r:∀b o,b≠g->B b=8 o->f b=8 o:=λb o n e=>Sp _ _ (G b o n e);let X:∀{b R},B b=8 (7 R)->f b=8 (7 R):=λ{b R} e=>r b _ (λz=>by rw[z,kg] at e;ext e) e;let R:m.j9.getD i _x=h:=by rw[xR,j];rfl
  erw[p,8,ZO.of kp,7282875];erw[8,ta,2,(3),u4,77,ZO.of (X c),75];let c:(∀n,BU m n i=_x)->∃(v u v4:Option V)(U:List (ZV×V)),[8 (V.ref M.p),8 (3 g),8 (4 i),8 (3 ta),8 u4]= [8 (3 M.p),8 (3 g),v,u,v4]/\ZC H f/\f g=8 (.dK U)/\(∀b o,b≠g->B b=8 o->f b=8 o)/\U.9<=i+1/\∀n:Str,(Z2 U (2 n)).isSome=BA m (i+1) n:=λz =>
   (222,U,7,S.trans Sp,Sp _ _ I,r,6,λn=>by rw[Lc,z,Bool.or_false];rwa[A n])
  cases B:t.named with
  | none =>
   rw[B] at x;ext x;erw[878,Zz (Zz (c λn=>?_))];unfold BU;rw[Q,zE,B]
  | some o =>
   rw[B] at x;let(p,f):=o;let(b,p,7,H,(y1,r1,7,t,(y2,r2,7,e2,e3))):=x;ext t;ext e2;ext e3;let p:∀n,BU m n i=(decide (f=n)&&h&&decide ((m.pen n).getD 0<=(i:Int))):=λn=>by unfold BU;rw[Q,zE,B,R]
   let t:i<N.9:=by rw[u];rwa[(xF.mp j).1]
   let(e,x,u):=v.get (xB t);rw[xG,j] at x;ext x;let u:N[i]= .bl h:=u;erw[878,Z7 ?_];erw[8,M.p,CM,O,28,r _ _ (d a) (y _ _ a),Tm.cl,Tm.nv,LX _,8,M.lv,N,i,.bl h,77,9 (r _ _ (λz=>by rw[z,kg] at L;ext L) L),u▸Yo (xB t),h,75];cases h with
   | false=>rwa[Zz (Zz (c λn=>by rw[p,Bool.and_false];rfl))]
   | true =>
    erw[Z7 ?_];let i:M.dp≠g:=λz=>by let(j,h,2):=W.pn;rw[z,E] at h;ext h
    let h:=r _ _ i p1;let i:=YF.k (k:=Sum.inr f) h;rw[p3] at i;erw[88,M.p,CM,O,28,r _ _ (d a) (y _ _ a),Tm.cl,Tm.np,Iu _,M.dp,7,1 (pk,1 h),8,b,2,(1),87,ZO.of (X H),72,i,5];let a:(Option.map V.int (m.pen f)).getD (4 0)= 4 ((m.pen f).getD 0):=by cases m.pen f<;>rfl
    rw[a];erw[2878,Zx (λz=>?_) (λz=>c λn=>?_)]
    .erw[88,b,2,(1),87,ZO.of (X H),7,g,8,WD.k (k:=Sum.inr f) (Sp _ _ I) (),5];erw[222,Z9 U (2 f) (.bl _t),7,λb o e=>?_,Zi,λb o n e=>by rw[Ze n];rwa[r b o n e],xX (Ug _ _ _) (),λn=>?_]
     .rw[Ze (d e)];rwa[(S.trans Sp) b o e]
     .rw[TZ,Lc,p,<- A n]
      by_cases e:n=f
      .grind
      .grind
    .grind
 .rintro Y J ⟨a0,a1,a2,U,rfl,S,I,G,hk,A⟩;rw[s] at A;rwa[8,k g U J E S I A]
end
section
variable{C CM:jY}{c:jU}
abbrev Ym(f:Str->Int)(ns:jS):Vi:=ns.map λn=>(n,f n)
def A8(m:Mo)(a:Int)(f:Str->Int)(b d:jS):Option Str :=
 if 60<=m.oX.9 then 8 "TooMany" else if 12<max b.length d.9 then 8 "TooMany" else (Wj m).or (if Gb (b++d)<(b++d).9 then 8 ("SwornTwice":Str) else
  ((b++d).findSome? λn=>if Df m n=_t then 8 ("Forsworn":Str) else _n).or (if (wts (Ym f b)).sum<a then 8 ("TooLight":Str) else _n))
inductive WK(C CM:jY)(c:jU):Sp
 |mk(M) (F) (wa) (L) (m) (qs) (day need) (l1 l2) (o1 o2) (f)(_:vs=[3 M.p,4 day,4 need,3 l1,3 l2]/\ZE C CM H M F wa L m qs/\WH m/\F.9<=1000/\H l1=8 (6 (o1.map V.str))/\H l2=8 (6 (o2.map V.str))/\o1.9<=60/\o2.9<=60/\0<=day/\day<=9999/\okI need/\(∀n∈o1++o2,n.9<=100/\wOk F day f n/\1<=f n/\f n<=1000)/\∀J,ZC H J->due E c J (Q .non J) (A8 m need f o1 o2))
abbrev Na:Stmt:=Yt (top 69) 42
def Rz(f:ZU K CM "check_sides" "Moot.check_sides" Na)(T:Txt mg)(Tm:ZP K CM)(n:Er K mg c errs)(a:∃t,mg "MOST_CASES"=8 (4 60 t))(e:∃t,mg "MOST_SWEARERS"=8 (4 12 t))(i:10 YA CM "check_moments" 1 (YS C CM c))(g:10 Mt CM "forsworn_names" lY 1 (UX C CM))(j:10 Mt CM "weighed" i0 3 (WN C CM))(x:10 Fn "total" ["side"] 1 UV):10 YA CM "check_sides" 4 (WK C CM c):=by
 let(b,d):=a;let(u,a):=e;let e:ZH (4 60) (4 60 b):=(b,7);let b:ZH (4 12) (4 12 u):=(u,7);erw[f.mx ["self","day","need","ones","others","barred","name"] ["self","day","need","ones","others"] λH f Q E z h=>?_];let(M,F,I,L,m,G,s,y,r,v,p,l,f,7,W,J,E,t,B,O,A,Q,R,X,N,k):=h
 refine(72,(11 (Zt (Zo A6 (Z1 Yw T.len Yk (0 (Z0 Q0))) (Yv d e) (Zq _)) (Zf (Wi Wa n (Wn (Y0 (Wb (Yv d e) (Y0 Wm)))))) Zs) (Zt (Zo AI (Z1 (CS (by rfl)) T.max BY (0 (Z1 Yw T.len Yk (0 Q3)) (Z1 Yw T.len Yk (0 Q4)))) (Yv a b) (Zq _)) (Zf (Wi Wa n (Wn (Y0 (Wb (Yv a b) (Y0 Wm)))))) Zs) (Zk (A1 Z8 Q0 Tm.cl i)) (Zt (Zo TU (XC (by rfl) T.len T.set (0 (Z3 JN Q3 Q4))) (Z1 Yw T.len Yk (0 (Z3 JN Q3 Q4))) (Zq _)) (Zf (Wi Wa n Z5)) Zs) (Zv 5 (XN Q0 Tm.cl g)) (Ef Ea Wa (by rfl) (Y2 (Z3 JN Q3 Q4)) (Yc 6)
 (λb a=>(Zf (Zt (Zo (Cb z) Q6 Q5 rfl) (Zf (Wi a n (Wn (Wb Q6 (Y0 Wm))))) Zs)))) (Zt (Zo TU (Zm x (0 (Ve Q0 Tm.cl j (0 Q3 Q1)))) Q2 (Zq _)) (Zf (Wi Wa n (Wn (Y0 (Wb Q2 Wm))))) Zs)),5)
 let a:=aC
 let(A,b):=W.ob;let(g,u,2,a):=W.ga 3 rfl;rw[xA] at a;unfold A8 at k;let d:(p.map V.str).9=p.9:=xA ..;let e:(l.map V.str).9=l.9:=xA ..;erw[8,M.p,CM,A,28,b,Tm.cl,Tm.nt,AG _,M.lt,g,7,1 (9 u),2878,Zx (λz=>?_) (λz=>?_)]
 .rw[_j ()] at k;rwa[aA,2 ((60),7,aA),aA,λ_=>k H (ZC.refl H)]
 rw[_i ()] at k;erw[8,r,8,1 (9 t),8,v,8,1 (9 B),285];let a:(if ((l.map V.str).9:Int) > (p.map V.str).9 then ((l.map V.str).9:Int) else (p.map V.str).9)=((max p.length l.9:Nat):Int):=by rw[d,e];split<;>lia
 rw[a];erw[2878,Zx (λz=>?_) (λz=>?_)]
 .rw[_j ()] at k;rwa[aA,2 ((12),7,aA),aA,λ_=>k H (ZC.refl H)]
 rw[_i ()] at k;erw[8,M.p,A,8,b,Yi _ aA,M,F,I,L,m,G,7,W,5];cases a:Wj m with
 | some x=>rw[a] at k;rwa[k H (ZC.refl H)]
 | none =>
 rw[a,zK] at k;let j:p.map V.str++l.map V.str=(p++l).map V.str:=xH.6;erw[88,r,v,287,t,B,by rw[d,e];lia,λq a=>?_];rw[j];erw[nw (o:=6 ((p++l).map V.str)) a λn h a=>?_];erw[q,p++l,7,9 a,by rw[xI];lia,5];erw[88,r,v,287,h _ _ t,h _ _ B,by rw[d,e];lia,λg i=>?_];rw[j];let a:=h.trans (ZC.new (o:=6 ((p++l).map V.str)) i);let h:(upd n g (6 ((p++l).map V.str))) g=8 (6 ((p++l).map V.str)):=Zi;generalize (upd n g (6 ((p++l).map V.str)))=i at a h |-;erw[g,8,1 (9 h),2878,Zx (λz=>?_) (λz=>?_)]
 .rw[_j (by rw[xA] at z;lia)] at k;rwa[k i a]
 rw[_i (by rw[xA] at z;lia)] at k;erw[8,M.p,A,8,a _ _ b,Yi _ aA,M,F,I,L,m,G,7,W.same a,J.vl,J.le,λg U n h i kg H=>?_];let h:=a.trans i;erw[Z4 ?_];erw[88,r,v,287,h _ _ t,h _ _ B,by rw[d,e];lia,λe d=>?_];rw[j];let a:=ZC.new (o:=6 ((p++l).map V.str)) d;let d:=h.trans a;let u:=a _ _ kg;let a:(upd n e (6 ((p++l).map V.str))) e=8 (6 ((p++l).map V.str)):=Zi;generalize (upd n e (6 ((p++l).map V.str)))=B at d a u |-;erw[e,7,(2,9 a),5];erw[Vo ((p++l).map V.str) (λi Y J=>∃x:Option V,Y=[8 (3 M.p),8 (4 s),8 (4 y),8 (3 r),8 (3 v),8 (3 g),x]/\B=J/\∀j<i,∀y,(p++l)[j]?=8 y->(if Df m y=_t then 8 ("Forsworn":Str) else _n)=_n) (_n,77,λj e=>_a e ()) (λi Y J _ ⟨_,_,e,_⟩=>by rw[<- e];rwa[9 a]) ?_ ?_]
 .rintro i v Y J a ⟨x,rfl,rfl,h⟩;rw[xG] at a;let(n,i,7):=xS.mp a;erw[88,g,8,YF.k (k:=Sum.inr n) u,85];let a:=H n;cases e:Z2 U (2 n) with
  | none =>
   rw[e] at a;rwa[Zz (87,DE i h (_i (by rw[<- a];decide)))]
  | some v =>
   rw[e] at a;rw[CG (f:=λn=>if Df m n=_t then 8 ("Forsworn":Str) else _n) i h (_j a.6)] at k;rwa[Z7 (8,1 (n,7,by have:=(N n (xM i)).1;lia),aA,λ_=>k B d)]
 rintro Y J ⟨x,rfl,rfl,h⟩;rw[xA] at h;rw[Ey (f:=λn=>if Df m n=_t then 8 ("Forsworn":Str) else _n) h,zK] at k
 try dsimp only
 erw[8,M.p,A,8,d _ _ b,Yi _ aA,88,M,F,I,L,m,G,r,p,s,f,7,W.same d,E,d _ _ t,O,Q,R,λn i=>(N n (yR _ i)).2.1,λl g h i a b e=>?_];erw[3 l,Ym f p,7,(l,g,7,b,e),(λp b=>?_,by rw[xA];rwa[O]),λb e=>?_]
 .grind
 let S:=(d.trans a).trans e;erw[82878,Zx (λz=>?_) (λz=>?_)]
 .rw[_j z] at k;rwa[aA,8,2 (8,Vh X),λ_=>k b S]
 .rw[_i z] at k;rwa[k b S]
end
def Ac(M:ML)(F:List ZI)(a:jU)(L qs:jV)(H J:Hp):Prop:=∀b o,H b=8 o->¬mo M F a L qs b->J b=8 o
def VS(M:ML)(F:List ZI)(f:jU)(L qs:jV)(e:ML)(a:List ZI)(d:jU)(xs' c:jV)(H:Hp):Prop:=∀b,mo e a d xs' c b->mo M F f L qs b\/H b=_n
def VS.iw(f:BL M.L F wa ds' wa' H):VS M F wa L qs M ds' wa' L qs H:=(λb a=>by
 rcases a with z | z | z | z | z
 .rwa[1 (1 z)]
 .rwa[1 (2 (1 z))]
 .rwa[1 (2 (2 (1 z)))]
 .rwa[1 (2 (2 (2 (1 z))))]
 .rwa[(f b z).imp (λz=>2 (2 (2 (2 z)))) id])
def FR:mo M F wa L qs M.ld:=(2 (2 (1 (by simp[ML.ls]))))
section
variable{C CM:jY}
def OG(M:ML):(Vb M).9<1000:=(show 9<1000 by decide)
def Mo.oY(m:Mo)(day:Int)(t:ZW):Mo:={m with oX:=m.oX ++ [t],days:=m.days ++ [day],j9:=(Ye [] 0 (m.oX ++ [t])).1 }
def oaV.rep(h:oaV H oa v):YC (fz L H) (B0 oa) v:=by
 cases oa with
 | none=>rwa[h]
 | some p=>let(22,a,e,b):=h;rwa[a,2,e,Wr b,(4,(4,3))]
def oaV.same(h:oaV H oa v)(k:ZC H J):oaV J oa v:=by
 cases oa with
 | none=>rwa[h]
 | some p=>let(b,c,a,e,d):=h;rwa[b,c,a,e,k _ _ d]
def ZR.fz(r:ZR H sd us):ZN (fz L H) (sd.map DJ) us:=((ZR.mono (λ_ _ e=>Wr e) r).rep)
inductive Tj(C CM:jY):Sp
 |mk(M) (F) (wa) (L) (m) (qs) (day need) (l1 l2) (o1 o2) (f) (oa) (v2)(_:vs=[3 M.p,4 day,4 need,3 l1,3 l2,v2]/\ZE C CM H M F wa L m qs/\WH m/\m.oX.9<60/\F.9<=1000/\H l1=8 (6 (o1.map V.str))/\H l2=8 (6 (o2.map V.str))/\o1.9<=60/\o2.9<=60/\0<=day/\day<=9999/\1<=need/\need<=12000/\(∀n∈o1++o2,wOk F day f n/\1<=f n/\f n<=1000)/\oaV H oa v2/\∀lv a b J,ZE C CM J (M.oK lv) F wa (a::b::L) (m.oY day (Ym f o1,Ym f o2,need,oa)) qs->Ac M F wa L qs H J->VS M F wa L qs (M.oK lv) F wa (a::b::L) qs H->Q (4 m.oX.9) J)
abbrev K3:Stmt:=Yt (top 69) 39
def Xs(c:ZU K CM "try_case" "Moot.try_case" K3)(T:Txt mg)(Tm:ZP K CM)(b:10 Mt CM "weighed" i0 3 (WN C CM))(j:10 Fn "settled" i7 4 UN):10 Mt CM "try_case" lD 5 (Tj C CM):=by
 erw[c.mq lD λH e Q E c h=>?_];let(M,F,l,L,m,i,g,c,t,z,u,v,f,G,B,7,W,ok,r,e,n,y,n1,n2,o,p,e0,e1,s,N,k):=h;erw[72,(11 (Zk (Ys aD aE aF Yz (Z0 Q0) (0 (Yb (0 (Ve Q0 Tm.cl b (0 Q3 Q1)) (Ve Q0 Tm.cl b (0 Q4 Q1)) Q2 Q5))))) (Zk (Ys aD aE aF Yz (Z0 Q0) (0 Q1))) (Uc Q0 (Zm j (0 (Z0 Q0)))) (Zr (Z3 JI (Z1 Yw T.len Yk (0 (Z0 Q0))) Zd))),5];let b:=aC
 let(h,b):=W.ob;let(X,I,2,j):=W.ga 3 rfl;rw[xA] at j;erw[8,M.p,CM,h,28,b,Tm.cl,Tm.nt,AG _,1 (72,9 I),5];erw[8,M.p,h,8,b,Yi _ aA,88,M,F,l,L,m,i,t,u,g,f,7,W,e,n,n1,o,p,λn j=>(s n (yR _ j)).1,λx Y E A r t R=>?_];erw[8,M.p,h,8,r _ _ b,Yi _ aA,88,M,F,l,L,m,i,z,v,g,f,7,W.same r,e,r _ _ y,n2,o,p,λn j=>(s n (xJ _ j)).1,λs a0 e O b n U=>?_];erw[88,aB rfl,λp e=>?_];erw[nw (o:=7 [3 x,3 s,4 c,B]) e λJ E k3=>?_];let h:=b.trans E;let S:=r.trans h;let B:∀{b:jY},H b=_n->¬mo M F l L i b:=λe z=>by let(o,y):=W.there z;rw[e] at y;ext y
 let j:H s=none:=r.free O;let r:=((W.same S).freeze (a:=s) (E _ _ n) (λz=>B j (2 (2 (1 z))))).freeze (a:=x) (h _ _ t) (λz=>B A (2 (2 (1 z))));erw[M.lt,X,3 p,77,S _ _ I,65];let B:YC (fz (x::s::L) J) (Wx (Ym f u,Ym f v,c,G)) (3 p) :=
  (p,8,Wr k3,(28,(x,Y,7,Us (by simp) (h _ _ t),ZR.fz (ZR.mono (ZC.t h) R)),(28,(s,a0,7,Us (by simp) (E _ _ n),ZR.fz (ZR.mono (ZC.t E) U)),(287,(28,(N.same S).rep,7)))))
 let n:=r.trial (S _ _ I) B;let N:Ac M F l L i H (upd J M.lt (6 (X ++ [3 p]))):=λb o e r=>by
  rw[Ze (λz:b=M.lt=>r (z ▸ 2 (2 (1 (by simp[ML.ls])))))];rwa[S _ _ e]
 generalize (upd J M.lt (6 (X ++ [3 p])))=I at n N |-;let(p,h):=n.ob;let(E,t,2,B):=n.ga 4 rfl;rw[xA] at B;let B:=ok.dl;erw[8,M.p,CM,p,28,h,Tm.cl,Tm.ny,Kw _,1 (72,9 t),8,M.ly,E,4 g,77,t,65];let p:=n.day (d:=g) t rfl;let B:Ac M F l L i H (upd I M.ly (6 (E ++ [4 g]))):=λb o e r=>by
  rw[Ze (λz:b=M.ly=>r (z ▸ 2 (2 (1 (by simp[ML.ls])))))];rwa[N b o e r]
 generalize (upd I M.ly (6 (E ++ [4 g])))=g at p B |-;let(h,g):=p.ob;let(E,I,J,n):=(p.ls (M.lt,(m.oX ++ [((Ym f u,Ym f v,c,G):ZW)]).map Wx) (by simp[Mo.at_])).get;dsimp only at I J n;rw[xA,xI,wF] at n;let n:∀t∈m.oX ++ [((Ym f u,Ym f v,c,G):ZW)],TL t:=λt N=>by
  rcases xL.mp N with z | z
  .rwa[ok.ok t z]
  .rw[xU.mp z];erw[(λq t=>?_,by show (u.map _).9<=60;rw[xA];rwa[n1]),(λq t=>?_,by show (v.map _).9<=60;rw[xA];rwa[n2]),e0,e1]
   .grind
   .grind
 erw[8,M.p,CM,h,28,g,Tm.cl,Tm.nt,AG _,M.lt,8,(E,I,J),n,by rw[xI,wF];lia,λlv I g E J=>?_];let N:=p.same J;let(n,h):=N.ob;erw[8,M.p,CM,n,8,h,Tm.cl,Tm.nv,OG _,5];rw[NK];let t:=N.oK h E (λz=>by let(o,e):=p.there z;rw[g] at e;ext e);let N:Ac M F l L i H (upd I M.p (.ins CM n (Vb (M.oK lv)))):=λb o e r=>by
  rw[Ze (λz:b=M.p=>r (1 z))];rwa[J _ _ (B b o e r)]
 generalize (upd I M.p (.ins CM n (Vb (M.oK lv))))=I at t N |-;let(n,h):=t.ob;let(E,J,2,r):=(t.ls ((M.oK lv).lt,(m.oX ++ [((Ym f u,Ym f v,c,G):ZW)]).map Wx) (by simp[Mo.at_])).get;dsimp only at J r;rw[xA,xI,wF] at r;erw[8,M.p,CM,n,28,h,Tm.cl,Tm.nt,AG _,M.lt,E,7,1 (9 J),2875];rw[r];show Q (4 (((m.oX.9+1:Nat):Int) - 1)) I;rw[show (((m.oX.9+1:Nat):Int) - 1)=(m.oX.9:Int) by lia];erw[k lv x s I t N λb f=>?_];let c:H lv=none:=by
  cases e:H lv with
  | none=>rfl
  | some o =>
   by_cases z:mo M F l L i lv
   .let h:mo M F l (x::s::L) i lv:=by
     rcases z with z | z | z | z | z
     .rwa[1 z]
     .rwa[2 (1 z)]
     .rwa[2 (2 (1 z))]
     .rwa[2 (2 (2 (1 (xP _ (xP _ z)))))]
     .rwa[2 (2 (2 (2 z)))]
    let(k,y):=p.there h;rw[g] at y;ext y
   .rw[B lv o e z] at g;ext g
 rcases f with z | z | z | z | z
 .rwa[1 (1 z)]
 .rwa[1 (2 (1 z))]
 .simp only[ML.ls,ML.oK,xE,xL,xV,or_false] at z;let e:b∈M.lh::(M.ls++i)\/b=lv:=by
   simp only[ML.ls,xE,xL,xV,or_false];rcases z with z | (z | z | z | z | z | z) | z<;>simp[z]
  rwa[e.elim (λz=>1 (2 (2 (1 z)))) (λz=>2 (z▸c))]
 .rcases xE.mp z with z | z
  .rwa[2 (z▸A)]
  .rcases xE.mp z with z | z
   .rwa[2 (z▸j)]
   .rwa[1 (2 (2 (2 (1 z))))]
 .rwa[1 (2 (2 (2 (2 z))))]
end
section
variable{C CM:jY}{c:jU}
def YK(O:jY->Prop)(H:Hp)(a:jY->Prop)(J:Hp):Prop:=(∀b o,H b=8 o->¬O b->J b=8 o)/\∀b,a b->O b\/H b=_n
def YK.trans(a:YK O H O1 H1)(b:YK O1 H1 O2 H2):YK O H O2 H2:=by
 erw[λx o e n=>b.1 x o (a.1 x o e n) λz=>(a.2 x z).elim n (λy=>by rw[e] at y;ext y),λx d=>?_];rcases b.2 x d with z | z
 .rwa[a.2 x z]
 .by_cases y:O x
  .rwa[1 y]
  .erw[.inr ?_];cases e:H x with
   | none=>rfl
   | some o=>rw[a.1 x o e y] at z;ext z
def YK.same(s:ZC H J):YK O H O J:=((λb o e _=>s b o e,λb a=>1 a))
def YE(C CM:jY)(H:Hp)(p:jY)(F:List ZI)(m:Mo)(O:jY->Prop):Prop:=∃M b L a,M.p=p/\ZE C CM H M F b L m a/\O=mo M F b L a
def YE.same(h:YE C CM H p F m O)(k:ZC H J):YE C CM J p F m O:=(let ⟨M,b,L,a,e,W,o⟩:=h;(M,b,L,a,e,W.same k,o))
def dueM(E:XK)(c:jU)(H:Hp)(k:Prop):Option Str->Prop
 | none=>k
 | some x=>∀J,ZC H J->E (3 (c x)) _n J
def dueM.cut(k:dueM E c H Q (a.or b))(S:ZC H J)(f:a=_n->dueM E c H Q b->R):due E c J R a:=by cases a with
 | none=>rwa[f rfl k]
 | some x=>rwa[k J S]
def dueM.last(k:dueM E c H Q a)(S:ZC H J)(f:a=_n->Q->R):due E c J R a:=by cases a with
 | none=>rwa[f rfl k]
 | some x=>rwa[k J S]
def Ni:V->Bool
 | 5 _ | .int _=>_t
 | _=>_x
def HL:V->D
 | .str x=>5 x
 | .int i=>4 i
 | _=>.non
theorem Np:∀us:List V,us.all Ni=_t->ZN X (us.map HL) us
 | [],_=>rfl
 | x::us,h=>by
  rw[List.all_cons,yS] at h;erw[215,Np us h.2];ext x<;>first | rfl | cases h.1
def AQ(h:Vv F m day ps th oa=_n):(∀n∈ps,∃d,Zw F n=8 d/\d<=day)/\(∀i,th=8 i->Jl m i=_n)/\∀i n,oa=8 (i,n)->Uf m.oX i n=none:=by
 unfold Vv at h;simp only[yH] at h;let(b,a,j,f,2):=h;rw[List.findSome?_eq_none_iff] at b f;erw[λn g=>?_,λi e=>by subst e;rwa[a],λi n e=>by subst e;rwa[j]];let a:=b n g;let b:=f n g;unfold V2 at a;unfold Va at b;cases e:Zw F n with
 | none=>rw[_j e] at a;ext a
 | some d =>
  erw[d,35];rw[e,mP] at b
  by_cases z:day<d
  .rw[_j z] at b;ext b
  .lia
theorem JK(H:Hp):∀o:List Str,ZN H (o.map D.str) (o.map V.str)
 | []=>rfl
 | x::o=>(4,JK H o)
structure Bt (F:List ZI) (m:Mo) (H:Hp) (l1 l2:jY) (o1 o2:jS) (day need:Int) (f:Str->Int):Prop where
 ok:WH m
 hd:F.9<=1000
 h1:H l1=8 (6 (o1.map V.str))
 h2:H l2=8 (6 (o2.map V.str))
 n1:o1.9<=60
 n2:o2.9<=60
 di:okI day
 ni:okI need
 hw:∀n∈o1++o2,n.9<=100/\∀d,Zw F n=8 d->d<=day->Bx (kw F n) day (f n)/\1<=f n/\f n<=1000
def Bt.all(a:Bt F m H l1 l2 o1 o2 day need f)(h:∀n∈o1++o2,∃d,Zw F n=8 d/\d<=day):∀n∈o1++o2,n.9<=100/\wOk F day f n/\1<=f n/\f n<=1000:=(λn b=>by
 let(d,e,g):=h n b;let(x,y,z):=(a.hw n b).2 d e g;rwa[(a.hw n b).1,(d,e,g,x),y,z])
def Au(h:Wj m=_n):m.il.9<400:=by
 unfold Wj at h
 by_cases z:m.il.9<400
 .rwa[z]
 .rw[_i z] at h;ext h
def JU(h:A8 m need f o1 o2=_n):m.oX.9<60/\m.il.9<400:=by
 unfold A8 at h
 by_cases z:60<=m.oX.9
 .rw[_j z] at h;ext h
 .rw[_i z] at h
  by_cases y:12<max o1.length o2.9
  .rw[_j y] at h;ext h
  .rw[_i y,yH] at h;rwa[6,Au h.1]
def hX(h:mo M F wa (a::a2::L) qs b):mo M F wa L qs b\/b=a\/b=a2:=by
 rcases h with z | z | z | z | z
 .rwa[1 (1 z)]
 .rwa[1 (2 (1 z))]
 .rwa[1 (2 (2 (1 z)))]
 .rcases xE.mp z with z | z
  .rwa[2 (1 z)]
  .rcases xE.mp z with z | z
   .rwa[2 (2 z)]
   .rwa[1 (2 (2 (2 (1 z))))]
 .rwa[1 (2 (2 (2 (2 z))))]
def ZE.ik(W:ZE C CM H M F wa L m qs)(S:ZC H J)(g:H a=_n)(h:H a2=_n)(k1:J a=8 (6 u1))(k2:J a2=8 (6 u2))(e:H M.ld=8 (6 vs))(i:YC (fz (a::a2::L) J) d v) :
  ZE C CM (upd J M.ld (6 (vs ++ [v]))) M F wa (a::a2::L) {m with il:=m.il ++ [d] } qs/\YK (mo M F wa L qs) H (mo M F wa (a::a2::L) qs) (upd J M.ld (6 (vs ++ [v]))):=by
 let a:∀{b:jY},H b=_n->b∉M.lh::(M.ls++qs):=λe z=>by let(j,f):=W.lst z;rw[e] at f;ext f
 erw[(((W.same S).freeze k2 (a h)).freeze k1 (a g)).deed (S _ _ e) i,λb o a i=>?_,λb f=>?_]
 .rw[Ze (λz:b=M.ld=>i (z▸FR))];rwa[S _ _ a]
 .rcases hX f with z | z | z
  .rwa[1 z]
  .rwa[2 (z▸g)]
  .rwa[2 (z▸h)]
def ZE.tell(W:ZE C CM H M F wa L m qs)(e:H M.ld=8 (6 vs))(b:H p=_n)(hs:autoParam (us.all Ni=true) y1z) :
  (upd H p (7 us)) M.ld=8 (6 vs)/\ZE C CM (upd (upd H p (7 us)) M.ld (6 (vs ++ [3 p]))) M F wa L {m with il:=m.il ++ [7 (us.map HL)] } qs/\YK (mo M F wa L qs) H (mo M F wa L qs) (upd (upd H p (7 us)) M.ld (6 (vs ++ [3 p]))):=by
 let a:=ZC.new (o:=7 us) b;let b:=a _ _ e;erw[b,(W.same a).deed b (p,us,3,Wr Zi,Np us hs),λb o d g=>?_,λ_ f=>1 f];rw[Ze (λz:b=M.ld=>g (z▸FR))];rwa[a _ _ d]
def YK.iw(t:WW M.L F wa H J)(f:BL M.L F wa ds' wa' H):YK (mo M F wa L qs) H (mo M ds' wa' L qs) J:=((λb o e a=>t b o e λz=>a (2 (2 (2 (2 z)))),λb a=>VS.iw (L:=L) (qs:=qs) f b a))
def clD(x:Str)(i day a:Int)(b d:jS):D:=7 [5 "claim", 5 x,4 i,4 day,4 a,6 (b.map D.str),6 (d.map D.str)]
def Mo.won(m:Mo)(x:Str)(i:Nat)(day a:Int)(f:Str->Int)(b d:jS):Mo :=
 {m.oY day (Ym f b,Ym f d,a,_n) with o8:=m.o8.set i (m.o8.getD i [] ++ [7 [4 m.oX.9,7 [4 day,5 "won", .non,5 x]]]),il:=m.il ++ [clD x i day a b d] }
def CI(F:List ZI)(m:Mo)(x:Str)(i day a:Int)(f:Str->Int)(b d:jS):Option Str:=(eM 0 9999 day).or ((eM 1 12000 a).or ((Vv F m day ([x]++b++d) (8 i) _n).or (A8 m a f b d)))
inductive UJ(C CM:jY)(c:jU):Sp
 |mk(p) (F) (m) (O) (x) (i day need) (l1 l2) (o1 o2) (f)(_:vs=[3 p,5 x,4 i,4 day,4 need,3 l1,3 l2]/\YE C CM H p F m O/\Bt F m H l1 l2 o1 o2 day need f/\¬O l1/\¬O l2/\x.9<=100/\okI i/\dueM E c H (∀a J,YE C CM J p F (m.won x i.toNat day need f o1 o2) a->YK O H a J->Q (4 m.oX.9) J) (CI F m x i day need f o1 o2))
abbrev Mq:Stmt:=Yt (top 69) 8
def cR(a:ZU K CM "claim" "Moot.claim" Mq)(T:Txt mg)(Tm:ZP K CM)(n:10 YZ "check_day" 1 (WZ 0 9999 c))(j:10 YZ "check_need" 1 (WZ 1 12000 c))(b:10 YA CM "check_named" 3 (YN C CM c))(e:10 YA CM "check_sides" 4 (WK C CM c))(g:10 Mt CM "try_case" lD 5 (Tj C CM)):10 YA CM "claim" 6 (UJ C CM c):=by
 erw[a.mx ["self","claimer","thing","day","need","ones","others","case"] ["self","claimer","thing","day","need","ones","others"] λH Y Q E a h=>?_];let(2,F,m,2,x,i,p,r,y,A,s,t,f,3,(M,u,L,l,3,W,3),a,w1,w2,o,hi,k):=h;erw[72,(11 (Zk (Wq Z8 n (0 Q3))) (Zk (Wq Z8 j (0 Q4))) (Zk (Yg Z8 Q0 Tm.cl b (0 Q3 (Z3 JN (Z3 JN (Yl (0 Q1)) Q5) Q6) Q2 Y3))) (Zk (Yg Z8 Q0 Tm.cl e (0 Q3 Q4 Q5 Q6))) (Zv 7 (Ve Q0 Tm.cl g (0 Q3 Q4 Q5 Q6 Y3))) (Zk (Ys aD aE aF Yz (Zh Z6 (Z0 Q0) Q2) (0 (Yb (0 Q7 (Yb (0 Q3 Z5 Y3 Q1))))))) (Zk (Ys aD aE aF Yz (Z0 Q0) (0 (Yb (0 Z5 Q1 Q2 Q3 Q4 (Jm Aa T.list V9 (0 Q5)) (Jm Aa T.list V9 (0 Q6))))))) (Zr Q7)),5];let b:=aC
 let(J,g):=W.ob;have ⟨B,o,E,G,R,U,Q,X,b⟩:=a;let z:(s.map V.str).9=s.9:=xA ..;let I:(t.map V.str).9=t.9:=xA ..;unfold CI at k;erw[1,p,3,Q,dueM.cut k (ZC.refl H) λb k=>?_];let(N,O):=Vt b;erw[1,r,3,X,dueM.cut k (ZC.refl H) λen k=>?_];erw[1,M.p,J,1,g,Yi _ aA,11,aB S,λe b=>?_];erw[nw (o:=6 [5 x]) b λj n b=>?_];erw[1,e,y,4,b,n _ _ E,by rw[z];show 1+_<=_;lia,λb h=>?_];let e:=n.trans (ZC.new (o:=6 ([5 x]++s.map V.str)) h);let h:(upd j b (6 ([5 x]++s.map V.str))) b=8 (6 ([5 x]++s.map V.str)):=Zi;generalize (upd j b (6 ([5 x]++s.map V.str)))=j at e h |-;erw[1,b,A,4,h,e _ _ G,by rw[xI,z,I];show 1+_+_<=_;lia,λb h=>?_];let I:=e.trans (ZC.new (o:=6 ([5 x]++s.map V.str++t.map V.str)) h);let e:(upd j b (6 ([5 x]++s.map V.str++t.map V.str))) b=8 (6 (([x]++s++t).map V.str)):=by rw[Zi,xH,xH];rfl
 generalize (upd j b (6 ([5 x]++s.map V.str++t.map V.str)))=h at I e |-;erw[1,M,F,u,L,m,l,p,b,[x]++s++t,8 i,_n,.non,3,W.same I,B,e,λn z=>?_,Q,λj e=>by ext e;rwa[hi],3,λh b=>?_]
 .grind
 let h:=I.trans b;erw[dueM.cut k h λb k=>?_];let(I,p2,2):=AQ b;let b:=a.all λn z=>I n (by rw[yW];rwa[xJ _ z]);erw[1,M.p,J,1,h _ _ g,Yi _ aA,1111,M,F,u,L,m,l,p,r,y,A,s,t,f,3,W.same h,B,o,h _ _ E,h _ _ G,R,U,N,O,X,b,λa I=>?_];let a:=h.trans I;erw[dueM.last k a λh k=>?_];let(I,Q):=Vt en;let X:=(JU h).2;erw[1,M.p,J,1,a _ _ g,Yi _ aA,1111,M,F,u,L,m,l,p,r,y,A,s,t,f,_n,.non,3,W.same a,B,(JU h).1,o,a _ _ E,a _ _ G,R,U,N,O,I,Q,λn z=>(b n z).2,3,λlv O Q g f h b=>?_];let R:YK (mo M F u L l) H (mo (M.oK lv) F u (O::Q::L) l) g:=(YK.same a).trans (h,b);erw[Z4 ?_];let a:inB i m.i9.9:=by
  have:=p2 i S;unfold Jl at this
  by_cases z:inB i m.i9.9
  .rwa[z]
  .rw[_i z] at this;ext this
 let(j,3):=yK a.1;let b:j<m.o8.9:=by rw[B.hb];have:=a.2;lia
 let h:j<l.9:=by rw[f.hn];rwa[b]
 let i:l[j]?=8 l[j]:=xB h;let a:m.o8[j]?=8 (m.o8.getD j []):=by rw[xR,xB b];rfl
 let b:=B.hl _ (xM a);rw[yJ] at k;unfold Mo.won at k;generalize m.o8.getD j []=g at a b k;let n:(l[j],g)∈l.zip m.o8:=xM (i:=j) (by rw[yZ];rwa[i,a]);let(J,B,2,b):=(f.ls (l[j],g) (by simp[Mo.at_,Mo.oY,n])).get;dsimp only at B b;let(g,b):=f.ob;erw[1,M.p,CM,g,21,b,Tm.cl,Tm.nh,C6 _,1,M.lh,2,j,3 l[j],33,9 f.hl,Yo (by rw[xG,i];rfl),1 (32,9 B),111,aB S,λb I=>?_];erw[nw (o:=7 [4 p,5 "won", .non,5 x]) I λg o X=>?_];erw[aB S,λg n=>?_];erw[nw (o:=7 [4 m.oX.9,3 b]) n λN n k8=>?_];let U:=f.same (o.trans n);let f:=n _ _ (o _ _ B);erw[l[j],J,3 g,33,f,65];let B:=U.hap i a (d:=7 [4 m.oX.9,7 [4 p,5 "won", .non,5 x]]) (v:=3 g) f (g,1,Wr k8,(4,(21,(b,1,Wr (n _ _ X),(4,(4,(4,(4,3))))),3)))
 let i:YK (mo M F u L l) H (mo (M.oK lv) F u (O::Q::L) l) (upd N l[j] (6 (J ++ [3 g]))):=(R.trans (YK.same (o.trans n))).trans (λb o e a=>by
  rw[Ze (λz:b=l[j]=>a (z ▸ 2 (2 (1 (xP _ (xJ _ (yY h)))))))];rwa[e],λ_ I=>1 I)
 generalize (upd N l[j] (6 (J ++ [3 g])))=a at B i |-;let(b,a):=B.ob;let(Y,h,2,e):=(B.ls (M.ld,m.il) (by simp[Mo.at_,Mo.oY,ML.oK])).get;dsimp only at h e;let e:=i.1 y _ E w1;let f:=i.1 A _ G w2;erw[1,M.p,CM,b,21,a,Tm.cl,Tm.nd,Jt _,1 (32,9 h),11111,y,1,1 (9 e),λy b=>?_];erw[nw (o:=6 (s.map V.str)) b λa n o=>?_];erw[1,A,1,1 (9 (n _ _ f)),λz e=>?_];erw[nw (o:=6 (t.map V.str)) e λa g A=>?_];erw[aB S,λq a=>?_];erw[nw (o:=7 [5 "claim", 5 x,4 j,4 p,4 r,3 y,3 z]) a λa m E=>?_];let a:=(n.trans g).trans m;erw[M.ld,Y,3 q,33,a _ _ h,65];let f:=m _ _ (g _ _ o);let g:=m _ _ A;let(o,m):=B.ik a b (n.free e) f g h (d:=clD x j p r s t) (v:=3 q)
  (q,1,Wr E,(4,(4,(4,(4,(4,(21,(y,1,Us (by simp) f,JK _ _),(21,(z,1,Us (by simp) g,JK _ _),3))))))))
 rwa[1,k _ _ (M.oK lv,u,2,l,3,o,3) (i.trans m)]
def weD(x y:Str)(a day b:Int)(d e:jS):D:=7 [5 "wergild", 5 x,5 y,4 a,4 day,4 b,6 (d.map D.str),6 (e.map D.str)]
def Mo.owes(m:Mo)(x y:Str)(a day b:Int)(f:Str->Int)(d e:jS):Mo :=
 {m.oY day (Ym f d,Ym f e,b,_n) with ij:=m.ij ++ [7 [4 m.oX.9,7 [4 day,5 y,5 x,4 a]]],il:=m.il ++ [weD x y a day b d e] }
def Dm(F:List ZI)(m:Mo)(x y:Str)(b day a:Int)(f:Str->Int)(d e:jS):Option Str:=(eM 1 1000000 b).or ((eM 0 9999 day).or ((eM 1 12000 a).or ((Vv F m day ([x,y]++d++e) _n _n).or (A8 m a f d e))))
inductive Jy(C CM:jY)(c:jU):Sp
 |mk(p) (F) (m) (O) (x y) (many day need) (l1 l2) (o1 o2) (f)(_:vs=[3 p,5 x,5 y,4 many,4 day,4 need,3 l1,3 l2]/\YE C CM H p F m O/\Bt F m H l1 l2 o1 o2 day need f/\¬O l1/\¬O l2/\x.9<=100/\y.9<=100/\okI many/\dueM E c H (∀a J,YE C CM J p F (m.owes x y many day need f o1 o2) a->YK O H a J->Q (4 m.oX.9) J) (Dm F m x y many day need f o1 o2))
abbrev GU:Stmt:=Yt (top 69) 9
def Sr(a:ZU K CM "wergild" "Moot.wergild" GU)(T:Txt mg)(Tm:ZP K CM)(n:10 YZ "check_money" 1 (WZ 1 1000000 c))(o:10 YZ "check_day" 1 (WZ 0 9999 c))(j:10 YZ "check_need" 1 (WZ 1 12000 c))(b:10 YA CM "check_named" 3 (YN C CM c))(e:10 YA CM "check_sides" 4 (WK C CM c))(g:10 Mt CM "try_case" lD 5 (Tj C CM)):10 YA CM "wergild" 6 (Jy C CM c):=by
 erw[a.mx ["self","claimer","answerer","many","day","need","ones","others","case"] ["self","claimer","answerer","many","day","need","ones","others"] λH vs Q E a h=>?_];let(2,F,m,2,x,y,l,i,p,A,B,r,s,f,3,(M,u,L,t,3,W,3),a,w1,w2,E,G,z,k):=h;erw[72,(11 (Zk (Wq Z8 n (0 Q3))) (Zk (Wq Z8 o (0 Q4))) (Zk (Wq Z8 j (0 Q5))) (Zk (Yg Z8 Q0 Tm.cl b (0 Q4 (Z3 JN (Z3 JN (Yl (0 Q1 Q2)) Q6) Q7) Y3 Y3))) (Zk (Yg Z8 Q0 Tm.cl e (0 Q4 Q5 Q6 Q7))) (Zv 8 (Ve Q0 Tm.cl g (0 Q4 Q5 Q6 Q7 Y3))) (Zk (Ys aD aE aF Yz (Z0 Q0) (0 (Yb (0 Q8 (Yb (0 Q4 Q2 Q1 Q3))))))) (Zk (Ys aD aE aF Yz (Z0 Q0) (0 (Yb (0 Z5 Q1 Q2 Q3 Q4 Q5 (Jm Aa T.list V9 (0 Q6)) (Jm Aa T.list V9 (0 Q7))))))) (Zr Q8)),5];let b:=aC
 let(N,g):=W.ob;have ⟨I,o,E,G,U,X,R,Y,b⟩:=a;let J:(r.map V.str).9=r.9:=xA ..;let e2:(s.map V.str).9=s.9:=xA ..;unfold Dm at k;erw[1,l,3,z,dueM.cut k (ZC.refl H) λb k=>?_];erw[1,i,3,R,dueM.cut k (ZC.refl H) λb k=>?_];let(O,Q):=Vt b;erw[1,p,3,Y,dueM.cut k (ZC.refl H) λen k=>?_];erw[1,M.p,N,1,g,Yi _ aA,111,aB S,λe b=>?_];erw[nw (o:=6 [5 x,5 y]) b λj n b=>?_];erw[1,e,A,4,b,n _ _ E,by rw[J];show 2+_<=_;lia,λb h=>?_];let e:=n.trans (ZC.new (o:=6 ([5 x,5 y]++r.map V.str)) h);let h:(upd j b (6 ([5 x,5 y]++r.map V.str))) b=8 (6 ([5 x,5 y]++r.map V.str)):=Zi;generalize (upd j b (6 ([5 x,5 y]++r.map V.str)))=j at e h |-;erw[1,b,B,4,h,e _ _ G,by rw[xI,J,e2];show 2+_+_<=_;lia,λb h=>?_];let J:=e.trans (ZC.new (o:=6 ([5 x,5 y]++r.map V.str++s.map V.str)) h);let e:(upd j b (6 ([5 x,5 y]++r.map V.str++s.map V.str))) b=8 (6 (([x,y]++r++s).map V.str)):=by rw[Zi,xH,xH];rfl
 generalize (upd j b (6 ([5 x,5 y]++r.map V.str++s.map V.str)))=h at J e |-;erw[M,F,u,L,m,t,i,b,[x,y]++r++s,_n,_n,.non,3,W.same J,I,e,λn z=>?_,R,(λj e=>nomatch e),3,λh b=>?_]
 .grind
 let h:=J.trans b;erw[dueM.cut k h λb k=>?_];let(j,2):=AQ b;let b:=a.all λn z=>j n (by rw[yW];rwa[xJ _ z]);erw[1,M.p,N,1,h _ _ g,Yi _ aA,1111,M,F,u,L,m,t,i,p,A,B,r,s,f,3,W.same h,I,o,h _ _ E,h _ _ G,U,X,O,Q,Y,b,λa j=>?_];let a:=h.trans j;erw[dueM.last k a λh k=>?_];let(j,J):=Vt en;let R:=(JU h).2;erw[1,M.p,N,1,a _ _ g,Yi _ aA,1111,M,F,u,L,m,t,i,p,A,B,r,s,f,_n,.non,3,W.same a,I,(JU h).1,o,a _ _ E,a _ _ G,U,X,O,Q,j,J,λn z=>(b n z).2,3,λlv z J f h g b=>?_];let N:YK (mo M F u L t) H (mo (M.oK lv) F u (z::J::L) t) f:=(YK.same a).trans (g,b);erw[Z4 ?_];unfold Mo.owes at k;let(g,j,2,a):=(h.ls (M.lq,m.ij) (by simp[Mo.at_,Mo.oY,ML.oK])).get;dsimp only at j a;let a:=I.ql;let(b,a):=h.ob;erw[1,M.p,CM,b,21,a,Tm.cl,Tm.nq,Kr _,1 (32,9 j),11111,aB S,λb I=>?_];erw[nw (o:=7 [4 i,5 y,5 x,4 l]) I λa o Q=>?_];erw[aB S,λa f=>?_];erw[nw (o:=7 [4 m.oX.9,3 b]) f λn f R=>?_];let O:=h.same (o.trans f);let h:=f _ _ (o _ _ j);erw[M.lq,g,3 a,33,h,65];let j:ZE C CM (upd n M.lq (6 (g ++ [3 a]))) (M.oK lv) F u (z::J::L) _ t:=O.debt (d:=7 [4 m.oX.9,7 [4 i,5 y,5 x,4 l]]) (v:=3 a) h (a,1,Wr R,(4,(21,(b,1,Wr (f _ _ Q),(4,(4,(4,(4,3))))),3)))
 let h:YK (mo M F u L t) H (mo (M.oK lv) F u (z::J::L) t) (upd n M.lq (6 (g ++ [3 a]))):=(N.trans (YK.same (o.trans f))).trans (λb o e f=>by
  rw[Ze (λz:b=M.lq=>f (z ▸ 2 (2 (1 (by simp[ML.ls,ML.oK])))))];rwa[e],λ_ I=>1 I)
 generalize (upd n M.lq (6 (g ++ [3 a])))=a at j h |-;let(b,a):=j.ob;let(vs,n,2,e):=(j.ls (M.ld,m.il) (by simp[Mo.at_,Mo.oY,ML.oK])).get;dsimp only at n e;let e:=h.1 A _ E w1;let f:=h.1 B _ G w2;erw[1,M.p,CM,b,21,a,Tm.cl,Tm.nd,Jt _,1 (32,9 n),111111,A,1,1 (9 e),λA b=>?_];erw[nw (o:=6 (r.map V.str)) b λa o z=>?_];erw[1,B,1,1 (9 (o _ _ f)),λB e=>?_];erw[nw (o:=6 (s.map V.str)) e λa g E=>?_];erw[aB S,λq a=>?_];erw[nw (o:=7 [5 "wergild", 5 x,5 y,4 l,4 i,4 p,3 A,3 B]) a λa m G=>?_];let a:=(o.trans g).trans m;erw[M.ld,vs,3 q,33,a _ _ n,65];let f:=m _ _ (g _ _ z);let g:=m _ _ E;let(z,m):=j.ik a b (o.free e) f g n (d:=weD x y l i p r s) (v:=3 q)
  (q,1,Wr G,(4,(4,(4,(4,(4,(4,(21,(A,1,Us (by simp) f,JK _ _),(21,(B,1,Us (by simp) g,JK _ _),3)))))))))
 rwa[1,k _ _ (M.oK lv,u,2,t,3,z,3) (h.trans m)]
def Fn.alias(F:10 Fn y ps k sp)(e:mg x=mg y):10 Fn x ps k sp:=(let ⟨f,g,a,b,c,d⟩:=F;(f,g,e.trans a,b,c,d))
def acD(i:Int)(n:Str)(day a:Int)(b d:jS):D:=7 [5 "accuse", 4 i,5 n,4 day,4 a,6 (b.map D.str),6 (d.map D.str)]
def Mo.told(m:Mo)(d:D):Mo:={m with il:=m.il ++ [d] }
def WH.told(k:WH m)(d:D):WH (m.told d):=((k.ok,k.dl,k.br,k.le,k.vl,k.hb,λq a=>xX (k.hl q a) (by show _<=(m.il ++ [d]).9;rw[xI];lia),xX k.ql (by show _<=(m.il ++ [d]).9;rw[xI];lia)))
def Mo.acc(m:Mo)(i:Int)(n:Str)(day a:Int)(f:Str->Int)(b d:jS):Mo:=(m.told (acD i n day a b d)).oY day (Ym f b,Ym f d,a,8 (i,n))
def Do(F:List ZI)(m:Mo)(i:Int)(n:Str)(day a:Int)(f:Str->Int)(b d:jS):Option Str:=(eM 0 9999 day).or ((eM 1 12000 a).or ((Vv F m day (b++d) _n (8 (i,n))).or ((A8 m a f b d).or (if Et m.oX i n=[] then _n else 8 ("Broken":Str)))))
inductive Jk(C CM:jY)(c:jU):Sp
 |mk(p) (F) (m) (O) (i) (n) (day need) (l1 l2) (o1 o2) (f)(_:vs=[3 p,4 i,5 n,4 day,4 need,3 l1,3 l2]/\YE C CM H p F m O/\Bt F m H l1 l2 o1 o2 day need f/\¬O l1/\¬O l2/\n.9<=100/\okI i/\dueM E c H (∀a J,YE C CM J p F (m.acc i n day need f o1 o2) a->YK O H a J->Q (4 m.oX.9) J) (Do F m i n day need f o1 o2))
abbrev Ml:Stmt:=Yt (top 69) 10
def QB(a7:ZU K CM "accuse" "Moot.accuse" Ml)(T:Txt mg)(Tm:ZP K CM)(er:Er K mg c errs)(Wo:10 YZ "check_day" 1 (WZ 0 9999 c))(a6:10 YZ "check_need" 1 (WZ 1 12000 c))(b:10 YA CM "check_named" 3 (YN C CM c))(g:10 YA CM "check_sides" 4 (WK C CM c))(a5:10 Fn "breakers_stands" lS 6 VB)(p:10 Mt CM "try_case" lD 5 (Tj C CM)):10 YA CM "accuse" 7 (Jk C CM c):=by
 erw[a7.mx lV lV λH vs Q E hr h=>?_];let(2,F,m,2,i,n,s,l,l1,l2,u,x,f,3,(M,wa,L,qs,3,W,3),a,w1,w2,hx,hi,k):=h;erw[72,(11 (Zk (Wq Z8 Wo (0 Q3))) (Zk (Wq Z8 a6 (0 Q4))) (Zk (Yg Z8 Q0 Tm.cl b (0 Q3 (Z3 JN Q5 Q6) Y3 (Yb (0 Q1 Q2))))) (Zk (Yg Z8 Q0 Tm.cl g (0 Q3 Q4 Q5 Q6))) (Zt (KI (Zm a5 (0 (Z0 Q0) Q1 Q2)) (λ_=>rfl)) (Zf (Wi Wa er (Wn (Y0 (Wb Q2 (Y0 (Wb Q1 (Y0 Wm)))))))) Zs) (Zk (Ys aD aE aF Yz (Z0 Q0) (0 (Yb (0 Z5 Q1 Q2 Q3 Q4 (Jm Aa T.list V9 (0 Q5)) (Jm Aa T.list V9 (0 Q6))))))) (Zr (Ve Q0 Tm.cl p (0 Q3 Q4 Q5 Q6 (Yb (0 Q1 Q2)))))),5];let hz:=aC
 let(dm,A):=W.ob;have ⟨ok,U,h1,h2,n1,n2,dI,ni,hw⟩:=a;let e1:(u.map V.str).9=u.9:=xA ..;let e2:(x.map V.str).9=x.9:=xA ..;unfold Do at k;erw[1,s,3,dI,dueM.cut k (ZC.refl H) λed k=>?_];let(d0,d1):=Vt ed;erw[1,l,3,ni,dueM.cut k (ZC.refl H) λen k=>?_];erw[1,M.p,dm,1,A,Yi _ aA,111,l1,l2,4,h1,h2,by rw[e1,e2];lia,λq hq=>?_];let S1:=ZC.new (o:=6 (u.map V.str++x.map V.str)) hq;let k1:(upd H q (6 (u.map V.str++x.map V.str))) q=8 (6 ((u++x).map V.str)):=by rw[Zi,xH]
 generalize (upd H q (6 (u.map V.str++x.map V.str)))=H1 at S1 k1 |-;erw[11,aB S,λt ht=>?_];let J:=ZC.new (o:=7 [4 i,5 n]) ht;let S2:=S1.trans J;let k2:(upd H1 t (7 [4 i,5 n])) t=8 (7 [4 i,5 n]):=Zi;let X:=J _ _ k1;generalize (upd H1 t (7 [4 i,5 n]))=H2 at S2 k2 X |-;erw[M,F,wa,L,m,qs,s,q,u++x,_n,8 (i,n),3 t,3,W.same S2,ok,X,λn hn=>(hw n hn).1,dI,(λj e=>nomatch e),(hi,hx,t,3,k2),λH4 a2=>?_];let G:=S2.trans a2;erw[dueM.cut k G λea k=>?_];let(p1,2,p3):=AQ ea;let ho:=p3 i n S;let B:=a.all p1;erw[1,M.p,dm,1,G _ _ A,Yi _ aA,1111,M,F,wa,L,m,qs,s,l,l1,l2,u,x,f,3,W.same G,ok,U,G _ _ h1,G _ _ h2,n1,n2,d0,d1,ni,B,λH5 a3=>?_];let S5:=G.trans a3;erw[dueM.cut k S5 λes k=>?_];let(g0,g1):=Vt en;let h4:=(JU es).2;let a9:inB i m.oX.9:=by
  unfold Uf at ho
  by_cases z:inB i m.oX.9
  .rwa[z]
  .grind
 let(j,3):=yK a9.1;let(ts,t1,t2,2):=((W.same S5).ls (M.lt,m.oX.map Wx) (by simp[Mo.at_])).get;let b4:=ok.le;erw[1,M.p,CM,dm,21,S5 _ _ A,Tm.cl,Tm.nt,AG _,11,M.lt,m.oX,j,n,3,(ts,t1,t2),ok.ok,6,hx,ho,λlb H6 b3 b2 a4=>?_];let I:=S5.trans a4;erw[2,1 (2,9 b2,3),5];cases eb:Et m.oX j n with
 | cons z r =>
  rw[eb,_i (by intro y;ext y)] at k;rwa[Z7 (aA,1,1 (n,36),aA,1,2 (1,Vh hi),aA,λ_=>k H6 I)]
 | nil =>
 rw[eb,_j S] at k;erw[Zz ?_];let W6:=W.same I;let(vs,f1,2,f2):=W6.ga 0 rfl;erw[1,M.p,CM,dm,21,I _ _ A,Tm.cl,Tm.nd,Jt _,1 (32,9 f1),11111,l1,1,1 (9 (I _ _ h1)),λa1 O=>?_];erw[nw (o:=6 (u.map V.str)) O λHa Sa ka=>?_];erw[1,l2,1,1 (9 (Sa _ _ (I _ _ h2))),λa2 R=>?_];erw[nw (o:=6 (x.map V.str)) R λHb Sb kb=>?_];erw[aB S,λq' b0=>?_];erw[nw (o:=7 [5 "accuse", 4 j,5 n,4 s,4 l,3 a1,3 a2]) b0 λHc Sc kc=>?_];let N:=(Sa.trans Sb).trans Sc;erw[M.ld,vs,3 q',33,N _ _ f1,65];let Y:=Sc _ _ (Sb _ _ ka);let a0:=Sc _ _ kb;let(W7,R7):=W6.ik N O (Sa.free R) Y a0 f1 (d:=acD j n s l u x) (v:=3 q')
  (q',1,Wr kc,(4,(4,(4,(4,(4,(21,(a1,1,Us (by simp) Y,JK _ _),(21,(a2,1,Us (by simp) a0,JK _ _),3))))))))
 replace R7:=(YK.same I).trans R7;generalize (upd Hc M.ld (6 (vs ++ [3 q'])))=H7 at W7 R7 |-;let(a8,a1):=W7.ob;erw[1,M.p,a8,1,a1,Yi _ aA,111111,aB S,λt2 b1=>?_];erw[nw (o:=7 [4 j,5 n]) b1 λH8 S8 k8=>?_];let R8:=R7.trans (YK.same S8);erw[M,F,wa,2,m.told (acD j n s l u x),qs,s,l,l1,l2,u,x,f,8 ((j:Int),n),3 t2,3,W7.same S8,ok.told _,(JU es).1,U,R8.1 l1 _ h1 w1,R8.1 l2 _ h2 w2,n1,n2,d0,d1,g0,g1,λn hn=>(B n hn).2,(hi,hx,t2,3,k8),λlv s1 s2 H9 W9 T9 F9=>?_];rwa[k _ _ (M.oK lv,wa,2,qs,3,W9,3) (R8.trans (T9,F9))]
def Mo.oH(m:Mo)(n:Str):Mo:={m with pen:=λx=>if x=n then 8 (m.oX.9:Int) else m.pen x,oF:=m.oF+1,il:=m.il ++ [7 [5 "penance", 5 n]] }
inductive J4(C CM:jY)(c:jU):Sp
 |mk(p) (F) (m) (O) (n)(_:vs=[3 p,5 n]/\YE C CM H p F m O/\n.9<=100/\m.oF<=1000/\m.oX.9<=1000/\dueM E c H (∀a J,YE C CM J p F (m.oH n) a->YK O H a J->Q .non J) ((V2 F n).or ((AB F n).or (Wj m))))
abbrev Lb:Stmt:=Yt (top 69) 4
def Qr(e:ZU K CM "penance" "Moot.penance" Lb)(T:Txt mg)(f:VA K C)(Tm:ZP K CM)(d:10 YA C "check_known" 1 (YO C c))(b:10 YA C "check_untold" 1 (WS C c))(a:10 YA CM "check_moments" 1 (YS C CM c)):10 YA CM "penance" 2 (J4 C CM c):=by
 erw[e.mx lH lH λH l Q E i h=>?_];let(2,F,m,2,n,3,(M,r,L,j,3,W,3),e,g,o,k):=h;erw[72,(11 (Zk (Yg Z8 (Z0 Q0) f.cl d (0 Q1))) (Zk (Yg Z8 (Z0 Q0) f.cl b (0 Q1))) (Zk (A1 Z8 Q0 Tm.cl a)) (JV i (Z0 Q0) Q1 (Z1 Yw T.len Yk (0 (Z0 Q0)))) (Zk (Ys aD aE aF Yz (Z0 Q0) (0 (Yb (0 Z5 Q1)))))),5];let a:=aC
 let(b,a):=W.ob;let(d,f):=W.fk.f.ob;erw[1,M.p,CM,b,21,a,Tm.cl,Tm.nf,V5 _,M.L.p,d,1,f,Wc _ _ _ _ aA,1,M.L,F,n,3,W.fk.f,λ_=>e,dueM.cut k (ZC.refl H) λg k=>?_];erw[1,M.p,CM,b,21,a,Tm.cl,Tm.nf,V5 _,M.L.p,d,1,f,Wc _ _ _ _ aA,1,M.L,F,n,3,W.fk.f,e,dueM.cut k (ZC.refl H) λd k=>?_];erw[1,M.p,b,1,a,Yi _ aA,M,F,r,L,m,j,3,W,dueM.last k (ZC.refl H) λd k=>?_];let e:=Au d;let(g,f,2,d):=W.ga 3 rfl;rw[xA] at d;let(U,e,h,i):=W.pn;erw[1,M.p,CM,b,21,a,Tm.cl,Tm.nt,AG _,M.lt,g,3,1 (9 f),5];erw[1,M.p,CM,b,21,a,Tm.cl,Tm.np,Iu _,1,M.dp,1,WD.k (k:=Sum.inr n) e (),5];rw[d];let a:=W.oH (n:=n) (c:=(m.oX.9:Int)) e;let i:∀b o,b≠M.dp->H b=8 o->(upd H M.dp (.dK (Z9 U (2 n) (4 m.oX.9)))) b=8 o:=λb o h e=>by rw[Ze h];rwa[e]
 generalize (upd H M.dp (.dK (Z9 U (2 n) (4 m.oX.9))))=d at a i |-;let(g,f):=a.ob;let(l,d,2,n):=a.ga 0 rfl;erw[1,M.p,CM,g,21,f,Tm.cl,Tm.nd,Jt _,1 (32,9 d),1,aB S,λp f=>?_];rwa[M.ld,l,3 p,33,(a.tell d f).1,6,k _ _ (M,r,L,j,3,(a.tell d f).2.1,3) (YK.trans (λb o e h=>i b o (λz=>h (2 (1 z))) e,λ_ b=>1 b) (a.tell d f).2.2)]
def coD(n:Str)(day wt:Int):D:=7 [5 "come", 5 n,4 day,4 wt]
inductive UW(C CM:jY)(c:jU):Sp
 |mk(p) (F) (m) (O) (n) (day wt)(_:vs=[3 p,5 n,4 day,4 wt]/\YE C CM H p F m O/\F.9<=1000/\okN n/\okI day/\okI wt/\dueM E c H (∀a J,YE C CM J p (F ++ [.come n day wt]) (m.told (coD n day wt)) a->YK O H a J->Q .non J) ((TH F n day wt).or (Wj m)))
abbrev Ho:Stmt:=Yt (top 69) 1
def iT(e:ZU K CM "come" "Moot.come" Ho)(g:VA K C)(Tm:ZP K CM)(b:10 YA C "check_coming" 2 (WO C c))(d:10 Mt C "come" lg 3 (Tf C))(a:10 YA CM "check_moments" 1 (YS C CM c)):10 YA CM "come" 4 (UW C CM c):=by
 erw[e.mx lg lg λH t Q E e h=>?_];let(2,F,m,2,n,e,u,3,(M,i,L,s,3,f,3),l,o,j,p,k):=h;erw[72,(11 (Zk (Yg Z8 (Z0 Q0) g.cl b (0 Q1 Q2 Q3))) (Zk (A1 Z8 Q0 Tm.cl a)) (Zk (Ve (Z0 Q0) g.cl d (0 Q1 Q2 Q3))) (Zk (Ys aD aE aF Yz (Z0 Q0) (0 (Yb (0 Z5 Q1 Q2 Q3)))))),5];let a:=aC
 let(g,b):=f.ob;let(h,r):=f.fk.f.ob;erw[1,M.p,CM,g,21,b,Tm.cl,Tm.nf,V5 _,M.L.p,h,1,r,Wc _ _ _ _ aA,111,M.L,F,i,n,e,u,3,f.fk,l,o,j,p,λd a=>dueM.cut k a λv k=>?_];let d:=f.same a;erw[1,M.p,g,1,a _ _ b,Yi _ aA,M,F,i,L,m,s,3,d,dueM.last k a λf k=>?_];let x:=Au f;erw[1,M.p,CM,g,21,a _ _ b,Tm.cl,Tm.nf,V5 _,M.L.p,h,1,a _ _ r,Wc _ _ _ _ aA,111,M.L,F,i,n,e,u,3,d.fk,l,o,j,p,v,λg b e h R2=>?_];let b:=d.iw e h R2;let(f,e):=b.ob;let(t,d,2,i):=b.ga 0 rfl;erw[1,M.p,CM,f,21,e,Tm.cl,Tm.nd,Jt _,1 (32,9 d),111,aB S,λp e=>?_];rwa[M.ld,t,3 p,33,(b.tell d e).1,6,k _ _ (M,g,L,s,3,(b.tell d e).2.1,3) (((YK.same a).trans (YK.iw h R2)).trans (b.tell d e).2.2)]
def IW(n:Str)(day:Int):D:=7 [5 "bring", 5 n,4 day]
def Mo.brg(m:Mo)(n:Str)(day:Int):Mo:={m with i9:=m.i9 ++ [7 [5 n,4 day]],o8:=m.o8 ++ [[]],il:=m.il ++ [IW n day] }
def DW(m:Mo):Option Str:=if m.i9.9<40 then _n else 8 "TooMany"
inductive UG(C CM:jY)(c:jU):Sp
 |mk(p) (F) (m) (O) (n) (day)(_:vs=[3 p,5 n,4 day]/\YE C CM H p F m O/\WH m/\n.9<=100/\okI day/\dueM E c H (∀a J,YE C CM J p F (m.brg n day) a->YK O H a J->Q (4 m.i9.9) J) ((eM 0 9999 day).or ((Vv F m day [n] _n _n).or ((DW m).or (Wj m)))))
abbrev GQ:Stmt:=Yt (top 69) 5
def Ql(g:ZU K CM "bring" "Moot.bring" GQ)(T:Txt mg)(Tm:ZP K CM)(b:∃t,mg "MOST_THINGS"=8 (4 40 t))(r:Er K mg c errs)(o:10 YZ "check_day" 1 (WZ 0 9999 c))(f:10 YA CM "check_named" 3 (YN C CM c))(e:10 YA CM "check_moments" 1 (YS C CM c)):10 YA CM "bring" 4 (UG C CM c):=by
 let(h,a):=b;let b:ZH (4 40) (4 40 h):=(h,3);erw[g.mx lu lu λH s Q E g h=>?_];let(2,F,m,2,n,g,3,(M,l,L,i,3,u,3),p,t,j,k):=h;erw[72,(11 (Zk (Wq Z8 o (0 Q2))) (Zk (Yg Z8 Q0 Tm.cl f (0 Q2 (Yl (0 Q1)) Y3 Y3))) (Zt (Zo A6 (Z1 Yw T.len Yk (0 (Z0 Q0))) (Yv a b) (Zq _)) (Zf (Wi Wa r (Wn (Y0 (Wb (Yv a b) (Y0 Wm)))))) Zs) (Zk (A1 Z8 Q0 Tm.cl e)) (Zk (Ys aD aE aF Yz (Z0 Q0) (0 (Yb (0 Q1 Q2))))) (Zk (Ys aD aE aF Yz (Z0 Q0) (0 (Yl Zb)))) (Zk (Ys aD aE aF Yz (Z0 Q0) (0 (Yb (0 Z5 Q1 Q2))))) (Zr (Z3 JI (Z1 Yw T.len Yk (0 (Z0 Q0))) Zd))),5];let a:=aC
 let a:=p.hb;erw[1,g,3,j,dueM.cut k (ZC.refl H) λa k=>?_];let(o,h):=u.ob;erw[1,M.p,o,1,h,Yi _ aA,11,aB S,λe a=>?_];erw[nw (o:=6 [5 n]) a λb f a=>?_];let b:=u.same f;erw[M,F,l,L,m,i,g,e,[n],_n,_n,.non,3,b,p,a,λm a=>by rw[xU.mp a];rwa[t],j,(λj e=>nomatch e),3,λj a=>?_];replace f:=f.trans a;replace b:=b.same a;erw[dueM.cut k f λa k=>?_];let a:=f _ _ h;let(r,h,2,p):=b.ga 1 rfl;erw[1,M.p,CM,o,21,a,Tm.cl,Tm.nb,AF _,M.lb,r,3,1 (9 h),41,Zx (λz=>?_) (λz=>?_)]
 .have:DW m=8 "TooMany" := _i ();rw[this] at k;rwa[aA,2 ((40),3,aA),aA,λ_=>k j f]
 let j:m.i9.9<40:=by lia
 have:DW m=none:=_j j;rw[this,zK] at k;erw[1,M.p,o,1,a,Yi _ aA,M,F,l,L,m,i,3,b,5];erw[dueM.last k f λx k=>?_];let j:=Au x;erw[1,M.p,CM,o,21,a,Tm.cl,Tm.nb,AF _,1 (32,9 h),11,aB S,λa j=>?_];erw[nw (o:=7 [5 n,4 g]) j λy p t=>?_];let o:=b.same p;erw[M.lb,r,3 a,33,p _ _ h,65];let j:=o.brg (p _ _ h) (d:=7 [5 n,4 g]) (v:=3 a) (a,1,Wr t,(4,(4,3)));let t:Ac M F l L i H (upd y M.lb (6 (r ++ [3 a]))):=λb o e h=>by
  rw[Ze (λz:b=M.lb=>h (z ▸ 2 (2 (1 (by simp[ML.ls])))))];rwa[p _ _ (f _ _ e)]
 generalize (upd y M.lb (6 (r ++ [3 a])))=p at j t |-;let(f,a):=j.ob;let r:=j.hl;erw[1,M.p,CM,f,21,a,Tm.cl,Tm.nh,C6 _,1 (32,9 r),aB S,λq a=>?_];let f:=ZC.new (o:=6 []) a;let y:(upd p q (6 [])) q=8 (6 []):=Zi;let A:¬mo M F l L i q:=λz=>by let(o,e):=j.there z;rw[a] at e;ext e
 let B:H q=none:=by
  cases e:H q with
  | none=>rfl
  | some o=>rw[t q o e A] at a;ext a
 generalize (upd p q (6 []))=p at f y |-;erw[M.lh,i.map V.ref,3 q,33,f _ _ r,by rw[xA];have:=u.hn;lia,5];let a:=(j.same f).newq y A;let u:Ac M F l L i H (upd p M.lh (6 (i.map V.ref ++ [3 q]))):=λb o e h=>by
  rw[Ze (λz:b=M.lh=>h (z ▸ 2 (2 (1 yC))))];rwa[f _ _ (t b o e h)]
 let x:(i ++ [q]).map V.ref=i.map V.ref ++ [3 q]:=by rw[xH];rfl
 rw[x] at a;generalize (upd p M.lh (6 (i.map V.ref ++ [3 q])))=f at a u |-;let(j,f):=a.ob;let(s,r,2,p):=a.ga 0 rfl;erw[1,M.p,CM,j,21,f,Tm.cl,Tm.nd,Jt _,1 (32,9 r),11,aB S,λp f=>?_];erw[nw (o:=7 [5 "bring", 5 n,4 g]) f λt f y=>?_];let x:=a.same f;erw[M.ld,s,3 p,33,f _ _ r,65];let j:=x.deed (v:=3 p) (f _ _ r) (d:=7 [5 "bring", 5 n,4 g]) (p,1,Wr y,(4,(4,(4,3))));let r:Ac M F l L i H (upd t M.ld (6 (s ++ [3 p]))):=λb o e h=>by
  rw[Ze (λz:b=M.ld=>h (z▸FR))];rwa[f _ _ (u b o e h)]
 generalize (upd t M.ld (6 (s ++ [3 p])))=i at j r |-;let(f,e):=j.ob;let(a,o,2,h):=j.ga 1 rfl;rw[xI] at h;erw[1,M.p,CM,f,21,e,Tm.cl,Tm.nb,AF _,M.lb,a,3,1 (9 o),45];let e:((a.9:Int) - 1)=(m.i9.9:Int):=by rw[h];simp
 show Q (4 ((a.9:Int) - 1)) i;rw[e];erw[k _ i (M,l,L,1,j,3) (r,λb a=>?_)];rcases a with z | z | z | z | z
 .rwa[1 (1 z)]
 .rwa[1 (2 (1 z))]
 .rw[<- yW,<- yL] at z;rcases xL.mp z with z | z
  .rwa[1 (2 (2 (1 z)))]
  .grind
 .rwa[1 (2 (2 (2 (1 z))))]
 .rwa[1 (2 (2 (2 (2 z))))]
def gvD(i:Int)(x y:Str)(day:Int):D:=7 [5 "give", 4 i,5 x,5 y,4 day]
def Mo.give(m:Mo)(i:Nat)(x y:Str)(day:Int):Mo:={m with o8:=m.o8.set i (m.o8.getD i [] ++ [7 [.non,7 [4 day,5 "given", 5 x,5 y]]]),il:=m.il ++ [gvD i x y day] }
inductive Td(C CM:jY)(c:jU):Sp
 |mk(p) (F) (m) (O) (i) (x y) (day)(_:vs=[3 p,4 i,5 x,5 y,4 day]/\YE C CM H p F m O/\WH m/\x.9<=100/\y.9<=100/\okI i/\okI day/\dueM E c H (∀a J,YE C CM J p F (m.give i.toNat x y day) a->YK O H a J->Q .non J) ((eM 0 9999 day).or ((Vv F m day [x,y] (8 i) _n).or (Wj m))))
abbrev Iz:Stmt:=Yt (top 69) 6
def Oj(e:ZU K CM "give" "Moot.give" Iz)(Tm:ZP K CM)(j:10 YZ "check_day" 1 (WZ 0 9999 c))(b:10 YA CM "check_named" 3 (YN C CM c))(a:10 YA CM "check_moments" 1 (YS C CM c)):10 YA CM "give" 4 (Td C CM c):=by
 erw[e.mx ["self","thing","giver","taker","day"] ["self","thing","giver","taker","day"] λH G Q E e h=>?_];let(2,F,m,2,i,x,y,l,3,(M,r,L,f,3,g,3),s,n,o,p,e,k):=h;erw[72,(11 (Zk (Wq Z8 j (0 Q4))) (Zk (Yg Z8 Q0 Tm.cl b (0 Q4 (Yl (0 Q2 Q3)) Q1 Y3))) (Zk (A1 Z8 Q0 Tm.cl a)) (Zk (Ys aD aE aF Yz (Zh Z6 (Z0 Q0) Q1) (0 (Yb (0 Y3 (Yb (0 Q4 Z5 Q2 Q3))))))) (Zk (Ys aD aE aF Yz (Z0 Q0) (0 (Yb (0 Z5 Q1 Q2 Q3 Q4)))))),5];let a:=aC
 erw[1,l,3,e,dueM.cut k (ZC.refl H) λa k=>?_];let(o,b):=g.ob;erw[1,M.p,o,1,b,Yi _ aA,111,aB S,λj a=>?_];erw[nw (o:=6 [5 x,5 y]) a λn h a=>?_];erw[1,M,F,r,L,m,f,l,j,[x,y],8 i,_n,.non,3,g.same h,s,a,λn a=>?_,e,(λj e=>by ext e;rwa[p]),3,λj a=>?_]
 .grind
 replace h:=h.trans a;erw[dueM.cut k h λn k=>?_];let j:=g.same h;let a:=h _ _ b;erw[1,M.p,o,1,a,Yi _ aA,M,F,r,L,m,f,3,j,5];erw[dueM.last k h λb k=>?_];let g:=Au b;let(2,g,2):=AQ n;let b:inB i m.i9.9:=by
  have:=g i S;unfold Jl at this
  by_cases z:inB i m.i9.9
  .rwa[z]
  .rw[_i z] at this;ext this
 let(i,3):=yK b.1;let n:i<m.o8.9:=by rw[s.hb];have:=b.2;lia
 let g:m.o8[i]?=8 (m.o8.getD i []):=by rw[xR,xB n];rfl
 let b:=s.hl _ (xM g);rw[yJ] at k;unfold Mo.give at k;generalize m.o8.getD i []=n at g b k;let p:i<f.9:=by rw[j.hn];rwa[(xF.mp g).1]
 let A:f[i]?=8 f[i]:=xB p;let s:(f[i],n)∈f.zip m.o8:=xM (i:=i) (by rw[yZ];rwa[A,g]);let(B,t,2,b):=(j.ls (f[i],n) (by simp[Mo.at_,s])).get;dsimp only at t b;erw[1,M.p,CM,o,21,a,Tm.cl,Tm.nh,C6 _,1,M.lh,2,i,3 f[i],33,9 j.hl,Yo (by rw[xG,A];rfl),1 (32,9 t),111,aB S,λb u=>?_];erw[nw (o:=7 [4 l,5 "given", 5 x,5 y]) u λa s J=>?_];erw[aB S,λa n=>?_];erw[nw (o:=7 [.non,3 b]) n λE n N=>?_];let I:=(j.same s).same n;let o:=n _ _ (s _ _ t);erw[f[i],B,3 a,33,o,65];let j:=I.hap A g (d:=7 [.non,7 [4 l,5 "given", 5 x,5 y]]) (v:=3 a) o (a,1,Wr N,(4,(21,(b,1,Wr (n _ _ J),(4,(4,(4,(4,3))))),3)));let g:Ac M F r L f H (upd E f[i] (6 (B ++ [3 a]))):=λc o e b=>by
  rw[Ze (λz:c=f[i]=>b (z ▸ 2 (2 (1 (xP _ (xJ _ (yY p)))))))];rwa[n _ _ (s _ _ (h _ _ e))]
 generalize (upd E f[i] (6 (B ++ [3 a])))=a at j g |-;let(e,b):=j.ob;let(G,a,2,h):=j.ga 0 rfl;erw[1,M.p,CM,e,21,b,Tm.cl,Tm.nd,Jt _,1 (32,9 a),1111,aB S,λp b=>?_];rwa[M.ld,G,3 p,33,(j.tell a b).1,6,k _ _ (M,r,L,f,3,(j.tell a b).2.1,3) (YK.trans (g,λ_ u=>1 u) (j.tell a b).2.2)]
def pyD(x y:Str)(a day:Int):D:=7 [5 "pay", 5 x,5 y,4 a,4 day]
def Mo.pay(m:Mo)(x y:Str)(a day:Int):Mo:={m with ij:=m.ij ++ [7 [.non,7 [4 day,5 y,5 x,4 a]]],il:=m.il ++ [pyD x y a day] }
inductive JF(C CM:jY)(c:jU):Sp
 |mk(p) (F) (m) (O) (x y) (many day)(_:vs=[3 p,5 x,5 y,4 many,4 day]/\YE C CM H p F m O/\WH m/\x.9<=100/\y.9<=100/\okI many/\okI day/\dueM E c H (∀a J,YE C CM J p F (m.pay x y many day) a->YK O H a J->Q .non J) ((eM 1 1000000 many).or ((eM 0 9999 day).or ((Vv F m day [x,y] _n _n).or (Wj m)))))
abbrev HS:Stmt:=Yt (top 69) 7
def Pc(f:ZU K CM "pay" "Moot.pay" HS)(Tm:ZP K CM)(e:10 YZ "check_money" 1 (WZ 1 1000000 c))(p:10 YZ "check_day" 1 (WZ 0 9999 c))(b:10 YA CM "check_named" 3 (YN C CM c))(a:10 YA CM "check_moments" 1 (YS C CM c)):10 YA CM "pay" 4 (JF C CM c):=by
 erw[f.mx ["self","payer","taker","many","day"] ["self","payer","taker","many","day"] λH u Q E f h=>?_];let(2,F,m,2,x,y,f,g,3,(M,r,L,l,3,i,3),n,s,t,j,o,k):=h;erw[72,(11 (Zk (Wq Z8 e (0 Q3))) (Zk (Wq Z8 p (0 Q4))) (Zk (Yg Z8 Q0 Tm.cl b (0 Q4 (Yl (0 Q1 Q2)) Y3 Y3))) (Zk (A1 Z8 Q0 Tm.cl a)) (Zk (Ys aD aE aF Yz (Z0 Q0) (0 (Yb (0 Y3 (Yb (0 Q4 Q2 Q1 Q3))))))) (Zk (Ys aD aE aF Yz (Z0 Q0) (0 (Yb (0 Z5 Q1 Q2 Q3 Q4)))))),5];let a:=aC
 let a:=n.ql;erw[1,f,3,j,dueM.cut k (ZC.refl H) λa k=>?_];erw[1,g,3,o,dueM.cut k (ZC.refl H) λa k=>?_];let(p,b):=i.ob;erw[1,M.p,p,1,b,Yi _ aA,111,aB S,λe a=>?_];erw[nw (o:=6 [5 x,5 y]) a λj h a=>?_];erw[M,F,r,L,m,l,g,e,[x,y],_n,_n,.non,3,i.same h,n,a,λn a=>?_,o,(λj e=>nomatch e),3,λj a=>?_]
 .grind
 replace h:=h.trans a;erw[dueM.cut k h λa k=>?_];let o:=i.same h;let a:=h _ _ b;erw[1,M.p,p,1,a,Yi _ aA,M,F,r,L,m,l,3,o,5];erw[dueM.last k h λb k=>?_];let i:=Au b;let(t,i,2,b):=o.ga 2 rfl;erw[1,M.p,CM,p,21,a,Tm.cl,Tm.nq,Kr _,1 (32,9 i),1111,aB S,λb s=>?_];erw[nw (o:=7 [4 g,5 y,5 x,4 f]) s λa n A=>?_];erw[aB S,λa j=>?_];erw[nw (o:=7 [.non,3 b]) j λp j B=>?_];let z:=(o.same n).same j;let o:=j _ _ (n _ _ i);erw[M.lq,t,3 a,33,o,65];let i:=z.debt (d:=7 [.non,7 [4 g,5 y,5 x,4 f]]) (v:=3 a) o (a,1,Wr B,(4,(21,(b,1,Wr (j _ _ A),(4,(4,(4,(4,3))))),3)));let f:Ac M F r L l H (upd p M.lq (6 (t ++ [3 a]))):=λc o e b=>by
  rw[Ze (λz:c=M.lq=>b (z ▸ 2 (2 (1 (by simp[ML.ls])))))];rwa[j _ _ (n _ _ (h _ _ e))]
 generalize (upd p M.lq (6 (t ++ [3 a])))=a at i f |-;let(e,b):=i.ob;let(u,a,2,g):=i.ga 0 rfl;erw[1,M.p,CM,e,21,b,Tm.cl,Tm.nd,Jt _,1 (32,9 a),1111,aB S,λp b=>?_];rwa[M.ld,u,3 p,33,(i.tell a b).1,6,k _ _ (M,r,L,l,3,(i.tell a b).2.1,3) (YK.trans (f,λ_ s=>1 s) (i.tell a b).2.2)]
def riD(n:Str)(day wt:Int):D:=7 [5 "rise", 5 n,4 day,4 wt]
inductive Tn(C CM:jY)(c:jU):Sp
 |mk(p) (F) (m) (O) (n) (day wt)(_:vs=[3 p,5 n,4 day,4 wt]/\YE C CM H p F m O/\F.9<=1000/\n.9<=100/\okI day/\okI wt/\dueM E c H (∀a J,YE C CM J p (F ++ [.rise n day wt]) (m.told (riD n day wt)) a->YK O H a J->Q .non J) ((AA F n day wt).or (Wj m)))
abbrev LO:Stmt:=Yt (top 69) 2
def Qj(e:ZU K CM "rise" "Moot.rise" LO)(i:VA K C)(Tm:ZP K CM)(b:10 YA C "check_rise" 3 (UL C c))(d:10 Mt C "rise" lg 4 (Jd C))(a:10 YA CM "check_moments" 1 (YS C CM c)):10 YA CM "rise" 5 (Tn C CM c):=by
 erw[e.mx lg lg λH s Q E e h=>?_];let(2,F,m,2,n,f,p,3,(M,g,L,r,3,e,3),u,l,j,o,k):=h;erw[72,(11 (Zk (Yg Z8 (Z0 Q0) i.cl b (0 Q1 Q2 Q3))) (Zk (A1 Z8 Q0 Tm.cl a)) (Zk (Ve (Z0 Q0) i.cl d (0 Q1 Q2 Q3))) (Zk (Ys aD aE aF Yz (Z0 Q0) (0 (Yb (0 Z5 Q1 Q2 Q3)))))),5];let a:=aC
 let(b,a):=e.ob;let(d,h):=e.fk.f.ob;erw[1,M.p,CM,b,21,a,Tm.cl,Tm.nf,V5 _,M.L.p,d,1,h,Wc _ _ _ _ aA,111,M.L,F,n,f,p,3,e.fk.f,l,j,o,dueM.cut k (ZC.refl H) λi k=>?_];erw[1,M.p,b,1,a,Yi _ aA,M,F,g,L,m,r,3,e,dueM.last k (ZC.refl H) λt k=>?_];let v:=Au t;erw[1,M.p,CM,b,21,a,Tm.cl,Tm.nf,V5 _,M.L.p,d,1,h,Wc _ _ _ _ aA,111,M.L,F,g,n,f,p,3,e.fk,u,l,j,o,i,λa b f R2=>?_];let a:=e.iw b f R2;let(e,d):=a.ob;let(s,b,2,h):=a.ga 0 rfl;erw[1,M.p,CM,e,21,d,Tm.cl,Tm.nd,Jt _,1 (32,9 b),111,aB S,λp d=>?_];rwa[M.ld,s,3 p,33,(a.tell b d).1,6,k _ _ (M,g,L,r,3,(a.tell b d).2.1,3) ((YK.iw f R2).trans (a.tell b d).2.2)]
def diD(n a:Str)(day:Int):D:=7 [5 "die", 5 n,4 day,5 a]
inductive Jp(C CM:jY)(c:jU):Sp
 |mk(p) (F) (m) (O) (n he) (day)(_:vs=[3 p,5 n,4 day,5 he]/\YE C CM H p F m O/\F.9<=1000/\n.9<=100/\he.9<=100/\okI day/\dueM E c H (∀a J,YE C CM J p (F ++ [.die n day he]) (m.told (diD n he day)) a->YK O H a J->Q .non J) ((A7 F n he day).or (Wj m)))
abbrev MS:Stmt:=Yt (top 69) 3
def iZ(e:ZU K CM "die" "Moot.die" MS)(j:VA K C)(Tm:ZP K CM)(b:10 YA C "check_death" 2 (Je C c))(d:10 Mt C "die" lF 3 (A3 C))(a:10 YA CM "check_moments" 1 (YS C CM c)):10 YA CM "die" 4 (Jp C CM c):=by
 erw[e.mx lF lF λH s Q E e h=>?_];let(2,F,m,2,n,l,f,3,(M,i,L,r,3,e,3),u,p,g,o,k):=h;erw[72,(11 (Zk (Yg Z8 (Z0 Q0) j.cl b (0 Q1 Q2 Q3))) (Zk (A1 Z8 Q0 Tm.cl a)) (Zk (Ve (Z0 Q0) j.cl d (0 Q1 Q2 Q3))) (Zk (Ys aD aE aF Yz (Z0 Q0) (0 (Yb (0 Z5 Q1 Q2 Q3)))))),5];let a:=aC
 let(b,a):=e.ob;let(d,h):=e.fk.f.ob;erw[1,M.p,CM,b,21,a,Tm.cl,Tm.nf,V5 _,M.L.p,d,1,h,Wc _ _ _ _ aA,111,M.L,F,n,l,f,3,e.fk.f,p,g,o,dueM.cut k (ZC.refl H) λj k=>?_];erw[1,M.p,b,1,a,Yi _ aA,M,F,i,L,m,r,3,e,dueM.last k (ZC.refl H) λt k=>?_];let v:=Au t;erw[1,M.p,CM,b,21,a,Tm.cl,Tm.nf,V5 _,M.L.p,d,1,h,Wc _ _ _ _ aA,111,M.L,F,i,n,l,f,3,e.fk,u,p,g,o,j,λa b f R2=>?_];let a:=e.iw b f R2;let(e,d):=a.ob;let(s,b,2,g):=a.ga 0 rfl;erw[1,M.p,CM,e,21,d,Tm.cl,Tm.nd,Jt _,1 (32,9 b),111,aB S,λp d=>?_];rwa[M.ld,s,3 p,33,(a.tell b d).1,6,k _ _ (M,i,L,r,3,(a.tell b d).2.1,3) ((YK.iw f R2).trans (a.tell b d).2.2)]
def Yp(d:Y[i]?=8 (8 (3 a)))(e:H a=8 (7 us))(f:atI us k=8 v)(h:tr Y H λvs b=>Q (v::vs) b):TF (Jr (Tx K) (YL i) (tC (4 k))) tr Y H Q:=((2,d,a,us,k,v,33,ZO.of e,f,h))
def JW{i:Nat}{w v:Str}{t u:TS}{D:YG}{Y:St}{H:Hp}(a:Y[i]?=8 (8 (5 v)))(b:v≠w)(h:u D Y H):Uu (E5 (BN (Jr CC (YL i) (tC (5 w)))) t Y7) u D Y H:=((2,a,31,Zx (λz=>_a (by injection z) b) (λ_=>h)))
def JH{i:Nat}{w:Str}{t u:TS}{D:YG}{Y:St}{H:Hp}(a:Y[i]?=8 (8 (5 w)))(h:t {D with nx:=u D } Y H):Uu (E5 (BN (Jr CC (YL i) (tC (5 w)))) t Y7) u D Y H:=((2,a,31,Zx (λ_=>h) (λz=>_a S z)))
inductive CD where
 | wer (x y:Str) (a:Int) | clm (x:Str) (i:Int) | acc (i:Int) (n:Str)
def cdV(day a:Int)(d e:jY):CD->List V
 | .wer x y b=>[5 "wergild", 5 x,5 y,4 b,4 day,4 a,3 d,3 e]
 | .clm x i=>[5 "claim", 5 x,4 i,4 day,4 a,3 d,3 e]
 | .acc i n=>[5 "accuse", 4 i,5 n,4 day,4 a,3 d,3 e]
def cdOk:CD->Prop
 | .wer x y a=>x.9<=100/\y.9<=100/\okI a
 | .clm x i=>x.9<=100/\okI i
 | .acc i n=>n.9<=100/\okI i
def eCD(F:List ZI)(m:Mo)(day a:Int)(f:Str->Int)(d e:jS):CD->Option Str
 | .wer x y b=>Dm F m x y b day a f d e
 | .clm x i=>CI F m x i day a f d e
 | .acc i n=>Do F m i n day a f d e
def Mo.ip(m:Mo)(day a:Int)(f:Str->Int)(d e:jS):CD->Mo
 | .wer x y b=>m.owes x y b day a f d e
 | .clm x i=>m.won x i.toNat day a f d e
 | .acc i n=>m.acc i n day a f d e
inductive SD where
 | come (n:Str) (a b:Int) | rise (n:Str) (a b:Int) | die (n b:Str) (a:Int) | pen (n:Str) | bring (n:Str) (a:Int) | give (i:Int) (x y:Str) (a:Int) | pay (x y:Str) (b a:Int)
def sdV:SD->List V
 | .come n a b=>[5 "come", 5 n,4 a,4 b]
 | .rise n a b=>[5 "rise", 5 n,4 a,4 b]
 | .die n b a=>[5 "die", 5 n,4 a,5 b]
 | .pen n=>[5 "penance", 5 n]
 | .bring n a=>[5 "bring", 5 n,4 a]
 | .give i x y a=>[5 "give", 4 i,5 x,5 y,4 a]
 | .pay x y b a=>[5 "pay", 5 x,5 y,4 b,4 a]
def sdOk(F:List ZI)(m:Mo):SD->Prop
 | .come n a b=>F.9<=1000/\okN n/\okI a/\okI b
 | .rise n a b=>F.9<=1000/\n.9<=100/\okI a/\okI b
 | .die n b a=>F.9<=1000/\n.9<=100/\b.9<=100/\okI a
 | .pen n=>n.9<=100/\m.oF<=1000/\m.oX.9<=1000
 | .bring n a=>WH m/\n.9<=100/\okI a
 | .give i x y a=>WH m/\x.9<=100/\y.9<=100/\okI i/\okI a
 | .pay x y b a=>WH m/\x.9<=100/\y.9<=100/\okI b/\okI a
def eSD(F:List ZI)(m:Mo):SD->Option Str
 | .come n a b=>(TH F n a b).or (Wj m)
 | .rise n a b=>(AA F n a b).or (Wj m)
 | .die n b a=>(A7 F n b a).or (Wj m)
 | .pen n=>(V2 F n).or ((AB F n).or (Wj m))
 | .bring n a=>(eM 0 9999 a).or ((Vv F m a [n] _n _n).or ((DW m).or (Wj m)))
 | .give i x y a=>(eM 0 9999 a).or ((Vv F m a [x,y] (8 i) _n).or (Wj m))
 | .pay x y b a=>(eM 1 1000000 b).or ((eM 0 9999 a).or ((Vv F m a [x,y] _n _n).or (Wj m)))
def sdF(F:List ZI):SD->List ZI
 | .come n a b=>F ++ [.come n a b]
 | .rise n a b=>F ++ [.rise n a b]
 | .die n b a=>F ++ [.die n a b]
 | _=>F
def Mo.sd(m:Mo):SD->Mo
 | .come n a b=>m.told (coD n a b)
 | .rise n a b=>m.told (riD n a b)
 | .die n b a=>m.told (diD n b a)
 | .pen n=>m.oH n
 | .bring n a=>m.brg n a
 | .give i x y a=>m.give i.toNat x y a
 | .pay x y b a=>m.pay x y b a
def sdR(m:Mo):SD->V
 | .bring _ _=>4 m.i9.9
 | _=>.non
inductive VX(C CM:jY)(c:jU):Sp
 |mk(p) (F) (m) (O) (a) (d)(_:vs=[3 p,3 a]/\YE C CM H p F m O/\H a=8 (7 (sdV d))/\sdOk F m d/\dueM E c H (∀b J,YE C CM J p (sdF F d) (m.sd d) b->YK O H b J->Q (sdR m d) J) (eSD F m d))
inductive VT(C CM:jY)(c:jU):Sp
 |mk(p) (F) (m) (O) (a) (d) (day need) (l1 l2) (o1 o2) (f)(_:vs=[3 p,3 a]/\YE C CM H p F m O/\H a=8 (7 (cdV day need l1 l2 d))/\Bt F m H l1 l2 o1 o2 day need f/\¬O l1/\¬O l2/\cdOk d/\dueM E c H (∀b J,YE C CM J p F (m.ip day need f o1 o2 d) b->YK O H b J->Q (4 m.oX.9) J) (eCD F m day need f o1 o2 d))
abbrev Fi:Stmt:=top 20
def cB:ZK ["moot","deed","word"] ["moot","deed"] (Zj Fi):=(fsc)
def Od(a:YB K mg "done" Fi)(Tm:ZP K CM)(u:Er K mg c errs)(l:10 YA CM "come" 4 (UW C CM c))(o:10 YA CM "rise" 5 (Tn C CM c))(r:10 YA CM "die" 4 (Jp C CM c))(b:10 YA CM "penance" 2 (J4 C CM c))(j:10 YA CM "bring" 4 (UG C CM c))(n:10 YA CM "give" 4 (Td C CM c))(t:10 YA CM "pay" 4 (JF C CM c))(k:10 YA CM "claim" 6 (UJ C CM c))(e:10 YA CM "wergild" 6 (Jy C CM c))(i:10 YA CM "accuse" 7 (Jk C CM c)):10 YZ "done" 8 (Sp.or (VX C CM c) (VT C CM c)):=by
 erw[a.fnX cB (λ_ _ _ _ _ _=>al2 λ_ _=>rfl) (λg H Q E h=>?_) (λf d A a s H g Q E m h=>?_)]
 .rcases h with⟨p,F,m,O,a,d,rfl,_⟩ | ⟨p,F,m,O,a,d,g,need,l1,l2,o1,o2,f,rfl,_⟩<;>rfl
 .erw[2,(11 (Zv 2 (Zh Zn Q1 Zd)) (Zt (Zo Yh Q2 Z5 (Zq _)) (Zf (Zr (Yg Z8 Q0 Tm.cl l (0 (Zh Zn Q1 Zd) (Zh Zn Q1 Zd) (Zh Zn Q1 Zd))))) Zs) (Zt (Zo Yh Q2 Z5 (Zq _)) (Zf (Zr (Yg Z8 Q0 Tm.cl o (0 (Zh Zn Q1 Zd) (Zh Zn Q1 Zd) (Zh Zn Q1 Zd))))) Zs) (Zt (Zo Yh Q2 Z5 (Zq _)) (Zf (Zr (Yg Z8 Q0 Tm.cl r (0 (Zh Zn Q1 Zd) (Zh Zn Q1 Zd) (Zh Zn Q1 Zd))))) Zs) (Zt (Zo Yh Q2 Z5 (Zq _)) (Zf (Zr (Yg Z8 Q0 Tm.cl b (0 (Zh Zn Q1 Zd))))) Zs) (Zt (Zo Yh Q2 Z5 (Zq _)) (Zf (Zr (Yg Z8 Q0 Tm.cl j (0 (Zh Zn Q1 Zd) (Zh Zn Q1 Zd))))) Zs) (Zt (Zo Yh Q2 Z5 (Zq _)) (Zf (Zr (Yg Z8 Q0 Tm.cl n (0 (Zh Zn Q1 Zd) (Zh Zn Q1 Zd) (Zh Zn Q1 Zd) (Zh Zn Q1 Zd))))) Zs) (Zt (Zo Yh Q2 Z5 (Zq _)) (Zf (Zr (Yg Z8 Q0 Tm.cl t (0 (Zh Zn Q1 Zd) (Zh Zn Q1 Zd) (Zh Zn Q1 Zd) (Zh Zn Q1 Zd))))) Zs) (Zt (Zo Yh Q2 Z5 (Zq _)) (Zf (Zr (Yg Z8 Q0 Tm.cl k (0 (Zh Zn Q1 Zd) (Zh Zn Q1 Zd) (Zh Zn Q1 Zd) (Zh Zn Q1 Zd) (Zh Zn Q1 Zd) (Zh Zn Q1 Zd))))) Zs) (Zt (Zo Yh Q2 Z5 (Zq _)) (Zf (Zr (Yg Z8 Q0 Tm.cl e (0 (Zh Zn Q1 Zd) (Zh Zn Q1 Zd) (Zh Zn Q1 Zd) (Zh Zn Q1 Zd) (Zh Zn Q1 Zd) (Zh Zn Q1 Zd) (Zh Zn Q1 Zd))))) Zs) (Zt (Zo Yh Q2 Z5 (Zq _)) (Zf (Zr (Yg Z8 Q0 Tm.cl i (0 (Zh Zn Q1 Zd) (Zh Zn Q1 Zd) (Zh Zn Q1 Zd) (Zh Zn Q1 Zd) (Zh Zn Q1 Zd) (Zh Zn Q1 Zd))))) Zs) (Wi Wa u (Wn (Wb Q2 (Y0 Wm))))),5];rcases h with⟨_,F,m,_,a,d,rfl,⟨M,r,L,p,rfl,W,rfl⟩,b,e,k⟩ | ⟨_,F,m,_,a,d,g,need,l1,l2,o1,o2,f,rfl,⟨M,r,L,p,rfl,W,rfl⟩,b,cs,y1,y2,e,k⟩
  .let(l,j):=W.ob;let h:YE C CM H M.p F m (mo M F r L p):=(M,r,L,p,3,W,3);cases d with
   | come n g i =>
    erw[1,a,2,(0),13,ZO.of b,35];erw[Z4 ?_];erw[JH S ?_];rwa[1,M.p,l,1,j,Yi _ aA,Yp S b S (Yp S b S (Yp S b S (M.p,F,m,2,n,g,i,3,h,e.1,e.2.1,e.2.2.1,e.2.2.2,k)))]
   | rise n g i =>
    erw[1,a,2,(0),13,ZO.of b,35];erw[Z4 ?_]
    iterate 1 erw[JW S aA ?_]
    erw[JH S ?_];rwa[1,M.p,l,1,j,Yi _ aA,Yp S b S (Yp S b S (Yp S b S (M.p,F,m,2,n,g,i,3,h,e.1,e.2.1,e.2.2.1,e.2.2.2,k)))]
   | die n i g =>
    erw[1,a,2,(0),13,ZO.of b,35];erw[Z4 ?_]
    iterate 2 erw[JW S aA ?_]
    erw[JH S ?_];rwa[1,M.p,l,1,j,Yi _ aA,Yp S b S (Yp S b S (Yp S b S (M.p,F,m,2,n,i,g,3,h,e.1,e.2.1,e.2.2.1,e.2.2.2,k)))]
   | pen n =>
    erw[1,a,2,(0),13,ZO.of b,35];erw[Z4 ?_]
    iterate 3 erw[JW S aA ?_]
    erw[JH S ?_];rwa[1,M.p,l,1,j,Yi _ aA,Yp S b S (M.p,F,m,2,n,3,h,e.1,e.2.1,e.2.2,k)]
   | bring n g =>
    erw[1,a,2,(0),13,ZO.of b,35];erw[Z4 ?_]
    iterate 4 erw[JW S aA ?_]
    erw[JH S ?_];rwa[1,M.p,l,1,j,Yi _ aA,Yp S b S (Yp S b S (M.p,F,m,2,n,g,3,h,e.1,e.2.1,e.2.2,k))]
   | give i x y g =>
    erw[1,a,2,(0),13,ZO.of b,35];erw[Z4 ?_]
    iterate 5 erw[JW S aA ?_]
    erw[JH S ?_];rwa[1,M.p,l,1,j,Yi _ aA,Yp S b S (Yp S b S (Yp S b S (Yp S b S (M.p,F,m,2,i,x,y,g,3,h,e.1,e.2.1,e.2.2.1,e.2.2.2.1,e.2.2.2.2,k))))]
   | pay x y o g =>
    erw[1,a,2,(0),13,ZO.of b,35];erw[Z4 ?_]
    iterate 6 erw[JW S aA ?_]
    erw[JH S ?_];rwa[1,M.p,l,1,j,Yi _ aA,Yp S b S (Yp S b S (Yp S b S (Yp S b S (M.p,F,m,2,x,y,o,g,3,h,e.1,e.2.1,e.2.2.1,e.2.2.2.1,e.2.2.2.2,k))))]
  .let(l,j):=W.ob;let h:YE C CM H M.p F m (mo M F r L p):=(M,r,L,p,3,W,3);cases d with
   | clm x i =>
    erw[1,a,2,(0),13,ZO.of b,35];erw[Z4 ?_]
    iterate 7 erw[JW S aA ?_]
    erw[JH S ?_];rwa[1,M.p,l,1,j,Yi _ aA,Yp S b S (Yp S b S (Yp S b S (Yp S b S (Yp S b S (Yp S b S (M.p,F,m,2,x,i,g,need,l1,l2,o1,o2,f,3,h,cs,y1,y2,e.1,e.2,k))))))]
   | wer x y o =>
    erw[1,a,2,(0),13,ZO.of b,35];erw[Z4 ?_]
    iterate 8 erw[JW S aA ?_]
    erw[JH S ?_];rwa[1,M.p,l,1,j,Yi _ aA,Yp S b S (Yp S b S (Yp S b S (Yp S b S (Yp S b S (Yp S b S (Yp S b S (M.p,F,m,2,x,y,o,g,need,l1,l2,o1,o2,f,3,h,cs,y1,y2,e.1,e.2.1,e.2.2,k)))))))]
   | acc i n =>
    erw[1,a,2,(0),13,ZO.of b,35];erw[Z4 ?_]
    iterate 9 erw[JW S aA ?_]
    erw[JH S ?_];rwa[1,M.p,l,1,j,Yi _ aA,Yp S b S (Yp S b S (Yp S b S (Yp S b S (Yp S b S (Yp S b S (M.p,F,m,2,i,n,g,need,l1,l2,o1,o2,f,3,h,cs,y1,y2,e.1,e.2,k))))))]
end
def YE.there(h:YE C CM H p F m O)(a:O b):∃o,H b=8 o:=by
 let(M,d,L,c,2,W,3):=h;rwa[W.there a]
def YE.out(h:YE C CM H p F m O)(e:H b=_n):¬O b:=(λz=>by
 let(o,a):=h.there z;rw[e] at a;ext a)
section
variable{C CM:jY}
def Yy{t u:TS}{D:YG}{Y:St}{H:Hp}(h:∀b:YG,(∀ a J,u D a J->b.nx a J)->t b Y H):Uu t u D Y H:=(h {D with nx:=u D } λ_ _ h=>h)
def ini(c:H p=8 (.ins CM dx fs))(a:H l=_n):(upd (upd H l y) p (.ins CM dx fs')) p=8 (.ins CM dx fs')/\(upd (upd H l y) p (.ins CM dx fs')) l=8 y/\(∀b o,H b=8 o->b≠p->(upd (upd H l y) p (.ins CM dx fs')) b=8 o)/\p≠l:=by
 let n:p≠l:=Zl c a;rwa[Zi,by rw[Ze n.6,Zi],λb o e c=>by rw[Ze c,Ze (Zl e a)];rwa[e],n]
def AJ{N:Hp->Prop}{H:Hp}{p l d:jY}{a:List (Str×V)}{nm:Str}{y:HO}{k:Nat}(g:H p=8 (.ins CM d a))(f:H l=_n)(i:a.9<=k)(h:∀c e,Zu nm (3 l) a=e->e.9<=k+1->c p=8 (.ins CM d e)->c l=8 y->(∀b o,H b=8 o->b≠p->c b=8 o)->N c):N (upd (upd H l y) p (.ins CM d (Zu nm (3 l) a))):=(let i:=ini (fs':=Zu nm (3 l) a) (y:=y) g f
 h _ _ S (xX (AO ..) ()) i.1 i.2.1 i.2.2.1)
def mo0:Mo:=([],[],[],[],[],[],[],λ_=>_n,(0))
inductive Tp(C CM:jY):Sp
 |mk(p dx)(_:vs=[3 p]/\H p=8 (.ins CM dx [])/\∀M J,M.p=p->ZE C CM J M [] (λ_=>0) [] mo0 []->(∀b o,H b=8 o->b≠p->J b=8 o)->(∀b,mo M [] (λ_=>0) [] [] b->b=p\/H b=_n)->Q .non J)
abbrev HY:Stmt:=Yt (top 69) 0
def PF(b:ZU K CM "__init__" "Moot.__init__" HY)(Tm:ZP K CM)(a:10 Ds C "Folk" 1 (Jq C)):10 Mt CM "__init__" lY 3 (Tp C CM):=by
 erw[b.mq lY λH c Q E b h=>?_];let(p,A,3,i,k):=h;erw[72,(11 (Uc Q0 (Yl Zb)) (Uc Q0 (KC a)) (Uc Q0 (Yl Zb)) (Uc Q0 (Yl Zb)) (Uc Q0 (Yl Zb)) (Uc Q0 (Yl Zb)) (Uc Q0 (Yl Zb)) (Uc Q0 (Yl Zb)) (Uc Q0 BF)),5];let a:=aC
 erw[Yy λa b=>?_];erw[aB S,λld a1=>?_];let a:p≠ld:=Zl i a1;erw[1,p,CM,A,[],3,(by rw[Ze a];rwa[i]),Tm.cl,Tm.nd,(yT (xD 0) aA),AJ (k:=0) i a1 (xD 0) λH1 m g1 r f B a5=>b _ _ ?_];erw[Yy λb n=>?_];intro x d nx h b;let px:p≠x:=Zl f nx;let b:p≠d:=Zl f h;erw[x,d,3,Zi,λL g b j kp c=>(3,5)];subst b;let u:ZC H1 g:=λb o e=>kp b o (by rw[Ze (Zl e nx),Ze (Zl e h)];rwa[e]) (Zl e nx);let U:∀b,b=L.dc\/b=L.dw\/b=L.dd\/b=L.dh->H1 b=none:=λb hb=>by
  have:=c b hb
  by_cases c:b=L.p
  .rw[c];rwa[nx]
  .rw[Ze c] at this
   by_cases c:b=d
   .rw[c];rwa[h]
   .rw[Ze c] at this;rwa[this]
 let c:=u _ _ f;let K2:Fk C g L [] (λ_=>0):=by
  let(d,f,h):=j.w;rwa[j,WX.start j,d,f,λp i=>by rw[mJ (Nat.le_zero.mp h)] at i;ext i]
 erw[1,p,CM,A,m,3,c,Tm.cl,Tm.nf,(yT r aA),n _ _ ?_];let i:(Zu "folk" (V.ref L.p) m).9<=2:=xX (AO ..) ();generalize g2:Zu "folk" (V.ref L.p) m=f at i |-;let d:(upd g p (.ins CM A f)) p=8 (.ins CM A f):=Zi;let m:∀b o,g b=8 o->b≠p->(upd g p (.ins CM A f)) b=8 o:=λb o e c=>by rw[Ze c];rwa[e]
 generalize (upd g p (.ins CM A f))=H2 at d m |-;erw[Yy λc h=>?_];erw[aB S,λN X=>?_];let c:p≠N:=Zl d X;erw[1,p,CM,A,f,3,(by rw[Ze c];rwa[d]),Tm.cl,Tm.nb,(yT i aA),AJ (k:=2) d X i λH3 j g3 i d G x=>h _ _ ?_];erw[Yy λh f=>?_];erw[aB S,λO J=>?_];let h:p≠O:=Zl d J;erw[1,p,CM,A,j,3,(by rw[Ze h];rwa[d]),Tm.cl,Tm.nh,(yT i aA),AJ (k:=3) d J i λH4 r g4 n d M i=>f _ _ ?_];erw[Yy λf j=>?_];erw[aB S,λQ F=>?_];let t:p≠Q:=Zl d F;erw[1,p,CM,A,r,3,(by rw[Ze t];rwa[d]),Tm.cl,Tm.nq,(yT n aA),AJ (k:=4) d F n λH5 s g5 r f Y d=>j _ _ ?_];erw[Yy λj n=>?_];erw[aB S,λR z=>?_];let I:p≠R:=Zl f z;erw[1,p,CM,A,s,3,(by rw[Ze I];rwa[f]),Tm.cl,Tm.nt,(yT r aA),AJ (k:=5) f z r λH6 y g6 s j a2 f=>n _ _ ?_];erw[Yy λn r=>?_];erw[aB S,λT v=>?_];let a0:p≠T:=Zl j v;erw[1,p,CM,A,y,3,(by rw[Ze a0];rwa[j]),Tm.cl,Tm.ny,(yT s aA),AJ (k:=6) j v s λH7 E g7 y n a8 j=>r _ _ ?_];erw[Yy λr s=>?_];erw[aB S,λlv r=>?_];let a4:p≠lv:=Zl n r;erw[1,p,CM,A,E,3,(by rw[Ze a4];rwa[n]),Tm.cl,Tm.nv,(yT y aA),AJ (k:=7) n r y λH8 f8 g8 E n a6 y=>s _ _ ?_];intro dp W;let a7:p≠dp:=Zl n W;erw[1,p,CM,A,f8,3,(by rw[Ze a7];rwa[n]),Tm.cl,Tm.np,(yT E aA),AJ (k:=8) n W E λE n g9 l9 a3 b7 s=>?_];let k1:=a5;let k2:∀b o,H b=8 o->b≠p->H2 b=8 o:=λb o e n=>m b o (u b o (k1 b o e n)) n;let k3:∀b o,H b=8 o->b≠p->H3 b=8 o:=λb o e n=>x b o (k2 b o e n) n;let k4:∀b o,H b=8 o->b≠p->H4 b=8 o:=λb o e n=>i b o (k3 b o e n) n;let k5:∀b o,H b=8 o->b≠p->H5 b=8 o:=λb o e n=>d b o (k4 b o e n) n;let k6:∀b o,H b=8 o->b≠p->H6 b=8 o:=λb o e n=>f b o (k5 b o e n) n;let k7:∀b o,H b=8 o->b≠p->H7 b=8 o:=λb o e n=>j b o (k6 b o e n) n;let k8:∀b o,H b=8 o->b≠p->H8 b=8 o:=λb o e n=>y b o (k7 b o e n) n;let k9:∀b o,H b=8 o->b≠p->E b=8 o:=λb o e n=>s b o (k8 b o e n) n;let q2:=m;let q3:∀b o,g b=8 o->b≠p->H3 b=8 o:=λb o e n=>x b o (q2 b o e n) n;let q4:∀b o,g b=8 o->b≠p->H4 b=8 o:=λb o e n=>i b o (q3 b o e n) n;let q5:∀b o,g b=8 o->b≠p->H5 b=8 o:=λb o e n=>d b o (q4 b o e n) n;let q6:∀b o,g b=8 o->b≠p->H6 b=8 o:=λb o e n=>f b o (q5 b o e n) n;let q7:∀b o,g b=8 o->b≠p->H7 b=8 o:=λb o e n=>j b o (q6 b o e n) n;let q8:∀b o,g b=8 o->b≠p->H8 b=8 o:=λb o e n=>y b o (q7 b o e n) n;let q9:∀b o,g b=8 o->b≠p->E b=8 o:=λb o e n=>s b o (q8 b o e n) n;let b1:E ld=8 (6 []):=(s _ _ (y _ _ (j _ _ (f _ _ (d _ _ (i _ _ (x _ _ (m _ _ (u _ _ B) a.6) a.6) a.6) a.6) a.6) a.6) a.6) a.6);let g:H ld=none:=a1;let b0:E N=8 (6 []):=(s _ _ (y _ _ (j _ _ (f _ _ (d _ _ (i _ _ G c.6) c.6) c.6) c.6) c.6) c.6);let g:H N=none:=by
  cases g:H N with
  | none=>rfl
  | some o=>have:=k2 _ _ g c.6;rw[X] at this;ext this
 let b2:E O=8 (6 []):=(s _ _ (y _ _ (j _ _ (f _ _ (d _ _ M h.6) h.6) h.6) h.6) h.6);let a1:H O=none:=by
  cases g:H O with
  | none=>rfl
  | some o=>have:=k3 _ _ g h.6;rw[J] at this;ext this
 let b3:E Q=8 (6 []):=(s _ _ (y _ _ (j _ _ (f _ _ Y t.6) t.6) t.6) t.6);let a1:H Q=none:=by
  cases g:H Q with
  | none=>rfl
  | some o=>have:=k4 _ _ g t.6;rw[F] at this;ext this
 let b4:E R=8 (6 []):=(s _ _ (y _ _ (j _ _ a2 I.6) I.6) I.6);let a1:H R=none:=by
  cases g:H R with
  | none=>rfl
  | some o=>have:=k5 _ _ g I.6;rw[z] at this;ext this
 let b6:E T=8 (6 []):=(s _ _ (y _ _ a8 a0.6) a0.6);let y:H T=none:=by
  cases g:H T with
  | none=>rfl
  | some o=>have:=k6 _ _ g a0.6;rw[v] at this;ext this
 let b5:E lv=8 (6 []):=(s _ _ a6 a4.6);let s:H lv=none:=by
  cases g:H lv with
  | none=>rfl
  | some o=>have:=k7 _ _ g a4.6;rw[r] at this;ext this
 let a9:E dp=8 (.dK []):=b7;let b7:H dp=none:=by
  cases g:H dp with
  | none=>rfl
  | some o=>have:=k8 _ _ g a7.6;rw[W] at this;ext this
 let a0:ld≠N:=Zl (m _ _ (u _ _ B) a.6) X;let X:ld≠O:=Zl (x _ _ (m _ _ (u _ _ B) a.6) a.6) J;let a1:ld≠Q:=Zl (i _ _ (x _ _ (m _ _ (u _ _ B) a.6) a.6) a.6) F;let a4:ld≠R:=Zl (d _ _ (i _ _ (x _ _ (m _ _ (u _ _ B) a.6) a.6) a.6) a.6) z;let a6:ld≠T:=Zl (f _ _ (d _ _ (i _ _ (x _ _ (m _ _ (u _ _ B) a.6) a.6) a.6) a.6) a.6) v;let a5:ld≠lv:=Zl (j _ _ (f _ _ (d _ _ (i _ _ (x _ _ (m _ _ (u _ _ B) a.6) a.6) a.6) a.6) a.6) a.6) r;let m:N≠O:=Zl G J;let s:N≠Q:=Zl (i _ _ G c.6) F;let u:N≠R:=Zl (d _ _ (i _ _ G c.6) c.6) z;let y:N≠T:=Zl (f _ _ (d _ _ (i _ _ G c.6) c.6) c.6) v;let x:N≠lv:=Zl (j _ _ (f _ _ (d _ _ (i _ _ G c.6) c.6) c.6) c.6) r;let c:O≠Q:=Zl M F;let i:O≠R:=Zl (d _ _ M h.6) z;let F:O≠T:=Zl (f _ _ (d _ _ M h.6) h.6) v;let B:O≠lv:=Zl (j _ _ (f _ _ (d _ _ M h.6) h.6) h.6) r;let d:Q≠R:=Zl Y z;let G:Q≠T:=Zl (f _ _ Y t.6) v;let h:Q≠lv:=Zl (j _ _ (f _ _ Y t.6) t.6) r;let J:R≠T:=Zl a2 v;let t:R≠lv:=Zl (j _ _ a2 I.6) r;let j:T≠lv:=Zl a8 r;let r:¬own L [] (λ_=>0) p:=λz=>by
  rcases z with z | z | z | z | z | ⟨n,l,e,z⟩
  .rwa[px z]
  .grind
  .grind
  .grind
  .grind
  .ext e
 let v:Fk C E L [] (λ_=>0):=K2.at λb o hb e=>q9 b o e λz=>r (z▸hb);let a:∀b,H1 b=_n->b≠p->H b=none:=λb hb n=>by
  cases g:H b with
  | none=>rfl
  | some o=>have:=k1 _ _ g n;rw[hb] at this;ext this
 let a3:E p=8 (.ins CM A _):=a3.trans (congrArg (λf=>8 (HO.ins CM A f)) (g9.symm.trans (congrArg (Zu _ _) (g8.symm.trans (congrArg (Zu _ _) (g7.symm.trans (congrArg (Zu _ _) (g6.symm.trans (congrArg (Zu _ _) (g5.symm.trans (congrArg (Zu _ _) (g4.symm.trans (congrArg (Zu _ _) (g3.symm.trans (congrArg (Zu _ _) (g2.symm.trans (congrArg (Zu _ _) g1.6)))))))))))))))));let f:¬own L [] (λ_=>0) dp:=λz=>by
  let(o,e,2):=K2.there z;have:=q8 _ _ e a7.6;rw[W] at this;ext this
 erw[k (p,L,ld,N,O,Q,R,T,lv,dp) E S ((A,a3),v,λq g=>?_,b2,3,([],a9,xD _,λ_=>rfl),5,(λ_ z=>nomatch z),(λ_ z=>nomatch z),px,f) k9 (λb hb=>?_)]
 .simp only[Mo.at_,mo0,xE,List.zip_nil_left,xV,or_false] at g;rcases g with rfl | rfl | rfl | rfl | rfl | rfl
  .rwa[[],b1,7]
  .rwa[[],b0,7]
  .rwa[[],b3,7]
  .rwa[[],b4,7]
  .rwa[[],b6,7]
  .rwa[[],b5,7]
 .simp only[ML.ls,xT,yM,xE,xV,or_false,not_or,not_false_eq_true,List.nodup_nil,and_true];rwa[(Ne.symm X,Ne.symm m,c,i,F,B),(a0,a1,a4,a6,a5),(s,u,y,x),(d,G,h),(J,t),j]
 .rcases hb with z | z | z | z | z
  .rwa[1 z]
  .rw[z];rwa[2 b7]
  .simp only[ML.ls,xT,xE,xV,or_false] at z;rcases z with rfl | rfl | rfl | rfl | rfl | rfl | rfl<;>rwa[2 (by assumption)]
  .ext z
  .let c:b≠p:=λy=>r (y▸z);erw[.inr ?_];rcases z with z | z | z | z | z | ⟨n,l,e,z⟩
   .rwa[a b (by rw[z];rwa[nx]) c]
   .rwa[a b (U b (1 z)) c]
   .rwa[a b (U b (2 (1 z))) c]
   .rwa[a b (U b (2 (2 (1 z)))) c]
   .rwa[a b (U b (2 (2 (2 z)))) c]
   .ext e
end
inductive AD where
 | s (d:SD) | c (d:CD) (a a:Int) (a a:jS) (f:Str->Int)
abbrev V8:=List ZI×Mo
def Vw(s:V8):AD->V8
 | .s d=>(sdF s.1 d,s.2.sd d)
 | .c d b a c e f=>(s.1,s.2.ip b a f c e d)
def Zg(as:List AD):V8:=as.foldl Vw ([],mo0)
def sdD:SD->D
 | .come n a b=>coD n a b
 | .rise n a b=>riD n a b
 | .die n b a=>diD n b a
 | .pen n=>7 [5 "penance", 5 n]
 | .bring n a=>IW n a
 | .give i x y a=>gvD i.toNat x y a
 | .pay x y b a=>pyD x y b a
def cdD(day a:Int)(c d:jS):CD->D
 | .wer x y b=>weD x y b day a c d
 | .clm x i=>clD x i.toNat day a c d
 | .acc i n=>acD i n day a c d
def adD:AD->D
 | .s d=>sdD d
 | .c d b a c e _=>cdD b a c e d
def KM:SD->Prop
 | .give i _ _ _=>0<=i
 | _=>True
def IB:CD->Prop
 | .clm _ i=>0<=i
 | _=>True
def Fs(s:V8):AD->Prop
 | .s d=>sdOk s.1 s.2 d/\eSD s.1 s.2 d=_n/\KM d
 | .c d a b c e f=>cdOk d/\WH s.2/\s.1.9<=1000/\c.9<=60/\e.9<=60/\okI a/\okI b/\(∀n∈c++e,n.9<=100/\∀d,Zw s.1 n=8 d->d<=a->Bx (kw s.1 n) a (f n)/\1<=f n/\f n<=1000)/\eCD s.1 s.2 a b f c e d=_n/\IB d
def VJ(as:List AD):Prop:=as.9<=400/\∀i a,as[i]?=8 a->Fs (Zg (as.take i)) a
def dG(s:V8)(a:AD):(Vw s a).2.il=s.2.il ++ [adD a]:=by
 cases a with
 | s d=>ext d<;>rfl
 | c d e b g h f=>ext d<;>rfl
theorem Lu:∀(as:List AD)(s:V8),(as.foldl Vw s).2.il=s.2.il++as.map adD
 | [],s=>by simp
 | a::as,s=>by
  rw[zL,Lu as,yO,dG,yW];rfl
def dN(as:List AD):(Zg as).2.il=as.map adD:=by unfold Zg;rw[Lu];rfl
def JB(as:List AD)(a:AD):Zg (as ++ [a])=Vw (Zg as) a:=by unfold Zg;rw[zB];rfl
def DT(as:List AD):(Zg as).2.il.9=as.9:=by rw[dN,xA]
def VJ.snoc(h:VJ as)(b:as.9<400)(g:Fs (Zg as) a):VJ (as ++ [a]):=by
 erw[by rw[xI];show as.9+1<=400;lia,λi p b=>?_];rcases Nat.lt_or_ge i as.9 with z | z
 .rw[zS z] at b;rw[List.take_append_of_le_length (zC z)];rwa[h.2 i p b]
 .grind
def scD:D->Bool
 | .str _=>_t
 | .int _=>_t
 | .non=>_t
 | .bl _=>_t
 | _=>_x
def Hw(h:scD d=_t):isI d "list"=false:=by ext d<;>first | rfl | ext h
def hZ(h:scD d=_t)(a:YC H d u)(b:YC J d v):v=u:=by
 ext d<;>first | (ext h;done) | (ext a;ext b;rfl)
theorem FV:∀{F:List D}{us vs:aG},(∀d∈F,scD d=_t)->ZN H F us->ZN J F vs->vs=us
 | [],_,_,_,a,b=>by ext a;ext b;rfl
 | d::F,_,_,h,⟨_,_,rfl,a,a'⟩,⟨_,_,rfl,b,b'⟩=>by rw[hZ (h d yC) a b,FV (λx a=>h x (xP _ a)) a' b']
def sdP:SD->List D
 | .come n a b=>[5 "come", 5 n,4 a,4 b]
 | .rise n a b=>[5 "rise", 5 n,4 a,4 b]
 | .die n b a=>[5 "die", 5 n,4 a,5 b]
 | .pen n=>[5 "penance", 5 n]
 | .bring n a=>[5 "bring", 5 n,4 a]
 | .give i x y a=>[5 "give", 4 i,5 x,5 y,4 a]
 | .pay x y b a=>[5 "pay", 5 x,5 y,4 b,4 a]
def GA(d:SD):∀x∈sdP d,scD x=true:=by ext d<;>simp[sdP,scD]
def BJ(H:Hp)(d:SD):ZN H (sdP d) (sdV d):=by ext d<;>(repeat erw[45])<;>rwa[7]
def cdP(day a:Int)(c d:jS):CD->List D
 | .wer x y b=>[5 "wergild", 5 x,5 y,4 b,4 day,4 a,6 (c.map D.str),6 (d.map D.str)]
 | .clm x i=>[5 "claim", 5 x,4 i,4 day,4 a,6 (c.map D.str),6 (d.map D.str)]
 | .acc i n=>[5 "accuse", 4 i,5 n,4 day,4 a,6 (c.map D.str),6 (d.map D.str)]
theorem EB:∀{o:jS}{vs:aG},ZN H (o.map D.str) vs->vs=o.map V.str
 | [],_,h=>h
 | _::_,_,⟨_,_,e,rfl,h⟩=>by rw[e,EB h];rfl
def Kl(h:ZN H (cdP day need o1 o2 d) vs):∃b c,vs=cdV day need b c d/\H b=8 (6 (o1.map V.str))/\H c=8 (6 (o2.map V.str)):=by
 let a:∀{o:jS}{v:V},YC H (6 (o.map D.str)) v->∃l,v=3 l/\H l=8 (6 (o.map V.str)):=λh=>by
  let(l,g,3,e,f):=h;rwa[l,3,by rw[e,EB f]]
 cases d with
 | wer x y m =>
  let(4,(4,(4,(4,(4,(4,(21,g,(21,j,3)))))))):=h;let(b,3,e):=a g;let(c,3,f):=a j;rwa[b,c,3,e,f]
 | clm x i =>
  let(4,(4,(4,(4,(4,(21,g,(21,j,3))))))):=h;let(b,3,e):=a g;let(c,3,f):=a j;rwa[b,c,3,e,f]
 | acc i n =>
  let(4,(4,(4,(4,(4,(21,g,(21,j,3))))))):=h;let(b,3,e):=a g;let(c,3,f):=a j;rwa[b,c,3,e,f]
section
variable{C CM:jY}
def plD(d:D):Prop:=scD d=_t\/∃o:List Str,d=6 (o.map D.str)/\o.9<=60
inductive JC:Sp
 |mk(p) (us) (F)(_:vs=[3 p]/\H p=8 (7 us)/\ZN H F us/\(∀d∈F,plD d)/\F.9<=10/\∀q a J,H q=_n->J q=8 (7 a)->ZN J F a->(∀l,V.ref l∈a->H l=_n)->ZC H J->Q (3 q) J)
abbrev Ih:Stmt:=top 82
def eR(t:YB K mg "_law_hand" Ih)(T:Txt mg):10 Fn "_law_hand" lB 1 JC:=by
 erw[t.fq lB λH vs Q E A h=>?_];let(p,R,F,7,M,A,Y,I,k):=h
 refine(72,(Zf (Zr (Jm PU T.tuple Gz (0 (Vg (locs:=["_law_part"]) (fr:=[]) (7,aA,aA,aA,aA,aA) .nil rfl (LZ Q0) ⟨λ_ _ _ _ _ _=>by
  let u:(inN ["_law_part"] []).Nodup:=aA
  rwa[(Y9 0 u),Jb,(IR (Wz (Z1 GS T.isinstance Uv (0 (Yj 0) (Ux (v:=.ty "list") T.list V9 rfl (n:=nmC))) (n:=nmC))) (Jm Qq T.list V9 (0 (Yj 0)) (n:=nmC)) (Yj 0))]⟩))))),5)
 let B:R.9=F.9:=A.9;let hz:=aC
 erw[8,p,7,(2,ZO.of M),5];erw[Nc (L:=R) (λi a J=>ZC H J/\ZN J (F.take i) a/\∀l,V.ref l∈a->H l=_n) (ZC.refl H,7,(λl h=>nomatch h)) () (λi a J _ ⟨e,_⟩=>ZO.of (e _ _ M)) (λi a J ⟨_,e,_⟩=>by rw[e.9,xY];lia) ?_ ?_]
 .rintro i v a J hv ⟨S,r,j⟩ ls y;let(w0,7):=Uh y;let(d,G,c):=A.get hv;let c:=YC.mono S _ _ c;let(O,f,x):=isi (K:=K) c "list" aA;let U:F.take (i+1)=F.take i ++ [d]:=by rw[xQ,G];rfl
  rw[U];erw[([_],77),5];rcases Y d (xM G) with z | ⟨o,rfl,ho⟩
  .rw[Hw z] at x;erw[8,v, "list", O,8,f,x,8,Zz (83,r.snoc c,λl h=>?_)];rcases xL.mp h with h | h
   .rwa[j l h]
   .have:=xU.mp h;subst this;ext d<;>first | (ext z;done) | ext c
  .let(N,g,7,W,X):=id c;erw[8,3 N, "list", O,8,f,x,8,Z7 (8,N,8,1 (9 W),λq b=>?_)];let s:=ZC.new (o:=6 g) b;erw[S.trans s,ZN.snoc (show YC _ (6 (o.map D.str)) (3 q) from(q,g,7,Zi,ZN.mono s _ _ X)) (ZN.mono s _ _ r),λl h=>?_];rcases xL.mp h with h | h
   .rwa[j l h]
   .cases xU.mp h;rwa[S.free b]
 .rintro a J ⟨S,r,j⟩ l I;rw[B,xZ] at r;erw[nw (o:=6 a) I λH1 m k1=>?_];rwa[l,8,1 (9 k1,λq b=>k q a _ ((S.trans m).free b) Zi (ZN.mono (m.trans (ZC.new b)) _ _ r) j ((S.trans m).trans (ZC.new b)))]
def Qd(b:o1.9<=60)(c:o2.9<=60)(d:CD):∀x∈cdP day need o1 o2 d,plD x:=by
 let a:plD (6 (o1.map D.str)):=2 (o1,3,b);let b:plD (6 (o2.map D.str)):=2 (o2,3,c);let c:∀x,plD (5 x):=λ_=>1 S;let e:∀x,plD (4 x):=λ_=>1 S;ext d<;>simp[cdP,a,b,c,e]
def IF(b:H l1=8 (6 (o1.map V.str)))(c:H l2=8 (6 (o2.map V.str)))(d:CD):ZN H (cdP day need o1 o2 d) (cdV day need l1 l2 d):=by
 let a:YC H (6 (o1.map D.str)) (3 l1):=(l1,1,b,JK H o1);let b:YC H (6 (o2.map D.str)) (3 l2):=(l2,1,c,JK H o2);let t:ZN H [6 (o1.map D.str),6 (o2.map D.str)] [3 l1,3 l2]:=(21,a,(21,b,3));ext d
 .rwa[4,(4,(4,(4,(4,(4,t)))))]
 all_goals rwa[4,(4,(4,(4,(4,t))))]
def YE.x(h:YE C CM H p F m O)(hs:H s=8 (6 ys))(a:¬O s)(k:ZF s H J):YE C CM J p F m O:=by
 let(M,c,L,b,e,W,3):=h;rwa[M,c,L,b,e,W.x hs a k,7]
def trd{c:Type _}(e:Option Str)(a b:c):c:=match e with
 | none=>a
 | some _=>b
def FC(C CM:jY)(Q:V->Hp->Prop)(H:Hp)(p:jY)(O:jY->Prop)(b:List ZI)(m':Mo)(c:aG):Prop:=∀a l J,YE C CM J p b m' a->YK O H a J->¬a l->J l=8 (6 c)->Q (3 l) J
inductive WR(C CM:jY):Sp
 |mk(p) (F) (m) (O) (a) (d)(_:vs=[3 p,3 a]/\YE C CM H p F m O/\H a=8 (7 (sdV d))/\sdOk F m d/\(∀x,eSD F m d=8 x->x∈errs)/\FC C CM Q H p O (trd (eSD F m d) (sdF F d) F) (trd (eSD F m d) (m.sd d) m) (trd (eSD F m d) [sdR m d] []))
inductive WQ(C CM:jY):Sp
 |mk(p) (F) (m) (O) (a) (d) (day need) (l1 l2) (o1 o2) (f)(_:vs=[3 p,3 a]/\YE C CM H p F m O/\H a=8 (7 (cdV day need l1 l2 d))/\Bt F m H l1 l2 o1 o2 day need f/\cdOk d/\(∀x,eCD F m day need f o1 o2 d=8 x->x∈errs)/\FC C CM Q H p O F (trd (eCD F m day need f o1 o2 d) (m.ip day need f o1 o2 d) m) (trd (eCD F m day need f o1 o2 d) [4 m.oX.9] []))
abbrev Fu:Stmt:=top 83
def cQ:ZK ["_law_moot","_law_deed_here","_law_handed","_law_told","_law_part"] lQ (Zj Fu):=(fsc)
def Rv(Zjn:YB K mg "_law_try" Fu)(T:Txt mg)(er:Er K mg c errs)(Z3r:10 Fn "_law_hand" lB 1 JC)(Z3s:10 YZ "done" 8 (Sp.or (VX C CM c) (VT C CM c))):10 Fn "_law_try" lQ 9 (Sp.or (WR C CM) (WQ C CM)):=by
 erw[Zjn.fn0 cQ (λ_ _ _ _ _ _=>al2 λ_ _=>rfl) (λvs H Q E h=>?_) (λf cdv A outer s H vs Q E hr h=>?_)]
 .rcases h with⟨p,F,m,O,a,d,rfl,_⟩ | ⟨p,F,m,O,a,d,day,need,l1,l2,o1,o2,f,rfl,_⟩<;>rfl
 .refine(2,(CB (QS.q0 (Zv 2 (Zm Z3r (0 Q1)))) (CB (QS.q0 (Zv 3 (Yl Zb))) (CB (OT Ht (λ_ _ hx=>(Zf (Zv 3 (Yl (0 (Wq hx Z3s (0 Q0 Q2))))))) (RO Ht (er.m) (λ_ _=>(Zf (Zv 3 (Yl Zb)))) jJ)) (CB (QS.q0 (Wd mL rfl (Y2 (Vg (locs:=["_law_part"]) (fr:=[]) (7,aA,aA,aA,aA,aA) .nil rfl (LZ Q2) ⟨λ_ _ _ _ _ _=>by
  let cnd:(inN ["_law_part"] []).Nodup:=aA
  rwa[(Y9 0 cnd),(Um (Wz (Z1 GS T.isinstance Uv (0 (Yj 0) (Ux (v:=.ty "list") T.list V9 rfl (n:=nmC))) (n:=nmC)))),(Yj 0)]⟩)) (Yc 4)
 (Zf (Zk (iK aD PySem.F.slot_list_clear PySem.F.type_list_clear cC Q4)))))
 (CB (QS.q0 (Zr Q3))
 (WY.q0 Zs)))))),5)
  let hz:=aC
  obtain⟨p,F,m,O,a,us,ps,hvs,W,ha,hr0,hpl,hps,hk⟩:∃(p:jY)(F:List ZI)(m:Mo)(O:jY->Prop)(a:jY)(us:aG)(ps:List D),vs=[3 p,3 a]/\YE C CM H p F m O/\H a=8 (7 us)/\ZN H ps us/\(∀x∈ps,plD x)/\ps.9<=10 /\
    ∀(q:jY)(ys:aG)(H2:Hp),ZC H H2->H2 q=8 (7 ys)->ZN H2 ps ys->(∀l,V.ref l∈ys->H l=_n)->
     ∃ds' m' tv,FC C CM Q H p O ds' m' tv/\∀(R:V->Hp->Prop)(E:XK),(∀(v:V)(O':jY->Prop)(H3:Hp),tv=[v]->YE C CM H3 p ds' m' O'->YK O H2 O' H3->R v H3)->(∀x H3,x∈errs->tv=[]->ds'=F->m'=m->ZC H2 H3->E (3 (c x)) _n H3)->(Sp.or (VX C CM c) (VT C CM c)) [3 p,3 q] H2 R E:=by
   rcases h with⟨p,F,m,O,a,d,rfl,W,ha,hd,he,k⟩ | ⟨p,F,m,O,a,d,day,need,l1,l2,o1,o2,f,rfl,W,ha,cs,hd,he,k⟩
   .erw[p,F,m,O,a,2,sdP d,7,W,ha,BJ H d,λx hx=>1 (GA d x hx),by ext d<;>simp[sdP],λq ys H2 S kq hy _=>(222,k,λR E g b=>1 (p,F,m,O,q,d,7,W.same S,by rw[kq,FV (GA d) (BJ H d) hy],hd,5))];cases e:eSD F m d with
    | none=>rw[e] at g;rwa[λO' H3 W3 F3=>g _ O' H3 rfl W3 F3]
    | some x=>rw[e] at b;rwa[λH3 S3=>b x H3 (he x e) rfl rfl rfl S3]
   .erw[p,F,m,O,a,2,cdP day need o1 o2 d,7,W,ha,IF cs.h1 cs.h2 d,Qd cs.n1 cs.n2 d,by ext d<;>simp[cdP],λq ys H2 S kq hy fr=>(222,k,λR E g b=>?_)];let(m1,m2,7,h1,h2):=Kl hy;erw[2 (p,F,m,O,q,d,day,need,m1,m2,o1,o2,f,7,W.same S,kq,(cs.ok,cs.hd,h1,h2,cs.n1,cs.n2,cs.di,cs.ni,cs.hw),W.out (fr m1 (by ext d<;>simp[cdV])),W.out (fr m2 (by ext d<;>simp[cdV])),hd,5)];cases e:eCD F m day need f o1 o2 d with
    | none=>rw[e] at g;rwa[λO' H3 W3 F3=>g _ O' H3 rfl W3 F3]
    | some x=>rw[e] at b;rwa[λH3 S3=>b x H3 (he x e) rfl rfl rfl S3]
  subst hvs;erw[8,a,us,ps,7,ha,hr0,hpl,hps,λq ys H1 hq kq hy fr S1=>?_];erw[Z4 ?_];dsimp only [Y7];erw[aB rfl,λl0 hl0=>?_];let S2:=S1.trans (ZC.new (o:=6 []) hl0);let kq2:=(ZC.new (o:=6 []) hl0) _ _ kq;let hy2:=ZN.mono (ZC.new (o:=6 []) hl0) _ _ hy;generalize (upd H1 l0 (6 []))=H2 at S2 kq2 hy2 |-;erw[Z4 ?_];dsimp only [Y7];let(ds',m',tv,k,g):=hk q ys H2 S2 kq2 hy2 fr;let ref:∀{l:jY},V.ref l∈ys->∃L:List Str,H2 l=8 (6 (L.map V.str)):=λ{l} h=>by
   let(i,hi):=List.getElem?_of_mem h;let(d,hd,re):=hy2.get hi;rcases hpl d (xM hd) with z | ⟨o,rfl,_⟩
   .ext d<;>first | (ext z;done) | ext re
   .let(b,us,e,e1,e2):=re;ext e;rwa[o,by rw[e1,EB e2]]
  erw[Al (λY H4=>∃(O':jY->Prop)(l:jY),Y=[8 (3 p),8 (3 a),8 (3 q),8 (3 l),_n]/\YE C CM H4 p ds' m' O'/\YK O H2 O' H4/\¬O' l/\H4 l=8 (6 tv)/\∀b,V.ref b∈ys->b≠l) ?_ ?_]
  .rintro Y H4 ⟨O',l,rfl,W4,F4,nl,kl,hne⟩;let at4:∀{b:jY}{o:HO},H b=_n->H2 b=8 o->H4 b=8 o/\¬O' b:=λe e2=>(F4.1 _ _ e2 (W.out e),λz=>(F4.2 _ z).elim (W.out e) (λy=>by rw[e2] at y;ext y));let kq4:=(at4 hq kq2).1;erw[8,q,7,(2,ZO.of kq4),5];let hyl:=hy2.9;erw[Nc (L:=ys) (λi zs J=>J=H4/\zs.9<=i/\∀z∈zs,∃b,z=3 b/\z∈ys) (7,yI _,(λz h=>nomatch h)) () (λi zs J _ ⟨e,_⟩=>by rw[e];rwa[ZO.of kq4]) (λi zs J ⟨_,e,_⟩=>e) ?_ ?_]
   .rintro i v zs J hv ⟨rfl,hl,hz'⟩ ls hls;let(w0,7):=Uh hls;let(d,hd,re):=hy2.get hv;let hm:=xM hv;erw[([_],77),5];rcases hpl d (xM hd) with z | ⟨o,rfl,_⟩
    .let re':YC J d v:=by ext d<;>first | (ext z;done) | rwa[re]
     let(t1,ty1,e1):=isi (K:=K) re' "list" aA;rw[Hw z] at e1;rwa[8,v, "list", t1,8,ty1,e1,8,Zz (76,hz')]
    .let(b,us,7,e1,e2):=re;let re':YC J (6 (o.map D.str)) (3 b):=(b,us,7,(at4 (fr b hm) e1).1,by rw[EB e2];rwa[JK _ _]);let(t1,ty1,e1):=isi (K:=K) re' "list" aA;erw[8,3 b, "list", t1,8,ty1,e1,8,Z7 (87,by rw[xI];show _+1<=_;lia,λz h=>?_)];rcases xL.mp h with h | h
     .rwa[hz' z h]
     .grind
   .rintro zs J ⟨rfl,hl,hz'⟩ l5 hl5;let S5:=ZC.new (o:=6 zs) hl5;let k5:(upd J l5 (6 zs)) l5=8 (6 zs):=Zi;let n5:=W4.out hl5;let W5:=W4.same S5;let F5:=((YK.same S2).trans F4).trans (YK.same S5);let kl5:=S5 _ _ kl;let ne5:∀{b:jY}{o:HO},J b=8 o->b≠l5:=λe=>Zl e hl5;let in5:∀{b:jY},V.ref b∈ys->¬O' b/\b≠l5/\∃L,(upd J l5 (6 zs)) b=8 (6 L):=λ{b} h=>by
     let(L,e):=ref h;let(a1,a2):=at4 (fr b h) e;rwa[a2,ne5 a1,2,S5 _ _ a1]
    generalize (upd J l5 (6 zs))=H5 at W5 F5 kl5 k5 in5 |-;erw[l5,7,(2,9 k5),5];erw[Vo zs (λi Y H6=>(∃v4:Option V,Y=[8 (3 p),8 (3 a),8 (3 q),8 (3 l),v4])/\YE C CM H6 p ds' m' O'/\YK O H O' H6/\H6 l=8 (6 tv)/\H6 l5=8 (6 zs)/\∀b,V.ref b∈ys->∃L,H6 b=8 (6 L)) ((_n,7),W5,F5,kl5,k5,λb h=>(in5 h).2.2) (λi Y H6 _ ⟨_,_,_,_,e,_⟩=>9 e) ?_ ?_]
    .rintro i v Y H6 hv ⟨⟨v4,rfl⟩,W6,F6,kl6,k6,in6⟩;let(b,7,hb):=hz' v (xM hv);let(L,e):=in6 b hb;let kx:ZF b H6 (upd H6 b (6 [])):=ZF.upd;erw[8,1 (72,9 e),b,L,77,e,(_,rfl),W6.x e (in5 hb).1 kx,(λb' o e' n'=>kx _ _ (Zl e' (fr b hb)) (F6.1 _ _ e' n'),F6.2),kx _ _ (hne b hb).symm kl6,kx _ _ (in5 hb).2.1.symm k6,λb' hb'=>?_]
     by_cases z:b'=b
     .rw[z];rwa[2,Zi]
     .let(xs',e'):=in6 b' hb';rwa[xs',kx _ _ z e']
    .rintro Y H6 ⟨⟨v4,rfl⟩,W6,F6,kl6,k6,in6⟩;rwa[8,k O' l H6 W6 F6 nl kl6]
  .intro D' hn _ _ _;erw[88,g _ _ (λv O' H3 etv W3 F3=>?_) (λx H3 hx etv ed em S3=>?_)]
   .erw[aB rfl,λl hl=>?_];erw[Z4 (hn _ _ (O',l,7,W3.same (ZC.new hl),F3.trans (YK.same (ZC.new hl)),W3.out hl,by rw[etv];rwa[Zi],λb hb=>?_))];let(L,e):=ref hb;rwa[Zl (F3.1 _ _ e (W.out (fr b hb))) hl]
   .erw[82,er.e x hx,Z7 (aB rfl,λl hl=>?_)];let S4:=S3.trans (ZC.new (o:=6 []) hl);erw[Z4 (hn _ _ (O,l,7,by rw[ed,em];rwa[(W.same S2).same S4],YK.same S4,W.out ((S2.trans S3).free hl),by rw[etv];rwa[Zi],λb hb=>?_))];let(L,e):=ref hb;rwa[Zl (S3 _ _ e) hl]
end
section
def adP:AD->List D
 | .s d=>sdP d
 | .c d b a c e _=>cdP b a c e d
def adT(a:AD):D:=7 (adP a)
def isC:AD->Bool
 | .s _=>_x
 | .c ..=>_t
def By(h:YC (fz fx H) (adT (.s d)) v):∃q,v=3 q/\H q=8 (7 (sdV d)):=by
 let(a,e,3,b,c):=h;rwa[a,3,by rw[(BO b).1,FV (GA d) (BJ H d) c]]
def Di(h:YC (fz fx H) (adT (.c d day need o1 o2 f)) v):∃q b c,v=3 q/\H q=8 (7 (cdV day need b c d))/\fz fx H b=8 (6 (o1.map V.str))/\fz fx H c=8 (6 (o2.map V.str)):=by
 let(a,e,3,i,j):=h;let(b,c,3,e,g):=Kl j;rwa[a,b,c,3,(BO i).1,e,g]
structure WL where
 wl:jY
 dl:jY
 sl:jY
 tl:jY
structure ZZ (s:jY) (H:Hp) (fx:jV) (W:WL) (as bs:List AD) (ss:List ZW):Prop where
 e:H W.wl=8 (6 [3 W.dl,3 W.sl,3 W.tl])
 d:WA H fx W.dl (as.map adT)
 u:WA H fx W.sl (ss.map Wx)
 t:WA H fx W.tl (bs.map adT)
 ne:∀b∈W.wl::W.dl::W.sl::W.tl::fx,b≠s
 nd:[W.wl,W.dl,W.sl,W.tl].Nodup
 nx:∀b∈fx,b ∉ [W.dl,W.sl,W.tl]
variable{s la:jY}{H J:Hp}{fx:jV}{as:List AD}
def ZZ.keep(h:ZZ s H fx W as bs ss)(c:Ue H J)(a:∀b∈W.wl::W.dl::W.sl::W.tl::fx,∀o,H b=8 o->J b=8 o):ZZ s J fx W as bs ss:=by
 let f:ZC (fz fx H) (fz fx J):=Vn c (λx c=>a x (by simp[c])) λ_ z=>z;rwa[a _ (by simp) _ h.e,h.d.mono (a _ (by simp)) f,h.u.mono (a _ (by simp)) f,h.t.mono (a _ (by simp)) f,h.ne,h.nd,h.nx]
def ZZ.same(h:ZZ s H fx W as bs ss)(k:ZC H J):ZZ s J fx W as bs ss:=(h.keep (λ_ _ e=>k _ _ e) λ_ _ _ e=>k _ _ e)
def ZZ.x(h:ZZ s H fx W as bs ss)(hs:ZM H s la)(k:ZF s H J):ZZ s J fx W as bs ss:=by
 let(22222,a,2):=hs;rwa[h.keep (λb u e=>k _ _ (λz=>by rw[z,a] at e;ext e) e) λb a o e=>k _ _ (h.ne b a) e]
def ZZ.more(h:ZZ s H fx W as bs ss)(c:∀b∈gx,b≠s)(d:∀b∈gx,b ∉ [W.dl,W.sl,W.tl]):ZZ s H (gx++fx) W as bs ss:=by
 let f:ZC (fz fx H) (fz (gx++fx) H):=Vn (λ_ _ e=>e) (λ_ _ _ e=>e) λ_ z=>xJ _ z;erw[h.e,h.d.mono (λ_ e=>e) f,h.u.mono (λ_ e=>e) f,h.t.mono (λ_ e=>e) f,λb a=>?_,h.nd,λb a=>(xL.mp a).elim (d b) (h.nx b)];let a:b ∈ [W.wl,W.dl,W.sl,W.tl]\/b∈gx\/b∈fx:=by simpa [or_assoc] using a
 rcases a with z | z | z
 .rwa[h.ne b (yR fx z)]
 .rwa[c b z]
 .rwa[h.ne b (by simp[z])]
def ZZ.grow(h:ZZ s H fx W as bs ss)(c:l ∈ [W.dl,W.sl,W.tl])(e:H l=8 (6 vs)) :
  ZC (fz fx H) (fz fx (upd H l (6 (vs ++ [v]))))/\(∀b,b≠l->b∈W.wl::W.dl::W.sl::W.tl::fx->∀o,H b=8 o->(upd H l (6 (vs ++ [v]))) b=8 o):=by
 let a:ZF l H (upd H l (6 (vs ++ [v]))):=ZF.upd;rwa[Vn (λb u y=>a _ _ (λz=>by rw[z,e] at y;ext y) y) (λx d o y=>a _ _ (λz=>h.nx x d (z▸c)) y) λ_ z=>z,λb n _ o y=>a _ _ n y]
def WA.snoc(h:WA H fx l c)(e:H l=8 (6 vs))(f:ZC (fz fx H) (fz fx (upd H l (6 (vs ++ [v])))))(b:YC (fz fx H) d v):WA (upd H l (6 (vs ++ [v]))) fx l (c ++ [d]):=by
 let(g,a,r):=h;rw[e] at a;ext a;rwa[2,Zi,ZN.snoc (YC.mono f _ _ b) (r.oy f)]
def ZZ.wne(h:ZZ s H fx W as bs ss):W.wl≠W.dl/\W.wl≠W.sl/\W.wl≠W.tl/\W.dl≠W.sl/\W.dl≠W.tl/\W.sl≠W.tl:=by
 have:=h.nd;simp only[yM,xE,xV,or_false,not_or] at this;let((a,b,c),(d,e),f,2):=this;rwa[a,b,c,d,e,f]
def ZZ.addU(h:ZZ s H fx W as bs ss){vs:aG}{v:V}{t:ZW}(e:H W.sl=8 (6 vs))(a:YC (fz fx H) (Wx t) v):ZZ s (upd H W.sl (6 (vs ++ [v]))) fx W as bs (ss ++ [t]):=by
 let(f,g):=h.grow (l:=W.sl) (v:=v) (by simp) e;let(i,b,j,c,k,d):=h.wne;rwa[g _ b (by simp) _ h.e,h.d.mono (g _ c (by simp)) f,by rw[xH];rwa[h.u.snoc e f a],h.t.mono (g _ d.symm (by simp)) f,h.ne,h.nd,h.nx]
def ZZ.addT(h:ZZ s H fx W as bs ss){vs:aG}{v:V}{x:AD}(e:H W.tl=8 (6 vs))(a:YC (fz fx H) (adT x) v):ZZ s (upd H W.tl (6 (vs ++ [v]))) fx W as (bs ++ [x]) ss:=by
 let(f,g):=h.grow (l:=W.tl) (v:=v) (by simp) e;let(i,j,b,k,c,d):=h.wne;rwa[g _ b (by simp) _ h.e,h.d.mono (g _ c (by simp)) f,h.u.mono (g _ d (by simp)) f,by rw[xH];rwa[h.t.snoc e f a],h.ne,h.nd,h.nx]
def ZZ.addD(h:ZZ s H fx W as bs ss){vs:aG}{v:V}{x:AD}(e:H W.dl=8 (6 vs))(a:YC (fz fx H) (adT x) v):ZZ s (upd H W.dl (6 (vs ++ [v]))) fx W (as ++ [x]) bs ss:=by
 let(f,g):=h.grow (l:=W.dl) (v:=v) (by simp) e;let(b,i,j,c,d,k):=h.wne;rwa[g _ b (by simp) _ h.e,by rw[xH];rwa[h.d.snoc e f a],h.u.mono (g _ c.symm (by simp)) f,h.t.mono (g _ d.symm (by simp)) f,h.ne,h.nd,h.nx]
inductive Jn:Sp
 |mk(s la b:jY) (a:jS)(_:vs=[3 s,3 b]/\ZM H s la/\H b=8 (6 (a.map V.str))/\b≠s/\0<a.9/\a.9<=1000/\∀(n:Str)(J:Hp),n∈a->ZM J s la->ZF s H J->Q (5 n) J)
abbrev Ik:Stmt:=top 88
def ON(a:YB K mg "_law_one" Ik)(T:Txt mg)(c:10 Fn "_law_next" lj 1 YI):10 Fn "_law_one" lO 2 Jn:=by
 erw[a.fq lO λH b Q E a h=>?_];let(s,la,f,g,3,a,e,b,d,i,k):=h;erw[72,(Zf (Zr (Zh Z6 Q1 (Zm c (0 Q0 (Z1 Yw T.len Yk (0 Q1))))))),5];erw[111,f,1,1 (9 e),s,la,1,a,by rw[xA];lia,by rw[xA];lia,λd h i l c a=>?_];let(j,3):=yK i;rw[xA] at l;let d:j<g.9:=by lia
 rwa[f,22,5 g[j],33,9 (a _ _ b e),Yo (by rw[xG,xB d];rfl),k _ h (yY d) c a]
def wst(n:Str)(day:Int)(p:Int×Int):ZI->Int×Int
 | .come m d a=>if m=n/\p.1<=d/\d<=day then (d,a) else p
 | .rise m d a=>if m=n/\p.1<=d/\d<=day then (d,a) else p
 | .die _ _ _=>p
def wgp(F:List ZI)(n:Str)(day:Int):Int×Int:=F.foldl (wst n day) (-1,(0))
def wg(F:List ZI)(n:Str)(day:Int):Int:=(wgp F n day).2
def Ja(F:List ZI)(x:ZI)(n:Str)(day:Int):wgp (F ++ [x]) n day=wst n day (wgp F n day) x:=by unfold wgp;rw[zB];rfl
def QY:inV (5 "come") [5 "come", 5 "rise"]=true:=(aA)
def SG:inV (5 "rise") [5 "come", 5 "rise"]=true:=(aA)
def ED:∀x∈(["die","penance","bring","give","pay","wergild","claim","accuse"]:jS),inV (5 x) [5 "come", 5 "rise"]=false:=(aA)
def Y1:AD->Str
 | .s (.come ..)=> "come"
 | .s (.rise ..)=> "rise"
 | .s (.die ..)=> "die"
 | .s (.pen ..)=> "penance"
 | .s (.bring ..)=> "bring"
 | .s (.give ..)=> "give"
 | .s (.pay ..)=> "pay"
 | .c (.wer ..) .. => "wergild"
 | .c (.clm ..) .. => "claim"
 | .c (.acc ..) .. => "accuse"
def Bu(h:YC (fz fx H) (adT x) v):∃q us,v=3 q/\H q=8 (7 us)/\us[0]?=8 (5 (Y1 x)):=by
 cases x with
 | s d =>
  let(q,3,a):=By h;rwa[q,1,a,by ext d<;>rfl]
 | c d e b g i f =>
  let(q,b,e,3,a,2):=Di h;rwa[q,1,a,by ext d<;>rfl]
def fdS(F:List ZI):AD->List ZI
 | .s d=>sdF F d
 | .c ..=>F
def A9(as:List AD)(x:AD):(Zg (as ++ [x])).1=fdS (Zg as).1 x:=by
 rw[JB];ext x<;>rfl
inductive VG:Sp
 |mk(q) (fx) (as) (n) (day)(_:vs=[3 q,5 n,4 day]/\WA H fx q (as.map adT)/\∀J,ZC H J->Q (4 (wg (Zg as).1 n day)) J)
abbrev MQ:Stmt:=top 80
def eW(G:YB K mg "_law_weighs" MQ)(T:Txt mg):10 Fn "_law_weighs" lG 1 VG:=by
 erw[G.fq ["_law_deeds","_law_name","_law_day","_law_last_here","_law_found","_law_deed_here"] λH vs Q E hr h=>?_];let(q,fx,as,n,b,7,(vs,hq,t),k):=h;erw[72,(11 (Zv 3 (Vj Vl Zd)) (Zv 4 Zd) (Wd mL rfl (Y2 Q0) (Yc 5) (Zf (Zt (QW.pt (V0 (Zo ME (Zh Zn Q5 Zd) (Yl (0 Z5 Z5)) rfl) (V0 (Zo Yh (Zh Zn Q5 Zd) Q1 (Zq _)) (V0 (Zo Vm Q3 (Zh Zn Q5 Zd) (Zq _)) (Jg (Zo Vm (Zh Zn Q5 Zd) Q2 (Zq _))))))) (11 (Zv 3 (Zh Zn Q5 Zd)) (Zv 4 (Zh Zn Q5 Zd))) Zs))) (Zr Q4)),5];let hz:=aC
 let A:=t.9;rw[xA] at A;erw[85];erw[8,q,7,(2,9 hq),5];erw[Vo vs (λi Y J=>∃R:Option V,Y=[8 (3 q),8 (5 n),8 (4 b),8 (4 (wgp (Zg (as.take i)).1 n b).1),8 (4 (wgp (Zg (as.take i)).1 n b).2),R]/\ZC H J) (_n,7,λ_ _ e=>e) (λi Y J _ ⟨_,_,e⟩=>9 (e _ _ hq)) ?_ ?_]
 .rintro i v Y J hv ⟨R,rfl,C⟩;let(x0,B,O):=t.get hv;rw[xG] at B;let(x,hx,7):=xS.mp B;let et:as.take (i+1)=as.take i ++ [x]:=by rw[xQ,hx];rfl
  rw[et,A9];generalize (Zg (as.take i)).1=F;let(a,us,7,j,hw):=Bu O;let X:=C _ _ j;erw[8,a,2,(0),5 (Y1 x),77,ZO.of X,Yo hw,aB rfl,λlq M=>?_];erw[nw (o:=6 [5 "come", 5 "rise"]) M λH1 S kl=>?_];let p:=C.trans S;let l:=S _ _ X;erw[lq,8,1 (9 kl),7785];show if inV _ _=_t then _ else _
  by_cases g:∃(m:Str)(d r:Int),x=.s (.come m d r)\/x=.s (.rise m d r)
  .let(m,d,r,N):=g;let I:us=[5 (Y1 x),5 m,4 d,4 r]/\inV (5 (Y1 x)) [5 "come", 5 "rise"]=_t/\wgp (fdS F x) n b=if m=n/\(wgp F n b).1<=d/\d<=b then (d,r) else wgp F n b:=by
    rcases N with rfl | rfl
    .let(q',e,u):=By O;ext e;rw[u] at j;ext j;rwa[7,QY,Ja F _ n b]
    .let(q',e,u):=By O;ext e;rw[u] at j;ext j;rwa[7,SG,Ja F _ n b]
   let(7,g,L):=I;rw[g,L];erw[Z7 ?_];erw[8,a,2,(1),5 m,77,ZO.of l,7878,Zx (λz=>?_) (λz=>Zz ?_)]
   .let em:m=n:=by injection z
    erw[88,a,2,(2),4 d,77,ZO.of l,72,d,778,Zx (λU=>?_) (λU=>Zz ?_)]
    .erw[8,a,2,(2),4 d,77,ZO.of l,78,d,b,778,Zx (λW=>?_) (λW=>?_)]
     .rw[_j (em,U,W)];rwa[8,a,2,(2),4 d,77,ZO.of l,78,a,2,(3),4 r,77,ZO.of l,78,p]
     .rw[_i (λy=>W y.2.2)];rwa[8,p]
    .rw[_i (λy=>U y.2.1)];rwa[8,p]
   .rw[_i (λy=>z (by rw[y.1]))];rwa[8,p]
  .let I:inV (5 (Y1 x)) [5 "come", 5 "rise"]=_x/\wgp (fdS F x) n b=wgp F n b:=by
    cases x with
    | s d =>
     cases d with
     | come m d r=>rwa[_a (m,d,r,1 rfl) g]
     | rise m d r=>rwa[_a (m,d,r,2 rfl) g]
     | die m he d=>rwa[ED _ (by simp[Y1]),Ja F _ n b]
     | _=>rwa[ED _ (by simp[Y1]),7]
    | c d dy a0 o1 o2 f=>rwa[ED _ (by ext d<;>simp[Y1]),7]
   let(g,L):=I;rw[g,L];rwa[Zz (Zz (8,p))]
 .rintro Y J ⟨R,rfl,C⟩;rw[A,xZ];rwa[8,k J C]
end
def PV{left:aG}{j:Nat}(b:j<left.9):([left[j]]++left.eraseIdx j).Perm left:=by
 rw[List.eraseIdx_eq_take_drop_succ];let e:left.take j++left[j]::left.drop (j+1)=left:=by rw[<- zT b,zD]
 let h:=(List.perm_middle (a:=left[j]) (l₁:=left.take j) (l₂:=left.drop (j+1))).6;rwa[h.trans (by rw[e])]
inductive JG:Sp
 |mk(s la a) (ts) (n)(_:vs=[3 s,3 a,4 n]/\ZM H s la/\H a=8 (6 ts)/\a≠s/\0<=n/\ts.9<=1000/\∀l b J,(∃left,(b++left).Perm ts)->b.9=(min n ts.9).toNat->H l=_n->J l=8 (6 b)->ZM J s la->ZF s H J->Q (3 l) J)
abbrev Ki:Stmt:=top 81
def jA(Y:YB K mg "_law_pick" Ki)(T:Txt mg)(R:10 Fn "_law_next" lj 1 YI) :
  Fn P w K mg Z "_law_pick" i3 2 JG:=by
 erw[Y.fq ["_law_src_here","_law_things","_law_many","_law_left_here","_law_found","_law_k"] λH X Q E Y h=>?_];let(s,r,a,W,n,3,U,X,Y,Q,O,k):=h
 refine(32,(11 (Zv 3 (Jm Aa T.list V9 (0 Q1))) (Zv 4 (Yl Zb)) (Wd mL S (J3 T.range (0 (Z1 (LF (by rfl)) T.min EK (0 Q2 (Z1 Yw T.len Yk (0 Q1)))))) (Yc 5)
 (Zf (Zk (Ys aD aE aF Yz Q4 (0 (Ys aD F.slot_list_pop F.type_list_pop eQ Q3 (0 (Zm R (0 Q0 (Z1 Yw T.len Yk (0 Q3))))))))))) (Zr Q4)),5)
 let Y:(2000:Nat)<=sizeLine:=by decide
 erw[1,a,1,1 (9 X),λR Q=>?_];erw[aB S,λl Y=>?_];let G:R≠l:=λz=>by rw[<- z,Zi] at Y;ext Y
 let N:ZC H (upd (upd H R (6 W)) l (6 [])):=(ZC.new Q).trans (ZC.new Y);let O:H l=none:=(ZC.new Q).free Y;let(o,h):=U.ne Q;let(m,g):=U.ne O;let Y:(upd (upd H R (6 W)) l (6 [])) a=8 (6 W):=N _ _ X;erw[11,a,1,1 (9 Y),n,11555]
 .split<;>lia
 .split<;>lia
 let Y:(if (W.9:Int)<n then (W.9:Int) else n)=min n W.9:=by split<;>lia
 refine Ap (min n W.9).toNat (by rw[Y]) (λi Y J=>∃(X left:aG)(v:Option V),Y=[8 (3 s),8 (3 a),8 (4 n),8 (3 R),8 (3 l),v]/\X.9=i/\left.9+i=W.9/\(∀x∈X,x∈W)/\(∀x∈left,x∈W)/\(X++left).Perm W /\
   J l=8 (6 X)/\J R=8 (6 left)/\ZM J s r/\ZF s H J)
  ([],W,_n,333,(λ_ z=>nomatch z),(λ_ z=>z),.refl _,Zi,by rw[Ze G,Zi],U.keep N,N.x) ?_ ?_
 .rintro i Y J E ⟨X,left,v,rfl,M,N,n,C,L,U,W,I,H⟩;let E:0<left.9:=by lia
  erw[1,1 (32,9 U),1,1 (32,9 W),11,R,1,1 (9 W),s,r,1,I,66,λd p B A u E=>?_];let(j,3):=yK B;let A:j<left.9:=by lia
  let B:=E R _ o W;let y:=E l _ m U;erw[R,22,j,left[j],33,B,66,seqIndex_of () (),xB A,5];let t:ZM (upd p R (6 (left.eraseIdx j))) s r:=u.oj ZF.upd o h;let B:upd p R (6 (left.eraseIdx j)) l=8 (6 X):=by rw[Ze G.6];rwa[y]
  erw[l,X,left[j],33,B,65];erw[X ++ [left[j]],left.eraseIdx j,1,by rw[xI,M];rfl,5,λx B=>?_,λx B=>?_,5,Zi,555]
  .rw[List.length_eraseIdx_of_lt A];lia
  .grind
  .rwa[C x (List.mem_of_mem_eraseIdx B)]
  .erw[List.Perm.trans ?_ L];rw[yW];rwa[List.Perm.append_left _ (PV A)]
  .rw[Ze G,Zi]
  .rwa[t.oj ZF.upd m g]
  .intro b o G e;let B:b≠R:=λz=>by rw[z,Q] at e;ext e
   let R:b≠l:=λz=>by rw[z,O] at e;ext e
   rw[Ze R,Ze B];rwa[E b o G (H b o G e)]
 .rintro Y J ⟨X,left,v,rfl,M,N,n,C,L,U,W,I,H⟩;rwa[1,k l X J (left,L) M O U I H]
theorem HW:∀{l:List Int},(∀x∈l,0<=x/\x<=1000)->0<=l.sum
 | [],_=>Int.le_refl _
 | x::r,h=>by
  let a:=HW (l:=r) λy a=>h y (xP _ a);let b:=(h x yC).1;rw[List.sum_cons];lia
theorem MK{ns:jS}:∀{out:aG},(∀v∈out,v∈ns.map V.str)->∃os:List Str,out=os.map V.str/\∀n∈os,n∈ns
 | [],_=>([],3,λ_ h=>nomatch h)
 | v::r,h=>by
  let(os,e,m):=MK (out:=r) λv a=>h v (xP _ a);let(n,b,a):=zP.mp (h v yC);rwa[n::os,by rw[<- a,e];rfl,λx a=>(xE.mp a).elim (λz=>z▸b) (m x)]
def cA{ns:jS}(c:ns.Nodup){out left:aG}(h:(out++left).Perm (ns.map V.str)):∃os:List Str,out=os.map V.str/\(∀n∈os,n∈ns)/\os.Nodup:=by
 let(os,3,m):=MK (ns:=ns) (out:=out) λv a=>h.mem_iff.mp (yR _ a);let d:(ns.map V.str).Nodup:=List.Pairwise.map V.str (λa b n e=>n (by injection e)) c;have:=(h.nodup_iff.mpr d);have:=(List.nodup_append.mp this).1;rwa[os,3,m,List.Pairwise.of_map V.str (λa b n e=>n (by rw[e])) this]
inductive Ta:Sp
 |mk(s g d:jY) (b:jS) (W:WL) (f:jV) (a e:List AD) (h:List ZW) (c:Int)(_:vs=[3 s,3 W.wl,3 d,4 c]/\ZM H s g/\ZZ s H f W a e h/\H d=8 (6 (b.map V.str))/\d≠s/\b.Nodup/\0<b.9/\b.9<=1000/\(∀n d,0<=wg (Zg a).1 n d/\wg (Zg a).1 n d<=1000)/\∀(q e f:jY)(c d:jS)(a:Int)(J:Hp),1<=a->a<=12000->(∀n∈c++d,n∈b)->(c++d).Nodup->0<c.9->(c++d).9<=6->H e=_n->H f=_n->J q=8 (7 [4 a,3 e,3 f])->J e=8 (6 (c.map V.str))->J f=8 (6 (d.map V.str))->ZM J s g->ZF s H J->Q (3 q) J)
abbrev DQ:Stmt:=top 89
def Lj:Nm (Zj DQ) "_law_day" .cell:=(aA)
def Mm:Nm (Zj DQ) "_law_world" .cell:=(aA)
def iC(a:YB K mg "_law_sides" DQ)(T:Txt mg)(c:10 Fn "_law_next" lj 1 YI)(b:10 Fn "_law_pick" i3 2 JG)(d:10 Fn "_law_weighs" lG 1 VG):10 Fn "_law_sides" lC 3 Ta:=by
 erw[a.fq ["_law_src_here","_law_world","_law_names_here","_law_day","_law_row","_law_cut","_law_ones","_law_others","_law_need"] λH e Q E a h=>?_];let(s,j,N,p,W,U,l,f,r,a,7,n,t,m,e,g,o,i,C,k):=h
 refine(72,(11 (Zv 4 (Zm b (0 Q0 Q2 (Z3 Wh Zd (Zm c (0 Q0 Zd)))))) (Zv 5 (Z3 Eo (Z3 Wh (Z3 Wh (Z1 Yw T.len Yk (0 Q4)) Zd) (Zm c (0 Q0 Zd))) Zd)) (Zt (Zo Yh (Zm c (0 Q0 Zd)) Zd (Zq _)) (Zf (Zv 5 (Z3 Wh Zd (Zm c (0 Q0 (Z1 Yw T.len Yk (0 Q4))))))) Zs) (Zv 6 (Z1 (Dl (by rfl)) T.sum E4 (0 (Vg (locs:=lU) (fr:=[("_law_world",(1)),("_law_day",(3))]) (7,aA,aA,aA,aA,aA) (.ig Mm (.ig Lj .nil)) rfl (Y2 (Ak CV Q4 JY (As Q5))) ⟨λ_ _ _ _ _ _=>by
  let b:(inN lU [("_law_world",(1)),("_law_day",(3))]).Nodup:=aA
  rwa[(Y9 0 b),Jb,(Zm d (0 (Zh B9 (Wp 1) Zd) (Yj 0) (Wp 2)) (n:=nmC))]⟩)))) (Zv 7 (Z1 (Dl (by rfl)) T.sum E4 (0 (Vg (locs:=lU) (fr:=[("_law_world",(1)),("_law_day",(3))]) (7,aA,aA,aA,aA,aA) (.ig Mm (.ig Lj .nil)) rfl (Y2 (Ak CV Q4 (As Q5) JY)) ⟨λ_ _ _ _ _ _=>by
  let b:(inN lU [("_law_world",(1)),("_law_day",(3))]).Nodup:=aA
  rwa[(Y9 0 b),Jb,(Zm d (0 (Zh B9 (Wp 1) Zd) (Yj 0) (Wp 2)) (n:=nmC))]⟩)))) (Zv 8 (Z1 (CS (by rfl)) T.max BY (0 Zd (Z1 (RN (by rfl)) T.min EK (0 Q6 Zd (Z3 Wh (Z3 JI (Z3 JI Q6 Q7) Zd) (Zm c (0 Q0 Zd)))))))) (Zt (Zo Yh (Zm c (0 Q0 Zd)) Zd (Zq _)) (Zf (Zv 8 Zd)) Zs) (Zr (Yb (0 Q8 (Ak CV Q4 JY (As Q5)) (Ak CV Q4 (As Q5) JY))))),5)
 let b:=aC
 erw[888,s,j,(6),7,n,aA,aA,λb o c h d f=>?_];erw[287,s,j,N,2,1+b,7,d,f _ _ e m,e,6,by rw[xA];rwa[i],λr o m ⟨left,e⟩ b c A h i=>?_];let(os,7,om,O):=cA g e;rw[xA] at b;let e:0<os.9/\os.9<=6:=by rw[xA] at b;lia
 let g:r≠s:=λz=>by let(22222,e,2):=d;rw[z,e] at c;ext c
 let o:ZF s H m:=f.trans i;erw[Z4 ?_];dsimp only [Y7];erw[8,r,8,1 (9 A),2878,s,j,(2),7,h,aA,aA,λR d b c M B=>?_];erw[287287,(6,6),5];erw[Z4 ?_];dsimp only [Y7];rw[xA];erw[Al (λY E=>∃c:Nat,Y=[8 (3 s),8 (3 W.wl),8 (3 N),8 (4 a),8 (3 r),8 (4 c),_n,_n,_n]/\0<c/\c<=os.9/\ZM E s j/\ZF s m E) ?_ ?_]
 .rintro Y E ⟨c,rfl,b,d,p,f⟩;let Q:=t.x n (o.trans f);let v:=f _ _ g A;let b:((os.take c).map V.str).9<=6:=by rw[xA,xY];lia
  let b:((os.drop c).map V.str).9<=6:=by rw[xA,wL];lia
  erw[888,r,8,9 v,λh b=>?_];rw[Im,<- List.map_take];erw[nw (o:=6 ((os.take c).map V.str)) b λd I b=>?_];erw[h,7,(2,9 b),5];erw[Uw (L:=(os.take c).map V.str) (λi h J=>ZC d J/\h=(((os.take c).take i).map λn=>wg (Zg l).1 n a).map V.int) (ZC.refl _,7) () (λi h J _ ⟨S,_⟩=>9 (S _ _ b)) (λi h J ⟨_,e⟩=>by rw[e,xA,xA,xY];lia) ?_ ?_]
  .rintro i x h J b ⟨S,rfl⟩ ls t;let(u,7):=Uh t;rw[xG] at b;let(n,d,7):=xS.mp b;let y:=Q.same (I.trans S);erw[([_],77),Z7 (8,W.wl,2,(0),87,9 y.e,788,W.dl,U,l,n,a,7,y.d,λF G=>(S.trans G,5))];rw[xQ,d,xH,xH];rfl
  rintro h H5 ⟨X,rfl⟩ b1 m;rw[xA,xZ];erw[nw (o:=6 (((os.take c).map λn=>wg (Zg l).1 n a).map V.int)) m λm T2 k2=>?_];let m:∀x∈(os.take c).map λn=>wg (Zg l).1 n a,0<=x/\x<=1000:=λx b=>by let(n,8):=zP.mp b;rwa[C n a]
  erw[b1,8,9 k2,λx b=>by have:=m x b;lia,by rw[xA,xY];lia,5];let s1:=HW m;generalize ((os.take c).map λn=>wg (Zg l).1 n a).sum=w1 at s1 |-;erw[Z4 ?_];dsimp only [Y7];let m:=(I.trans X).trans T2;let W5:=Q.same m;erw[888,r,8,9 (m _ _ v),λa2 I=>?_];rw[IV,<- List.map_drop];erw[nw (o:=6 ((os.drop c).map V.str)) I λX I Q=>?_];erw[a2,7,(2,9 Q),5];erw[Uw (L:=(os.drop c).map V.str) (λi h J=>ZC X J/\h=(((os.drop c).take i).map λn=>wg (Zg l).1 n a).map V.int) (ZC.refl _,7) () (λi h J _ ⟨S,_⟩=>9 (S _ _ Q)) (λi h J ⟨_,e⟩=>by rw[e,xA,xA,xY];lia) ?_ ?_]
  .rintro i x h J b ⟨S,rfl⟩ ls t;let(u,7):=Uh t;rw[xG] at b;let(n,d,7):=xS.mp b;let y:=W5.same (I.trans S);erw[([_],77),Z7 (8,W.wl,2,(0),87,9 y.e,788,W.dl,U,l,n,a,7,y.d,λF G=>(S.trans G,5))];rw[xQ,d,xH,xH];rfl
  rintro h y ⟨t,rfl⟩ u i;rw[xA,xZ];erw[nw (o:=6 (((os.drop c).map λn=>wg (Zg l).1 n a).map V.int)) i λy h i=>?_];erw[u,8,9 i,λx b=>by let(n,8):=zP.mp b;have:=C n a;lia,by rw[xA,wL];lia,5];generalize ((os.drop c).map λn=>wg (Zg l).1 n a).sum=x;erw[Z4 ?_];dsimp only [Y7];let b:=m.trans ((I.trans t).trans h);let h:=p.keep b;let i:=b _ _ v;erw[8882872878,s,j,(4),7,h,aA,aA,λt n l m u h=>?_];erw[287228,λm l t v y=>?_];erw[285];let v:1<=(if m > 1 then m else 1)/\(if m > 1 then m else 1)<=12000:=by split<;>lia
  generalize (if m > 1 then m else 1)=l at v |-;erw[Z4 ?_];dsimp only [Y7];let t:=h _ _ g i;let i:ZF s H n:=(((o.trans f)).trans b.x).trans h;erw[Al (λY m=>∃l:Int,Y=[8 (3 s),8 (3 W.wl),8 (3 N),8 (4 a),8 (3 r),8 (4 c),8 (4 w1),8 (4 x),8 (4 l)]/\1<=l/\l<=12000/\ZM m s j/\ZF s n m) ?_ ?_]
  .rintro Y m ⟨l,rfl,F,G,a,h⟩;let n:=h _ _ g t;let x:ZF s H m:=i.trans h;let i:∀{J:Hp}{b:jY},ZF s H J->ZM J s j->J b=_n->H b=none:=λ{J b} I t e=>by
    cases C:H b with
    | none=>rfl
    | some o =>
     by_cases z:b=s
     .let(22222,y,2):=t;rw[z,y] at e;ext e
     .rw[I b o z C] at e;ext e
   erw[8888,r,8,9 n,λy b=>?_];rw[Im,<- List.map_take];erw[nw (o:=6 ((os.take c).map V.str)) b λe o H=>?_];erw[888,r,8,9 (o _ _ n),λz e=>?_];rw[IV,<- List.map_drop];erw[nw (o:=6 ((os.drop c).map V.str)) e λn t I=>?_];erw[aB rfl,λq C=>?_];let n:=ZC.new (o:=7 [4 l,3 y,3 z]) C;let U:=(o.trans t).trans n;erw[k q y z (os.take c) (os.drop c) l _ F G (by rw[zD];rwa[om]) (by rw[zD];rwa[O]) (by rw[xY];lia) (by rw[zD];lia) (i x a b) (i (x.trans o.x) (a.keep o) e) Zi (n _ _ (t _ _ H)) (n _ _ I) (a.keep U) (x.trans U.x)]
  .intro b d _ _ _;erw[8,s,j,(4),7,u,aA,aA,λi m c e a h=>?_];erw[78,Zx (λ_=>?_) (λ_=>?_)]
   .rwa[Z4 (d _ _ ((1),7,aA,aA,a,h))]
   .rwa[d _ _ (l,7,v.1,v.2,a,h)]
 .intro b d _ _ _;erw[8,s,j,(4),7,M,aA,aA,λc E a b p f=>?_];let h:((os.9:Int)+1+R) / 2=((((os.9:Int)+1+R) / 2).toNat:Int):=by lia
  erw[78,Zx (λ_=>?_) (λ_=>?_)]
  .erw[88,r,8,1 (9 (f _ _ g (B _ _ g A))),s,j,8,p,by rw[xA];lia,by rw[xA];lia,λa H5 g b c e=>?_];rw[xA] at b;erw[2875];erw[Z4 ?_];let b:1+a=((1+a).toNat:Int):=by lia
   rwa[d _ _ ((1+a).toNat,by rw[<- b];rfl,66,c,(B.trans f).trans e)]
  .rw[h];rwa[d _ _ (866,p,B.trans f)]
inductive VM:Sp
 |mk(s b:jY) (W:WL) (e:jV) (c d:List AD) (a:List ZW)(_:vs=[3 s,3 W.wl]/\ZM H s b/\ZZ s H e W c d a/\0<a.9/\a.9<=1000/\(∀t∈a,TL t/\0<t.ones.9)/\∀(q:jY)(i:Nat)(t:ZW)(n:Str)(J:Hp),a[i]?=8 t->n∈(t.ones++t.others).map (·.1)->J q=8 (7 [4 i,5 n])->ZM J s b->ZF s H J->Q (3 q) J)
abbrev DV:Stmt:=top 90
def Qm:ZK lN lX (Zj DV):=(fsc)
def cG:Nm (Zj DV) "_law_swearers" .local:=(aA)
def Px(Y:YB K mg "_law_accused" DV)(T:Txt mg)(X:10 Fn "_law_next" lj 1 YI):10 Fn "_law_accused" lX 2 VM:=by
 erw[Y.fq lN λH U Q E Y h=>?_];let(s,E,W,O,Y,U,R,3,M,Q,N,L,u,k):=h
 refine(32,(11 (Zv 2 (Zh Z6 Q1 Zd)) (Zv 3 (Zm X (0 Q0 (Z1 Yw T.len Yk (0 Q2))))) (Zt (Zo Yh (Zm X (0 Q0 Zd)) Zd (Zq _)) (Zf (Zv 3 (Z3 JI (Z1 Yw T.len Yk (0 Q2)) Zd))) Zs) (DP (locs:=["_law_name","_law_weight"]) (fr:=[]) (3,aA,aA,aA,aA,aA) .nil S (Y2 (Z3 JN (Zh Zn (Zh Z6 Q2 Q3) Zd) (Zh Zn (Zh Z6 Q2 Q3) Zd))) ⟨λ_ _ _ _ _ _=>by
  let Y:(inN ["_law_name","_law_weight"] []).Nodup:=aA
  rwa[(BS 2 (by rfl) (Yr (Y9 0 Y) (Yr (Y9 1 Y) Vx))),Jb,(Yj 0)]⟩ Qm.nd cG (by rfl) (i:=4)) (Zr (Yb (0 Q3 (Zh Z6 Q4 (Zm X (0 Q0 (Z1 Yw T.len Yk (0 Q4))))))))),5)
 let Y:=aC
 let(G,m,Y):=Q.u;let X:ZN H (R.map Wx) G:=Y.oy Ej;let Y:G.9=R.9:=by have:=X.9;rw[xA] at this;rwa[this]
 let x:=Q.ne W.sl (by simp);erw[1,W.wl,2,(1),13,9 Q.e,35];erw[Z4 ?_];dsimp only [Y7];erw[11,W.sl,G,3,1 (9 m),s,E,1,M,66,λA U Y X r N=>?_];erw[Z4 ?_];dsimp only [Y7];erw[Al (λY O=>∃i:Nat,Y=[8 (3 s),8 (3 W.wl),8 (3 W.sl),8 (4 i),_n]/\i<R.9/\ZM O s E/\ZF s H O) ?_ ?_]
 .rintro Y O ⟨i,rfl,I,U,X⟩;let J:=Q.x M X;let(Q,L,Y):=J.u;let Y:ZN O (R.map Wx) Q:=Y.oy Ej;let F:R[i]?=8 R[i]:=xB I;generalize R[i]=t at F;obtain⟨v,p⟩:∃v,Q[i]?=8 v:=(2,xB (by have:=Y.9;rw[xA] at this;lia));let(J,M,B):=Y.get p;rw[xG,F] at M;ext M;let(C,j,h,g,3,H,(v,Y,3,z,J),(n,M,3,y,I),l):=LM B;let((j,B,22),l):=u t (xM F);let u:=J.len;let u:=I.len;let u:=j.2;let u:=B.2;erw[11,W.sl,Q,i,3 C,33,9 L,Yo p,C,2,(0),3 v,33,ZO.of H,35];erw[11,W.sl,Q,i,3 C,33,9 L,Yo p,C,2,(1),3 n,33,ZO.of H,35];erw[v,n,Y,M,33,z,y,6,λq Q=>?_];let L:=ZC.new (o:=6 (Y++M)) Q;let C:(upd O q (6 (Y++M))) q=8 (6 (Y++M)):=Zi;generalize (upd O q (6 (Y++M)))=H at L C |-;let Q:ZR H (t.ones++t.others) (Y++M):=ZR.mono (ZC.t L) (ZR.app I J);erw[q,3,(2,9 C),5];erw[GR C Q (by rw[xI];lia) λM Y=>?_];let I:=ZC.new (o:=6 (((t.ones++t.others).map (·.1)).map V.str)) Y;let Q:(upd H M (6 (((t.ones++t.others).map (·.1)).map V.str))) M=8 (6 (((t.ones++t.others).map (·.1)).map V.str)):=Zi;generalize (upd H M (6 (((t.ones++t.others).map (·.1)).map V.str)))=J at I Q |-;erw[Z4 ?_];dsimp only [Y7];let J:=U.keep (L.trans I);let B:M≠s:=(U.keep L).ne Y |>.1
  let Y:0<((t.ones++t.others).map (·.1)).9/\((t.ones++t.others).map (·.1)).9<=120:=by rw[xA,xI];lia
  erw[1111,M,1,1 (9 Q),s,E,1,J,by rw[xA];lia,by rw[xA];lia,λy z Y H C J=>?_];rw[xA] at H;let(j,3):=yK Y;let H:j<((t.ones++t.others).map (·.1)).9:=by lia
  erw[M,22,5 ((t.ones++t.others).map (·.1))[j],33,9 (J _ _ B Q),Yo (by rw[xG,xB H];rfl),aB S,λQ Y=>?_];rwa[k Q i t _ _ F (yY H) Zi (C.keep (ZC.new Y)) (((X.trans (L.trans I).x).trans J).trans (ZC.new Y).x)]
 .intro Q Y _ _ _;erw[1,s,E,(2),3,r,aA,aA,λL O Q M U X=>?_];erw[71,Zx (λ_=>?_) (λ_=>?_)]
  .erw[1,W.sl,G,3,1 (9 ((N.trans X) _ _ x m)),45];let Q:((G.9:Int) - 1)=((R.9 - 1:Nat):Int):=by lia
   rwa[Z4 (Y _ _ (R.9 - 1,by rw[<- Q];rfl,6,U,N.trans X))]
  .let Q:A=(A.toNat:Int):=by lia
   rwa[Y _ _ (A.toNat,by rw[<- Q];rfl,6,U,N.trans X)]
def fN:∀x∈(["claim","wergild","accuse"]:jS),inV (5 x) [5 "claim", 5 "wergild", 5 "accuse"]=true:=(aA)
def XM:∀x∈(["come","rise","die","penance","bring","give","pay"]:jS),inV (5 x) [5 "claim", 5 "wergild", 5 "accuse"]=false:=(aA)
def XQ(x:AD):inV (5 (Y1 x)) [5 "claim", 5 "wergild", 5 "accuse"]=isC x:=by
 cases x with
 | s d=>rwa[XM _ (by ext d<;>simp[Y1])]
 | c d b a e g f=>rwa[fN _ (by ext d<;>simp[Y1])]
inductive Jz:Sp
 |mk(v) (fx) (x)(_:vs=[v]/\YC (fz fx H) (adT x) v/\∀J,ZC H J->Q (.bl (isC x)) J)
abbrev Nk:Stmt:=top 84
def hV(a:YB K mg "_law_is_case" Nk)(T:Txt mg):10 Fn "_law_is_case" lB 1 Jz:=by
 erw[a.fq lB λH b Q E a h=>?_];let(v,a,x,3,d,k):=h;erw[72,(Zf (Zr (J5 ME (Zh Zn Q0 Zd) (Yl (0 Z5 Z5 Z5)) S))),5];let a:=aC
 let(a,e,3,b,c):=Bu d;erw[1,a,2,(0),5 (Y1 x),33,ZO.of b,Yo c,aB S,λb a=>?_];erw[b,1,1 (9 Zi),335];rw[XQ];rwa[k _ (ZC.new a)]
def Ny(day a:Int)(c b:jY)(d:CD):atI (cdV day a c b d) (-1)=8 (3 b):=by ext d<;>rfl
def QR(day a:Int)(b c:jY)(d:CD):atI (cdV day a b c d) (-2)=8 (3 b):=by ext d<;>rfl
def cM(day a:Int)(b c:jY)(d:CD):atI (cdV day a b c d) (-3)=8 (4 a):=by ext d<;>rfl
def Fq(day a:Int)(b c:jY)(d:CD):atI (cdV day a b c d) (-4)=8 (4 day):=by ext d<;>rfl
def cK{v:V}{i:Nat}{u:TS}{D:YG}{Y:St}{H:Hp}(h:u D (Y.set i (8 v)) H):Uu (JJ (tC v) (Wv i)) u D Y H:=(h)
def Ed:CD->Option (Int×Str)
 | .acc i n=>8 (i,n)
 | _=>_n
def kss(as:List AD)(c:List ZW):AD->List ZW
 | .s _=>c
 | .c d a b e f _=>c ++ [(Ym (λn=>wg (Zg as).1 n a) e,Ym (λn=>wg (Zg as).1 n a) f,b,Ed d)]
inductive VR:Sp
 |mk(v) (s) (W) (fx) (as bs) (ss) (x)(_:vs=[3 W.wl,v]/\ZZ s H fx W as bs ss/\YC (fz fx H) (adT x) v/\as.9<=1000/\bs.9<=1000/\ss.9<=1000/\(∀d b a c e f,x=.c d b a c e f->c.9<=60/\e.9<=60)/\(∃o,H s=8 o)/\∀a J,ZZ s J a W (as ++ [x]) (bs++(if isC x then [x] else [])) (kss as ss x)->(∀b o,b ∉ [W.dl,W.sl,W.tl]->H b=8 o->J b=8 o)->(∀b∈a,b∈fx\/H b=_n/\∃vs,J b=8 (6 vs))->Q .non J)
abbrev B3:Stmt:=top 85
def F7:ZK lE lP (Zj B3):=(fsc)
def Jj:Nm (Zj B3) "_law_deed_here" .cell:=(aA)
def Ek:Nm (Zj B3) "_law_deeds" .cell:=(aA)
def fV:Nm (Zj B3) "_law_ones" .local:=(aA)
def NZ:Nm (Zj B3) "_law_others" .local:=(aA)
def iP(c0:YB K mg "_law_keep" B3)(T:Txt mg)(c1:10 Fn "_law_is_case" lB 1 Jz)(b1:10 Fn "_law_weighs" lG 1 VG):10 Fn "_law_keep" lP 2 VR:=by
 erw[c0.fq lE λH vs Q E hr h=>?_];let(v,s,W,O,t,bs,ss,x,7,hW,re,d3,d4,d7,m,(os,c4),k):=h
 refine(72,(11 (TQ Q0 (dD (by rfl) (Yr (Hv (i:=2) F7.nd Ek) (Yr (Yc 3) (Yr (Yc 4) Vx))))) (Zt (Wz (Zm c1 (0 (qvC 1 Jj)))) (11 (DP (locs:=lU) (fr:=[("_law_deed_here",(1)),("_law_deeds",(2))]) (7,aA,aA,aA,aA,aA) (.ig Jj (.ig Ek .nil)) rfl (Y2 (Zh Zn (qvC 1 Jj) (Vj Vl Zd))) ⟨λ_ _ _ _ _ _=>by
  let a3:(inN lU [("_law_deed_here",(1)),("_law_deeds",(2))]).Nodup:=aA
  rwa[(Y9 0 a3),Jb,(Yb (0 (Yj 0) (Zm b1 (0 (Wp 2) (Yj 0) (Zh AK (Wp 1) (Vj Vl Zd))) (n:=nmC))))]⟩ F7.nd fV (by rfl) (i:=5)) (DP (locs:=lU) (fr:=[("_law_deed_here",(1)),("_law_deeds",(2))]) (7,aA,aA,aA,aA,aA) (.ig Jj (.ig Ek .nil)) rfl (Y2 (Zh Zn (qvC 1 Jj) (Vj Vl Zd))) ⟨λ_ _ _ _ _ _=>by
  let a3:(inN lU [("_law_deed_here",(1)),("_law_deeds",(2))]).Nodup:=aA
  rwa[(Y9 0 a3),Jb,(Yb (0 (Yj 0) (Zm b1 (0 (Wp 2) (Yj 0) (Zh AK (Wp 1) (Vj Vl Zd))) (n:=nmC))))]⟩ F7.nd NZ (by rfl) (i:=6)) (Zv 7 Y3) (Zt (Zo Yh (Zh Zn (qvC 1 Jj) Zd) Z5 (Zq _)) (Zf (Zv 7 (Yb (0 (Zh Zn (qvC 1 Jj) Zd) (Zh Zn (qvC 1 Jj) Zd))))) Zs) (Zk (Ys aD aE aF Yz Q3 (0 (Yb (0 Q5 Q6 (Zh Zn (qvC 1 Jj) (Vj Vl Zd)) Q7))))) (Zk (Ys aD aE aF Yz Q4 (0 (qvC 1 Jj))))) Zs) (Zk (Ys aD aE aF Yz (qvC 2 Ek) (0 (qvC 1 Jj))))),5)
 let hz:=aC
 erw[8,W.wl,8,9 hW.e,728282875]
 try dsimp only [Y7]
 erw[Al (λY H1=>∃(v5 v6 v7:Option V)(C:jV),Y=[8 (3 W.wl),8 v,8 (3 W.dl),8 (3 W.sl),8 (3 W.tl),v5,v6,v7]/\ZZ s H1 C W t (bs++(if isC x then [x] else [])) (kss t ss x)/\YC (fz C H1) (adT x) v/\(∀b o,b ∉ [W.dl,W.sl,W.tl]->H b=8 o->H1 b=8 o)/\∀b∈C,b∈O\/H b=_n/\∃vs,H1 b=8 (6 vs)) ?_ ?_]
 .rintro Y H1 ⟨v5,v6,v7,C,rfl,W1,M,f1,g1⟩;let(us,hd,hr):=id W1.d;let a7:=hr.9;rw[xA] at a7;erw[8,1 (72,9 hd),8,W.dl,us,v,77,hd,65];erw[k C _ (W1.addD hd M) (λb o B e=>?_) (λb j=>?_)]
  .rw[Ze (λz=>B (by rw[z];simp))];rwa[f1 b o B e]
  .rcases g1 b j with z | ⟨z,vs',e⟩
   .rwa[1 z]
   .let(u1,e1,2):=hW.d;rwa[2 (z,vs',by rw[Ze (λy=>by rw[y,e1] at z;ext z)];rwa[e])]
 .intro D' b5 _ _ _;erw[8,v,O,x,7,re,λH1 S1=>(8,5)];let W1:=hW.same S1;let M:=YC.mono (Vn (xs':=O) (λ_ _ e=>S1 _ _ e) (λx _ o e=>S1 _ _ e) λ_ z=>z) _ _ re;cases x with
  | s d =>
   erw[Zz (b5 _ _ (_n,_n,_n,O,75,M,λb o _ e=>S1 _ _ e,λb j=>1 j))];show ZZ s H1 O W t (bs ++ []) ss;rw[xT];rwa[W1]
  | c d a I o1 o2 f =>
   erw[Z7 ?_];let(d5,d6):=m _ _ _ _ _ _ rfl;let(q,l1,l2,7,hq,c2,c3):=Di M;let h1:=(BO c2).1;let h2:=(BO c3).1;erw[88,q,2287,ZO.of hq,QR _ _ _ _ _,l1,7,(2,9 h1),5];erw[Uw (L:=o1.map V.str) (λi X J=>ZC H1 J/\ZR J (Ym (λn=>wg (Zg t).1 n a) (o1.take i)) X) (ZC.refl _,7) (by rw[xA];lia) (λi X J _ ⟨S,_⟩=>9 (S _ _ h1)) (λi X J ⟨_,r⟩=>by rw[r.len,xA,xY];lia) ?_ ?_]
   .rintro i x X J m ⟨S,r⟩ ls a4;let(u,7):=Uh a4;rw[xG] at m;let(n,F,7):=xS.mp m;erw[([_],77),Z7 (88888,q,2287,ZO.of (S _ _ hq),Fq _ _ _ _ _,W.dl,O,t,n,a,7,(W1.same S).d,λb6 S'=>(aB rfl,λp hp=>((S.trans S').trans (ZC.new hp),5)))];show ZR _ ((o1.take (i+1)).map λn=>(n,wg (Zg t).1 n a)) _;rw[xQ,F,xH];rwa[ZR.snoc (p:=(n,wg (Zg t).1 n a)) Zi (ZR.mono (ZC.t (S'.trans (ZC.new hp))) r)]
   rintro a9 H2 ⟨S2,r1⟩ a1 b3;rw[xA,xZ] at r1;erw[nw (o:=6 a9) b3 λH3 T1 k1=>?_];let g:=S2.trans T1;erw[Z4 ?_];dsimp only [Y7];erw[88,q,2287,ZO.of (g _ _ hq),Ny _ _ _ _ _,l2,7,(2,9 (g _ _ h2)),5];erw[Uw (L:=o2.map V.str) (λi X J=>ZC H3 J/\ZR J (Ym (λn=>wg (Zg t).1 n a) (o2.take i)) X) (ZC.refl _,7) (by rw[xA];lia) (λi X J _ ⟨S,_⟩=>9 (S _ _ (g _ _ h2))) (λi X J ⟨_,r⟩=>by rw[r.len,xA,xY];lia) ?_ ?_]
   .rintro i x X J m ⟨S,r⟩ ls a4;let(u,7):=Uh a4;rw[xG] at m;let(n,F,7):=xS.mp m;erw[([_],77),Z7 (88888,q,2287,ZO.of (S _ _ (g _ _ hq)),Fq _ _ _ _ _,W.dl,O,t,n,a,7,((W1.same g).same S).d,λb6 S'=>(aB rfl,λp hp=>((S.trans S').trans (ZC.new hp),5)))];show ZR _ ((o2.take (i+1)).map λn=>(n,wg (Zg t).1 n a)) _;rw[xQ,F,xH];rwa[ZR.snoc (p:=(n,wg (Zg t).1 n a)) Zi (ZR.mono (ZC.t (S'.trans (ZC.new hp))) r)]
   rintro b0 H4 ⟨S4,r2⟩ U b4;rw[xA,xZ] at r2;erw[nw (o:=6 b0) b4 λH5 T2 k2=>?_];show Wv 6 (3 U) _ _ _;erw[Z4 ?_];dsimp only;erw[cK ?_];let a0:=g.trans (S4.trans T2);let b7:=S1.trans a0;let n1:H a1=none:=(S1.trans S2).free b3;let n2:H U=none:=(S1.trans (g.trans S4)).free b4;erw[Al (λY H6=>∃u4:V,Y=[8 (3 W.wl),8 (3 q),8 (3 W.dl),8 (3 W.sl),8 (3 W.tl),8 (3 a1),8 (3 U),8 u4]/\YC (fz [] H6) (B0 (Ed d)) u4/\ZC H5 H6) ?_ ?_]
   .rintro Y H6 ⟨u4,rfl,r4,S6⟩;let R:=a0.trans S6;let b8:=b7.trans S6;let c5:=R _ _ hq
    let A:∀{b:jY},H b=_n->b≠s/\b ∉ [W.dl,W.sl,W.tl]:=λ{b} e=>(Zl c4 e |>.symm,λz=>by
     let(u1,e1,2):=hW.d;let(u2,e2,2):=hW.u;let(u3,e3,2):=hW.t;simp only[xE,xV,or_false] at z;rcases z with z | z | z
     .rw[z,e1] at e;ext e
     .rw[z,e2] at e;ext e
     .rw[z,e3] at e;ext e)
    let W6:=(W1.same R).more (gx:=[a1,U]) (λb j=>by simp at j;rcases j with rfl | rfl;rwa[(A n1).1];rwa[(A n2).1]) (λb j=>by simp at j;rcases j with rfl | rfl;rwa[(A n1).2];rwa[(A n2).2]);let(us,hu,d0):=id W6.u;let a7:=d0.9;rw[xA] at a7;erw[8,1 (72,9 hu),8888,q,2287,ZO.of c5,cM _ _ _ _ _,8,aB rfl,λqt c6=>?_];erw[nw (o:=7 [3 a1,3 U,4 I,u4]) c6 λH7 N k7=>?_];let W7:=W6.same N;let a6:=N _ _ hu;erw[W.sl,us,3 qt,77,a6,65];let b9:=(T1.trans (S4.trans T2)).trans (S6.trans N);let a2:=T2.trans (S6.trans N);let c7:YC (fz ([a1,U]++O) H7) (Wx (Ym (λn=>wg (Zg t).1 n a) o1,Ym (λn=>wg (Zg t).1 n a) o2,I,Ed d)) (3 qt) :=
     (qt,8,Wr k7,(28,(a1,a9,7,Us (by simp) ((S4.trans a2) _ _ k1),ZR.fz (ZR.mono (ZC.t b9) r1)),(28,(U,b0,7,Us (by simp) ((S6.trans N) _ _ k2),ZR.fz (ZR.mono (ZC.t a2) r2)),(287,(28,YC.mono (Vn (λ_ _ e=>N _ _ e) (λx m=>by ext m) λx m=>by ext m) _ _ r4,7)))))
    let W8:=W7.addU a6 c7;let d1:YC (fz ([a1,U]++O) H7) (adT (.c d a I o1 o2 f)) (3 q):=YC.mono (Vn (λ_ _ e=>(R.trans N) _ _ e) (λx m o e=>(R.trans N) _ _ e) λx m=>xJ _ m) _ _ M;let a8:=YC.mono (W7.grow (l:=W.sl) (v:=3 qt) (by simp) a6).1 _ _ d1;let f8:∀b o,b ∉ [W.dl,W.sl,W.tl]->H b=8 o->(upd H7 W.sl (6 (us ++ [3 qt]))) b=8 o:=λb o B e=>by rw[Ze (λz=>B (by rw[z];simp))];rwa[N _ _ (b8 _ _ e)]
    let b2:∀b o,b ∉ [W.dl,W.sl,W.tl]->H7 b=8 o->(upd H7 W.sl (6 (us ++ [3 qt]))) b=8 o:=λb o B e=>by rw[Ze (λz=>B (by rw[z];simp))];rwa[e]
    generalize (upd H7 W.sl (6 (us ++ [3 qt])))=H8 at W8 a8 f8 b2 |-;let(ts,ht,c9):=id W8.t;let c8:=c9.9;rw[xA] at c8;erw[8,1 (72,9 ht),8,W.tl,ts,3 q,77,ht,65];let f9:∀b o,b ∉ [W.dl,W.sl,W.tl]->H7 b=8 o->(upd H8 W.tl (6 (ts ++ [3 q]))) b=8 o:=λb o B e=>by rw[Ze (λz=>B (by rw[z];simp))];rwa[b2 b o B e]
    erw[b5 _ _ (222,[a1,U]++O,7,W8.addT ht a8,YC.mono (W8.grow (l:=W.tl) (v:=3 q) (by simp) ht).1 _ _ a8,λb o B e=>?_,λb j=>?_)]
    .rw[Ze (λz=>B (by rw[z];simp))];rwa[f8 b o B e]
    .simp at j;rcases j with rfl | rfl | j
     .rwa[2 (n1,a9,f9 _ _ (A n1).2 (S4.trans a2 _ _ k1))]
     .rwa[2 (n2,b0,f9 _ _ (A n2).2 ((S6.trans N) _ _ k2))]
     .rwa[1 j]
   .intro D2 a5 _ _ _;let G:=a0 _ _ hq;cases d with
    | acc i n =>
     erw[8,q,2,(0),87,ZO.of G,778,Zx (λ_=>?_) (λz=>_a rfl z)];erw[8,q,2,(1),87,ZO.of G,78,q,2,(2),87,ZO.of G,7,aB rfl,λp hp=>?_];rwa[Z4 (a5 _ _ (3 p,7,(p,8,Wr Zi,(287,(2,877))),ZC.new hp))]
    | wer x y d2 =>
     rwa[8,q,2,(0),87,ZO.of G,778,Zx (λz=>_a z aA) (λ_=>a5 _ _ (.non,77,ZC.refl _))]
    | clm x i =>
     rwa[8,q,2,(0),87,ZO.of G,778,Zx (λz=>_a z aA) (λ_=>a5 _ _ (.non,77,ZC.refl _))]
def Yn:AD->Bool
 | .s (.bring ..)=>_t
 | _=>_x
def BH(x:AD):(Y1 x="bring")↔Yn x=true:=by
 cases x with
 | s d=>ext d<;>simp[Y1,Yn]<;>decide +kernel
 | c d b a e g f=>ext d<;>simp[Y1,Yn]<;>decide +kernel
def Cz(ns:jS)(c d:Nat)(day:Int)(b:Int):CD->Prop
 | .wer x y a=>x∈ns/\y∈ns/\1<=a/\a<=1000000/\b=day
 | .clm x i=>x∈ns/\0<=i/\i<c/\b=day
 | .acc i n=>n∈ns/\0<=i/\i<d/\day<=b/\b<=9999
structure Gu (ns:jS) (as bs:List AD) (ss:List ZW):Prop where
 al:as.9<=1000
 sl:ss.9<=1000
 bl:bs.9=ss.9
 ok:∀t∈ss,TL t/\0<t.ones.9
 nm:∀t∈ss,∀n∈(t.ones++t.others).map (·.1),n∈ns
 dy:∀x∈bs,∃d day need o1 o2 f,x=.c d day need o1 o2 f/\0<=day/\day<=9999
 wg:∀n d,0<=wg (Zg as).1 n d/\wg (Zg as).1 n d<=1000
 nd:ns.Nodup
 n0:0<ns.9
 n1:ns.9<=1000
def El(ns:jS)(a:Int)(b c:jS):Prop:=1<=a/\a<=12000/\(∀n∈b++c,n∈ns)/\(b++c).Nodup/\0<b.9/\(b++c).9<=6
inductive VE:Sp
 |mk(s la nl) (ns) (W) (fx) (as bs) (ss) (day)(_:vs=[3 s,3 W.wl,3 nl,4 day]/\ZM H s la/\ZZ s H fx W as bs ss/\Gu ns as bs ss/\H nl=8 (6 (ns.map V.str))/\nl≠s/\0<=day/\day<=9999/\∀q b c d e a f g J,Cz ns (as.filter Yn).length ss.length day e d->El ns a f g->H q=_n->H b=_n->H c=_n->J q=8 (7 (cdV e a b c d))->J b=8 (6 (f.map V.str))->J c=8 (6 (g.map V.str))->ZM J s la->ZF s H J->Q (3 q) J)
def B2(d:ZF s H J)(a:ZM J s la)(e:J b=_n):H b=none:=by
 cases c:H b with
 | none=>rfl
 | some o =>
  by_cases z:b=s
  .let(22222,y,2):=a;rw[z,y] at e;ext e
  .rw[d b o z c] at e;ext e
abbrev Ln:Stmt:=top 91
def Ro(c4:YB K mg "_law_case_deed" Ln)(T:Txt mg)(Yd:10 Fn "_law_next" lj 1 YI)(Uz:10 Fn "_law_one" lO 2 Jn)(c2:10 Fn "_law_sides" lC 3 Ta)(c3:10 Fn "_law_accused" lX 2 VM):10 Fn "_law_case_deed" lC 4 VE:=by
 erw[c4.fq ["_law_src_here","_law_world","_law_names_here","_law_day","_law_need","_law_ones","_law_others","_law_kind","_law_case","_law_name","_law_things","_law_many"] λH vs Q E hr h=>?_];let(s,la,nl,ns,W,fx,as,bs,ss,c,3,hs,hW,C,hn,g,y0,y1,k):=h
 refine(32,(11 (TQ (Zm c2 (0 Q0 Q1 Q2 Q3)) (Ar (by rfl) (Yr (Yc 4) (Yr (Yc 5) (Yr (Yc 6) Vx))))) (Zv 7 (Zm Yd (0 Q0 Zd))) (Zt (QW.pt (V0 (Zo AI Q7 Zd (Zq _)) (Jg (Zo AI (Z1 Yw T.len Yk (0 (Zh Z6 Q1 Zd))) Zd (Zq _))))) (11 (TQ (Zm c3 (0 Q0 Q1)) (Ar (by rfl) (Yr (Yc 8) (Yr (Yc 9) Vx)))) (Zr (Yb (0 Z5 Q8 (qvN 9) (Z1 (CS (by rfl)) T.max BY (0 Q3 (Zh Zn (Zh Z6 (Zh Z6 Q1 Zd) Q8) (Vj Vl Zd)))) Q4 Q5 Q6)))) Zs) (Zv 10 (Z1 Yw T.len Yk (0 (Vg (locs:=lB) (fr:=[]) (3,aA,aA,aA,aA,aA) .nil S (Y2 (Zh Z6 Q1 Zd)) ⟨λ_ _ _ _ _ _=>by
  let c5:(inN lB []).Nodup:=aA
  rwa[(Y9 0 c5),(Um (Zo Yh (Zh AK (Yj 0) Zd) Z5 (Zq _))),(Yj 0)]⟩)))) (Zt (QW.pt (V0 (Zo Yh Q7 Zd (Zq _)) (Jg (Zo AI Q9 Zd (Zq _))))) (Zf (Zr (Yb (0 Z5 (Zm Uz (0 Q0 Q2)) (Zm Yd (0 Q0 Q9)) Q3 Q4 Q5 Q6)))) Zs) (Zv 11 (Z3 Wh Zd (Zm Yd (0 Q0 (Zh Z6 (Yl (0 Zd Zd)) (Zm Yd (0 Q0 Zd))))))) (Zr (Yb (0 Z5 (Zm Uz (0 Q0 Q2)) (Zm Uz (0 Q0 Q2)) (qvN 11) Q3 Q4 Q5 Q6)))),5)
 let hz:=aC
 let n0:=C.n0;let n1:=C.n1;erw[1111,s,la,nl,ns,W,fx,as,bs,ss,c,3,hs,hW,hn,g,C.nd,C.n0,C.n1,C.wg,λq X l2 o1 o2 d H1 g0 g1 g2 g3 g4 g5 f1 f2 hq h1 h2 d1 e1=>?_];let dr:El ns d o1 o2:=(g0,g1,g2,g3,g4,g5);let(22222,b4,2):=id hs;let a0:X≠s:=λz=>by rw[z,b4] at f1;ext f1
 let a1:l2≠s:=λz=>by rw[z,b4] at f2;ext f2
 erw[q,1,ZO.of hq,3212145]
 try dsimp only [Y7]
 erw[1,s,la,(5),3,d1,aA,aA,λkd H2 e6 e7 b2 M=>?_];erw[Z4 ?_]
 try dsimp only [Y7]
 let r:ZF s H H2:=e1.trans M;let W2:=hW.x hs r;let d8:=r _ _ g hn;let(us,hu,d7):=id W2.u;let d6:=d7.9;rw[xA] at d6;erw[Al (λY J=>Y=[8 (3 s),8 (3 W.wl),8 (3 nl),8 (4 c),8 (4 d),8 (3 X),8 (3 l2),8 (4 kd),_n,_n,_n,_n]/\J=H2) ?_ ?_]
 .rintro Y J ⟨rfl,rfl⟩;let(vs,hv,b7):=id W2.d;let b6:=b7.9;rw[xA] at b6;let al:=C.al;erw[1,W.wl,2,(0),13,9 W2.e,3,W.dl,3,(2,9 hv),5];erw[Uw (L:=vs) (λi ys F=>F=J/\ys.9=((as.take i).filter Yn).9) (3,3) () (λi ys F _ ⟨e,_⟩=>by rw[e];rwa[9 hv]) (λi ys F ⟨_,e⟩=>by rw[e];rwa[xX (yE _ _) (by rw[xY];lia)]) ?_ ?_]
  .rintro i x ys F hx ⟨rfl,e⟩ ls c6;let(u,3):=Uh c6;let(x0,I,re):=b7.get hx;rw[xG] at I;let(x1,a8,3):=xS.mp I;let(a,f0,3,ha,hw):=Bu re;let et:as.take (i+1)=as.take i ++ [x1]:=by rw[xQ,a8];rfl
   rw[et,yQ];erw[([_],33),1,a,2,(0),5 (Y1 x1),33,ZO.of ha,Yo hw,31,Zx (λz=>(1,35)) (λz=>(3,5))]
   .have:=(BH x1).mp (by injection z);rw[xI,xI,e,wP this];rfl
   .have:¬Yn x1=true:=λy=>z (by rw[(BH x1).mpr y]);rw[xI,e,wQ this];rfl
  rintro ys F ⟨rfl,e⟩ lt c7;rw[b6,xZ] at e;erw[nw (o:=6 ys) c7 λH3 T1 k1=>?_];erw[lt,1,1 (9 k1),5];rw[e];erw[Z4 ?_]
  try dsimp only [Y7]
  let B:=b2.keep T1;let f:ZF s H H3:=r.trans T1.x;let d9:=T1 _ _ d8;let b0:=T1 _ _ (M _ _ a0 h1);let b1:=T1 _ _ (M _ _ a1 h2);let e8:(as.filter Yn).9<=1000:=xX (yE _ _) al;erw[Al (λY J=>Y=[8 (3 s),8 (3 W.wl),8 (3 nl),8 (4 c),8 (4 d),8 (3 X),8 (3 l2),8 (4 kd),_n,_n,8 (4 (as.filter Yn).9),_n]/\J=H3) ?_ ?_]
  .rintro Y J ⟨rfl,rfl⟩;erw[1,aB S,λb8 a2=>?_];erw[nw (o:=6 [4 9,4 1000000]) a2 λH4 T2 k2=>?_];let a7:=B.keep T2;let e0:b8≠s:=(B.ne a2).1;erw[1,s,la,(2),3,a7,aA,aA,λz2 H5 f3 f4 U R=>?_];obtain⟨b,hb,e4⟩:∃b:Int,atI [V.int 9,V.int 1000000] z2=8 (4 b)/\0<b/\b<=1000000:=by
    rcases(show z2=0\/z2=1 by lia) with rfl | rfl
    .rwa[(9),3,aA,aA]
    .rwa[(1000000),3,aA,aA]
   erw[b8,22,4 b,33,9 (R _ _ e0 k2),hb,s,la,b,3,U,66,λm H6 m0 m1 d2 c0=>?_];erw[45];erw[Z4 ?_]
   try dsimp only [Y7]
   let a4:ZF s H H6:=((f.trans T2.x).trans R).trans c0;let b9:ZF s J H6:=(T2.x.trans R).trans c0;erw[11,s,la,nl,ns,3,d2,a4 _ _ g hn,g,n0,n1,λx H7 mx d3 c1=>?_];erw[11,s,la,nl,ns,3,d3,c1 _ _ g (a4 _ _ g hn),g,n0,n1,λy H8 my b3 e3=>?_];erw[11111,aB S,λqq l=>?_];let O:ZF s J H8:=(b9.trans c1).trans e3;let a5:ZF s H H8:=f.trans O;let p:=ZC.new (o:=7 (cdV c d X l2 (.wer x y (1+m)))) l;rwa[k qq X l2 (.wer x y (1+m)) c d o1 o2 _ (mx,my,663) dr (B2 a5 b3 l) f1 f2 Zi (p _ _ (O _ _ a0 b0)) (p _ _ (O _ _ a1 b1)) (b3.keep p) (a5.trans p.x)]
  .intro D' G a6 _ _;erw[131,Zx (λz=>?_) (λz=>Zz (G _ _ (3,3)))];erw[141,Zx (λz2=>?_) (λz2=>G _ _ (3,3))];erw[11,s,la,nl,ns,3,B,d9,g,n0,n1,λx H4 mx a7 e2=>?_];erw[11,s,la,1,a7,66,λj H5 j0 j1 U R=>?_];erw[1111,aB S,λqq l=>a6 _ _ ?_];let N:ZF s H3 H5:=e2.trans R;let a3:ZF s H H5:=f.trans N;let p:=ZC.new (o:=7 (cdV c d X l2 (.clm x j))) l;rwa[k qq X l2 (.clm x j) c d o1 o2 _ (mx,j0,j1,3) dr (B2 a3 U l) f1 f2 Zi (p _ _ (N _ _ a0 b0)) (p _ _ (N _ _ a1 b1)) (U.keep p) (a3.trans p.x)]
 .intro D' G a6 _ _;erw[141,Zx (λz=>?_) (λz=>Zz (G _ _ (3,3)))];erw[1,W.wl,2,(1),13,9 W2.e,3,W.sl,us,3,1 (9 hu),41,Zx (λz2=>?_) (λz2=>G _ _ (3,3))];erw[11,s,la,W,fx,as,bs,ss,3,b2,W2,6,C.sl,C.ok,λq2 i t n H3 ht c8 c9 B a9=>?_];let f:ZF s H H3:=r.trans a9;let W3:=hW.x hs f;let(ts,d5,b5):=id W3.t;let e5:=(xF.mp ht).1;let d4:=b5.9;rw[xA,C.bl] at d4;obtain⟨v,hv⟩:∃v,ts[i]?=8 v:=(2,xB ());let(x0,I,re):=b5.get hv;rw[xG] at I;let(x1,a8,3):=xS.mp I;let(d',A,e9,p1,p2,ff,3,e0,e1):=C.dy x1 (xM a8);let(qc,m1,m2,3,d0,2):=Di re;erw[q2,1,ZO.of c9,32145]
  try dsimp only [Y7]
  erw[1111,W.wl,2,(2),13,9 W3.e,31,W.tl,ts,i,3 qc,33,9 d5,Yo hv,1,qc,24,ZO.of d0,Fq _ _ _ _ _,215];let mb:c<=(if A > c then A else c)/\(if A > c then A else c)<=9999:=by split<;>lia
  generalize (if A > c then A else c)=dy at mb |-;erw[111,aB S,λqq l=>a6 _ _ ?_];let p:=ZC.new (o:=7 (cdV dy d X l2 (.acc i n))) l;rwa[k qq X l2 (.acc i n) dy d o1 o2 _ (C.nm t (xM ht) n c8,66,mb.1,mb.2) dr (B2 f B l) f1 f2 Zi (p _ _ ((M.trans a9) _ _ a0 h1)) (p _ _ ((M.trans a9) _ _ a1 h2)) (B.keep p) (f.trans p.x)]
def Aj(day:Int):Prop:=5<=day/\day<=24
def DM(ns:jS)(c:Nat):SD->Prop
 | .come _ _ _=>False
 | .rise n a b=>n∈ns/\Aj a/\1<=b/\b<=1000
 | .die n b a=>n∈ns/\b∈ns/\Aj a
 | .pen n=>n∈ns
 | .bring n a=>n∈ns/\Aj a
 | .give i x y a=>x∈ns/\y∈ns/\0<=i/\i<c/\Aj a
 | .pay x y b a=>x∈ns/\y∈ns/\1<=b/\b<=9/\Aj a
inductive UP:Sp
 |mk(s la nl) (ns) (W) (fx) (as bs) (ss)(_:vs=[3 s,3 W.wl,3 nl]/\ZM H s la/\ZZ s H fx W as bs ss/\Gu ns as bs ss/\H nl=8 (6 (ns.map V.str))/\nl≠s/\(∀q d J,DM ns (as.filter Yn).length d->H q=_n->J q=8 (7 (sdV d))->ZM J s la->ZF s H J->Q (3 q) J)/\∀q c e d b f a g h J,Aj b->Cz ns (as.filter Yn).length ss.length b f d->El ns a g h->H q=_n->H c=_n->H e=_n->J q=8 (7 (cdV f a c e d))->J c=8 (6 (g.map V.str))->J e=8 (6 (h.map V.str))->ZM J s la->ZF s H J->Q (3 q) J)
abbrev LR:Stmt:=top 92
def fQ(b1:YB K mg "_law_deed" LR)(T:Txt mg)(Yd:10 Fn "_law_next" lj 1 YI)(R:10 Fn "_law_one" lO 2 Jn)(b0:10 Fn "_law_case_deed" lC 4 VE):10 Fn "_law_deed" lW 5 UP:=by
 erw[b1.fq ["_law_src_here","_law_world","_law_names_here","_law_day","_law_kind","_law_things"] λH vs Q E hr h=>?_];let(s,n,N,O,W,fx,as,bs,ss,3,hs,hW,ok,hn,c,kS,kC):=h
 refine(32,(11 (Zv 3 (Z3 Wh Zd (Zm Yd (0 Q0 Zd)))) (Zv 4 (Zm Yd (0 Q0 Zd))) (Zt (Zo TU Q4 Zd (Zq _)) (Zf (Zr (Zm b0 (0 Q0 Q1 Q2 Q3)))) Zs) (Zv 5 (Z1 Yw T.len Yk (0 (Vg (locs:=lB) (fr:=[]) (3,aA,aA,aA,aA,aA) .nil S (Y2 (Zh Z6 Q1 Zd)) ⟨λ_ _ _ _ _ _=>by
  let b2:(inN lB []).Nodup:=aA
  rwa[(Y9 0 b2),(Um (Zo Yh (Zh AK (Yj 0) Zd) Z5 (Zq _))),(Yj 0)]⟩)))) (Zt (QW.pt (V0 (Zo TU Q4 Zd (Zq _)) (Jg (Zo AI Q5 Zd (Zq _))))) (Zf (Zr (Yb (0 Z5 (Zm Yd (0 Q0 Q5)) (Zm R (0 Q0 Q2)) (Zm R (0 Q0 Q2)) Q3)))) Zs) (Zt (Zo Yh Q4 Zd (Zq _)) (Zf (Zr (Yb (0 Z5 (Zm R (0 Q0 Q2)) (Zm R (0 Q0 Q2)) (Z3 Wh Zd (Zm Yd (0 Q0 Zd))) Q3)))) Zs) (Zt (Zo Yh Q4 Zd (Zq _)) (Zf (Zr (Yb (0 Z5 (Zm R (0 Q0 Q2)) Q3 (Z3 Wh Zd (Zm Yd (0 Q0 (Zh Z6 (Yl (0 Zd Zd)) (Zm Yd (0 Q0 Zd)))))))))) Zs) (Zt (Zo Yh Q4 Zd (Zq _)) (Zf (Zr (Yb (0 Z5 (Zm R (0 Q0 Q2)) Q3 (Zm R (0 Q0 Q2)))))) Zs) (Zt (Zo Yh Q4 Zd (Zq _)) (Zf (Zr (Yb (0 Z5 (Zm R (0 Q0 Q2)))))) Zs) (Zr (Yb (0 Z5 (Zm R (0 Q0 Q2)) Q3)))),5)
 let hz:=aC
 let X:=ok.n0;let n1:=ok.n1;erw[1,s,n,(20),3,hs,aA,aA,λd1 H1 c3 c4 b6 c0=>?_];erw[45];erw[Z4 ?_]
 try dsimp only [Y7]
 erw[1,s,n,(16),3,b6,aA,aA,λkd H2 c6 c7 G c1=>?_];erw[Z4 ?_]
 try dsimp only [Y7]
 let k:ZF s H H2:=c0.trans c1;let W2:=hW.x hs k;let a9:=k _ _ c hn;let v:Aj (5+d1):=(6,6);erw[141,Zx (λz=>?_) (λz=>?_)]
 .rwa[1111,s,n,N,O,W,fx,as,bs,ss,5+d1,3,G,W2,ok,a9,c,66,λq l1 l2 d dy a8 o1 o2 J c1 c2 f0 f1 f2 e0 e1 e2 U a0=>kC q l1 l2 d _ dy a8 o1 o2 J v c1 c2 (B2 k G f0) (B2 k G f1) (B2 k G f2) e0 e1 e2 U (k.trans a0)]
 try dsimp only [Y7]
 let(vs,hv,a5):=id W2.d;let a4:=a5.9;rw[xA] at a4;let al:=ok.al;erw[1,W.wl,2,(0),13,9 W2.e,3,W.dl,3,(2,9 hv),5];erw[Uw (L:=vs) (λi ys F=>F=H2/\ys.9=((as.take i).filter Yn).9) (3,3) () (λi ys F _ ⟨e,_⟩=>by rw[e];rwa[9 hv]) (λi ys F ⟨_,e⟩=>by rw[e];rwa[xX (yE _ _) (by rw[xY];lia)]) ?_ ?_]
 .rintro i x ys F hx ⟨rfl,e⟩ ls b3;let(u,3):=Uh b3;let(x0,a6,re):=a5.get hx;rw[xG] at a6;let(x1,b8,3):=xS.mp a6;let(a,c9,3,ha,hw):=Bu re;let et:as.take (i+1)=as.take i ++ [x1]:=by rw[xQ,b8];rfl
  rw[et,yQ];erw[([_],33),1,a,2,(0),5 (Y1 x1),33,ZO.of ha,Yo hw,31,Zx (λz=>(1,35)) (λz=>(3,5))]
  .have:=(BH x1).mp (by injection z);rw[xI,xI,e,wP this];rfl
  .have:¬Yn x1=true:=λy=>z (by rw[(BH x1).mpr y]);rw[xI,e,wQ this];rfl
 rintro ys F ⟨rfl,e⟩ lt b4;rw[a4,xZ] at e;erw[nw (o:=6 ys) b4 λH3 T1 k1=>?_];erw[lt,1,1 (9 k1),5];rw[e];erw[Z4 ?_]
 try dsimp only [Y7]
 let A:=G.keep T1;let a2:ZF s H H3:=k.trans T1.x;let l:=T1 _ _ a9;let c8:(as.filter Yn).9<=1000:=xX (yE _ _) al;let t:∀{J:Hp}{q:jY}{us:aG}(d:SD),sdV d=us->DM O (as.filter Yn).length d->ZM J s n->ZF s H3 J->J q=_n->Q (3 q) (upd J q (7 us)):=λ{J q us} d e hd U a0 r=>by
  subst e;let T:=ZC.new (o:=7 (sdV d)) r;rwa[kS q d _ hd (B2 (a2.trans a0) U r) Zi (U.keep T) ((a2.trans a0).trans T.x)]
 erw[Al (λY J=>Y=[8 (3 s),8 (3 W.wl),8 (3 N),8 (4 (5+d1)),8 (4 kd),8 (4 (as.filter Yn).9)]/\J=H3) ?_ ?_]
 .rintro Y J ⟨rfl,rfl⟩;erw[131,Zx (λz=>?_) (λz=>?_)]
  .erw[11,s,n,N,O,3,A,l,c,X,n1,λx H4 M g f=>?_];erw[11,s,n,N,O,3,g,f _ _ c l,c,X,n1,λy H5 my p B=>?_];erw[1,s,n,(9),3,p,aA,aA,λm H6 m0 m1 I C=>?_];rwa[41,aB S,λq r=>t (.pay x y (1+m) (5+d1)) S (M,my,66,v) I ((f.trans B).trans C) r]
  try dsimp only [Y7]
  erw[131,Zx (λz=>?_) (λz=>?_)]
  .erw[11,s,n,N,O,3,A,l,c,X,n1,λx H4 M g f=>?_];erw[11,aB S,λa7 a1=>?_];erw[nw (o:=6 [4 9,4 1000]) a1 λH5 T2 k2=>?_];let p:=g.keep T2;let b9:a7≠s:=(g.ne a1).1;erw[1,s,n,(2),3,p,aA,aA,λz2 H6 d0 d2 I C=>?_];obtain⟨b,hb,c5⟩:∃b:Int,atI [V.int 9,V.int 1000] z2=8 (4 b)/\0<b/\b<=1000:=by
    rcases(show z2=0\/z2=1 by lia) with rfl | rfl
    .rwa[(9),3,aA,aA]
    .rwa[(1000),3,aA,aA]
   erw[a7,22,4 b,33,9 (C _ _ b9 k2),hb,s,n,b,3,I,66,λm H7 m0 m1 b7 c2=>?_];rwa[4,aB S,λq r=>t (.rise x (5+d1) (1+m)) S (M,v,66) b7 (((f.trans T2.x).trans C).trans c2) r]
  try dsimp only [Y7]
  erw[131,Zx (λz=>?_) (λz=>?_)]
  .erw[11,s,n,N,O,3,A,l,c,X,n1,λx H4 M g f=>?_];erw[111,s,n,N,O,3,g,f _ _ c l,c,X,n1,λy H5 my p B=>?_];rwa[aB S,λq r=>t (.die x y (5+d1)) S (M,my,v) p (f.trans B) r]
  try dsimp only [Y7]
  erw[131,Zx (λz=>?_) (λz=>?_)]
  .erw[11,s,n,N,O,3,A,l,c,X,n1,λx H4 M g f=>?_];rwa[aB S,λq r=>t (.pen x) S M g f r]
  try dsimp only [Y7]
  erw[11,s,n,N,O,3,A,l,c,X,n1,λx H4 M g f=>?_];rwa[1,aB S,λq r=>t (.bring x (5+d1)) S (M,v) g f r]
 .intro D' a3 b5 _ _;erw[141,Zx (λz=>?_) (λz=>Zz (a3 _ _ (3,3)))];erw[141,Zx (λz2=>?_) (λz2=>a3 _ _ (3,3))];erw[11,s,n,1,A,66,λj H4 j0 j1 g f=>?_];erw[11,s,n,N,O,3,g,f _ _ c l,c,X,n1,λx H5 M p B=>?_];erw[11,s,n,N,O,3,p,B _ _ c (f _ _ c l),c,X,n1,λy H6 my I C=>?_];rwa[1,aB S,λq r=>b5 _ _ (t (.give j x y (5+d1)) S (M,my,j0,j1,v) I ((f.trans B).trans C) r)]
structure Fo (F:List ZI):Prop where
 bst:∀n day,JQ (kw F n) day (wgp F n day).1 (wgp F n day).2
 bd:∀n day,0<=(wgp F n day).2/\(wgp F n day).2<=1000
 pos:∀n day,(wgp F n day).1 = -1\/1<=(wgp F n day).2
 key:∀n d,Zw F n=8 d->0<=d/\d<=9999/\∃l v,kw F n=8 l/\Z2 l (1 d)=8 v
def Fo.nil:Fo []:=((λ_ _=>1 (3,33),λ_ _=>(Int.le_refl 0,by show (0:Int)<=1000;decide),λ_ _=>1 S,λn d h=>by ext h))
def Fo.isW(h:Fo F)(a:Zw F n=8 d)(b:d<=day):Bx (kw F n) day (wg F n day)/\1<=wg F n day/\wg F n day<=1000:=by
 let(22,l,v,e,c):=h.key n d a;erw[RZ (h.bst n day) e c b,5,(h.bd n day).2];rcases h.pos n day with z | z
 .rcases h.bst n day with⟨y,_⟩ | ⟨l',e',⟨_,_,y⟩ | ⟨y,_⟩⟩
  .rw[e] at y;ext y
  .grind
  .lia
 .rwa[z]
def Fo.come(h:Fo F)(c:Zw F n=_n)(d0:0<=d)(d1:d<=9999)(g:1<=wt)(i:wt<=1000):Fo (F ++ [.come n d wt]):=by
 let f:kw F n=none:=by
  have:=EW F n;rw[c] at this;cases e:kw F n with
  | none=>rfl
  | some l=>rw[e] at this;ext this
 erw[λm a=>?_,λm a=>?_,λm a=>?_,λm e b=>?_]
 .rw[Ja,Up];show JQ _ _ (if n=m/\_ then _ else _:Int×Int).1 (if n=m/\_ then _ else _:Int×Int).2
  by_cases z:n=m
  .subst z;let(j,k):=SZ (w:=wt) (h.bst n a) f d0
   by_cases y:(wgp F n a).1<=d/\d<=a
   .rw[_j (3,y)];rwa[j y.1 y.2]
   .rw[_i (λq=>y q.2)];rwa[k y]
  .rw[_i (λq=>z q.1),Wg,_i (Ne.symm z)];rwa[h.bst m a]
 .rw[Ja];show 0<=(if n=m/\_ then _ else _:Int×Int).2/\(if n=m/\_ then _ else _:Int×Int).2<=1000;split
  .rwa[by show 0<=wt;lia,i]
  .rwa[h.bd m a]
 .rw[Ja];show (if n=m/\_ then _ else _:Int×Int).1 = -1\/1<=(if n=m/\_ then _ else _:Int×Int).2;split
  .rwa[2 g]
  .rwa[h.pos m a]
 .rw[Eu c] at b;rw[Up,Wg]
  by_cases z:m=n
  .rw[_j z] at b |-;ext b;rwa[d0,d1,21,by rw[Ep,_j S]]
  .rw[_i z] at b |-;rwa[h.key m e b]
def Fo.rise(h:Fo F)(a:Zw F n=8 d2)(d0:0<=d)(f:1<=wt)(g:wt<=1000):Fo (F ++ [.rise n d wt]):=by
 let(22,e,i,b,c):=h.key n d2 a;erw[λm a=>?_,λm a=>?_,λm a=>?_,λm e c=>?_]
 .rw[Ja,Up];show JQ _ _ (if n=m/\_ then _ else _:Int×Int).1 (if n=m/\_ then _ else _:Int×Int).2
  by_cases z:n=m
  .subst z;let(i,j):=Pj (w:=wt) (h.bst n a) b d0
   by_cases y:(wgp F n a).1<=d/\d<=a
   .rw[_j (3,y)];rwa[i y.1 y.2]
   .rw[_i (λq=>y q.2)];rwa[j y]
  .rw[_i (λq=>z q.1),Wg,_i (Ne.symm z)];rwa[h.bst m a]
 .rw[Ja];show 0<=(if n=m/\_ then _ else _:Int×Int).2/\(if n=m/\_ then _ else _:Int×Int).2<=1000;split
  .rwa[by show 0<=wt;lia,g]
  .rwa[h.bd m a]
 .rw[Ja];show (if n=m/\_ then _ else _:Int×Int).1 = -1\/1<=(if n=m/\_ then _ else _:Int×Int).2;split
  .rwa[2 f]
  .rwa[h.pos m a]
 .rw[EU] at c;let(f,g,l,v,a,b):=h.key m e c;erw[f,g,5];rw[Up,Wg]
  by_cases z:m=n
  .rw[_j z,a]
   by_cases y:e=d
   .rwa[2,4 wt,3,by rw[B4,_j y]]
   .rwa[2,v,3,by rw[B4,_i y];rwa[b]]
  .rw[_i z];rwa[l,v,a,b]
def Fo.die(h:Fo F):Fo (F ++ [.die n d he]):=((λm a=>by rw[Ja,Up];rwa[h.bst m a],λm a=>by rw[Ja];rwa[h.bd m a],λm a=>by rw[Ja];rwa[h.pos m a],λm e a=>by rw[Fl] at a;rw[Up];rwa[h.key m e a]))
def okE(o:Option Str):Prop:=∀x,o=8 x->x∈errs
def okE.or(h:okE a)(k:okE b):okE (a.or b):=(λx e=>by
 cases a with
 | none=>rwa[k x e]
 | some y=>rwa[h x e])
def okE.non:okE none:=(λx e=>by ext e)
def okE.yes(h:y∈errs):okE (8 y):=(λx e=>by ext e;rwa[h])
def okE.ite [Decidable p] (h:okE a) (k:okE b):okE (if p then a else b):=by split<;>assumption
def okE.find{l:jS}{f:Str->Option Str}(h:∀n,okE (f n)):okE (l.findSome? f):=(λx e=>by
 let(n,2,a):=List.exists_of_findSome?_eq_some e;rwa[h n x a])
def okE.bind{a:Type}{o:Option a}{f:a->Option Str}(h:∀n,okE (f n)):okE (o.bind f):=by
 cases o with
 | none=>rwa[okE.non]
 | some a=>rwa[h a]
def okE.known(F:List ZI)(n:Str):okE (V2 F n):=(.ite (.yes aA) .non)
def okE.there(d day:Int):okE (Va d day):=(.ite (.yes aA) .non)
def okE.living(F:List ZI)(n:Str)(day:Int):okE (A0 F n day):=(.ite (.yes aA) .non)
def okE.j6(F:List ZI)(n:Str):okE (AB F n):=(.ite .non (.yes aA))
def okE.m(lo a d:Int):okE (eM lo a d):=(.ite .non (.yes aA))
def okE.ox(m:Mo):okE (Wj m):=(.ite .non (.yes aA))
def okE.oath(a:List ZW)(i:Int)(n:Str):okE (Uf a i n):=by
 unfold Uf;split
 .rwa[.ite (.ite .non (.yes aA)) (.yes aA)]
 .rwa[.yes aA]
def okE.named(F:List ZI)(m:Mo)(day:Int)(ps:jS)(b:Option Int)(a:Option (Int×Str)):okE (Vv F m day ps b a):=((okE.find (okE.known F)).or ((okE.bind λ_=>.ite .non (.yes aA)).or ((okE.bind λ_=>okE.oath _ _ _).or ((okE.find λ_=>okE.there _ _).or ((okE.bind λ_=>okE.there _ _).or ((okE.bind λ_=>okE.there _ _).or (okE.find λ_=>okE.living _ _ _)))))))
def jB(F:List ZI)(m:Mo)(d:SD):okE (eSD F m d):=by
 cases d with
 | come n a b=>rwa[okE.or (.ite (.yes aA) ((okE.m _ _ _).or ((okE.m _ _ _).or (okE.or (.ite .non (.yes aA)) (.ite .non (.yes aA)))))) (okE.ox m)]
 | rise n a b=>rwa[okE.or ((okE.m _ _ _).or ((okE.m _ _ _).or ((okE.known _ _).or ((okE.there _ _).or (okE.living _ _ _))))) (okE.ox m)]
 | die n b a=>rwa[okE.or ((okE.m _ _ _).or ((okE.known _ _).or ((okE.known _ _).or ((okE.there _ _).or ((okE.there _ _).or ((okE.j6 _ _).or (.ite (.yes aA) .non))))))) (okE.ox m)]
 | pen n=>rwa[(okE.known _ _).or ((okE.j6 _ _).or (okE.ox m))]
 | bring n a=>rwa[(okE.m _ _ _).or ((okE.named _ _ _ _ _ _).or (okE.or (.ite .non (.yes aA)) (okE.ox m)))]
 | give i x y a=>rwa[(okE.m _ _ _).or ((okE.named _ _ _ _ _ _).or (okE.ox m))]
 | pay x y b a=>rwa[(okE.m _ _ _).or ((okE.m _ _ _).or ((okE.named _ _ _ _ _ _).or (okE.ox m)))]
def PM(F:List ZI)(m:Mo)(day a:Int)(f:Str->Int)(c e:jS)(d:CD):okE (eCD F m day a f c e d):=by
 let b:okE (A8 m a f c e):=.ite (.yes aA) (.ite (.yes aA) ((okE.ox m).or (.ite (.yes aA) (okE.or (okE.find λ_=>.ite (.yes aA) .non) (.ite (.yes aA) .non)))));cases d with
 | wer x y a=>rwa[(okE.m _ _ _).or ((okE.m _ _ _).or ((okE.m _ _ _).or ((okE.named _ _ _ _ _ _).or b)))]
 | clm x i=>rwa[(okE.m _ _ _).or ((okE.m _ _ _).or ((okE.named _ _ _ _ _ _).or b))]
 | acc i n=>rwa[(okE.m _ _ _).or ((okE.m _ _ _).or ((okE.named _ _ _ _ _ _).or (b.or (.ite .non (.yes aA)))))]
section
def Wl{a:Type _}(l:List a)(x:a):(l ++ [x]).9=l.9+1:=by rw[xI];rfl
def Py(h:WH m)(i:Nat):(m.o8.getD i []).9<=m.il.9:=by
 rw[xR];cases e:m.o8[i]? with
 | none=>rwa[yI _]
 | some c=>rwa[h.hl c (xM e)]
def Ll(h:WH m):∀q∈m.o8.set i (m.o8.getD i [] ++ [x]),q.9<=m.il.9+1:=(λq a=>by
 rcases List.mem_or_eq_of_mem_set a with z | z
 .rwa[zU (h.hl q z)]
 .rw[z,Wl];rwa[mi (Py h i)])
def Xn(m:Mo)(d:SD):(m.sd d).il.9=m.il.9+1:=by ext d<;>rwa[Wl _ _]
def WH.sd(h:WH m)(d:SD):WH (m.sd d):=by
 let c:∀q∈m.o8,q.9<=m.il.9+1:=λq z=>zU (h.hl q z);let f:=zU h.ql;let dl:=Xn m d;cases d with
 | bring n a =>
  erw[h.ok,h.dl,λi e b=>?_,h.le,h.vl,55,dl▸f]
  .change (m.i9 ++ [_])[i]?=8 e at b;rcases Nat.lt_or_ge i m.i9.9 with z | z
   .rw[zS z] at b;rwa[h.br i e b]
   .rw[wG z] at b;cases xU.mp (xM b);rwa[n,a,7]
  .show (m.o8 ++ [_]).9=(m.i9 ++ [_]).9;rw[Wl,Wl,h.hb]
  .rw[dl];intro q z;rcases xL.mp z with z | z
   .rwa[c q z]
   .grind
 | give i x y a=>rwa[h.ok,h.dl,h.br,h.le,h.vl,(wS ..).trans h.hb,dl▸Ll h,dl▸f]
 | pay x y b a=>rwa[h.ok,h.dl,h.br,h.le,h.vl,h.hb,dl▸c,dl▸(Wl m.ij _).6▸mi h.ql]
 | _=>rwa[h.ok,h.dl,h.br,h.le,h.vl,h.hb,dl▸c,dl▸f]
def WH.ip(h:WH m)(i:m.oX.9<60)(e:YY (Ym f o1))(g:YY (Ym f o2))(b:1<=need)(c:need<=12000)(d:CD):WH (m.ip day need f o1 o2 d):=by
 let j:∀q∈m.o8,q.9<=m.il.9+1:=λq z=>zU (h.hl q z);let k:=zU h.ql;let dl:(m.ip day need f o1 o2 d).il.9=m.il.9+1:=by ext d<;>rwa[Wl _ _]
 let a:∀n:Option (Int×Str),(∀t∈m.oX ++ [(Ym f o1,Ym f o2,need,n)],TL t)/\(m.days ++ [day]).9=(m.oX ++ [((Ym f o1,Ym f o2,need,n):ZW)]).9/\(m.oX ++ [((Ym f o1,Ym f o2,need,n):ZW)]).9<=60/\(Ye [] 0 (m.oX ++ [(Ym f o1,Ym f o2,need,n)])).1.9=(m.oX ++ [((Ym f o1,Ym f o2,need,n):ZW)]).9:=λn =>
  (λt l=>(xL.mp l).elim (h.ok t) (λz=>by rw[xU.mp z];rwa[e,g,b,c]),by rw[Wl,Wl,h.dl],by rw[Wl];rwa[i],Ei ..)
 cases d with
 | wer x y b=>let(b,c,e,g):=a _n;rwa[b,c,h.br,e,g,h.hb,dl▸j,dl▸(Wl m.ij _).6▸mi h.ql]
 | clm x i=>let(b,c,e,g):=a _n;rwa[b,c,h.br,e,g,(wS ..).trans h.hb,dl▸Ll h,dl▸k]
 | acc i n=>let(b,c,e,g):=a (8 (i,n));rwa[b,c,h.br,e,g,h.hb,dl▸j,dl▸k]
structure Wk (ns:jS) (as:List AD):Prop where
 g:VJ as
 fo:Fo (Zg as).1
 ok:WH (Zg as).2
 ln:(Zg as).1.9<=as.9
 pn:(Zg as).2.oF<=as.9
 su:∀t∈(Zg as).2.oX,(TL t/\0<t.ones.9)/\∀n∈(t.ones++t.others).map (·.1),n∈ns
 cl:(as.filter isC).9=(Zg as).2.oX.9
 dy:∀x∈as.filter isC,∃d day need o1 o2 f,x=.c d day need o1 o2 f/\0<=day/\day<=9999
 nn:∀n∈ns,Vs n
 nd:ns.Nodup
 n0:0<ns.9
 n1:ns.9<=1000
variable{ns:jS}{as:List AD}
def Wk.nil(d:∀n∈ns,Vs n)(c:ns.Nodup)(a:0<ns.9)(b:ns.9<=1000):Wk ns []:=(((yI _,λi p h=>by ext h),Fo.nil,(λt h=>(nomatch h),3,λi e h=>(nomatch h),yI _,33,λq h=>(nomatch h),yI _),yI _,yI _,λt h=>(nomatch h),3,λx h=>(nomatch h),d,c,a,b))
def Wk.wok(h:Wk ns as):Gu ns as (as.filter isC) (Zg as).2.oX:=by
 have:=h.g.1;have:=h.ok.le;rwa[66,h.cl,λt a=>(h.su t a).1,λt a=>(h.su t a).2,h.dy,λn d=>h.fo.bd n d,h.nd,h.n0,h.n1]
def dOk(ns:jS):SD->Prop
 | .come n a b=>n∈ns/\okI a/\okI b
 | .rise n a b=>n∈ns/\okI a/\okI b
 | .die n b a=>n∈ns/\b∈ns/\okI a
 | .pen n=>n∈ns
 | .bring n a=>n∈ns/\okI a
 | .give i x y a=>x∈ns/\y∈ns/\okI i/\0<=i/\okI a
 | .pay x y b a=>x∈ns/\y∈ns/\okI b/\okI a
def Vq(h:0<=i)(h':i<=1000000):okI i:=by unfold okI;lia
def Qn(h:DM ns nb d)(a:nb<=1000):dOk ns d:=by
 cases d with
 | come n a b=>rwa[h.elim]
 | rise n a b=>rwa[h.1,Vq (by have:=h.2.1.1;lia) (by have:=h.2.1.2;lia),Vq (by have:=h.2.2.1;lia) (by have:=h.2.2.2;lia)]
 | die n b a=>rwa[h.1,h.2.1,Vq (by have:=h.2.2.1;lia) (by have:=h.2.2.2;lia)]
 | pen n=>rwa[h]
 | bring n a=>rwa[h.1,Vq (by have:=h.2.1;lia) (by have:=h.2.2;lia)]
 | give i x y a=>rwa[h.1,h.2.1,Vq h.2.2.1 (by have:=h.2.2.2.1;lia),h.2.2.1,Vq (by have:=h.2.2.2.2.1;lia) (by have:=h.2.2.2.2.2;lia)]
 | pay x y b a=>rwa[h.1,h.2.1,Vq (by have:=h.2.2.1;lia) (by have:=h.2.2.2.1;lia),Vq (by have:=h.2.2.2.2.1;lia) (by have:=h.2.2.2.2.2;lia)]
def OH(h:Vs n):okN n:=((by have:=h.2.2;lia,λx a=>by have:=h.1 x a;lia))
def Wk.sdOk(h:Wk ns as)(a:dOk ns d):sdOk (Zg as).1 (Zg as).2 d:=by
 let c:∀{n:Str},n∈ns->n.9<=100:=λb=>by have:=(h.nn _ b).2.2;lia
 have:=h.g.1;have:=h.ln;have:=h.pn;have:=h.ok.le;cases d with
 | come n b e=>rwa[6,OH (h.nn n a.1),a.2.1,a.2.2]
 | rise n b e=>rwa[6,c a.1,a.2.1,a.2.2]
 | die n e b=>rwa[6,c a.1,c a.2.1,a.2.2]
 | pen n=>rwa[c a,66]
 | bring n b=>rwa[h.ok,c a.1,a.2]
 | give i x y b=>rwa[h.ok,c a.1,c a.2.1,a.2.2.1,a.2.2.2.2]
 | pay x y e b=>rwa[h.ok,c a.1,c a.2.1,a.2.2.1,a.2.2.2]
def fJ(h:eSD F m d=_n):m.il.9<400:=by
 apply Au;ext d<;>simp only[eSD,yH] at h<;>simp_all
def Wk.snoc(h:Wk ns as)(U:dOk ns d)(e:eSD (Zg as).1 (Zg as).2 d=_n):Wk ns (as ++ [.s d]):=by
 let T:=fJ e;rw[DT] at T;let Y:KM d:=by
  cases d with
  | give i x y Z=>rwa[U.2.2.2.1]
  | _=>trivial
 let W:(as ++ [AD.s d]).filter isC=as.filter isC:=by rw[yQ];rwa[xT _]
 let X:=h.ln;let X:=h.pn;let X:=JB as (.s d);let R:(Zg (as ++ [.s d])).2.oX=(Zg as).2.oX:=by rw[X];ext d<;>rfl
 erw[h.g.snoc T (h.sdOk U,e,Y),5,by rw[X];rwa[h.ok.sd d],55,by rw[R];rwa[h.su],by rw[W,R];rwa[h.cl],by rw[W];rwa[h.dy],h.nn,h.nd,h.n0,h.n1]
 .rw[A9];cases d with
  | come n Z T =>
   let e:((TH (Zg as).1 n Z T).or (Wj (Zg as).2))=none:=e;let(2,(R,Q),(W,U),Y,2):=Fe (yH.mp e).1;rwa[h.fo.come Y R Q W U]
  | rise n Z T =>
   let e:((AA (Zg as).1 n Z T).or (Wj (Zg as).2))=none:=e;let((R,2),(W,U),(T,Y,2),2):=LN (yH.mp e).1;rwa[h.fo.rise Y R W U]
  | die n Y Z=>rwa[h.fo.die]
  | _=>rwa[h.fo]
 .rw[A9,Wl];ext d<;>simp only[fdS,sdF,xI,wF]<;>lia
 .rw[X,Wl];cases d with
  | pen n=>show (Zg as).2.oF+1<=_;lia
  | _=>show (Zg as).2.oF<=_;lia
def fR(h:eCD F m day need f o1 o2 d=_n):(0<=day/\day<=9999)/\(1<=need/\need<=12000)/\(∀n∈o1++o2,∃dd,Zw F n=8 dd/\dd<=day)/\m.oX.9<60/\m.il.9<400:=by
 cases d with
 | wer x y a =>
  simp only[eCD,Dm,yH] at h;let(2,a,b,c,e):=h;rwa[Vt a,Vt b,λn g=>(AQ c).1 n (by rw[yW];rwa[xJ _ g]),JU e]
 | clm x i =>
  simp only[eCD,CI,yH] at h;let(a,b,c,e):=h;rwa[Vt a,Vt b,λn g=>(AQ c).1 n (by rw[yW];rwa[xJ _ g]),JU e]
 | acc i n =>
  simp only[eCD,Do,yH] at h;let(a,b,c,e,2):=h;rwa[Vt a,Vt b,(AQ c).1,JU e]
def cOk(ns:jS):CD->Prop
 | .wer x y a=>x∈ns/\y∈ns/\okI a
 | .clm x i=>x∈ns/\okI i/\0<=i
 | .acc i n=>n∈ns/\okI i
def PD(h:Cz ns nb nc day dy d)(a:nb<=1000)(a:nc<=1000):cOk ns d:=by
 cases d with
 | wer x y a=>rwa[h.1,h.2.1,Vq (by have:=h.2.2.1;lia) h.2.2.2.1]
 | clm x i=>rwa[h.1,Vq h.2.1 (by have:=h.2.2.1;lia),h.2.1]
 | acc i n=>rwa[h.1,Vq h.2.1 (by have:=h.2.2.1;lia)]
def gS(h:Cz ns nb nc day dy d)(a:Aj day):0<=dy/\dy<=9999:=by
 have:=a.1;have:=a.2;cases d with
 | wer x y a=>have:=h.2.2.2.2;lia
 | clm x i=>have:=h.2.2.2;lia
 | acc i n=>have:=h.2.2.2;lia
abbrev wf(as:List AD)(day:Int):Str->Int:=λn=>wg (Zg as).1 n day
def Wk.cs(h:Wk ns as){day:Int}{a b:jS}(c:∀n∈a++b,n∈ns):∀n∈a++b,n.9<=100/\∀d,Zw (Zg as).1 n=8 d->d<=day->Bx (kw (Zg as).1 n) day (wf as day n)/\1<=wf as day n/\wf as day n<=1000:=(λn a=>(by have:=(h.nn n (c n a)).2.2;lia,λd a b=>h.fo.isW a b))
def Wk.cdOk(h:Wk ns as)(a:cOk ns d):cdOk d:=by
 let b:∀{n:Str},n∈ns->n.9<=100:=λc=>by have:=(h.nn _ c).2.2;lia
 cases d with
 | wer x y c=>rwa[b a.1,b a.2.1,a.2.2]
 | clm x i=>rwa[b a.1,a.2.1]
 | acc i n=>rwa[b a.1,a.2]
def Wk.snocC(h:Wk ns as)(s:cOk ns d)(u:∀n∈o1++o2,n∈ns)(w:0<o1.9)(m:o1.9<=60)(r:o2.9<=60)(e:eCD (Zg as).1 (Zg as).2 day need (wf as day) o1 o2 d=_n):Wk ns (as ++ [.c d day need o1 o2 (wf as day)]):=by
 let((v,A),(k,l),j,b,t):=fR e;rw[DT] at t;let f:IB d:=by
  cases d with
  | clm x i=>rwa[s.2.2]
  | _=>trivial
 let c:∀{o:jS},(∀n∈o,n∈o1++o2)->o.9<=60->YY (Ym (wf as day) o):=λy o=>(λp g=>by
  let(n,a,3):=zP.mp g;let(p,g,i):=j n (y n a)
  rwa[(h.fo.isW g i).2],by rw[xA];rwa[o])
 let g:YY (Ym (wf as day) o1):=c (λn a=>yR _ a) m;let i:YY (Ym (wf as day) o2):=c (λn a=>xJ _ a) r;let j:(as ++ [AD.c d day need o1 o2 (wf as day)]).filter isC=as.filter isC ++ [.c d day need o1 o2 (wf as day)]:=by rw[yQ];rfl
 let c:=h.ln;let c:=h.pn;let c:=JB as (.c d day need o1 o2 (wf as day));let o:(Zg (as ++ [.c d day need o1 o2 (wf as day)])).2.oX=(Zg as).2.oX ++ [(Ym (wf as day) o1,Ym (wf as day) o2,need,Ed d)]:=by rw[c];ext d<;>rfl
 erw[h.g.snoc t (h.cdOk s,h.ok,by have:=h.g.1;lia,m,r,Vq v (),Vq () (),h.cs u,e,f),by rw[A9];rwa[h.fo],by rw[c];rwa[h.ok.ip b g i k l d],by rw[A9,Wl];show (Zg as).1.9<=_;lia,5,λt b=>?_,by rw[j,o,Wl,Wl,h.cl],λx f=>?_,h.nn,h.nd,h.n0,h.n1]
 .rw[c,Wl];ext d<;>(show (Zg as).2.oF<=_;lia)
 .rw[o] at b;rcases xL.mp b with z | z
  .rwa[h.su t z]
  .rw[xU.mp z];erw[((g,i,k,l),by show 0<(o1.map _).9;rw[xA];rwa[w]),λn a=>?_];rw[<- xH,mK] at a;let(y,b,3):=zP.mp a;rwa[u _ b]
 .rw[j] at f;rcases xL.mp f with z | z
  .rwa[h.dy x z]
  .rw[xU.mp z];rwa[222221,v,A]
end
section
variable{w:kB}{C CM:jY}{c:jU}
def ZE.oG(h:ZE C CM H M F wa L m qs)(e:H b=8 (7 t)):¬mo M F wa L qs b:=(λa=>by
 rcases a with z | z | z | z | z
 .let(d,a):=h.ob;rw[z,a] at e;ext e
 .let(k,a,2):=h.pn;rw[z,a] at e;ext e
 .let(a,y):=h.lst z;rw[e] at y;ext y
 .let(a,y):=h.xl b z;rw[e] at y;ext y
 .let(o,a,2,d):=h.fk.there z;rw[e] at a;ext a;rwa[d t S])
def YE.oG(h:YE C CM H p F m O)(e:H b=8 (7 t)):¬O b:=by
 let(M,d,L,a,2,W,3):=h;rwa[W.oG e]
def YE.keep(h:YE C CM H p F m O)(k:∀b o,O b->H b=8 o->J b=8 o)(a:Ue H J):YE C CM J p F m O:=by
 let(M,f,L,d,e,W,3):=h;rwa[M,f,L,d,e,W.keep k a,7]
structure Ww (C CM p s la nl:jY) (W:WL) (ns:jS) (H:Hp) (fx:jV) (st:V8) (as:List AD) (O:jY->Prop):Prop where
 w:YE C CM H p st.1 st.2 O
 sr:ZM H s la
 wd:ZZ s H fx W as (as.filter isC) (Zg as).2.oX
 nm:H nl=8 (6 (ns.map V.str))
 o:∀b∈s::la::nl::W.wl::W.dl::W.sl::W.tl::fx,¬O b/\∃v,H b=8 (6 v)
 nn:nl ∉ [s,W.dl,W.sl,W.tl]
 nl:la ∉ [s,W.dl,W.sl,W.tl]
variable{p s la nl:jY}{W:WL}{ns:jS}{H J:Hp}{fx gx:jV}{st st':V8}{as:List AD}{O O':jY->Prop}
def Ww.step(h:Ww C CM p s la nl W ns H fx st as O)(k:YE C CM J p st'.1 st'.2 O')(f:YK O H O' J):Ww C CM p s la nl W ns J fx st' as O':=by
 let m:∀{b:jY}{o:HO},H b=8 o->¬O b->¬O' b:=λe n z=>(f.2 _ z).elim n (λy=>by rw[e] at y;ext y);let(l,i,j,st,cnt,a,b,c,d):=id h.sr;let g:=h.o;erw[k,(l,i,j,st,cnt,f.1 _ _ a (g s (by simp)).1,f.1 _ _ b (g la (by simp)).1,c,d),h.wd.keep (λb u e=>f.1 _ _ e (h.w.oG e)) (λb a o e=>f.1 _ _ e (g b (xP _ (xP _ (xP _ a)))).1),f.1 _ _ h.nm (g nl (by simp)).1,λx a=>?_,h.nn,h.nl];let(n,v,e):=g x a;rwa[m e n,v,f.1 _ _ e n]
def Ww.x(h:Ww C CM p s la nl W ns H fx st as O)(hs:ZM J s la)(k:ZF s H J):Ww C CM p s la nl W ns J fx st as O:=by
 let(22222,a,2):=id h.sr;let b:nl≠s:=λz=>h.nn (by rw[z];simp);erw[h.w.x a (h.o s (by simp)).1 k,hs,h.wd.x h.sr k,k _ _ b h.nm,λx a=>?_,h.nn,h.nl];let(n,v,e):=h.o x a
 by_cases z:x=s
 .let(22222,y,2):=hs;rw[z];rwa[z▸n,2,y]
 .rwa[n,v,k _ _ z e]
def Ww.same(h:Ww C CM p s la nl W ns H fx st as O)(k:ZC H J):Ww C CM p s la nl W ns J fx st as O:=(h.step (h.w.same k) (YK.same k))
def Ww.more(h:Ww C CM p s la nl W ns H fx st as O)(d:∀b∈gx,(¬O b/\∃v,H b=8 (6 v))/\b ∉ [s,W.dl,W.sl,W.tl]):Ww C CM p s la nl W ns H (gx++fx) st as O:=((h.w,h.sr,h.wd.more (λb a z=>(d b a).2 (by rw[z];simp)) (λb a z=>(d b a).2 (xP _ z)),h.nm,λb a=>by
  let a:b∈gx\/b∈s::la::nl::W.wl::W.dl::W.sl::W.tl::fx:=by
   simp only[xE,xL] at a |-
   grind
  rcases a with z | z
  .rwa[(d b z).1]
  .rwa[h.o b z],h.nn,h.nl))
def Ww.new(h:Ww C CM p s la nl W ns H fx st as O){b:jY}(e:H b=_n):b ∉ [s,W.dl,W.sl,W.tl]:=(λz=>by
 have:b∈s::la::nl::W.wl::W.dl::W.sl::W.tl::fx:=by
  simp only[xE,xV,or_false] at z |-
  grind
 let(2,v,y):=h.o b this;rw[e] at y;ext y)
def Ww.tryS(U:Ww C CM p s la nl W ns H fx (Zg as) as O)(k:Wk ns as){q:jY}{d:SD}(e:H q=8 (7 (sdV d)))(b:dOk ns d){Q:V->Hp->Prop}{E:XK}(g:∀ (l:jY) (a:aG) (J:Hp) (O':jY->Prop),J l=8 (6 a)->YK O H O' J->(a=[]/\eSD (Zg as).1 (Zg as).2 d≠_n/\Ww C CM p s la nl W ns J fx (Zg as) as O')\/(a=[sdR (Zg as).2 d]/\eSD (Zg as).1 (Zg as).2 d=_n/\Ww C CM p s la nl W ns J fx (Zg (as ++ [.s d])) as O')->Q (3 l) J) :
  (Sp.or (WR C CM) (WQ C CM)) [3 p,3 q] H Q E:=by
 erw[1 (p,22,O,q,d,3,U.w,e,k.sdOk b,jB _ _ _,λO' l J b a _ f=>?_)];cases e:eSD (Zg as).1 (Zg as).2 d with
 | none =>
  rw[e] at b f;rwa[g l _ J O' f a (2 (3,e,by rw[JB];rwa[U.step b a]))]
 | some x =>
  rw[e] at b f;rwa[g l _ J O' f a (1 (3,(λz=>by rw[e] at z;ext z),U.step b a))]
def Ww.tryC(U:Ww C CM p s la nl W ns H fx (Zg as) as O)(k:Wk ns as){q e h:jY}{d:CD}{day a:Int}{b f:jS}(u:H q=8 (7 (cdV day a e h d)))(m:H e=8 (6 (b.map V.str)))(o:H h=8 (6 (f.map V.str)))(r:cOk ns d)(t:∀n∈b++f,n∈ns)(v:b.9<=60)(x:f.9<=60)(j:okI day)(y:okI a){Q:V->Hp->Prop}{E:XK}(g:∀ (l:jY) (i:aG) (J:Hp) (O':jY->Prop),J l=8 (6 i)->YK O H O' J->(i=[]/\eCD (Zg as).1 (Zg as).2 day a (wf as day) b f d≠_n/\Ww C CM p s la nl W ns J fx (Zg as) as O')\/(i=[4 (Zg as).2.oX.9]/\eCD (Zg as).1 (Zg as).2 day a (wf as day) b f d=_n/\Ww C CM p s la nl W ns J fx (Zg (as ++ [.c d day a b f (wf as day)])) as O')->Q (3 l) J) :
  (Sp.or (WR C CM) (WQ C CM)) [3 p,3 q] H Q E:=by
 erw[2 (p,22,O,q,d,day,a,e,h,b,f,wf as day,3,U.w,u,(k.ok,by have:=k.ln;have:=k.g.1;lia,m,o,v,x,j,y,k.cs t),k.cdOk r,PM _ _ _ _ _ _ _ _,λO' l J i h _ j=>?_)];cases e:eCD (Zg as).1 (Zg as).2 day a (wf as day) b f d with
 | none =>
  rw[e] at i j;rwa[g l _ J O' j h (2 (3,e,by rw[JB];rwa[U.step i h]))]
 | some x =>
  rw[e] at i j;rwa[g l _ J O' j h (1 (3,(λz=>by rw[e] at z;ext z),U.step i h))]
def Ww.keep{x:AD}{v:V}(U:Ww C CM p s la nl W ns H fx (Zg (as ++ [x])) as O)(k:Wk ns as)(kx:kss as (Zg as).2.oX x=(Zg (as ++ [x])).2.oX)(re:YC (fz fx H) (adT x) v)(Z:∀d day r F G f,x=.c d day r F G f->F.9<=60/\G.9<=60){Q:V->Hp->Prop}{E:XK}(g:∀ (h:jV) (J:Hp),Ww C CM p s la nl W ns J h (Zg (as ++ [x])) (as ++ [x]) O->(∀b o,b ∉ [W.dl,W.sl,W.tl]->H b=8 o->J b=8 o)->(∀b∈h,b∈fx\/H b=_n)->Q .non J):VR [3 W.wl,v] H Q E:=by
 let T:=k.g.1;let Y:=k.ok.le;let(22222,X,2):=id U.sr;erw[v,s,W,fx,as,as.filter isC,(Zg as).2.oX,x,3,U.wd,re,6,xX (yE _ _) (),6,Z,(2,X),λh J l j B=>?_];let R:as.filter isC++(if isC x then [x] else [])=(as ++ [x]).filter isC:=by grind
 rw[R,kx] at l;let sn:s ∉ [W.dl,W.sl,W.tl]:=λz=>by
  have:=U.wd.ne;simp only[xE,xV,or_false] at z;rcases z with z | z | z
  .rwa[this W.dl (by simp) z.6]
  .rwa[this W.sl (by simp) z.6]
  .rwa[this W.tl (by simp) z.6]
 let oO:∀b,O b->b ∉ [W.dl,W.sl,W.tl]:=λb m z=>(U.o b (by simp only[xE,xV,or_false] at z |-;grind)).1 m
 let kt:Ue H J:=λb u e=>j _ _ (λz=>by
  let(2,I,y):=U.o b (by simp only[xE,xV,or_false] at z |-;grind)
  rw[e] at y;ext y) e
 let ln:la ∉ [W.dl,W.sl,W.tl]:=λz=>U.nl (xP _ z);let(ks,i,A,st,cnt,a,b,K,L):=id U.sr;erw[g h J (U.w.keep (λb o m e=>j _ _ (oO b m) e) kt,(ks,i,A,st,cnt,j _ _ sn a,j _ _ ln b,K,L),l,j _ _ (λz=>U.nn (xP _ z)) U.nm,λy n=>?_,U.nn,U.nl) j (λb m=>(B b m).imp id λz=>z.1)];let t:∀y∈s::la::nl::W.wl::W.dl::W.sl::W.tl::fx,¬O y/\∃v,J y=8 (6 v):=λy n=>by
  let(no,I,e):=U.o y n;erw[no,5]
  by_cases z:y ∈ [W.dl,W.sl,W.tl]
  .let(u1,M,2):=l.d;let(u2,N,2):=l.u;let(u3,P,2):=l.t;simp only[xE,xV,or_false] at z;rcases z with rfl | rfl | rfl
   .rwa[2,M]
   .rwa[2,N]
   .rwa[2,P]
  .rwa[I,j _ _ z e]
 let n:y∈s::la::nl::W.wl::W.dl::W.sl::W.tl::fx\/y∈h:=by
  simp only[xE] at n |-
  grind
 rcases n with z | z
 .rwa[t y z]
 .rcases B y z with z | ⟨e,vs,e'⟩
  .rwa[t y (by simp[z])]
  .rwa[U.w.out e,vs,e']
end
section
variable{C CM:jY}
variable{p s la nl:jY}{W:WL}{ns:jS}{H J:Hp}{fx:jV}{as:List AD}{O O':jY->Prop}
def Ww.put(h:Ww C CM p s la nl W ns H fx st as O)(e:H r=8 (6 vs))(a:¬O r)(g:r∉s::la::nl::W.wl::W.dl::W.sl::W.tl::fx):Ww C CM p s la nl W ns (upd H r (6 us)) fx st as O:=by
 let d:ZF r H (upd H r (6 us)):=ZF.upd;let f:∀b∈s::la::nl::W.wl::W.dl::W.sl::W.tl::fx,b≠r:=λb c z=>g (z▸c);erw[h.w.x e a d,h.sr.oj d (f s (by simp)).symm (f la (by simp)).6,h.wd.keep (λb u y=>d _ _ (λz=>by rw[z,e] at y;ext y) y) (λb c o y=>d _ _ (f b (xP _ (xP _ (xP _ c)))) y),d _ _ (f nl (by simp)) h.nm,λb c=>?_,h.nn,h.nl];let(a,v,y):=h.o b c;rwa[a,v,d _ _ (f b c) y]
def Ww.fresh(h:Ww C CM p s la nl W ns H fx st as O)(e:H r=_n):¬O r/\r∉s::la::nl::W.wl::W.dl::W.sl::W.tl::fx:=((h.w.out e,λz=>by
 let(2,v,y):=h.o r z
 rw[e] at y;ext y))
abbrev Ji(F:List SD):List D:=F.map λd=>adT (.s d)
def Rw.x(h:WA H [] r (Ji F))(hs:ZM H s la)(k:ZF s H J)(n:r≠s):WA J [] r (Ji F):=by
 let(22222,a,2):=hs;rwa[h.mono (λo e=>k _ _ n e) (Vn (λb u e=>k _ _ (λz=>by rw[z,a] at e;ext e) e) (λx a=>by ext a) λ_ z=>z)]
def Rw.same(h:WA H [] r (Ji F))(k:ZC H J):WA J [] r (Ji F):=(h.mono (λo e=>k _ _ e) (Vn (λ_ _ e=>k _ _ e) (λx a=>by ext a) λ_ z=>z))
def Rw.add{r q:jY}(h:WA H [] r (Ji F))(e:H r=8 (6 us))(a:H q=8 (7 (sdV d))):WA (upd H r (6 (us ++ [3 q]))) [] r (Ji (F ++ [d])):=by
 let c:ZF r H (upd H r (6 (us ++ [3 q]))):=ZF.upd;let f:ZC (fz [] H) (fz [] (upd H r (6 (us ++ [3 q])))):=Vn (λb u y=>c _ _ (λz=>by rw[z,e] at y;ext y) y) (λx b=>by ext b) λ_ z=>z;show WA _ [] r ((F ++ [d]).map _);rw[xH];rwa[h.snoc e f (q,1,Wr a,BJ _ d)]
def dyA:AD->Prop
 | .s (.bring _ d)=>d<=40
 | .s (.give _ _ _ d)=>d<=40
 | .s (.die _ _ d)=>d<=40
 | .c (.clm ..) d _ _ _ _=>d<=40
 | _=>True
def Ii(ns:jS):SD->Prop
 | .come n a b=>n∈ns/\0<=a/\a<=3/\1<=b/\b<=1000
 | .bring n a=>n∈ns/\3<=a/\a<=5
 | _=>False
structure Bs (ns:jS) (k:Nat) (F:List ZI):Prop where
 cm:V1 F=ns.take k
 com:∀n,n∈ns.take k->∃d,Zw F n=8 d/\0<=d/\d<=3
 no:∀n,n∉ns.take k->Zw F n=_n
def cmN:SD->List Str
 | .come n _ _=>[n]
 | _=>[]
def dJ{ns:jS}{F:List SD}{i:Nat}{d:SD}(h:F.flatMap cmN=ns)(a:F[i]?=8 d):∃B,ns=(F.take i).flatMap cmN++(cmN d++B):=by
 let b:=(xF.mp a).1;let e:F=F.take i++d::F.drop (i+1):=by
  have:=(xF.mp a).2;rw[<- this,<- zT b,zD]
 rwa[(F.drop (i+1)).flatMap cmN,by rw[<- h];conv=>lhs;rw[e,wO,List.flatMap_cons]]
def Bs.come(h:Bs ns k F)(a:ns[k]?=8 n)(c:ns.Nodup)(d0:0<=day)(d1:day<=3):n∉ns.take k/\Bs ns (k+1) (F ++ [.come n day wt]):=by
 let b:ns.take (k+1)=ns.take k ++ [n]:=by rw[xQ,a];rfl
 let a:n∉ns.take k:=λz=>by
  have:=c.sublist (List.take_sublist (k+1) ns);rw[b] at this;rwa[(List.nodup_append.mp this).2.2 n z n (by simp) S]
 let c:=h.no n a;erw[a,by rw[Eb,h.cm,b];rfl,λm a=>?_,λm a=>?_]
 .rw[Eu c]
  by_cases z:m=n
  .rw[_j z];rwa[day,3,d0,d1]
  .rw[_i z];rw[b] at a;rwa[h.com m ((xL.mp a).elim id λy=>_a (xU.mp y) z)]
 .rw[b] at a;rw[Eu c,_i (λz=>a (by rw[z];simp))];rwa[h.no m λz=>a (yR _ z)]
inductive Tu(C CM:jY):Sp
 |mk(p s la nl:jY) (W:WL) (ns:jS) (fx:jV) (O:jY->Prop)(_:vs=[3 s,3 p,3 W.wl,3 nl]/\Ww C CM p s la nl W ns H fx (Zg []) [] O/\Wk ns []/\ns.9<=40/\∀(a:jV)(as:List AD)(O':jY->Prop)(J:Hp),Ww C CM p s la nl W ns J a (Zg as) as O'->Wk ns as->(∀x∈as,dyA x)->Bs ns ns.length (Zg as).1->as.9<=ns.9+2->Q .non J)
abbrev IX:Stmt:=top 87
def Oc(b:YB K mg "_law_start" IX)(T:Txt mg)(a:10 Fn "_law_next" lj 1 YI)(c:10 Fn "_law_try" lQ 9 (Sp.or (WR C CM) (WQ C CM)))(d:10 Fn "_law_keep" lP 2 VR):10 Fn "_law_start" lz 10 (Tu C CM):=by
 erw[b.fq ["_law_src_here","_law_moot","_law_world","_law_names_here","_law_rows","_law_name","_law_k","_law_deed_here"] λH e Q E b h=>?_];let(p,s,la,nl,W,ns,fx,O,3,U,hk,b,k):=h;erw[72,(11 (Zv 4 (Yl Zb)) (Wd mL S (Y2 Q3) (Yc 5) (Zf (Zk (Ys aD aE aF Yz Q4 (0 (Yb (0 Z5 Q5 (Zm a (0 Q0 Zd)) (Z3 Wh Zd (Zm a (0 Q0 (Zh Z6 (Yl (0 Zd Zd Zd)) (Zm a (0 Q0 Zd))))))))))))) (Wd mL S (J3 T.range (0 (Z3 Wh Zd (Zm a (0 Q0 Zd))))) (Yc 6) (Zf (Zk (Ys aD aE aF Yz Q4 (0 (Yb (0 Z5 (Zh Z6 Q3 (Zm a (0 Q0 (Z1 Yw T.len Yk (0 Q3))))) (Z3 Wh Zd (Zm a (0 Q0 Zd)))))))))) (Wd mL S (Y2 Q4) (Yc 7) (Zf (Zt (Zo AI (Z1 Yw T.len Yk (0 (Zm c (0 Q1 Q7)))) Zd (Zq _)) (Zf (Zk (Zm d (0 Q2 Q7)))) Zs)))),5];let a:=aC
 let a:=hk.n0;let a:nl≠s:=λz=>U.nn (by rw[z];simp);erw[aB S,λa b=>?_];let(nr,I):=U.fresh b;let U1:=U.same (ZC.new (o:=6 []) b);let b:WA (upd H a (6 [])) [] a (Ji []):=([],Zi,3);generalize (upd H a (6 []))=c at U1 b |-;let rs:a≠s:=λz=>I (by rw[z];simp);erw[Z4 ?_]
 try dsimp only [Y7]
 erw[1,nl,3,(2,9 U1.nm),5];erw[Vo (ns.map V.str) (λi Y J=>∃(v5:Option V)(F:List SD),Y=[8 (3 s),8 (3 p),8 (3 W.wl),8 (3 nl),8 (3 a),v5,_n,_n]/\Ww C CM p s la nl W ns J fx (Zg []) [] O/\WA J [] a (Ji F)/\(∀d∈F,Ii ns d)/\F.flatMap cmN=ns.take i/\F.9=i) (_n,[],3,U1,b,(λd h=>nomatch h),33) (λi Y J _ ⟨_,_,_,U,_,_,_,_⟩=>9 U.nm) ?_ ?_]
 .rintro i v Y H2 hv hI;erw[opq λD0 r _ _ _=>?_];let(v5,F,3,M,r2,c,g,f):=hI;rw[xG] at hv;let(n,hn,3):=xS.mp hv;let B:=xM hn;let(us,hu,G):=id r2;let E:=G.9;rw[xA] at E;let a5:=(xF.mp hn).1;erw[1,1 (32,9 hu),11,s,la,(4),3,M.sr,aA,aA,λX H3 a3 a4 y j=>?_];let U3:=M.x y j;let r3:=Rw.x r2 M.sr j rs;erw[1,aB S,λe b=>?_];let l:=ZC.new (o:=6 [4 9,4 30,4 1000]) b;let u:(upd H3 e (6 [4 9,4 30,4 1000])) e=8 (6 [4 9,4 30,4 1000]):=Zi;let o:e≠s:=(y.ne b).1;generalize (upd H3 e (6 [4 9,4 30,4 1000]))=H4 at l u |-;let A:=U3.same l;let r4:=Rw.same r3 l;erw[1,s,la,(3),3,A.sr,aA,aA,λm H5 b t a0 l=>?_];let t:=A.x a0 l;let r5:=Rw.x r4 A.sr l rs;obtain⟨b,N,x⟩:∃b:Int,atI [V.int 9,V.int 30,V.int 1000] m=8 (4 b)/\0<b/\b<=1000:=by
   rcases(show m=0\/m=1\/m=2 by lia) with rfl | rfl | rfl
   .rwa[(9),3,aA,aA]
   .rwa[(30),3,aA,aA]
   .rwa[(1000),3,aA,aA]
  erw[e,22,4 b,33,9 (l _ _ o u),N,s,la,b,3,t.sr,66,λm L Q R a1 x=>?_];let N:=t.x a1 x;let r6:=Rw.x r5 t.sr x rs;erw[4,aB S,λq hq=>?_];let R:=ZC.new (o:=7 [5 "come", 5 n,4 X,4 (1+m)]) hq;let k7:(upd L q (7 [5 "come", 5 n,4 X,4 (1+m)])) q=8 (7 (sdV (.come n X (1+m)))):=Zi;generalize (upd L q (7 [5 "come", 5 n,4 X,4 (1+m)]))=H7 at R k7 |-;let U7:=N.same R;let r7:=Rw.same r6 R;let(a2,e,u):=id r7;let o:=u.9;rw[xA] at o;erw[a,a2,3 q,33,e,65];erw[r _ _ (2,F ++ [.come n X (1+m)],3,U7.put e nr I,Rw.add r7 e k7,λd Q=>?_,5,by rw[Wl,f])]
  .rcases xL.mp Q with z | z
   .rwa[c d z]
   .rw[xU.mp z];rwa[B,a3,666]
  .rw[wO,g,xQ,hn];rfl
 rintro Y H2 ⟨v5,F,rfl,M,r2,c,g,f⟩;rw[xA] at g f;rw[xZ] at g;erw[1,s,la,(2),3,M.sr,aA,aA,λX H3 a3 a4 y j=>?_];let U3:=M.x y j;let r3:=Rw.x r2 M.sr j rs;erw[41665];erw[Ap (1+X).toNat () (λi Y J=>∃(m:Option V)(F:List SD),Y=[8 (3 s),8 (3 p),8 (3 W.wl),8 (3 nl),8 (3 a),v5,m,_n]/\Ww C CM p s la nl W ns J fx (Zg []) [] O/\WA J [] a (Ji F)/\(∀d∈F,Ii ns d)/\F.flatMap cmN=ns/\F.9=ns.9+i) (_n,F,3,U3,r3,c,g,6) ?_ ?_]
 .rintro i Y H4 j hI;erw[opq λD0 r _ _ _=>?_];let(m,F,3,A,r4,c,g,f):=hI;let(us,hu,G):=id r4;erw[1,1 (32,9 hu),111,nl,1,1 (9 A.nm),s,la,1,A.sr,by rw[xA];lia,by rw[xA];lia,λj H5 y X a0 l=>?_];rw[xA] at X;let t:=A.x a0 l;let r5:=Rw.x r4 A.sr l rs;let(j,3):=yK y;let l:j<ns.9:=by lia
  erw[nl,22,5 ns[j],33,9 t.nm,Yo (by rw[xG,xB l];rfl),5];let B:ns[j]∈ns:=yY l;generalize ns[j]=n at B;erw[1,s,la,(3),3,t.sr,aA,aA,λz L j l a1 x=>?_];let N:=t.x a1 x;let r6:=Rw.x r5 t.sr x rs;erw[4,aB S,λq hq=>?_];let R:=ZC.new (o:=7 [5 "bring", 5 n,4 (3+z)]) hq;let k7:(upd L q (7 [5 "bring", 5 n,4 (3+z)])) q=8 (7 (sdV (.bring n (3+z)))):=Zi;generalize (upd L q (7 [5 "bring", 5 n,4 (3+z)]))=H7 at R k7 |-;let U7:=N.same R;let r7:=Rw.same r6 R;let(a2,e,u):=id r7;let o:=u.9;rw[xA] at o;erw[a,a2,3 q,33,e,65];erw[r _ _ (2,F ++ [.bring n (3+z)],3,U7.put e nr I,Rw.add r7 e k7,λd Q=>?_,5,by rw[Wl,f];lia)]
  .rcases xL.mp Q with y | y
   .rwa[c d y]
   .rw[xU.mp y];rwa[B,66]
  .rw[wO,g];rwa[xT _]
 rintro Y H4 ⟨m,F,rfl,A,r4,c,g,f⟩;clear U U1 M U3 r2 r3;let(us,hu,G):=id r4;let E:=G.9;rw[xA] at E;erw[1,a,3,(2,9 hu),5];erw[Vo us (λi Y J=>∃(v7:Option V)(j:jV)(as:List AD)(O':jY->Prop),Y=[8 (3 s),8 (3 p),8 (3 W.wl),8 (3 nl),8 (3 a),v5,m,v7]/\Ww C CM p s la nl W ns J j (Zg as) as O'/\Wk ns as/\(∀x∈as,dyA x)/\Bs ns ((F.take i).flatMap cmN).length (Zg as).1/\as.9<=i/\¬O' a/\a∉s::la::nl::W.wl::W.dl::W.sl::W.tl::j/\WA J [] a (Ji F)/\J a=8 (6 us)) (_n,fx,[],O,3,A,hk,(λ_ z=>nomatch z),(3,(λn h=>nomatch h),λn _=>rfl),xD _,nr,I,r4,hu) (λi Y J _ ⟨_,_,_,_,_,_,_,_,_,_,_,_,_,e⟩=>9 e) ?_ ?_]
 .rintro i v Y H5 hv hI;erw[opq λD0 r _ _ _=>?_];let(v7,j,as,O',3,t,m,Y5,v,al5,G,h,r5,A):=hI;let(o,f,l):=id r5;rw[A] at f;ext f;let(u,f,o):=l.get hv;rw[xG] at f;let(d,Q,3):=xS.mp f;let f:=c d (xM Q);let(q,3,hq):=By o;let U:dOk ns d:=by
   cases d with
   | come n c M=>rwa[f.1,Vq f.2.1 (by have:=f.2.2.1;lia),Vq (by have:=f.2.2.2.1;lia) (by have:=f.2.2.2.2;lia)]
   | bring n c=>rwa[f.1,Vq (by have:=f.2.1;lia) (by have:=f.2.2;lia)]
   | _=>rwa[f.elim]
  let et:F.take (i+1)=F.take i ++ [d]:=by rw[xQ,Q];rfl
  let a5:=(xF.mp Q).1;erw[11,t.tryS m hq U λl o L O6 kl R hc=>?_];let a0:¬O6 a:=λz=>(R.2 a z).elim G (λy=>by rw[A] at y;ext y);let r6:WA L [] a (Ji F):=r5.mono (λo e=>R.1 _ _ e G) (Vn (λb u e=>R.1 _ _ e (t.w.oG e)) (λx X=>by ext X) λ_ z=>z);let I:=R.1 _ _ A G;let(B,hB):=dJ g Q;let B:∀n,cmN d=[n]->ns[((F.take i).flatMap cmN).9]?=8 n:=λn e=>by grind
  rw[et,wO] at r;let Q:[d].flatMap cmN=cmN d:=by simp
  rw[Q,xI] at r;let gr:eSD (Zg as).1 (Zg as).2 d=_n->Bs ns (((F.take i).flatMap cmN).9+(cmN d).9) (Zg (as ++ [.s d])).1:=λ_=>by
   rw[A9];cases d with
   | come n c M=>rwa[(v.come (B n S) m.nd f.2.1 f.2.2.1).2]
   | bring n c=>rwa[v]
   | _=>rwa[f.elim]
  rcases hc with⟨rfl,i,N⟩ | ⟨rfl,he,N⟩
  .erw[l,1,1 (9 kl),41,Zx (λz=>_a z aA) (λ_=>r _ _ (2,j,as,O6,3,N,m,Y5,56,a0,h,r6,I))];cases d with
   | come n c M =>
    exfalso;apply i;let i:=B n S;let B:=(xF.mp i).1;let B:(V1 (Zg as).1).9<40:=by rw[v.cm,xY];lia
    let Q:=v.no n (v.come (wt:=M) i m.nd f.2.1 f.2.2.1).1;let i:=m.g.1;let y1:=f.2.1;let i:=f.2.2.1;let y3:=f.2.2.2.1;let y4:=f.2.2.2.2
    show ((TH (Zg as).1 n c M).or (Wj (Zg as).2))=_n;let em:Wj (Zg as).2=none:=_j (by rw[DT];lia);let i:TH (Zg as).1 n c M=none:=by
     unfold TH;rw[_i (by rw[bM (m.nn n f.1)];decide),_j Q,_j B,show eM 0 9999 c=_n from _j (y1,6),show eM 1 1000 M=_n from _j (y3,y4)];rfl
    rw[i,em];rfl
   | bring n c=>rwa[v]
   | _=>rwa[f.elim]
  .let i:YC (fz j L) (adT (.s d)) (3 q):=(q,1,Wr (R.1 _ _ hq (t.w.oG hq)),BJ _ d);erw[l,1,1 (9 kl),41,Zx (λ_=>?_) (λz=>_a (show (0:Int)<1 by decide) z)];erw[115];dsimp only [V3];erw[N.keep m (by rw[JB];ext d<;>rfl) i (λ_ _ _ _ _ _ z=>by ext z) λi H7 U7 l L=>?_];let B:a ∉ [W.dl,W.sl,W.tl]:=λz=>h (by simp only[xE,xV,or_false] at z |-;grind);erw[r _ _ (2,i,as ++ [.s d],O6,3,U7,m.snoc U he,λx X=>(xL.mp X).elim (Y5 x) λy=>?_,gr he,by rw[Wl];lia,a0,55,l _ _ B I)]
   .rw[xU.mp y];cases d with
    | bring n c=>have:=f.2.2;show c<=40;lia
    | come n c M=>trivial
    | _=>rwa[f.elim]
   .intro z;rcases xE.mp (show a∈s::la::nl::W.wl::W.dl::W.sl::W.tl::i from z) with y | y
    .rwa[h (by rw[y];simp)]
    .have:a∈s::la::nl::W.wl::W.dl::W.sl::W.tl::j\/a∈i:=by
      simp only[xE] at z |-
      grind
     rcases this with y | y
     .rwa[h y]
     .rcases L a y with y | y
      .rwa[h (by simp[y])]
      .rw[I] at y;ext y
   .erw[r6.mono (λo e=>l _ _ B e) (Vn (λb u e=>l _ _ (λz=>?_) e) (λx X=>by ext X) λ_ z=>z)];let(2,a,y):=N.o b (by simp only[xE,xV,or_false] at z |-;grind);rw[e] at y;ext y
 .rintro Y H5 ⟨v7,j,as,O',rfl,t,m,Y5,v,al5,G,h,r5,A⟩;rw[E,xZ,g] at v;rwa[k j as O' H5 t m Y5 v ()]
end
def dE(s:V8)(x:AD):∃r,(Vw s x).1=s.1++r:=by
 cases x with
 | s d=>ext d<;>first | rwa[8]| rwa[[],(xT _).6]
 | c d b a c e f=>rwa[[],(xT _).6]
theorem Le:∀(bs:List AD)(s:V8),∃r,(bs.foldl Vw s).1=s.1++r
 | [],s=>([],(xT _).6)
 | x::bs,s=>by
  let(c,a):=dE s x;let(d,b):=Le bs (Vw s x);rwa[c++d,by rw[zL,b,a,yW]]
def PL(as:List AD)(i:Nat):∃r,(Zg as).1=(Zg (as.take i)).1++r:=by
 let(r,e):=Le (as.drop i) (Zg (as.take i));erw[r,5];rw[<- e];unfold Zg;rw[<- zB,zD]
def Kn(h:Zy (Zg (as.take i)).1 n=8 d):Zy (Zg as).1 n=8 d:=by
 let(r,e):=PL as i;rw[e,Cc,h];rfl
def cH(h:Y1 x="die"):∃n a d,x=.s (.die n a d):=by
 cases x with
 | s d=>ext d<;>first | rwa[228]| rwa[_a h (by dsimp only [Y1];decide +kernel)]
 | c d b a c e f=>ext d<;>rwa[_a h (by dsimp only [Y1];decide +kernel)]
def LV(h:Zy F n=_n):Zy (fdS F x) n=(match x with
  | .s (.die m a d)=>if m=n then 8 (d,a) else _n
  | _=>_n):=by
 cases x with
 | s d =>
  cases d with
  | come m d b=>rwa[(E9 n).trans h]
  | rise m d b=>rwa[(E8 n).trans h]
  | die m a d=>show Zy (F ++ [_]) n=_;rw[Cc,h];rfl
  | _=>rwa[h]
 | c d b a e g f=>rwa[h]
def iE(H:Hp):Option (Int×Str)->V->Prop
 | none,v=>v=.non
 | some (d,b),v=>∃a,v=3 a/\H a=8 (7 [4 d,5 b])
inductive VW:Sp
 |mk(q) (fx) (as) (n)(_:vs=[3 q,5 n]/\WA H fx q (as.map adT)/\∀v J,ZC H J->iE J (Zy (Zg as).1 n) v->Q v J)
abbrev La:Stmt:=top 78
def fK(l:YB K mg "_law_death" La)(T:Txt mg):10 Fn "_law_death" i4 1 VW:=by
 erw[l.fq ["_law_deeds","_law_name","_law_deed_here"] λH B Q E X h=>?_];let(q,W,o,n,3,(B,u,d),k):=h;erw[72,(11 (Wd mL S (Y2 Q0) (Yc 2) (Zf (Zt (QW.pt (V0 (Zo Yh (Zh Zn Q2 Zd) Z5 (Zq _)) (Jg (Zo Yh (Zh Zn Q2 Zd) Q1 (Zq _))))) (Zf (Zr (Yb (0 (Zh Zn Q2 Zd) (Zh Zn Q2 Zd))))) Zs))) (Zr Y3)),5];let hz:=aC
 let g:=d.9;rw[xA] at g;erw[1,q,3,(2,9 u),5];erw[Vo B (λi Y J=>∃s:Option V,Y=[8 (3 q),8 (5 n),s]/\J=H/\Zy (Zg (o.take i)).1 n=_n) (_n,333) (λi Y J _ ⟨_,_,e,_⟩=>by rw[e];rwa[9 u]) ?_ ?_]
 .rintro i v Y J N ⟨s,rfl,rfl,c⟩;let(x0,j,A):=d.get N;rw[xG] at j;let(x,R,3):=xS.mp j;let I:o.take (i+1)=o.take i ++ [x]:=by rw[xQ,R];rfl
  let f:=LV (x:=x) c;rw[<- A9,<- I] at f;let(a,us,3,r,O):=Bu A;erw[1,a,2,(0),5 (Y1 x),33,ZO.of r,Yo O,31,Zx (λz=>?_) (λz=>Zz ?_)]
  .let(m,L,C,3):=cH (by injection z);let(U,F,b):=By A;ext F;rw[b] at r;ext r;erw[1,a,2,(1),5 m,33,ZO.of b,3131,Zx (λt=>?_) (λt=>?_)]
   .let G:m=n:=by injection t
    let f:=f.trans (_j G);have:=Kn f;rw[this] at k;erw[1,a,2,(2),4 C,33,ZO.of b,31,a,2,(3),5 L,33,ZO.of b,3,aB S,λp M=>k _ _ (ZC.new M) (p,3,Zi)]
   .erw[13,f.trans (_i λy=>t (by rw[y]))]
  .erw[13,f.trans ?_];split
   .rwa[_a S z]
   .rfl
 .rintro Y J ⟨s,rfl,rfl,c⟩;rw[g,xZ] at c;rw[c] at k;rwa[k _ _ (ZC.refl _) S]
inductive UB:Sp
 |mk(q) (fx) (as) (n) (day)(_:vs=[3 q,5 n,4 day]/\WA H fx q (as.map adT)/\∀J,ZC H J->Q (.bl (Vp (Zg as).1 n day)) J)
abbrev LJ:Stmt:=top 79
def Xh(a:YB K mg "_law_is_dead" LJ)(T:Txt mg)(b:10 Fn "_law_death" i4 1 VW):10 Fn "_law_is_dead" lG 2 UB:=by
 erw[a.fq ["_law_deeds","_law_name","_law_day","_law_death_here"] λH c Q E a h=>?_];let(q,d,a,n,c,3,e,k):=h;erw[72,(11 (Zv 3 (Zm b (0 Q0 Q1))) (Zr (AW (J5 A2 Q3 Y3 (Zq _)) (Bc (J5 Vm (Zh Zn Q3 Zd) Q2 (Zq _)))))),5];erw[11,q,d,a,n,3,e,λv c d b=>?_];erw[Z4 ?_];let k:=k c d;unfold Vp at k;cases e:Zy (Zg a).1 n with
 | none =>
  rw[e] at b k;let b:v=.non:=b;subst b;rwa[131,Zz k]
 | some x =>
  let(d,a):=x;rw[e] at b k;let(a,3,c):=b;erw[131,Z7 ?_];rwa[1,a,2,(0),4 d,33,ZO.of c,314,k]
inductive WC (F:List ZI) (day:Int):Nat->Str->Str->Prop where
 | here {n:Str}:Vp F n day=_x->WC F day 0 n n
 | step {n m:Str}{x:Int×Str}{k:Nat}:Zy F n=8 x->Vp F n day=_t->WC F day k x.2 m->WC F day (k+1) n m
def OK{F:List ZI}{r:Str->Nat}(h:∀n x,Zy F n=8 x->r x.2<r n)(day:Int):∀b n,r n<=b->∃k m,WC F day k n m/\k<=b:=by
 intro b
 induction b with
 | zero =>
  intro n c;cases e:Vp F n day with
  | false=>rwa[(0),n,.here e,yI _]
  | true =>
   unfold Vp at e;cases a:Zy F n with
   | none=>rw[a] at e;ext e
   | some x=>have:=h n x a;lia
 | succ b f =>
  intro n c;cases e:Vp F n day with
  | false=>rwa[(0),n,.here e,yI _]
  | true =>
   let d:=e;unfold Vp at e;cases a:Zy F n with
   | none=>rw[a] at e;ext e
   | some x =>
    have:=h n x a;let(k,m,c,e):=f x.2 ();rwa[k+1,m,.step a d c,6]
def YH(F:List ZI)(i:Nat):Prop:=∃r:Str->Nat,(∀n x,Zy F n=8 x->r x.2<r n)/\(∀n,Zy F n=_n->r n=0)/\∀n,r n<=i
def YH.die(R:YH F i)(b:Zy F n=_n)(a:Zy F h=_n)(a:h≠n):YH (F ++ [.die n d h]) (i+1):=by
 let(r,a,c,e):=R;erw[λx=>if x=n then 1 else match Zy F x with | some _=>r x+1 | none=>0,λm x a=>?_,λm a=>?_,λm=>?_]
 .rw[DO b] at a
  by_cases e:m=n
  .grind
  .grind
 .rw[DO b] at a
  by_cases e:m=n
  .rw[_j e] at a;ext a
  .grind
 .grind
section
variable{C:jY}
inductive Js(C:jY):Sp
 |mk(L) (F) (n) (x)(_:vs=[3 L.p,5 n]/\ZX C H L F/\Zy F n=8 x/\Q (4 x.1) H)
abbrev Ic:Stmt:=Yt (top 36) 12
def cZ(a:ZU K C "death_day" "Folk.death_day" Ic)(b:VA K C):10 Mt C "death_day" lH 1 (Js C):=by
 erw[a.mq lH λH a Q E c h=>?_];let(L,F,n,x,3,a,f,k):=h;erw[72,(Zf (Zr (AS c (Z0 Q0) Q1 (λ_ _=>rfl)))),5];let(e,h):=a.ob;let(U,c,g,d):=a.d;let g:=YF.k (k:=Sum.inr n) c;rw[d,f] at g;rwa[1,L.p,C,e,21,h,b.cl,b.nd,BD _ _ _ _,1,L.dd,4 x.1,3,g,k]
inductive UC(C:jY):Sp
 |mk(L) (F) (n) (x)(_:vs=[3 L.p,5 n]/\ZX C H L F/\Zy F n=8 x/\Q (5 x.2) H)
abbrev GP:Stmt:=Yt (top 36) 13
def Sl(a:ZU K C "heir_of" "Folk.heir_of" GP)(b:VA K C):10 Mt C "heir_of" lH 1 (UC C):=by
 erw[a.mq lH λH a Q E c h=>?_];let(L,F,n,x,3,a,f,k):=h;erw[72,(Zf (Zr (AS c (Z0 Q0) Q1 (λ_ _=>rfl)))),5];let(e,h):=a.ob;let(U,c,g,d):=a.h;let g:=YF.k (k:=Sum.inr n) c;rw[d,f] at g;rwa[1,L.p,C,e,21,h,b.cl,b.nh,Ly _ _ _ _,1,L.dh,5 x.2,3,g,k]
end
def YH.oM(R:YH F i)(a:i<=40)(n:Str)(day:Int):∃k m,WC F day k n m/\k<=40:=by
 let(r,c,a,d):=R;let(k,m,a,b):=OK c day i n (d n);rwa[k,m,a,6]
def YH.more(R:YH F i)(h:∀n,Zy ds' n=Zy F n):YH ds' (i+1):=by
 let(r,a,b,c):=R;rwa[r,λn x e=>a n x (by rw[<- h];rwa[e]),λn e=>b n (by rw[<- h];rwa[e]),λn=>zU (c n)]
def YH.sd(R:YH F i)(e:eSD F m d=_n):YH (sdF F d) (i+1):=by
 cases d with
 | come n a b=>rwa[R.more λx=>E9 x]
 | rise n a b=>rwa[R.more λx=>E8 x]
 | die n c a =>
  simp only[eSD,A7,yH] at e;let((22222,a,b),2):=e;let a:Zy F n=none:=by
   unfold AB at a
   by_cases z:Zy F n=_n
   .rwa[z]
   .rw[_i z] at a;ext a
  let b:¬(c=n\/Zy F c≠_n):=λz=>by rw[_j z] at b;ext b
  rwa[R.die a (Classical.byContradiction λz=>b (2 z)) (λz=>b (1 z))]
 | _=>rwa[R.more λ_=>rfl]
def VJ.ranked(h:VJ as):YH (Zg as).1 as.9:=by
 let g:∀i,i<=as.9->YH (Zg (as.take i)).1 i:=by
  intro i
  induction i with
  | zero=>rwa[λ_=>(λ_=>0,λn x e=>(by ext e),λ_ _=>rfl,λ_=>xD _)]
  | succ i b =>
   intro a;obtain⟨x,a⟩:∃x,as[i]?=8 x:=(2,xB ());let R:=b ();let b:=h.2 i x a;rw[show as.take (i+1)=as.take i ++ [x] by rw[xQ,a];rfl,JB];cases x with
   | s d=>rwa[R.sd b.2.1]
   | c d b a e i f=>rwa[R.more λ_=>rfl]
 have:=g as.length (xD _)
 (rw[xZ] at this;assumption)
def Rj(s:V8)(a:AD):(Vw s a).2.oX.9=s.2.oX.9+(if isC a=_t then 1 else 0):=by
 cases a with
 | s d=>ext d<;>rfl
 | c d e b g h f=>ext d<;>rwa[Wl _ _]
def Qf(as:List AD):(Zg as).2.j9=(Ye [] 0 (Zg as).2.oX).1:=by
 suffices h:∀(as:List AD)(s:V8),s.2.j9=(Ye [] 0 s.2.oX).1->(as.foldl Vw s).2.j9=(Ye [] 0 (as.foldl Vw s).2.oX).1 from h as _ S
 intro as
 induction as with
 | nil=>rwa[λs h=>h]
 | cons a as b =>
  intro s h;rw[zL];erw[b _ ?_];cases a with
  | s d=>ext d<;>rwa[h]
  | c d b a e g f=>ext d<;>rfl
def Gf{t u:TS}{D:YG}{Y:St}{H:Hp}(h:∀b:YG,(∀ a J,u D a J->b.nx a J)->(∀v J,D.rt v J->b.rt v J)->t b Y H):Uu t u D Y H:=(h {D with nx:=u D } (λ_ _ h=>h) λ_ _ h=>h)
inductive VN:Sp
 |mk(l) (ss)(_:vs=[3 l]/\ZT H ss l/\ss.9<=1000/\∀a J,J a=8 (6 ((Ye [] 0 ss).1.map V.bl))->ZC H J->Q (3 a) J)
theorem FA(a:List AN):∀k b i,(Ye a i b).1.drop k=(Ye a (i+k) (b.drop k)).1
 | 0,b,i=>rfl
 | k+1,[],i=>by rw[List.drop_nil,Ye,Ye,List.drop_nil]
 | k+1,t::r,i=>by
  rw[Ye,List.drop_succ_cons,List.drop_succ_cons,FA a k r (i+1)];have:i+1+k=i+(k+1):=by lia
  rw[this]
theorem GG(a:List AN)(x:AN):∀(r:List ZW)(i:Nat),x∈(Ye a i r).2↔x∈a\/∃(j:Nat)(t:ZW),r[j]?=8 t/\(Ye a i r).1[j]?=8 _t/\t.named=8 x
 | [],i=>by rw[Ye];rwa[.inl,λh=>h.elim id λ⟨j,t,e,_,_⟩=>by simp at e]
 | t::r,i=>by
  let g:=GG a x r (i+1);rw[Ye];generalize decide (0<=TM (λc n=>decide ((c,n)∈(Ye a (i+1) r).2)) i t)=b;dsimp only;let d:(∃(j:Nat)(u:ZW),(t::r)[j]?=8 u/\(b::(Ye a (i+1) r).1)[j]?=8 _t/\u.named=8 x)↔(b=_t/\t.named=8 x)\/∃(j:Nat)(u:ZW),r[j]?=8 u/\(Ye a (i+1) r).1[j]?=8 _t/\u.named=8 x:=by
   constructor
   .rintro⟨j,u,a,c,f⟩;cases j with
    | zero =>
     let a:8 t=8 u:=a;let c:8 b=8 true:=c;ext a;rwa[1 (ma c,f)]
    | succ j=>rwa[2 (j,u,a,c,f)]
   .rintro(⟨rfl,e⟩ | ⟨j,u,a,c,f⟩)
    .rwa[(0),t,33,e]
    .rwa[j+1,u,a,c,f]
  rw[d];cases b with
  | false =>
   rw[_i xK,g];rwa[λh=>h.imp id .inr,λh=>h.imp id λz=>z.elim (λq=>nomatch q.1) id]
  | true =>
   rw[_j S,xL,g,Option.mem_toList];constructor
   .grind
   .grind
def Qg{b:List ZW}{c:Nat}{t:ZW}(d:b[c]?=8 t):∃br:Int->Str->Bool,(∀n,br c n=_t↔LC (Ye [] 0 b).1 b c n)/\(Ye [] 0 b).1[c]?=8 (decide (0<=TM br c t)):=by
 let a:=(xF.mp d).1;let f:b.drop c=t::b.drop (c+1):=by
  have:=zT a;rw[this];let e:=xB a;rw[d] at e;rw[ma e]
 erw[λa n=>decide ((a,n)∈(Ye [] (c+1) (b.drop (c+1))).2),λn=>?_,5]
 .rw[wT,GG];let a:=FA [] (c+1) b 0;rw[Nat.zero_add] at a;rw[<- a];constructor
  .rintro(h | ⟨j,u,a,d,e⟩)
   .ext h
   .rw[List.getElem?_drop] at a d;rwa[c+1+j,u,6,a,d,e]
  .rintro⟨j,u,g,a,d,e⟩;erw[2 (j - (c+1),u,55,e)]
   .grind
   .grind
 .let a:=FA [] c b 0;rw[Nat.zero_add,f,Ye] at a;have:(Ye [] 0 b).1[c]?=((Ye [] 0 b).1.drop c)[0]?:=by rw[List.getElem?_drop,Nat.add_zero]
  rw[this,a];rfl
def ID{br:Int->Str->Bool}{c:Int}{a:Vi}{i:Nat}{p:Str×Int}(h:a[i]?=8 p):Ur br c (a.take (i+1))=Ur br c (a.take i)+(if br c p.1 then 0 else p.2):=by
 unfold Ur wts;rw[KW h,xH,List.sum_append];cases br c p.1<;>simp
def Fg(m:Nat)(d:n=m)(Pv:Nat->List V->Hp->Prop)(b:Pv 0 [] H)(e:m<=1000000)(a:∀i ys H,Pv i ys H->ys.9<=i)(step:∀i ys H,i<m->Pv i ys H->Vy nl fv g tt te (4 (lo+i)) H (λy J=>Pv (i+1) (ys ++ [y]) J) λJ=>Pv (i+1) ys J)(c:∀ys H,Pv m ys H->∀l,H l=_n->Q (3 l) (upd H l (6 ys))):Uj (JP lo n) nl fv g tt te Q H:=by
 subst d;rwa[Mh Pv b e a step c]
def Ga{a:List (Option V)}(h:a.9=1):∃w,a=[w]:=by
 match a,h with
 | [w],_=>rwa[w,7]
def JL(H:Hp)(bs:List Bool)(e:List ZW)(c k:Nat)(vs:aG):Prop :=
 (∀v∈vs,v=.non\/∃a b d,v=3 a/\H a=8 (7 [4 b,5 d]))/\∀n:Str,(∃a,V.ref a∈vs/\H a=8 (7 [4 c,5 n]))↔∃j t,c<j/\j<k/\e[j]?=8 t/\bs[j]?=8 _t/\t.named=8 ((c:Int),n)
def JL.mono(h:JL H bs ss c k vs)(S:ZC H J):JL J bs ss c k vs:=by
 erw[λv a=>(h.1 v a).imp id λ⟨a,b,d,e,x⟩=>(a,b,d,e,S _ _ x),λn=>?_];rw[<- h.2 n];constructor
 .rintro⟨a,m,e⟩;rcases h.1 _ m with z | ⟨a2,b,d,z,x⟩
  .ext z
  .ext z;rw[S _ _ x] at e;rwa[a,m,by rw[x];rwa[e]]
 .rintro⟨a,m,e⟩;rwa[a,m,S _ _ e]
def JL.skip(h:JL H bs ss c k vs)(g:bs[k]?=8 _x):JL H bs ss c (k+1) vs:=by
 erw[h.1,λn=>?_];rw[h.2 n];constructor
 .rintro⟨j,t,a,b,r,d,e⟩;rwa[j,t,a,6,r,d,e]
 .rintro⟨j,t,a,b,e,d,f⟩;erw[j,t,a,5,e,d,f]
  by_cases z:j=k
  .subst z;rw[g] at d;ext d
  .lia
def JL.add(h:JL H bs ss c k vs)(A:c<k)(s:ss[k]?=8 t)(w:bs[k]?=8 _t)(e:YC H (B0 t.named) u):JL H bs ss c (k+1) (vs ++ [u]):=by
 let g:(u=.non/\t.named=_n)\/∃a b f,u=3 a/\H a=8 (7 [4 b,5 f])/\t.named=8 (b,f):=by
  cases i:t.named with
  | none=>rw[i] at e;ext e;rwa[1 (3,3)]
  | some o =>
   rw[i] at e;let(b,f):=o;let(d,j,3,r,(v,l,3,m,(x,o,3,n,p))):=e;ext m;ext n;ext p;rwa[2 (d,b,f,3,r,3)]
 erw[λv d=>?_,λn=>?_]
 .rcases xL.mp d with z | z
  .rwa[h.1 v z]
  .cases xU.mp z;rwa[g.imp (·.1) λ⟨a,b,f,e,x,_⟩=>(a,b,f,e,x)]
 .constructor
  .rintro⟨a,m,e⟩;rcases xL.mp m with z | z
   .let(j,p,d,v,r,l,o):=(h.2 n).mp (a,z,e);rwa[j,p,d,6,r,l,o]
   .let z:=xU.mp z;rcases g with⟨y,_⟩ | ⟨a',b,f,y,x,i⟩
    .rw[y] at z;ext z
    .rw[y] at z;ext z;rw[x] at e;ext e;rwa[k,t,A,6,s,w,i]
  .rintro⟨j,p,d,v,l,r,o⟩
   by_cases z:j=k
   .subst z;rw[s] at l;ext l;rcases g with⟨_,y⟩ | ⟨a',b,f,y,x,i⟩
    .rw[y] at o;ext o
    .grind
   .let(a,m,e):=(h.2 n).mpr (j,p,d,6,l,r,o);rwa[a,yR _ m,e]
abbrev AH:Stmt:=top 93
def Mf:ZK lA ["_law_suits"] (Zj AH):=(fsc)
def jL:Nm (Zj AH) "_law_lost" .local:=(aA)
def C5:Nm (Zj AH) "_law_suits" .cell:=(aA)
def Dj:Nm (Zj AH) "_law_told" .cell:=(aA)
def Rr:Nm (Zj AH) "range" .globalImplicit:=(aA)
def Oz:Nm (Zj AH) "reversed" .globalImplicit:=(aA)
def fM(a:YB K mg "_law_settled" AH)(T:Txt mg):10 Fn "_law_settled" ["_law_suits"] 3 VN:=by
 erw[a.fq lA λH a Q E b h=>?_];let(l,f,7,k,a,q):=h
 refine(72,(11 (FO (i:=1) Mf.nd Dj (Z3 KO (Yl (0 Ul)) (Z1 Yw T.len Yk (0 (qvC 0 C5))))) (Wd mL rfl (OA Oz.1 T.reversed Rr.1 T.range (0 (Z1 Yw T.len Yk (0 (qvC 0 C5))))) (Yc 2) (11 (TQ (Zh Z6 (qvC 0 C5) Q2) (Ar (by rfl) (Yr (Yc 3) (Yr (Yc 4) (Yr (Yc 5) (Yr (Yc 6) Vx)))))) (DP (locs:=["_law_later"]) (fr:=[("_law_suits",(0)),("_law_told",(1))]) (7,aA,aA,aA,aA,aA) (.ig C5 (.ig Dj .nil)) rfl (Hg T.range (0 (Z3 Wh Q2 Zd) (Z1 Yw T.len Yk (0 (qvC 0 C5))))) ⟨λ_ _ _ _ _ _=>by
  let a:(inN ["_law_later"] [("_law_suits",(0)),("_law_told",(1))]).Nodup:=aA
  rwa[(Y9 0 a),(Um (Wz (Zh B9 (Wp 2) (Yj 0)))),(Zh AK (Zh B9 (Wp 1) (Yj 0)) Zd)]⟩ Mf.nd jL (by rfl) (i:=7)) (Zv 8 (Z3 JI Zd Q5)) (Wd mL rfl (Y2 Q3) (Ar (by rfl) (Yr (Yc 9) (Yr (Yc 10) Vx)))
 (Zf (Zt (Zo (KL b) (Yb (0 Q2 (qvN 9))) Q7 rfl) (Zf (Zv 8 (Z3 Wh Q8 Q9))) Zs))) (Wd mL rfl (Y2 Q4) (Ar (by rfl) (Yr (Yc 9) (Yr (Yc 10) Vx)))
 (Zf (Zt (Zo (KL b) (Yb (0 Q2 (qvN 9))) Q7 rfl) (Zf (Zv 8 (Z3 JI Q8 Q9))) Zs))) (TQ (J5 A6 Q8 Zd (Zq _)) (Bg (qvC 1 Dj) Q2 Bl)))) (Zr (qvC 1 Dj))),5)
 let Q:(2000000:Nat)<=sizeLine:=by decide
 let(c,j,a):=id k;let d:c.9=f.9:=by rw[a.9,xA]
 erw[Yy λa g=>?_];erw[aB rfl,λi a=>?_];let e:=ZC.new (o:=6 [.bl _x]) a;erw[8,l,c,7,1 (9 (e _ _ j)),i,287,Zi,665,λr b=>?_]
 .show 1 * _<=_;lia
 let m:=ZC.new (o:=6 (List.replicate (c.9:Int).toNat [V.bl _x]).flatten) b;let n:(upd (upd H i (6 [.bl _x])) r (6 (List.replicate (c.9:Int).toNat [V.bl _x]).flatten)) r=8 (6 ((List.replicate f.length _x).map V.bl)):=by
  rw[Zi,d,yJ,List.flatten_replicate_singleton,List.map_replicate]
 let a:=e.trans m;let p:H r=none:=e.free b;generalize (upd (upd H i (6 [.bl _x])) r (6 (List.replicate (c.9:Int).toNat [V.bl _x]).flatten))=m at n a |-;erw[Z4 (g _ _ ?_)];let N:∀{J:Hp},ZF r m J->ZC H J:=λ{J} E b o e=>E b o (Zl e p) (a _ _ e);erw[Yy λg a1=>?_];erw[8,l,c,7,1 (9 (a _ _ j)),f.9,by rw[d],65];refine Km f.length rfl (λi Y J=>∃(v2 v3 v4 v5 v6 v7 v8 o d:Option V)(u:List Bool),Y=[8 (3 l),8 (3 r),v2,v3,v4,v5,v6,v7,v8,o,d]/\J r=8 (6 (u.map V.bl))/\u.9=f.9/\(∀j,f.9 - i<=j->u[j]?=(Ye [] 0 f).1[j]?)/\ZF r m J)
  (_n,_n,_n,_n,_n,_n,_n,_n,_n,List.replicate f.length _x,7,n,wC,(λj hj=>by rw[wY (by rw[wC];lia),wY (by rw[Ei];lia)]),ZF.refl) ?_ ?_
 .rintro i Y J c a;erw[opq λc a3 _ _ _=>?_];let(v2,v3,v4,v5,v6,v7,v8,o,d,u,7,g,C,A,E):=a;obtain⟨c,a⟩:∃c,c=f.9 - 1 - i:=(_,rfl);let a:(f.9:Int) - 1 - (i:Nat)=((c:Nat):Int):=by lia
  rw[a];let a:c<f.9:=by lia
  obtain⟨t,v⟩:∃t,f[c]?=8 t:=(2,xB a);let(s,X,a):=Qg v;let p:=k.mono (N E);let(k,m,a):=id p;let n:k.9=f.9:=by rw[a.9,xA]
  let(x,B,H,u4,y,n,(U,w1,7,I,F),(W,w2,7,M,G),z):=ZT.get (l:=l) a v;erw[Yy λv a=>?_];erw[88,l,k,c,3 x,77,9 m,Yo y,x,8,ZO.of n,7282828287,a _ _ ?_];erw[Yy λa a2=>?_];erw[82878,l,k,7,1 (9 m),28,(6,666),5];erw[Fg (f.9 - (c+1)) () (λk B z=>ZC J z/\JL z u f c (c+1+k) B/\B.9<=k) (ZC.refl _,((λv a=>nomatch a),λn=>((λ⟨a,m,_⟩=>nomatch m),λ⟨j,t,x,y,_,_,_⟩=>by lia)),xD _) () (λk B z h=>h.2.2) ?_ ?_]
  .rintro k B z v ⟨y,L,yl⟩ H m;let(v,7):=Ga m;let m:((c:Int)+1+(k:Nat))=((c+1+k:Nat):Int):=by lia
   rw[m];obtain⟨m,H⟩:∃t,f[c+1+k]?=8 t:=(2,xB ());obtain⟨b,v⟩:∃b,u[c+1+k]?=8 b:=(2,xB ());let(a6,a0,m):=p.mono y;let(O,22,a5,a4,p,22,R):=ZT.get (l:=l) m H;erw[([_],77),5];erw[88,r,2,(c+1+k:Nat),.bl b,77,9 (y _ _ g),Yo (by rw[xG,v];rfl),b,75];cases b with
   | false=>rwa[Zz (y,L.skip v,6)]
   | true=>rwa[Z7 (88,l,a6,(c+1+k:Nat),3 O,77,9 a0,Yo a4,O,2,(3),a5,77,ZO.of p,7,y,L.add () H v R,by rw[xI];show _+1<=_;lia)]
  rintro B z ⟨y,L,yl⟩ lo k;erw[nw (o:=6 B) k λR m k3=>?_];let O:=L.mono m;rw[show c+1+(f.9 - (c+1))=f.9 by lia] at O;let k:=y.trans m;let H:∀{y:Hp}(S:ZC R y) (z:Bool) (n:Str),(z=_t↔∃a,V.ref a∈B/\y a=8 (7 [4 c,5 n]))->z=s c n:=λ{y} S z n h=>by
   let e:z=_t↔s c n=true:=by
    rw[h,(O.mono S).2 n,X];unfold LC;constructor
    .rintro⟨j,t,h,p,a,m,n⟩;rwa[j,t,h,a,by rw[<- A j ()];rwa[m],n]
    .rintro⟨j,t,h,a,m,n⟩;rwa[j,t,h,(xF.mp a).1,a,by rw[A j ()];rwa[m],n]
   rwa[zI.mpr e]
  erw[Z4 (a2 _ _ ?_)];erw[Yy λh a=>?_];erw[8287,a _ _ ?_];erw[Yy λa L=>?_];erw[8,U,7,(2,9 (k _ _ I)),5];erw[Vo w1 (λi Y J=>∃o d,Y=[8 (3 l),8 (3 r),8 (4 c),8 (3 U),8 (3 W),8 (4 t.need),8 u4,8 (3 lo),8 (4 (0 - t.need+Ur s c (t.ones.take i))),o,d]/\ZC R J) (o,d,by unfold Ur wts keep;rw[List.take_zero,List.filter_nil,wK,List.sum_nil,Int.add_zero];rfl,ZC.refl _) (λi Y J _ ⟨_,_,_,e⟩=>9 (e _ _ (k _ _ I))) ?_ ?_]
  .rintro i x Y y hx ⟨o,d,rfl,h⟩;let(p,b,I,7,v):=F.get hx;erw[b,8,ZO.of (h _ _ (k _ _ v)),7282875];erw[88,aB rfl,λq X=>?_];erw[nw (o:=7 [4 c,5 p.1]) X λH5 n k5=>?_];let a:=h.trans n;erw[8,q,lo,c,p.1,B,7,k5,7,9 (a _ _ k3),(O.mono a).1,λz Q=>?_];let e:=H a z p.1 Q;let m:=ID (br:=s) (c:=c) I;rw[<- e] at m;erw[85];cases z with
   | true=>rwa[Zz (22,by rw[m,_j rfl,Int.add_zero];rfl,a)]
   | false=>rwa[Z7 (8828722,by rw[m,_i xK,<- Int.add_assoc];rfl,a)]
  rintro Y y ⟨o,d,rfl,h⟩;rw[F.len,xZ];erw[L _ _ ?_];erw[Yy λL F=>?_];erw[8,W,7,(2,9 (h _ _ (k _ _ M))),5];erw[Vo w2 (λi Y J=>∃o d,Y=[8 (3 l),8 (3 r),8 (4 c),8 (3 U),8 (3 W),8 (4 t.need),8 u4,8 (3 lo),8 (4 (0 - t.need+Ur s c t.ones - Ur s c (t.others.take i))),o,d]/\ZC R J) (o,d,by unfold Ur wts keep;rw[List.take_zero,List.filter_nil,wK,List.sum_nil,Int.sub_zero],h) (λi Y J _ ⟨_,_,_,e⟩=>9 (e _ _ (k _ _ M))) ?_ ?_]
  .rintro i x Y y hx ⟨o,d,rfl,h⟩;let(p,b,I,7,v):=G.get hx;erw[b,8,ZO.of (h _ _ (k _ _ v)),7282875];erw[88,aB rfl,λq X=>?_];erw[nw (o:=7 [4 c,5 p.1]) X λH5 n k5=>?_];let a:=h.trans n;erw[8,q,lo,c,p.1,B,7,k5,7,9 (a _ _ k3),(O.mono a).1,λz Q=>?_];let e:=H a z p.1 Q;let m:=ID (br:=s) (c:=c) I;rw[<- e] at m;erw[85];cases z with
   | true=>rwa[Zz (22,by rw[m,_j rfl,Int.add_zero];rfl,a)]
   | false=>rwa[Z7 (8828722,by rw[m,_i xK,<- Int.sub_sub];rfl,a)]
  rintro Y H5 ⟨o,d,rfl,n⟩;rw[G.len,xZ,show 0 - t.need+Ur s c t.ones - Ur s c t.others=TM s c t by unfold TM;lia];erw[F _ _ ?_];let a:=k.trans n;erw[828788,r,22,c,77,a _ _ g,55]
  .unfold ixN;rw[xA,C,_j (),_j (),yJ]
  .erw[a3 _ _ (222222222,u.set c (decide (0<=TM s c t)),75,by rw[wS];rwa[C],λj hj=>?_,(E.trans a.x).trans ZF.upd)]
   .rw[Zi,List.map_set]
   .grind
 .rintro Y J ⟨v2,v3,v4,v5,v6,v7,v8,o,d,u,rfl,g,C,A,E⟩;let a:u=(Ye [] 0 f).1:=List.ext_getElem? λj=>A j ();rw[a] at g;rwa[a1 _ _ (8,q r J g (N E))]
section
variable{C:jY}
def TR(H:Hp):List (List V)->List V->Prop
 | [],c=>c=[]
 | x::r,c=>∃a b,c=3 a::b/\H a=8 (7 x)/\TR H r b
theorem TR.mono(k:Ue H J):∀{L:List (List V)}{vs:aG},TR H L vs->TR J L vs
 | [],_,h=>h
 | _::_,_,⟨a,vs',e,h1,h2⟩=>(a,vs',e,k _ _ h1,TR.mono k h2)
theorem TR.length:∀{L:List (List V)}{vs:aG},TR H L vs->vs.9=L.9
 | [],_,h=>by ext h;rfl
 | _::_,_,⟨a,vs',e,h1,h2⟩=>by rw[e,yN,yN,TR.length h2]
theorem TR.app:∀{L ys:List (List V)}{vs us:aG},TR H L vs->TR H ys us->TR H (L++ys) (vs++us)
 | [],_,_,_,h,g=>by ext h;rwa[g]
 | _::_,_,_,_,⟨a,vs',e,h1,h2⟩,g=>by subst e;rwa[a,1,h1,TR.app h2 g]
def TR.snoc(b:H a=8 (7 x))(h:TR H L vs):TR H (L ++ [x]) (vs ++ [3 a]):=(h.app (a,[],3,b,3))
theorem TR.get:∀{L:List (List V)}{vs:aG}{i:Nat}{v:V},TR H L vs->vs[i]?=8 v->∃x a,L[i]?=8 x/\v=3 a/\H a=8 (7 x)
 | [],vs,i,v,h,e=>by ext h;simp at e
 | x::L,vs,i,v,⟨a,vs',e1,h1,h2⟩,e=>by
  subst e1;cases i with
  | zero=>simp at e;subst e;rwa[x,a,33,h1]
  | succ i=>simp at e;rwa[TR.get (i:=i) h2 e]
theorem TR.split:∀{L ys:List (List V)}{vs:aG},TR H (L++ys) vs->∃us b,vs=us++b/\TR H L us/\TR H ys b
 | [],_,vs,h=>([],vs,33,h)
 | x::L,ys,vs,⟨a,vs',e,h1,h2⟩=>by
  let(us,b,c,d,f):=TR.split h2;rwa[3 a::us,b,by rw[e,c];rfl,(a,us,3,h1,d),f]
def TR.last(h:TR H (L ++ [x]) vs):∃us a,vs=us ++ [3 a]/\TR H L us/\H a=8 (7 x):=by
 let(us,i,e,c,a,g,b,d,f):=h.split;ext f;subst b;rwa[us,a,e,c,d]
theorem TR.pick(h:TR H L vs):∀p:List Nat,(∀i∈p,i<L.9)->TR H (p.map λi=>L.getD i []) (p.map λi=>vs.getD i .non)
 | [],_=>rfl
 | i::p,hp=>by
  let a:=hp i yC;let a:=h.9;let(x,a,c,b,d):=h.get (xB (show i<vs.9 by lia));erw[a,255,TR.pick h p λj a=>hp j (xP _ a)]
  .show vs.getD i .non::_=_;rw[xR,xB (show i<vs.9 by lia),b];rfl
  .grind
def BP{us:aG}{v:V}:atI (us ++ [v]) (-1)=8 v:=by
 unfold atI ixN;let a:(us ++ [v]).9=us.9+1:=by rw[xI];rfl
 rw[a,_i (),_j ()];show (us ++ [v])[((-1:Int)+((us.9+1:Nat):Int)).toNat]?=8 v;rw[show ((-1:Int)+((us.9+1:Nat):Int)).toNat=us.9 by lia,wG (xD _)];simp
structure Ev where
 at_:Int
 g:Option Str
 t:Str
structure YJ where
 at_:Int
 wd:Str
 g:Option Str
 t:Str
def oV:Option Str->V
 | none=>.non
 | some x=>5 x
def oD:Option Str->D
 | none=>.non
 | some x=>5 x
def Ev.wd(e:Ev):Str:=match e.g with
 | none => "won"
 | some _ => "given"
def evV(e:Ev):List V:=[4 e.at_,5 e.wd,oV e.g,5 e.t]
def stV(s:YJ):List V:=[4 s.at_,5 s.wd,oV s.g,5 s.t]
def evD(e:Ev):D:=7 [4 e.at_,5 e.wd,oD e.g,5 e.t]
def stD(s:YJ):D:=7 [4 s.at_,5 s.wd,oD s.g,5 s.t]
def Fy(o:Option Str):YC H (oD o) (oV o):=by ext o<;>rfl
def Ov(h:H a=8 (7 (stV s))):YC H (stD s) (3 a):=((a,1,h,(4,(4,(21,Fy _,(4,3))))))
theorem TR.sts:∀{b:List YJ}{vs:aG},TR H (b.map stV) vs->ZN H (b.map stD) vs
 | [],_,h=>h
 | _::_,_,⟨a,vs',e,h1,h2⟩=>(3 a,vs',e,Ov h1,TR.sts h2)
def TR.ir{H:Hp}{es:List Ev}{vs:aG}{i:Nat}{v:V}(h:TR H (es.map evV) vs)(f:vs[i]?=8 v):∃e a,es[i]?=8 e/\v=3 a/\H a=8 (7 (evV e)):=by
 let(x,a,b,c,d):=h.get f;rw[xG] at b;let(e,f,g):=xS.mp b;subst g;rwa[e,a,f,c,d]
def Bv(s:YJ)(x:Int×Str):YJ:=(if s.at_ > x.1 then s.at_ else x.1, "left", 8 s.t,x.2)
def lvF(F:List ZI)(day:Int):Nat->YJ->List YJ
 | 0,_=>[]
 | n+1,s=>match Zy F s.t with
  | some x=>if x.1<=day then Bv s x::lvF F day n (Bv s x) else []
  | none=>[]
inductive Lv (F:List ZI) (day:Int):Nat->YJ->List YJ->Prop where
 | here {s:YJ}:Vp F s.t day=_x->Lv F day 0 s []
 | step {s:YJ}{x:Int×Str}{k:Nat}{l:List YJ}:Zy F s.t=8 x->Vp F s.t day=_t->Lv F day k (Bv s x) l->Lv F day (k+1) s (Bv s x::l)
def Lv.len(h:Lv F day k s l):l.9=k:=by
 induction h with
 | here _=>rfl
 | step _ _ _ a=>rw[yN,a]
def Lv.fn(h:Lv F day k s l):∀n,k<=n->lvF F day n s=l:=by
 induction h with
 | @here s e =>
  intro n _;cases n with
  | zero=>rfl
  | succ n =>
   rw[lvF];unfold Vp at e;cases a:Zy F s.t with
   | none=>rfl
   | some x=>rw[a] at e;dsimp only at e |-;rw[_i (of_decide_eq_false e)]
 | @step s x k l b a _ c =>
  intro n d;cases n with
  | zero=>lia
  | succ n =>
   rw[lvF,b];unfold Vp at a;rw[b] at a;dsimp only at a |-;rw[_j (yX a),c n ()]
def XX(h:WC F day k n m):∀s:YJ,s.t=n->∃l,Lv F day k s l:=by
 induction h with
 | here e=>intro s a;subst a;rwa[[],.here e]
 | step b c _ d=>intro s a;subst a;let(l,a):=d (Bv s _) S;rwa[2,.step b c a]
def YM(F:List ZI):Prop:=∀n a,∃k m,WC F a k n m/\k<=40
def lv(F:List ZI)(day:Int)(s:YJ):List YJ:=lvF F day 40 s
def YM.lv(h:YM F)(day:Int)(s:YJ):∃k,Lv F day k s (lv F day s)/\k<=40:=by
 let(k,m,a,b):=h s.t day;let(l,c):=XX a s S;rwa[k,by unfold Law.lv;rw[c.fn 40 b];rwa[c],b]
def fI(h:∀n x,Zy F n=8 x->(x.1<=d1↔x.1<=d2))(s:YJ):lv F d1 s=lv F d2 s:=by
 let a:∀(n:Nat)(s:YJ),lvF F d1 n s=lvF F d2 n s:=by
  intro n
  induction n with
  | zero=>intro s;rfl
  | succ n b =>
   intro s;rw[lvF,lvF];cases e:Zy F s.t with
   | none=>rfl
   | some x =>
    dsimp only
    by_cases c:x.1<=d1
    .rw[_j c,_j ((h _ _ e).mp c),b]
    .grind
 rwa[a 40 s]
def s00:YJ:=((0),⟨#[]⟩,_n,⟨#[]⟩)
def Ws(st:List YJ):YJ:=st.getLastD s00
def BI(h:st ≠ []):∃a,st=a ++ [Ws st]:=((st.dropLast,by
 unfold Ws;rw[List.getLastD_eq_getLast?,List.getLast?_eq_some_getLast h]
 rwa[(List.dropLast_concat_getLast h).6]))
def Ut(st:List YJ)(e:Ev):List YJ:=if e.g=_n\/e.g=8 (Ws st).t then st ++ [(e.at_,e.wd,8 (Ws st).t,e.t)] else st
def Vk(F:List ZI)(day:Int)(st:List YJ):List YJ:=st++lv F day (Ws st)
def Wt(F:List ZI)(st:List YJ)(e:Ev):List YJ:=Ut (Vk F e.at_ st) e
def Fd(h:st ≠ []):Vk F day st ≠ []:=by unfold Vk;simp[h]
def SJ(h:st ≠ []):Ut st e ≠ []:=by unfold Ut;split<;>simp[h]
def Rh(h:st ≠ []):Wt F st e ≠ []:=(SJ (Fd h))
theorem CK:∀{es:List Ev}{st:List YJ},st ≠ []->es.foldl (Wt F) st ≠ []
 | [],_,h=>h
 | _::r,_,h=>CK (es:=r) (Rh h)
def hG(E:YM F)(day:Int)(s:YJ):(lv F day s).9<=40:=by
 let(k,h,a):=E.lv day s;rw[h.len];rwa[a]
def Du(E:YM F)(day:Int)(st:List YJ):(Vk F day st).9<=st.9+40:=by
 unfold Vk;rw[xI];have:=hG E day (Ws st);lia
def Qe(st:List YJ)(e:Ev):(Ut st e).9<=st.9+1:=by
 unfold Ut;split
 .grind
 .lia
def Pw(E:YM F)(st:List YJ)(e:Ev):(Wt F st e).9<=st.9+41:=by
 have:=Du E e.at_ st;have:=Qe (Vk F e.at_ st) e;unfold Wt;lia
theorem BR{F:List ZI}(E:YM F):∀(es:List Ev)(st:List YJ),(es.foldl (Wt F) st).9<=st.9+41 * es.9
 | [],st=>by simp
 | e::r,st=>by
  let a:=BR E r (Wt F st e);let a:=Pw E st e;rw[zL,yN];lia
def byD(lo:Int)(n:Nat)(es:List Ev):List Ev:=(List.range n).flatMap λ(i:Nat)=>es.filter λe=>decide (e.at_=lo+i)
def E1:byD lo (n+1) es=byD lo n es++es.filter λe=>decide (e.at_=lo+n):=by
 unfold byD;rw[wB,wO];simp
def We(n:Str)(d0:Int):YJ:=(d0, "brought", _n,n)
def Vf(F:List ZI)(n:Str)(d0:Int)(es:List Ev)(day:Int):List YJ :=
 if day<d0 then [] else Vk F day ((byD d0 (day+1 - d0).toNat es).foldl (Wt F) [We n d0])
def cV{a:Type}(l:List a)(d:a):(List.range l.9).map (λi=>l.getD i d)=l:=by
 apply List.ext_getElem
 .simp
 .intro i b a;simp[a]
def gY{a:Type}(l:List a)(d:a)(f:a->Bool):((List.range l.9).filter λi=>f (l.getD i d)).map (λi=>l.getD i d)=l.filter f:=by
 let e:l.filter f=((List.range l.9).map λi=>l.getD i d).filter f:=by rw[cV]
 rw[e,List.filter_map];rfl
def XI{es:List Ev}{c:Ev}{lo:Int}{n:Nat}{p:List Nat}(v:p.Perm (List.range es.9))(hs:p.Pairwise (Jc _x (es.map (·.at_))))(f:∀e∈es,lo<=e.at_/\e.at_<lo+n):(p.map λi=>es.getD i c)=byD lo n es:=by
 let d:∀i,i<es.9->kI (es.map (·.at_)) i=(es.getD i c).at_:=λi a=>by
  unfold kI;rw[xR,xR,xG,xB a];rfl
 let q:p=(List.range n).flatMap λ(i:Nat)=>(List.range es.9).filter λj=>decide ((es.getD j c).at_=lo+i):=by
  let k:∀j,j∈((List.range n).flatMap λ(i:Nat)=>(List.range es.9).filter λj=>decide ((es.getD j c).at_=lo+i))↔j<es.9:=λj=>by
   rw[List.mem_flatMap];constructor
   .grind
   .intro h;let g:es.getD j c∈es:=by rw[xR,xB h];rwa[yY h]
    let(a,b):=f _ g;erw[((es.getD j c).at_ - lo).toNat,yU.mpr (),zN.mpr (yU.mpr h,yD ())]
  let l:((List.range n).flatMap λ(i:Nat)=>(List.range es.9).filter λj=>decide ((es.getD j c).at_=lo+i)).Pairwise (Jc _x (es.map (·.at_))):=by
   let f:∀{i j:Nat},j∈((List.range es.9).filter λj=>decide ((es.getD j c).at_=lo+i))->j<es.9/\(es.getD j c).at_=lo+i:=λ{i j} h =>
    (yU.mp (zN.mp h).1,yX (zN.mp h).2)
   rw[List.pairwise_flatMap];erw[λi _=>?_,5]
   .erw[List.Pairwise.imp_of_mem ?_ (List.Pairwise.filter _ List.pairwise_lt_range)];intro a b s u t;let(g,m):=f s;let(o,r):=f u;rwa[2 (by rw[d a g,d b o,m,r],t)]
   .erw[List.Pairwise.imp ?_ List.pairwise_lt_range];intro w x t a s b u;let(g,m):=f s;let(o,r):=f u;erw[.inl ?_];rw[_i xK,d a g,d b o,m,r];lia
  let d:∀a b,Jc _x (es.map (·.at_)) a b->Jc _x (es.map (·.at_)) b a->a=b:=λa b h g=>by
   unfold Jc at h g;rw[_i xK] at h g;lia
  let g:((List.range n).flatMap λ(i:Nat)=>(List.range es.9).filter λj=>decide ((es.getD j c).at_=lo+i)).Nodup:=l.imp λ{a b} h z=>by
   subst z;unfold Jc at h;rw[_i xK] at h;lia
  let f:p.Nodup:=v.symm.nodup List.nodup_range;erw[List.Perm.eq_of_pairwise (λa b _ _=>d a b) hs l ((List.perm_ext_iff_of_nodup f g).mpr λj=>?_)];rw[k,v.mem_iff,yU]
 rw[q,List.map_flatMap];unfold byD;congr 1;funext i;rwa[gY es c λe=>decide (e.at_=lo+i)]
def Xc{lo a:Int}{n:Nat}{es:List Ev}(h:lo+n<=a+1):byD lo n (es.filter λe=>decide (e.at_<=a))=byD lo n es:=by
 unfold byD;have:∀i∈List.range n,(es.filter λe=>decide (e.at_<=a)).filter (λe=>decide (e.at_=lo+i))=es.filter λe=>decide (e.at_=lo+i):=λi a=>by
  rw[List.filter_filter];erw[List.filter_congr λe _=>?_];have:=yU.mp a
  by_cases c:e.at_=lo+i
  .grind
  .rw[yP c];rfl
 rw[List.flatMap_def,List.flatMap_def,wN this]
def bK(a:d0<=d1)(a:d1<=d2)(d:∀e∈es,e.at_<=d1)(c:∀n x,Zy F n=8 x->x.1<=d1):Vf F n d0 es d2=Vf F n d0 es d1:=by
 unfold Vf;rw[_i (),_i ()];let a:byD d0 (d2+1 - d0).toNat es=byD d0 (d1+1 - d0).toNat es:=by
  let b:∀m:Nat,byD d0 ((d1+1 - d0).toNat+m) es=byD d0 (d1+1 - d0).toNat es:=by
   intro m
   induction m with
   | zero=>rfl
   | succ m f =>
    rw[<- Nat.add_assoc,E1,f];have:(es.filter λe=>decide (e.at_=d0+(((d1+1 - d0).toNat+m:Nat):Int)))= []:=by
     rw[List.filter_eq_nil_iff];intro e f z;have:=d e f;have:=yX z;lia
    rw[this,xT]
  have:=b ((d2+1 - d0).toNat - (d1+1 - d0).toNat);rw[show (d1+1 - d0).toNat+((d2+1 - d0).toNat - (d1+1 - d0).toNat)=(d2+1 - d0).toNat by lia] at this;rwa[this]
 rw[a];unfold Vk;rw[fI (d1:=d2) (d2:=d1) λn x e=>by have:=c n x e;constructor<;>intro<;>lia]
abbrev TK:Str:="by_day" ++ ".<locals>." ++ "<lambda>"
inductive UT(T:jY):Sp
 |mk(q:jY) (b:aG) (a:List Ev)(_:vs=[3 q]/\H q=8 (6 b)/\TR H (a.map evV) b/\a.9<64/\ZS H T TK/\∀(l:jY)(b:aG)(p:List Nat)(J:Hp),H l=_n->J l=8 (6 b)->TR J ((p.map λi=>a.getD i ((0),_n,⟨#[]⟩)).map evV) b->p.Perm (List.range a.9)->p.Pairwise (Jc _x (a.map (·.at_)))->ZC H J->Q (3 l) J)
abbrev Ez:Stmt:=top 46
def eI:ZK ["events"] ["events"] (Zj Ez):=(fsc)
def XT:Nm (Zj Ez) "sorted" .globalImplicit:=(aA)
def Sv(d:Jv K mg "by_day" Ez c)(a:AX K mg c T)(g:K.In Z)(T0:Txt mg)(e:∃t,mg "DAY"=8 (4 0 t)):10 Fn "by_day" ["events"] 4 (UT T):=by
 let(f,b):=e;let e:ZH (4 0) (4 0 f):=(f,3);erw[d.fnQ a g eI (λ_ _ _ _ _ _=>al1 λ_=>rfl) (λd H Q E h=>?_) (λf A a s H d Q E m g h=>?_)]
 .let(q,j,f,32):=h;rfl
 .let(q,j,f,3,l,d,a,i,k):=h;let T:=T0;erw[2,(Zf (Zr (dO (x:="event") g i m () XT T.sorted (0 Q0) (gM aA,3,(333,aA,3,aA,aA),λ_ _ _ _=>rfl,λ_ _ _ _ _=>(Zh PQ (Oi) (fX b e)))))),5];let n:=d.9;rw[xA] at n;erw[1,q,j,f.map (·.at_),3,9 l,6,by rw[xA];lia,λi x b u m a v=>?_,λl p J r b g h=>?_]
  .let(e,a,t,3,s):=d.ir u;rw[xG,t] at m;ext m;rwa[1,a,2,(0),4 e.at_,33,ZO.of (v _ _ s),337]
  .let a:=r.trans (ZC.new (o:=6 (p.map λi=>j.getD i .non)) b);rw[n] at g;erw[k l _ p _ (r.free b) Zi ?_ g h a];let j:∀i∈p,i<(f.map evV).9:=λi h=>by rw[xA];rwa[yU.mp (g.mem_iff.mp h)]
   have:=(d.mono (λb L e=>a _ _ e)).pick p j;rw[mK];let a:(p.map λi=>(f.map evV).getD i [])=p.map (evV∘λi=>f.getD i ((0),_n,⟨#[]⟩)):=wN λi h=>by grind
   rw[a] at this;rwa[this]
inductive UY(C:jY):Sp
 |mk(L) (F) (q) (us) (st) (day)(_:vs=[3 q,3 L.p,4 day]/\ZX C H L F/\H q=8 (6 us)/\TR H (st.map stV) us/\st ≠ []/\YM F/\st.9<=4000/\∀a J,J q=8 (6 a)->TR J ((Vk F day st).map stV) a->ZF q H J->Q .non J)
abbrev Kx:Stmt:=top 47
def Qu(a0:YB K mg "leave_on" Kx)(T:Txt mg)(Tc:VA K C)(C0:∃t,mg "DAY"=8 (4 0 t))(C1:∃t,mg "TAKER"=8 (4 3 t))(n:10 Mt C "died_by" lu 1 (VF C))(c:10 Mt C "death_day" lH 1 (Js C))(r:10 Mt C "heir_of" lH 1 (UC C)) :
  Fn P w K mg Z "leave_on" ["steps","folk","day"] 2 (UY C):=by
 let(t0,G):=C0;let M:ZH (4 0) (4 0 t0):=(t0,3);let(t1,i):=C1;let m:ZH (4 3) (4 3 t1):=(t1,3);erw[a0.fq ["steps","folk","day","dead_one","left_day"] λH vs Q E hr h=>?_];let(g,F,q,f,st,d,3,F0,hq,O,a3,hE,a5,k):=h
 refine(32,(Zf (XY mL (Wz (Ve Q1 Tc.cl n (0 (Zh Zn (Zh Z6 Q0 (Vj Vl Zd)) (Yv i m)) Q2))) (11 (Zv 3 (Zh Zn (Zh Z6 Q0 (Vj Vl Zd)) (Yv i m))) (Zv 4 (Z1 (CS (by rfl)) T.max BY (0 (Ve Q1 Tc.cl c (0 Q3)) (Zh Zn (Zh Z6 Q0 (Vj Vl Zd)) (Yv G M))))) (Zk (Ys aD aE aF Yz Q0 (0 (Yb (0 Q4 Z5 Q3 (Ve Q1 Tc.cl r (0 Q3)))))))))),5)
 let hz:=aC
 let(y,N):=BI a3;let(k0,a2,a7):=hE.lv d (Ws st);erw[λj Y J=>∃(U W:Option V)(y:List YJ)(s:YJ)(l:List YJ)(f:aG),Y=[8 (3 q),8 (3 g.p),8 (4 d),U,W]/\ZF q H J/\J q=8 (6 f)/\TR J ((y ++ [s]).map stV) f/\Lv F d j s l/\y ++ [s]++l=Vk F d st/\f.9+j<=4040, (k0,_n,_n,y,Ws st,lv F d (Ws st),f,3,ZF.refl,hq,by rw[<- N];rwa[O],a2,by unfold Vk;rw[<- N],by have:=O.9;rw[xA] at this;lia),5];rintro j Y J ⟨U,W,y,s,l,f,rfl,sx,v,u,hl,z,a8⟩;let R:=F0.keep (ZF.n sx hq);let(dx,ob):=R.ob;rw[xH] at u;let(a9,a,a1,a6,ha):=TR.last u;let B:atI f (-1)=8 (3 a):=by rw[a1];rwa[BP]
 erw[1,g.p,dx,1,ob,Wc _ _ _ _ aA,11,q,f,-1,3 a,33,9 v,B,a,2,(3),5 s.t,33,ZO.of ha,31,g,F,s.t,d,3,R,5];erw[15];cases hl with
 | here e =>
  rw[e];erw[Zz (k f J v ?_ sx)];rw[<- z,xT,xH];rwa[u]
 | step e1 e2 e3 =>
  rename_i x j' l';rw[e2];erw[Z7 (λa4 A=>∃m',m'<j'+1/\∃(U W:Option V)(y:List YJ)(s:YJ)(l:List YJ)(f:aG),a4=[8 (3 q),8 (3 g.p),8 (4 d),U,W]/\ZF q H A/\A q=8 (6 f)/\TR A ((y ++ [s]).map stV) f/\Lv F d m' s l/\y ++ [s]++l=Vk F d st/\f.9+m'<=4040,λ_ _ h=>h,?_)];erw[11,q,f,-1,3 a,33,9 v,B,a,2,(3),5 s.t,33,ZO.of ha,35];erw[Z4 ?_];dsimp only;erw[1,g.p,dx,1,ob,Wc _ _ _ _ aA,1,g,F,s.t,x,3,R,e1,5];erw[11,q,f,-1,3 a,33,9 v,B,a,2,(0),4 s.at_,33,ZO.of ha,3215];erw[Z4 ?_];dsimp only;erw[1,1 (32,9 v),111,g.p,dx,1,ob,Wc _ _ _ _ aA,1,g,F,s.t,x,3,R,e1,aB S,λp hp=>?_];erw[nw (o:=(7 [4 (if s.at_ > x.1 then s.at_ else x.1),5 "left", 5 s.t,5 x.2])) hp λH1 X k1=>?_];let I:=X _ _ v;erw[q,f,3 p,33,I,6,j',622,y ++ [s],Bv s x,l',f ++ [3 p],3,(sx.trans X.x).trans ZF.upd,Zi,5,e3,5,by rw[xI];show f.9+1+j'<=4040;lia]
  .rw[xH];erw[TR.snoc (Uq I _ _ k1) ?_];rw[xH];rwa[u.mono λb L e=>Uq I _ _ (X _ _ e)]
  .rw[<- z];simp
inductive JE:Sp
 |mk(q a) (us) (st) (e)(_:vs=[3 q,3 a]/\H q=8 (6 us)/\TR H (st.map stV) us/\st ≠ []/\H a=8 (7 (evV e))/\st.9<=4900/\∀b J,J q=8 (6 b)->TR J ((Ut st e).map stV) b->ZF q H J->Q .non J)
abbrev HX:Stmt:=top 48
def NL(a:YB K mg "pass_on" HX)(T:Txt mg)(c:∃t,mg "DAY"=8 (4 0 t))(e:∃t,mg "WORD"=8 (4 1 t))(h:∃t,mg "GIVER"=8 (4 2 t))(j:∃t,mg "TAKER"=8 (4 3 t)):10 Fn "pass_on" ["steps","event"] 1 JE:=by
 let(b,m):=c;let p:ZH (4 0) (4 0 b):=(b,3);let(b,d):=e;let f:ZH (4 1) (4 1 b):=(b,3);let(b,g):=h;let i:ZH (4 2) (4 2 b):=(b,3);let(e,b):=j;let c:ZH (4 3) (4 3 e):=(e,3);erw[a.fq ["steps","event","keeper"] λH e Q E a h=>?_];let(q,a,r,st,e,3,n,l,s,j,t,k):=h;erw[72,(11 (Zv 2 (Zh Zn (Zh Z6 Q0 (Vj Vl Zd)) (Yv b c))) (Zt (QW.pt (CZ (Zo Yh (Zh Zn Q1 (Yv d f)) Z5 (Zq _)) (Cr (Zo Yh (Zh Zn Q1 (Yv g i)) Q2 (Zq _))))) (Zf (Zk (Ys aD aE aF Yz Q0 (0 (Yb (0 (Zh Zn Q1 (Yv m p)) (Zh Zn Q1 (Yv d f)) Q2 (Zh Zn Q1 (Yv b c)))))))) Zs)),5];let b:=aC
 let(c,b):=BI s;let c:=l;rw[b,xH] at c;let(h,b,d,f,g):=TR.last c;let c:atI r (-1)=8 (3 b):=by rw[d];rwa[BP]
 let d:r.9=st.9:=by have:=l.9;rw[xA] at this;rwa[this]
 erw[11,q,r,-1,3 b,33,9 n,c,b,2,(3),5 (Ws st).t,33,ZO.of g,35];erw[Z4 ?_];dsimp only;let f:(e.g=_n\/e.g=8 (Ws st).t)->∀(p:jY),H p=_n->∀c J,J q=8 (6 c)->c=r ++ [3 p]->J=upd (upd H p (7 (stV (e.at_,e.wd,8 (Ws st).t,e.t)))) q (6 c)->Q .non J:=λs p d c J h i m=>by
  let g:=ZC.new (o:=7 (stV (e.at_,e.wd,8 (Ws st).t,e.t))) d;let c:=g _ _ n;subst i m;erw[k _ _ h ?_ (g.x.trans ZF.upd)];unfold Ut;rw[_j s,xH];rwa[TR.snoc (Uq c _ _ Zi) (l.mono λb L e=>Uq c _ _ (g _ _ e))]
 cases b:e.g with
 | none =>
  let c:e.wd="won" := by unfold Ev.wd;rw[b]
  erw[1,a,2,(1),5 e.wd,33,ZO.of j,3315];rw[c];erw[Zx (λ_=>Z7 ?_) (λz=>_a S z)];erw[1,1 (32,9 n),1,a,2,(0),4 e.at_,33,ZO.of j,31,a,2,(1),5 e.wd,33,ZO.of j,311,a,2,(3),5 e.t,33,ZO.of j,3,aB S,λp d=>?_];rwa[q,r,3 p,33,ZC.new d _ _ n,6,f (1 b) p d _ _ Zi S S]
 | some g =>
  let c:e.wd="given" := by unfold Ev.wd;rw[b]
  erw[1,a,2,(1),5 e.wd,33,ZO.of j,3315];rw[c];erw[Zx (λz=>_a z (E7 aA)) (λ_=>?_)];let c:(evV e)[2]?=8 (V.str g):=by unfold evV;rw[b];rfl
  erw[1,a,2,(2),5 g,33,ZO.of j,c,131,Zx (λz=>?_) (λz=>?_)]
  .let c:g=(Ws st).t:=by injection z
   erw[1,1 (32,9 n),1,a,2,(0),4 e.at_,33,ZO.of j,31,a,2,(1),5 e.wd,33,ZO.of j,311,a,2,(3),5 e.t,33,ZO.of j,3,aB S,λp d=>?_];rwa[q,r,3 p,33,ZC.new d _ _ n,6,f (2 (by rw[b,c])) p d _ _ Zi S S]
  .erw[k r H n ?_ ZF.refl];unfold Ut;rw[_i (λy=>by rcases y with y | y<;>rw[b] at y<;>ext y;rwa[z S])];rwa[l]
inductive UR(C T:jY):Sp
 |mk(L) (F) (b le) (us) (es) (n) (d0 day)(_:vs=[3 b,3 le,3 L.p,4 day]/\ZX C H L F/\H b=8 (7 [5 n,4 d0])/\H le=8 (6 us)/\TR H (es.map evV) us/\es.9<=60/\YM F/\(∀e∈es,d0<=e.at_)/\ZS H T TK/\∀l a J,H l=_n->J l=8 (6 a)->TR J ((Vf F n d0 es day).map stV) a->ZC H J->Q (3 l) J)
abbrev FM:Stmt:=top 42
def FK:Nm (Zj FM) "day" .cell:=(aA)
def iO(b:YB K mg "road" FM)(T0:Txt mg)(c:∃t,mg "DAY"=8 (4 0 t))(i:10 Fn "by_day" ["events"] 4 (UT T))(e:10 Fn "leave_on" ["steps","folk","day"] 2 (UY C))(l:10 Fn "pass_on" ["steps","event"] 1 JE) :
  Fn P w K mg Z "road" lI 5 (UR C T):=by
 let(d,a):=c;let c:ZH (4 0) (4 0 d):=(d,3);erw[b.fq ["brought","events","folk","day","first_day","steps","event"] λH d Q E b h=>?_];let(r,F,b,R,s,m,n,f,d,3,O,o,j,g,E,v,B,W,k):=h;let h:=T0
 refine(32,(11 (Zv 4 (Zh Zn Q0 Zd)) (Zt (Zo TU (qvC 3 FK) Q4 (Zq _)) (Zf (Zr (Yl Zb))) Zs) (Zv 5 (Yl (0 (Yb (0 Q4 Z5 Y3 (Zh Zn Q0 Zd)))))) (Wd mL S (Y2 (Zm i (0 (Vg (locs:=["event"]) (fr:=[("day",(3))]) (3,aA,aA,aA,aA,aA) (.ig FK .nil) S (Y2 Q1) ⟨λ_ _ _ _ _ _=>by
  let h:(inN ["event"] [("day",(3))]).Nodup:=aA
  rwa[(Y9 0 h),(Um (Zo Vm (Zh AK (Yj 0) (Yv a c (n:=nmC))) (Wp 1) (Zq _))),(Yj 0)]⟩)))) (Yc 6)
 (11 (Zk (Zm e (0 Q5 Q2 (Zh Zn Q6 (Yv a c))))) (Zk (Zm l (0 Q5 Q6))))) (Zk (Zm e (0 Q5 Q2 (qvC 3 FK)))) (Zr Q5)),5)
 let a:=aC
 let G:s.9=m.9:=by have:=g.9;rw[xA] at this;rwa[this]
 erw[1,b,2,(1),4 f,33,ZO.of o,35];erw[Z4 ?_];dsimp only;erw[1141,Zx (λc=>?_) (λc=>?_)]
 .erw[aB S,λl y=>?_];erw[k l [] _ y Zi ?_ (ZC.new y)];unfold Vf;rw[_j c];rfl
 .erw[11,b,2,(0),5 n,33,ZO.of o,3,aB S,λp a=>?_];erw[nw (o:=7 [4 f,5 "brought", .non,5 n]) a λe h i=>?_];erw[aB S,λq a=>?_];let A:=h.free a;let o:=h.trans (ZC.new (o:=6 [3 p]) a);let H:(upd e q (6 [3 p])) q=8 (6 [3 p]):=Zi;let Q:=ZC.new (o:=6 [3 p]) a _ _ i;generalize (upd e q (6 [3 p]))=a at o H Q |-;erw[Z4 ?_];dsimp only;let u:=g.mono λb L e=>o _ _ e;erw[1,R,3,(2,9 (o _ _ j)),5];refine Uw (L:=s) (λi g J=>J=a/\TR a (((m.take i).filter λe=>decide (e.at_<=d)).map evV) g) (3,3) () (λi g J _ ⟨e,_⟩=>by rw[e];rwa[9 (o _ _ j)])
   (λi g J ⟨_,e⟩=>by have:=e.9;rw[xA] at this;rw[this];rwa[xX (yE _ _) (by rw[xY];lia)]) ?_ ?_
  .rintro i x g J M ⟨rfl,h⟩ j a;let(j,3):=Uh a;let(e,a,s,3,t):=u.ir M;erw[([_],33),5];erw[1,a,2,(0),4 e.at_,33,ZO.of t,3141,Zx (λj=>?_) (λj=>?_)]
   .erw[135];rw[xQ,s,yQ,xH];have:([e].filter λe=>decide (e.at_<=d))= [e]:=by simp[j]
    show TR _ (_++([e].filter _).map evV) _;rw[this];rwa[TR.snoc t h]
   .erw[75];rw[xQ,s,yQ,xH];have:([e].filter λe=>decide (e.at_<=d))= []:=by simp[j]
    show TR _ (_++([e].filter _).map evV) _;rw[this,wK,xT];rwa[h]
  .rintro g z ⟨rfl,h⟩ u j;rw[G,xZ] at h;let G:=o.trans (ZC.new (o:=6 g) j);let I:(upd z u (6 g)) u=8 (6 g):=Zi;let N:=ZC.new (o:=6 g) j _ _ H;let U:=ZC.new (o:=6 g) j _ _ Q;let o:=h.mono (J:=upd z u (6 g)) λb L e=>ZC.new j _ _ e;generalize (upd z u (6 g))=h at G I N U o |-;let h:(m.filter λe=>decide (e.at_<=d)).9<=60:=xX (yE _ _) E;erw[u,g,m.filter λe=>decide (e.at_<=d),3,I,o,6,W.same G,λl E H W h y g u o j=>?_];let L:l≠q:=λz=>by rw[z,N] at h;ext h
   let h:(H.map λi=>(m.filter λe=>decide (e.at_<=d)).getD i ((0),_n,⟨#[]⟩))=byD f (d+1 - f).toNat m:=by
    rw[XI u o (lo:=f) (n:=(d+1 - f).toNat) λe s=>?_,Xc ()];let(Q,o):=zN.mp s;have:=B e Q;have:=yX o;rwa[66]
   let o:(byD f (d+1 - f).toNat m).9<=60:=by
    rw[<- h,xA];have:=u.length_eq;rw[yV] at this;lia
   rw[h] at g;generalize I:byD f (d+1 - f).toNat m=h at g o;let B:E.9=h.9:=by have:=g.9;rw[xA] at this;rwa[this]
   let H:=G.trans j;let G:=j _ _ N;let m:=j _ _ U;erw[l,3,(2,9 y),5];refine Vo E (λi Y J=>∃(E:Option V)(u:aG),Y=[8 (3 b),8 (3 R),8 (3 r.p),8 (4 d),8 (4 f),8 (3 q),E]/\ZF q W J/\J q=8 (6 u)/\TR J (((h.take i).foldl (Wt F) [We n f]).map stV) u)
    (_n,[3 p],3,ZF.refl,G,(p,[],3,m,3)) (λi Y J _ ⟨_,_,_,m,_,_⟩=>9 (m _ _ L y)) ?_ ?_
   .rintro i x Y J M ⟨E,u,rfl,m,l,j⟩;let(e,a,s,3,t):=g.ir M;let g:J a=8 (7 (evV e)):=m _ _ (λz=>by rw[z,G] at t;ext t) t;let o:=(xF.mp s).1;let x:=BR v (h.take i) [We n f];let p:(h.take i).foldl (Wt F) [We n f]≠ []:=CK (by simp);rw[xY] at x;let y:=(O.keep (ZC.n H)).keep (ZF.n m G);let o:(h.take (i+1)).foldl (Wt F) [We n f]=Ut (Vk F e.at_ ((h.take i).foldl (Wt F) [We n f])) e:=by
     rw[xQ,s,zB];rfl
    let t:((h.take i).foldl (Wt F) [We n f]).9<=2500:=by show _<=2500;have:([We n f]:List YJ).9=1:=rfl;lia
    let s:=Du v e.at_ ((h.take i).foldl (Wt F) [We n f]);rw[o];generalize (h.take i).foldl (Wt F) [We n f]=st at j p t s |-;erw[111,a,2,(0),4 e.at_,33,ZO.of g,3,r,F,q,u,st,e.at_,3,y,l,j,p,v,6,λt L o s i=>?_];erw[11,q,a,t,Vk F e.at_ st,e,3,o,s,Fd p,i _ _ (λz=>by rw[z,l] at g;ext g) g,6,λz M a g p=>?_];rwa[2,z,3,(m.trans i).trans p,a,g]
   .rintro Y J ⟨E,u,rfl,m,l,j⟩;rw[B,xZ] at j;let y:=(O.keep (ZC.n H)).keep (ZF.n m G);let x:=BR v h [We n f];let Q:([We n f]:List YJ).9=1:=rfl;erw[111,r,F,q,u,h.foldl (Wt F) [We n f],d,3,y,l,j,CK (by simp),v,6,λt L o s i=>?_];erw[1,k q t L A o ?_ λb o e=>(m.trans i) b o (Zl e A) (H _ _ e)];unfold Vf;rw[_i c,I];rwa[s]
def Vd(st:List YJ):Option Str:=if st=[] then _n else 8 (Ws st).t
inductive UF(C T:jY):Sp
 |mk(L) (F) (b le) (us) (es) (n) (d0 day)(_:vs=[3 b,3 le,3 L.p,4 day]/\ZX C H L F/\H b=8 (7 [5 n,4 d0])/\H le=8 (6 us)/\TR H (es.map evV) us/\es.9<=60/\YM F/\(∀e∈es,d0<=e.at_)/\ZS H T TK/\∀J,ZC H J->Q (oV (Vd (Vf F n d0 es day))) J)
abbrev Hj:Stmt:=top 44
def QU(b:YB K mg "holder" Hj)(c:∃t,mg "TAKER"=8 (4 3 t))(e:10 Fn "road_goods" lI 5 (UR C T)) :
  Fn P w K mg Z "holder" lI 6 (UF C T):=by
 let(d,a):=c;let c:ZH (4 3) (4 3 d):=(d,3);erw[b.fq ["brought","events","folk","day","steps"] λH d Q E b h=>?_];let(L,F,b,t,u,o,n,m,d,3,l,s,i,j,g,p,f,r,k):=h;erw[72,(11 (Zv 4 (Zm e (0 Q0 Q1 Q2 Q3))) (Zr (IR (KI Q4 (λ_=>rfl)) (Zh Zn (Zh Z6 Q4 (Vj Vl Zd)) (Yv a c)) Y3))),5];erw[1111,L,F,b,t,u,o,n,m,d,3,l,s,i,j,g,p,f,r,λl b J a g f h=>?_];erw[Z4 ?_];dsimp only;generalize Vf F n m o d=st at f k;erw[12,1 (b,9 g,3),5]
 by_cases c:st=[]
 .subst c;ext f;rwa[Zz (k J h)]
 .let(d,a):=BI c;let e:=f;rw[a,xH] at e;let(f,a,d,2,i):=TR.last e;let e:atI b (-1)=8 (3 a):=by rw[d];rwa[BP]
  let f:(!b.isEmpty)=true:=by rw[d];simp
  rw[f];erw[Z7 ?_];erw[11,l,b,-1,3 a,33,9 g,e,a,2,(3),5 (Ws st).t,33,ZO.of i,35];have:=k J h;unfold Vd at this;rw[_i c] at this;rwa[this]
end
def Dy{q:jY}(h:WA H fx q c)(k:ZC H J):WA J fx q c:=(h.mono (k _) (Vn (λ_ _ e=>k _ _ e) (λ_ _ _ e=>k _ _ e) λ_ z=>z))
inductive UU:Sp
 |mk(q l) (fx) (as) (us) (st) (day)(_:vs=[3 q,3 l,4 day]/\WA H fx q (as.map adT)/\H l=8 (6 us)/\TR H (st.map stV) us/\st ≠ []/\YM (Zg as).1/\st.9<=4000/\∀b a J,H b=_n->J b=8 (6 a)->TR J ((Vk (Zg as).1 day st).map stV) a->ZC H J->Q (3 b) J)
abbrev Ka:Stmt:=top 95
def bT(c:YB K mg "_law_left" Ka)(T:Txt mg)(b:10 Fn "_law_death" i4 1 VW)(a:10 Fn "_law_is_dead" lG 2 UB) :
  Fn P w K mg Z "_law_left" ["_law_deeds","_law_steps","_law_day"] 3 UU:=by
 erw[c.fq ["_law_deeds","_law_steps","_law_day","_law_k","_law_last_here","_law_died","_law_heir"] λH d Q E c h=>?_];let(q,l,v,o,d,st,c,3,I,g,p,f,i,e,k):=h
 refine(32,(11 (Zv 1 (Jm Aa T.list V9 (0 Q1))) (Wd mL S (J3 T.range (0 Zd)) (Yc 3) (11 (Zv 4 (Zh Zn (Zh Z6 Q1 (Vj Vl Zd)) Zd)) (Zt (Uk (Wz (Zm a (0 Q0 Q4 Q2)))) (Zf (Zr Q1)) Zs) (TQ (Zm b (0 Q0 Q4)) (Ar (by rfl) (Yr (Yc 5) (Yr (Yc 6) Vx)))) (Zk (Ys aD aE aF Yz Q1 (0 (Yb (0 (Z1 (CS (by rfl)) T.max BY (0 Q5 (Zh Zn (Zh Z6 Q1 (Vj Vl Zd)) Zd))) Z5 Q4 Q6))))))) (Zr Q1)),5)
 let a:=aC
 erw[1,l,1,1 (9 g),λh m=>?_];let l:=ZC.new (o:=6 d) m;let u:(upd H h (6 d)) h=8 (6 d):=Zi;let a:=p.mono (J:=upd H h (6 d)) λb L e=>l _ _ e;generalize (upd H h (6 d))=g at l u a |-;erw[Z4 ?_];dsimp only;let(n,g):=BI f;let(x,t,f):=i.lv c (Ws st);erw[1,aA,aA,5];refine Ap 41 aA (λi Y J=>∃(B C E F:Option V)(n:List YJ)(s:YJ)(r:List YJ)(f:aG)(j:Nat),Y=[8 (3 q),8 (3 h),8 (4 c),B,C,E,F]/\ZC H J/\J h=8 (6 f)/\TR J ((n ++ [s]).map stV) f/\Lv (Zg o).1 c j s r/\n ++ [s]++r=Vk (Zg o).1 c st/\i+j<=40/\f.9<=4000+i)
  (_n,_n,_n,_n,n,Ws st,lv (Zg o).1 c (Ws st),d,x,3,l,u,by rw[<- g];rwa[a],t,by unfold Vk;rw[<- g],6,by have:=p.9;rw[xA] at this;lia) ?_ ?_
 .rintro i Y J a ⟨B,C,E,F,n,s,r,f,j,rfl,y,d,l,t,g,z,A⟩;let i:=l;rw[xH] at i;let(x,a,p,u,G):=TR.last i;let i:atI f (-1)=8 (3 a):=by rw[p];rwa[BP]
  erw[11,h,f,-1,3 a,33,9 d,i,a,2,(3),5 s.t,33,ZO.of G,35];erw[Z4 ?_];dsimp only;erw[111,q,v,o,s.t,c,3,Dy I y,λc u=>(1,5)];cases t with
  | here e =>
   rw[e];erw[Z7 (1,k h f c m (u _ _ d) ?_ (y.trans u))];rw[<- g,xT];rwa[l.mono λb L e=>u _ _ e]
  | step c k H =>
   rename_i x M N;rw[k];erw[Zz ?_];erw[11,q,v,o,s.t,3,Dy I (y.trans u),λv k o t=>?_];rw[c] at t;let(p,3,k):=t;let c:=u.trans o;erw[p,1,ZO.of k,32145];dsimp only;erw[1,1 (32,9 (c _ _ d)),111,h,f,-1,3 a,33,9 (c _ _ d),i,a,2,(0),4 s.at_,33,ZO.of (c _ _ G),32111,aB S,λk a=>?_];erw[nw (o:=7 [4 (if s.at_ > x.1 then s.at_ else x.1),5 "left", 5 s.t,5 x.2]) a λi a p=>?_];let i:=c.trans a;let a:=i _ _ d;erw[h,f,3 k,33,a,62222,n ++ [s],Bv s x,N,f ++ [3 k],M,3,λb o e=>by rw[Ze (Zl e m)];rwa[i _ _ (y _ _ e)],Zi,5,H,by rw[<- g];simp,6,by rw[xI];show f.9+1<=_;lia];rw[xH];erw[TR.snoc (Uq a _ _ p) ?_];rwa[l.mono λb L e=>Uq a _ _ (i _ _ e)]
 .rintro Y J ⟨B,C,E,F,n,s,r,f,j,rfl,y,d,l,t,g,z,A⟩;lia
inductive UZ:Sp
 |mk(q b le) (fx) (as) (us) (es) (n) (d0 day)(_:vs=[3 q,3 b,3 le,4 day]/\WA H fx q (as.map adT)/\H b=8 (7 [5 n,4 d0])/\H le=8 (6 us)/\TR H (es.map evV) us/\es.9<=60/\YM (Zg as).1/\0<=d0/\d0<=100/\-100<=day/\day<=100/\(∀e∈es,d0<=e.at_)/\∀l a J,H l=_n->J l=8 (6 a)->TR J ((Vf (Zg as).1 n d0 es day).map stV) a->ZC H J->Q (3 l) J)
def FZ:(byD lo n es).9<=es.9:=by
 let b:∀(n:Nat),(byD lo n es).9=(es.filter λe=>decide (lo<=e.at_/\e.at_<lo+n)).9:=by
  intro n
  induction n with
  | zero =>
   have:(es.filter λe=>decide (lo<=e.at_/\e.at_<lo+((0:Nat):Int)))= []:=by
    rw[List.filter_eq_nil_iff];intro e _ z;have:=yX z;lia
   rw[this];rfl
  | succ n a =>
   rw[E1,xI,a];clear a
   induction es with
   | nil=>rfl
   | cons e r a =>
    rw[List.filter_cons,List.filter_cons,List.filter_cons]
    by_cases a:e.at_=lo+n
    .grind
    .grind
 rw[b];rwa[yE _ _]
abbrev HQ:Stmt:=top 94
def dU(b5:YB K mg "_law_road" HQ)(T:Txt mg)(a4:10 Fn "_law_left" ["_law_deeds","_law_steps","_law_day"] 3 UU):10 Fn "_law_road" lR 4 UZ:=by
 erw[b5.fq ["_law_deeds","_law_brought_here","_law_events","_law_day","_law_steps","_law_now","_law_at","_law_word_here","_law_giver","_law_taker","_law_last_here"] λH vs Q E hr h=>?_];let(q,b,le,fx,M,us,t,n,d,C,3,hd,hb,a9,b2,c8,hE,c4,c5,y0,y1,c7,k):=h
 refine(32,(11 (Zt (Zo TU Q3 (Zh Zn Q1 Zd) (Zq _)) (Zf (Zr (Yl Zb))) Zs) (Zv 4 (Yl (0 (Yb (0 (Zh Zn Q1 Zd) Z5 Y3 (Zh Zn Q1 Zd)))))) (Wd mL S (Hg T.range (0 (Zh Zn Q1 Zd) (Z3 Wh Q3 Zd))) (Yc 5) (Zf (Wd mL S (Y2 Q2) (Ar (by rfl) (Yr (Yc 6) (Yr (Yc 7) (Yr (Yc 8) (Yr (Yc 9) Vx)))))
 (11 (Zt (Zo DX Q6 Q5 (Zq _)) (Zf QN) Zs) (Zv 4 (Zm a4 (0 Q0 Q4 Q5))) (Zv 10 (Zh Zn (Zh Z6 Q4 (Vj Vl Zd)) Zd)) (Zt (Zo Yh Q7 Z5 (Zq _)) (Zf (Zk (Ys aD aE aF Yz Q4 (0 (Yb (0 Q5 Z5 Q9 (qvN 9))))))) (Zf (Zt (Zo Yh Q9 Q8 (Zq _)) (Zf (Zk (Ys aD aE aF Yz Q4 (0 (Yb (0 Q5 Z5 Q8 (qvN 9))))))) Zs))))))) (Zr (Zm a4 (0 Q0 Q4 Q3)))),5)
 let hz:=aC
 let c3:us.9=t.9:=by have:=b2.9;rw[xA] at this;rwa[this]
 erw[11,b,2,(1),4 d,33,ZO.of hb,341,Zx (λc=>?_) (λc=>?_)]
 .erw[aB S,λl hl=>?_];erw[k l [] _ hl Zi ?_ (ZC.new hl)];unfold Vf;rw[_j c];rfl
 .erw[1,b,2,(1),4 d,33,ZO.of hb,31,b,2,(0),5 n,33,ZO.of hb,3,aB S,λp W=>?_];erw[nw (o:=7 [4 d,5 "brought", .non,5 n]) W λH1 S1 k1=>?_];erw[aB S,λl0 a1=>?_];let a7:=S1.free a1;let S2:=S1.trans (ZC.new (o:=6 [3 p]) a1);let k2:(upd H1 l0 (6 [3 p])) l0=8 (6 [3 p]):=Zi;let p2:=ZC.new (o:=6 [3 p]) a1 _ _ k1;generalize (upd H1 l0 (6 [3 p]))=H2 at S2 k2 p2 |-;erw[Z4 ?_];dsimp only;erw[1,b,2,(1),4 d,33,ZO.of (S2 _ _ hb),31421,(6,666),5];refine Ap (C+1 - d).toNat S (λj Y J=>∃(v5 v6 v7 v8 v9 A:Option V)(l:jY)(I:aG),Y=[8 (3 q),8 (3 b),8 (3 le),8 (4 C),8 (3 l),v5,v6,v7,v8,v9,A]/\ZC H J/\H l=_n/\J l=8 (6 I)/\TR J (((byD d j t).foldl (Wt (Zg M).1) [We n d]).map stV) I)
   (_n,_n,_n,_n,_n,_n,l0,[3 p],3,S2,a7,k2,(p,[],3,p2,3)) ?_ ?_
  .rintro j Y J hj ⟨v5,v6,v7,v8,v9,A,l,I,rfl,B,N,u,r⟩;erw[1,le,3,(2,9 (B _ _ a9)),5];refine Vo us (λi Y J=>∃(v6 v7 v8 v9 A:Option V)(l:jY)(I:aG),Y=[8 (3 q),8 (3 b),8 (3 le),8 (4 C),8 (3 l),8 (4 (d+(j:Nat))),v6,v7,v8,v9,A]/\ZC H J/\H l=_n/\J l=8 (6 I)/\TR J (((byD d j t++(t.take i).filter λe=>decide (e.at_=d+j)).foldl (Wt (Zg M).1) [We n d]).map stV) I)
    (v6,v7,v8,v9,A,l,I,3,B,N,u,by rw[List.take_zero,List.filter_nil,xT];rwa[r]) (λi Y J _ ⟨_,_,_,_,_,_,_,_,B,_,_,_⟩=>9 (B _ _ a9)) ?_ ?_
   .rintro i x Y J hx ⟨v6,v7,v8,v9,A,l,I,rfl,B,N,u,r⟩;let(e,a,he,3,ha):=b2.ir hx;let b9:=B _ _ ha;let hi:=(xF.mp he).1;erw[a,1,ZO.of b9,321212145];dsimp only;erw[1131,Vz (λz=>?_) (λz=>?_)]
    .-- another C
     erw[22222,l,I,3,B,N,u,5];have:([e].filter λe=>decide (e.at_=d+j))= []:=by simp;rwa[λy=>z (by rw[y])]
     let O:((t.take (i+1)).filter λe=>decide (e.at_=d+j))=((t.take i).filter λe=>decide (e.at_=d+j))++[e].filter λe=>decide (e.at_=d+j):=by rw[xQ,he,yQ];rfl
     rw[O,this,xT];rwa[r]
    .let ed:e.at_=d+j:=by injection z
     let e1:([e].filter λe=>decide (e.at_=d+j))= [e]:=by simp[ed]
     let c2:(byD d j t++(t.take i).filter λe=>decide (e.at_=d+j)).9<=60:=by
      rw[xI];let h0:=FZ (lo:=d) (n:=j+1) (es:=t);rw[E1,xI] at h0;let h2:((t.take i).filter λe=>decide (e.at_=d+j)).9<=(t.filter λe=>decide (e.at_=d+j)).9:=((List.take_sublist i t).filter _).length_le;lia
     let G:(byD d j t++(t.take (i+1)).filter λe=>decide (e.at_=d+j)).foldl (Wt (Zg M).1) [We n d]=Ut (Vk (Zg M).1 e.at_ ((byD d j t++(t.take i).filter λe=>decide (e.at_=d+j)).foldl (Wt (Zg M).1) [We n d])) e:=by
      let O:((t.take (i+1)).filter λe=>decide (e.at_=d+j))=((t.take i).filter λe=>decide (e.at_=d+j))++[e].filter λe=>decide (e.at_=d+j):=by rw[xQ,he,yQ];rfl
      rw[O,e1,<- yW,zB];rfl
     generalize byD d j t++((t.take i).filter λe=>decide (e.at_=d+j))=ev at r c2 G;let c1:=BR hE ev [We n d];let h1:([We n d]:List YJ).9=1:=rfl;let a0:ev.foldl (Wt (Zg M).1) [We n d]≠ []:=CK (by simp);rw[G];clear G e1;let b0:=Du hE e.at_ (ev.foldl (Wt (Zg M).1) [We n d]);let c0:(ev.foldl (Wt (Zg M).1) [We n d]).9<=4000:=by lia
     generalize ev.foldl (Wt (Zg M).1) [We n d]=st at r a0 c0 b0 |-;let(b7,eg,et):=e;let ed:b7=d+j:=ed;subst ed;erw[111,q,l,fx,M,I,st,d+j,3,Dy hd B,u,r,a0,hE,6,λR m H2 a2 f v a3=>?_];erw[Z4 ?_];dsimp only;let b1:=Fd (F:=(Zg M).1) (day:=d+j) a0;let(ss,a6):=BI b1;let X:=v;rw[a6,xH] at X;let(d0,cc,b8,2,hc):=TR.last X;let b6:atI m (-1)=8 (3 cc):=by rw[b8];rwa[BP]
     let c9:m.9<=4040:=by have:=v.9;rw[xA] at this;dsimp only at b0;lia
     let b4:=B.trans a3;let U:H R=none:=B.free a2
     try dsimp only at v X hc |-
     generalize Vk (Zg M).1 (d+j) st=sL at v X b1 a6 hc |-;erw[11,R,m,-1,3 cc,33,9 f,b6,cc,2,(3),5 (Ws sL).t,33,ZO.of hc,35];erw[Z4 ?_];dsimp only;let b3:∀(s:YJ)(p:jY),H2 p=_n->ZC H (upd (upd H2 p (7 (stV s))) R (6 (m ++ [3 p])))/\TR (upd (upd H2 p (7 (stV s))) R (6 (m ++ [3 p]))) ((sL ++ [s]).map stV) (m ++ [3 p]):=λs p W=>by
      let S4:=ZC.new (o:=7 (stV s)) W;let a8:=S4 _ _ f;erw[λb o e=>by rw[Ze (Zl e U)];rwa[S4 _ _ (b4 _ _ e)],5];rw[xH];rwa[TR.snoc (Uq a8 _ _ Zi) (v.mono λb L e=>Uq a8 _ _ (S4 _ _ e))]
     cases eg with
     | none =>
      erw[131,Zx (λ_=>?_) (λz=>_a S z)];erw[1,1 (32,9 f),111,aB S,λp W=>?_];let(z1,z2):=b3 (d+j, "won", 8 (Ws sL).t,et) p W;erw[R,m,3 p,33,ZC.new W _ _ f,622222,R,m ++ [3 p],3,z1,U,Zi,5];unfold Ut;rw[_j (1 S)];rwa[z2]
     | some g =>
      erw[131,Zx (λz=>_a z (E7 (show ("given":Str)≠ "won" from by decide +kernel))) (λ_=>?_)];erw[1131,Zx (λz=>?_) (λz=>?_)]
      .let a5:(Ws sL).t=g:=by injection z
       erw[1,1 (32,9 f),111,aB S,λp W=>?_];let(z1,z2):=b3 (d+j, "given", 8 g,et) p W;erw[R,m,3 p,33,ZC.new W _ _ f,622222,R,m ++ [3 p],3,z1,U,Zi,5];unfold Ut;rw[_j (2 (by rw[a5])),a5];rwa[z2]
      .erw[22222,R,m,3,b4,U,f,5];unfold Ut;rw[_i (λy=>by rcases y with y | y<;>ext y;rwa[z S])];rwa[v]
   .rintro Y J ⟨v6,v7,v8,v9,A,l,I,rfl,B,N,u,r⟩;rw[c3,xZ] at r;rwa[222222,l,I,3,B,N,u,by rw[E1];rwa[r]]
  .rintro Y J ⟨v5,v6,v7,v8,v9,A,l,I,rfl,B,N,u,r⟩;let c6:=FZ (lo:=d) (n:=(C+1 - d).toNat) (es:=t);let c1:=BR hE (byD d (C+1 - d).toNat t) [We n d];let h1:([We n d]:List YJ).9=1:=rfl;erw[111,q,l,fx,M,I,2,C,3,Dy hd B,u,r,CK (by simp),hE,6,λR m H2 a2 f v a3=>?_];erw[k R m H2 (B.free a2) f ?_ (B.trans a3)];unfold Vf;rw[_i c];rwa[v]
def Cm(ns:jS)(F:List ZI):Prop:=(∀n∈ns,∃d,Zw F n=8 d)/\∀n,n∉ns->Zw F n=_n
def Cm.of(t:Bs ns ns.length F):Cm ns F:=((λn a=>let ⟨d,e,_,_⟩:=t.com n (by rw[xZ];rwa[a]);(d,e),λn a=>t.no n (by rw[xZ];rwa[a])))
def Cm.snoc(h:Cm ns (Zg as).1)(i:∀d,x=.s d->dOk ns d/\eSD (Zg as).1 (Zg as).2 d=_n):Cm ns (Zg (as ++ [x])).1:=by
 let b:∀n,Zw (Zg (as ++ [x])).1 n=Zw (Zg as).1 n:=by
  rw[JB];cases x with
  | c d a e g j f=>rwa[λ_=>rfl]
  | s d =>
   let(g,e):=i d S;cases d with
   | come n a f =>
    let e:((TH (Zg as).1 n a f).or (Wj (Zg as).2))=none:=e;let(222,b,2):=Fe (yH.mp e).1;let(x,z):=h.1 n g.1;rw[b] at z;ext z
   | rise n a f=>rwa[λx=>EU x]
   | die n e a=>rwa[λx=>Fl x]
   | _=>rwa[λ_=>rfl]
 rwa[λn a=>by rw[b];rwa[h.1 n a],λn a=>by rw[b];rwa[h.2 n a]]
section
variable{C CM:jY}
def U0(bs:List Bool):D->Option D
 | .tup [.non,e]=>8 e
 | .tup [.int i,e]=>if bs.getD i.toNat _x=_t then 8 e else _n
 | _=>_n
def DR(bs:List Bool)(a:List D):Prop:=∀r∈a,∃e:D,r=7 [.non,e]\/∃i:Nat,r=7 [4 i,e]/\i<bs.9
theorem M6:∀{bs:List Bool}{vs:aG},ZN H (bs.map D.bl) vs->vs=bs.map V.bl
 | [],_,h=>h
 | _::_,_,⟨_,_,e,f,h⟩=>by ext f;rw[e,M6 h];rfl
inductive VQ(C CM:jY):Sp
 |mk(M) (F) (wa) (L) (m) (qs) (lr) (us) (rows)(_:vs=[3 M.p,3 lr]/\ZE C CM H M F wa L m qs/\H lr=8 (6 us)/\ZN H rows us/\DR m.j9 rows/\rows.9<=1000/\∀l a J,H l=_n->J l=8 (6 a)->ZN J (rows.filterMap (U0 m.j9)) a->ZC H J->Q (3 l) J)
abbrev FF:Stmt:=Yt (top 69) 36
def SR:Nm (Zj FF) "self" .cell:=(aA)
def NI(a:ZU K CM "counting" "Moot.counting" FF)(Tm:ZP K CM):10 Mt CM "counting" i8 1 (VQ C CM):=by
 erw[a.mq i8 λH a Q E n h=>?_];let(M,F,f,L,m,a,d,e,c,3,W,b,n,j,u,k):=h
 refine(32,(Zf (Zr (Vg (locs:=["case","told"]) (fr:=[("self",(0))]) (3,aA,aA,aA,aA,aA) (.ig SR .nil) S (Y2 Q1) ⟨λ_ _ _ _ _ _=>by
  let a:(inN ["case","told"] [("self",(0))]).Nodup:=aA
  rwa[(BS 2 (by rfl) (Yr (Y9 0 a) (Yr (Y9 1 a) Vx))),(Um (QW.pt (CZ (Zo FY (Yj 0) Y3 (Zq _)) (Cr (Wz (Zh B9 (GO (Wp 2)) (Yj 0))))))),(Yj 1)]⟩))),5)
 let a:=aC
 let(A,B):=W.ob;let(f,l,a,2):=W.ga 5 rfl;rw[M6 a] at l;let x:=n.9;erw[1,d,3,(2,9 b),5];erw[Uw (L:=e) (λi h J=>ZC H J/\ZN J ((c.take i).filterMap (U0 m.j9)) h) (ZC.refl _,3) () (λi h J _ ⟨e,_⟩=>9 (e _ _ b)) (λi h J ⟨_,e⟩=>by rw[e.9];rwa[xX (List.length_filterMap_le ..) (by rw[xY];lia)]) ?_ ?_]
 .rintro i v h J b ⟨f,d⟩ g a;let(g,p,3):=Dg a;let(r,g,y):=n.get b;let(e,t):=j r (xM g);rcases t with rfl | ⟨j,rfl,t⟩
  .let(a,v,3,s,(G,z,3,b,(H,E,3,p,r))):=y;ext b;ext r;let n:(c.take (i+1)).filterMap (U0 m.j9)=(c.take i).filterMap (U0 m.j9)++[e]:=by
    rw[xQ,g,wE];rfl
   rw[n];erw[a,1,ZO.of (f _ _ s),3214,([_,_],33),5];rwa[131,Z7 (1,f,d.snoc (YC.mono f _ _ p))]
  let(a,v,3,s,(G,z,3,b,(H,E,3,p,r))):=y;ext b;ext r;obtain⟨b,r⟩:∃b,m.j9[j]?=8 b:=(2,xB t);let n:(c.take (i+1)).filterMap (U0 m.j9)=(c.take i).filterMap (U0 m.j9)++(if b=_t then [e] else []):=by
   rw[xQ,g,wE];congr 1;let c:U0 m.j9 (7 [4 j,e])=if b=_t then 8 e else none:=by
    show (if m.j9.getD (j:Int).toNat _x=_t then 8 e else _n)=_;rw[yJ,xR,r];rfl
   show List.filterMap (U0 m.j9) [D.tup [4 j,e]]=_;rw[wM,c];ext b<;>rfl
  rw[n];erw[a,1,ZO.of (f _ _ s),3214,([_,_],33),5];erw[131,Zx (λz=>nomatch z) (λ_=>?_)];erw[1,M.p,CM,A,21,f _ _ B,Tm.cl,Tm.nv,LX _,1,M.lv,2,j,.bl b,33,9 (f _ _ l),Yo (by rw[xG,r];rfl),b,35];cases b with
  | true=>rwa[Z7 (1,f,d.snoc (YC.mono f _ _ p))]
  | false=>rwa[Zz (f,by rw[_i aA,xT];rwa[d])]
 .rintro h J ⟨f,d⟩ l u;rw[x,xZ] at d;let a:=ZC.new (o:=6 h) u;rwa[k l h _ (f.free u) Zi (d.oy a) (f.trans a)]
theorem TR.ofR:∀{es:List Ev}{vs:aG},ZN H (es.map evD) vs->TR H (es.map evV) vs
 | [],_,h=>h
 | e::es,_,h=>by
  let(v,r,3,(a,k,3,c,(21,d,(21,f,(21,b,(21,g,i))))),j):=h;ext d;ext f;ext g;ext i;erw[a,r,35,TR.ofR j];cases a:e.g with
  | none=>rw[a] at b;ext b;unfold evV;rw[a];rwa[c]
  | some x=>rw[a] at b;ext b;unfold evV;rw[a];rwa[c]
def CP(m:Mo)(i:Nat)(n:Str)(d0:Int)(es:List Ev):Prop:=m.i9[i]?=8 (7 [5 n,4 d0])/\(∃a,m.o8[i]?=8 a/\DR m.j9 a/\a.filterMap (U0 m.j9)=es.map evD)/\es.9<=60/\∀e∈es,d0<=e.at_
def ZE.oW(W:ZE C CM H M F wa L m qs)(v:WH m)(d:m.il.9<=400)(h:CP m i n d0 es) :
  i<m.i9.9/\∃a c us q b,H M.lb=8 (6 c)/\c[i]?=8 (3 a)/\H a=8 (7 [5 n,4 d0])/\qs[i]?=8 q/\H q=8 (6 us)/\ZN H b us/\DR m.j9 b/\b.9<=1000/\b.filterMap (U0 m.j9)=es.map evD:=by
 let(j,(b,d,f,s),22):=h;let t:=(xF.mp j).1;let(c,g,e,k):=W.ga 1 rfl;let k:i<c.9:=by lia
 let(z,l,o):=e.get (xB k);rw[j] at l;ext l;let(a,us,p,r,(21,e,(21,j,l))):=o;ext e;ext j;ext l;let e:=W.hn;let e:i<qs.9:=by have:=(xF.mp d).1;lia
 let j:qs[i]?=8 qs[i]:=xB e;let u:(qs[i],b)∈qs.zip m.o8:=xM (i:=i) (by rw[yZ];rwa[j,d]);let(us,l,o,e):=(W.ls (qs[i],b) (by simp[Mo.at_,u])).get;dsimp only at l o e;let e:=v.hl b (xM d);rwa[t,a,c,us,qs[i],b,g,by rw[xB k,p],r,j,l,o,f,6,s]
inductive Tg(C CM T:jY):Sp
 |mk(p:jY) (F:List ZI) (m:Mo) (O:jY->Prop) (i:Nat) (a:Int) (n:Str) (c:Int) (d:List Ev)(_:vs=[3 p,4 i,4 a]/\YE C CM H p F m O/\WH m/\m.il.9<=400/\0<=a/\a<=9999/\CP m i n c d/\YM F/\ZS H T TK/\m.i9.9<=1000/\∀(l:jY)(b:aG)(J:Hp),H l=_n->J l=8 (6 b)->TR J ((Vf F n c d a).map stV) b->ZC H J->Q (3 l) J)
abbrev LY:Stmt:=Yt (top 69) 30
def cL(d:ZU K CM "road" "Moot.road" LY)(Tm:ZP K CM)(g:10 YZ "check_day" 1 (WZ 0 9999 c))(a:10 YA CM "check_thing" 1 (WG C CM c))(b:10 Mt CM "counting" i8 1 (VQ C CM))(e:10 Fn "road_goods" lI 5 (UR C T)):10 Mt CM "road" lJ 7 (Tg C CM T):=by
 erw[d.mq lJ λH f Q E d h=>?_];let(2,F,m,2,i,f,n,s,t,3,(M,p,L,o,3,W,3),B,u,J,N,d,v,x,j,k):=h;erw[72,(11 (Zk (Wq Xq.never g (0 Q2))) (Zk (Yg Xq.never Q0 Tm.cl a (0 Q1))) (Zr (Zm e (0 (Zh Z6 (Z0 Q0) Q1) (Ve Q0 Tm.cl b (0 (Zh Z6 (Z0 Q0) Q1))) (Z0 Q0) Q2)))),5];let(b,a,H,I,q,e,r,l,y,A,E,G,h,j,z):=W.oW B u d;erw[1,f,3,(by unfold okI;lia),due.of (_j (J,N)) ?_];let(g,b):=W.ob;erw[1,M.p,g,1,b,Yi _ aA,1,M,F,p,L,m,o,i,3,W,by unfold okI;lia,due.of (_j (6,6)) ?_];erw[1,M.p,CM,g,21,b,Tm.cl,Tm.nb,AF _,1,M.lb,H,i,3 a,33,9 r,Yo l,5];erw[1,M.p,g,1,b,Yi _ aA,1,M.p,CM,g,21,b,Tm.cl,Tm.nh,C6 _,1,M.lh,2,i,3 q,33,9 W.hl,Yo (by rw[xG,A];rfl),5];erw[M,F,p,L,m,o,q,I,e,3,W,E,G,h,j,λl h m o j i e=>?_];rw[z] at i;rwa[1,M.p,CM,g,21,e _ _ b,Tm.cl,Tm.nf,V5 _,1,M.L,F,a,l,h,t,n,s,f,3,(W.same e).fk.f,e _ _ y,j,TR.ofR i,d.2.2.1,v,d.2.2.2,x.same e,λh a b f g i d=>k h a b (e.free f) g i (e.trans d)]
inductive VO(C CM T:jY):Sp
 |mk(p:jY) (F:List ZI) (m:Mo) (O:jY->Prop) (i:Nat) (a:Int) (n:Str) (b:Int) (c:List Ev)(_:vs=[3 p,4 i,4 a]/\YE C CM H p F m O/\WH m/\m.il.9<=400/\0<=a/\a<=9999/\CP m i n b c/\YM F/\ZS H T TK/\m.i9.9<=1000/\∀J,ZC H J->Q (oV (Vd (Vf F n b c a))) J)
abbrev HA:Stmt:=Yt (top 69) 29
def bO(d:ZU K CM "holder" "Moot.holder" HA)(Tm:ZP K CM)(g:10 YZ "check_day" 1 (WZ 0 9999 c))(a:10 YA CM "check_thing" 1 (WG C CM c))(b:10 Mt CM "counting" i8 1 (VQ C CM))(e:10 Fn "holder_goods" lI 6 (UF C T)):10 Mt CM "holder" lJ 7 (VO C CM T):=by
 erw[d.mq lJ λH f Q E d h=>?_];let(2,F,m,2,i,f,n,s,t,3,(M,p,L,o,3,W,3),B,u,J,N,d,v,x,j,k):=h;erw[72,(11 (Zk (Wq Xq.never g (0 Q2))) (Zk (Yg Xq.never Q0 Tm.cl a (0 Q1))) (Zr (Zm e (0 (Zh Z6 (Z0 Q0) Q1) (Ve Q0 Tm.cl b (0 (Zh Z6 (Z0 Q0) Q1))) (Z0 Q0) Q2)))),5];let(b,a,H,I,q,e,r,l,y,A,E,G,h,j,z):=W.oW B u d;erw[1,f,3,(by unfold okI;lia),due.of (_j (J,N)) ?_];let(g,b):=W.ob;erw[1,M.p,g,1,b,Yi _ aA,1,M,F,p,L,m,o,i,3,W,by unfold okI;lia,due.of (_j (6,6)) ?_];erw[1,M.p,CM,g,21,b,Tm.cl,Tm.nb,AF _,1,M.lb,H,i,3 a,33,9 r,Yo l,5];erw[1,M.p,g,1,b,Yi _ aA,1,M.p,CM,g,21,b,Tm.cl,Tm.nh,C6 _,1,M.lh,2,i,3 q,33,9 W.hl,Yo (by rw[xG,A];rfl),5];erw[M,F,p,L,m,o,q,I,e,3,W,E,G,h,j,λl h m o j i e=>?_];rw[z] at i;rwa[1,M.p,CM,g,21,e _ _ b,Tm.cl,Tm.nf,V5 _,1,M.L,F,a,l,h,t,n,s,f,3,(W.same e).fk.f,e _ _ y,j,TR.ofR i,d.2.2.1,v,d.2.2.2,x.same e,λa b=>k a (e.trans b)]
inductive UI(C CM T:jY):Sp
 |mk(p:jY) (F:List ZI) (m:Mo) (O:jY->Prop) (n:Str) (b a:Int) (g:Nat->Option Str)(_:vs=[3 p,5 n,4 a]/\YE C CM H p F m O/\WH m/\m.il.9<=400/\0<=a/\a<=9999/\Zw F n=8 b/\(∀i,i<m.i9.9->∃b c d,CP m i b c d/\g i=Vd (Vf F b c d a))/\YM F/\ZS H T TK/\m.i9.9<=1000/\∀(l:jY)(J:Hp),H l=_n->J l=8 (6 (((List.range m.i9.9).filter λi=>g i=8 n).map λ(i:Nat)=>V.int i))->ZC H J->Q (3 l) J)
abbrev Cu:Stmt:=Yt (top 69) 31
def KR:Nm (Zj Cu) "day" .cell:=(aA)
def GL:Nm (Zj Cu) "name" .cell:=(aA)
def GE:Nm (Zj Cu) "self" .cell:=(aA)
def OI{Tb:jY}(d:ZU K CM "holds" "Moot.holds" Cu)(T:Txt mg)(i:VA K C)(Tm:ZP K CM)(j:10 YZ "check_day" 1 (WZ 0 9999 c))(a:10 YA C "check_known" 1 (YO C c))(b:10 Mt CM "holder" lJ 7 (VO C CM Tb)):10 Mt CM "holds" lu 8 (UI C CM Tb):=by
 erw[d.mq lu λH e Q E d h=>?_];let(2,F,m,2,n,d,e,g,3,(M,I,L,E,3,W,3),B,u,p,r,f,y,v,x,o,k):=h
 refine(32,(11 (Zk (Wq Xq.never j (0 (qvC 2 KR)))) (Zk (Yg Xq.never (Z0 (qvC 0 GE)) i.cl a (0 (qvC 1 GL)))) (Zr (Vg (locs:=["thing"]) (fr:=[("self",(0)),("name",(1)),("day",(2))]) (3,aA,aA,aA,aA,aA) (.ig GE (.ig GL (.ig KR .nil))) S (J3 T.range (0 (Z1 Yw T.len Yk (0 (Z0 (qvC 0 GE)))))) ⟨λ_ _ _ _ _ _=>by
  let a:(inN ["thing"] [("self",(0)),("name",(1)),("day",(2))]).Nodup:=aA
  rwa[(Y9 0 a),(Um (Zo Yh (Ve (Wp 1) Tm.cl b (0 (Yj 0) (Wp 3))) (Wp 2) (Zq _))),(Yj 0)]⟩))),5)
 erw[1,e,3,(by unfold okI;lia),due.of (_j (p,r)) ?_];let(l,d):=W.ob;let(a,b):=W.fk.f.ob;erw[1,M.p,CM,l,21,d,Tm.cl,Tm.nf,V5 _,M.L.p,a,1,b,Wc _ _ _ _ aA,1,M.L,F,n,3,W.fk.f,λz=>(by rw[f] at z;ext z),due.of (_i (by rw[f];intro z;ext z)) ?_];let(f,a,i,b):=W.ga 1 rfl;erw[1,M.p,CM,l,21,d,Tm.cl,Tm.nb,AF _,M.lb,f,3,1 (9 a),5];rw[b];erw[1665];let G:∀j:Nat,(List.range (j+1)).filter (λi=>decide (g i=8 n))=(List.range j).filter (λi=>decide (g i=8 n))++(if g j=8 n then [j] else []):=λj=>by
  rw[wB,yQ];congr 1
  by_cases z:g j=8 n
  .rw[_j z,wP (by simpa using z)];rfl
  .rw[_i z,wQ (by simpa using z)];rfl
 erw[Fg m.i9.length () (λj f J=>ZC H J/\f=((List.range j).filter λi=>g i=8 n).map λ(i:Nat)=>V.int i) (ZC.refl _,3) () (λj f J h=>by rw[h.2,xA];rwa[xX (yE _ _) (by rw[yV];rwa[xD _])]) ?_ ?_]
 .rintro j f J A ⟨a,rfl⟩ h b;let(h,3):=Ga b;let(b,i,t,h,s):=y j A;rw[Int.zero_add];erw[([_],33),5];erw[1,M.p,l,1,a _ _ d,Yi _ aA,11,M.p,F,m,2,j,e,b,i,t,3,(M,I,L,E,3,W.same a,3),B,u,p,r,h,v,x.same a,o,λd b=>?_];rw[<- s,G];cases e:g j with
  | none =>
   erw[131,Zx (λz=>nomatch z) (λ_=>(a.trans b,5))];rw[_i (λz=>nomatch z),xT]
  | some x =>
   erw[131,Zx (λz=>?_) (λz=>?_)]
   .let z:V.str x=V.str n:=z;let z:x=n:=by injection z
    erw[1,a.trans b,5];rw[_j (by rw[z]),xH];rfl
   .erw[a.trans b,5];rw[_i (λy=>z (by rw[ma y];rfl)),xT]
 .rintro f J ⟨a,rfl⟩ l b;rwa[k l _ (a.free b) Zi (a.trans (ZC.new b))]
end
def evE(bs:List Bool)(i:Nat)(k:Nat):AD->Option Ev
 | .s (.give j x y a)=>if j=(i:Int) then 8 (a,8 x,y) else _n
 | .c (.clm x j) a _ _ _ _=>if j=(i:Int)/\bs.getD k _x=_t then 8 (a,_n,x) else _n
 | _=>_n
def evS(bs:List Bool)(i:Nat)(u:List Ev×Nat)(a:AD):List Ev×Nat:=(u.1++(evE bs i u.2 a).toList,u.2+if isC a=_t then 1 else 0)
def evT(bs:List Bool)(i:Nat)(as:List AD):List Ev×Nat:=as.foldl (evS bs i) ([],(0))
def FX:AD->D
 | .s (.bring n d)=>7 [5 n,4 d]
 | _=>.non
structure UM (bs:List Bool) (i:Nat) (m:Mo) (u:List Ev×Nat):Prop where
 d:(m.o8.getD i []).filterMap (U0 bs)=u.1.map evD
 n:u.2=m.oX.9
 r:∀r∈m.o8.getD i [],∃e:D,r=7 [.non,e]\/∃k:Nat,r=7 [4 k,e]/\k<m.oX.9
 h:m.o8.9=m.i9.9
 b:∀e∈u.1,∃(n:Str)(d:Int),m.i9[i]?=8 (7 [5 n,4 d])/\d<=e.at_
 s:∀x∈m.i9,∃(n:Str)(d:Int),x=7 [5 n,4 d]
def XU{l:List (List D)}{j i:Nat}{x:List D}(a:j<l.9):(l.set j x).getD i []=if j=i then x else l.getD i []:=by grind
def MP{l:List (List D)}{i:Nat}:(l ++ [[]]).getD i []=l.getD i []:=by grind
def UM.put{bs:List Bool}{i:Nat}{m:Mo}{u:List Ev×Nat}(h:UM bs i m u){j:Int}{day:Int}{o:D}{e:Ev}{m':Mo}{oe:Option Ev}(a:0<=j)(t:j.toNat<m.i9.9)(c:brD m j<=day)(l:e.at_=day)(b:m'.o8=m.o8.set j.toNat (m.o8.getD j.toNat [] ++ [7 [o,evD e]]))(g:m'.i9=m.i9)(a:m.oX.9<=m'.oX.9)(a:o=.non\/∃k:Nat,o=4 k/\k<m'.oX.9)(p:j=i->U0 bs (7 [o,evD e])=oe.map evD)(s:oe=_n\/oe=8 e)(f:j≠i->oe=_n) :
  (m'.o8.getD i []).filterMap (U0 bs)=(u.1++oe.toList).map evD/\(∀r∈m'.o8.getD i [],∃e:D,r=7 [.non,e]\/∃k:Nat,r=7 [4 k,e]/\k<m'.oX.9)/\m'.o8.9=m'.i9.9/\(∀x∈u.1++oe.toList,∃n d,m'.i9[i]?=8 (7 [5 n,4 d])/\d<=x.at_)/\∀x∈m'.i9,∃n d,x=7 [5 n,4 d]:=by
 let a:j.toNat<m.o8.9:=by rw[h.h];rwa[t]
 rw[b,g,XU a];let a:∀r∈m.o8.getD i [],∃e:D,r=7 [.non,e]\/∃k:Nat,r=7 [4 k,e]/\k<m'.oX.9:=λr a=>(h.r r a).imp λe z=>z.imp id λ⟨k,a,b⟩=>(k,a,6);erw[55,by rw[wS];rwa[h.h],λx a=>?_,h.s]
 .by_cases z:j.toNat=i
  .rw[_j z,wE,xH,z,h.d];congr 1;have:=p ();rw[wM,this];ext oe<;>rfl
  .rw[_i z,f (λy=>z ()),h.d,xH];rwa[(xT _).6]
 .grind
 .rcases xL.mp a with y | y
  .rwa[h.b x y]
  .rcases s with rfl | rfl
   .ext y
   .let g:x=e:=by simpa using y
    by_cases z:j=i
    .let b:i<m.i9.9:=by lia
     let(n,d,p):=h.s _ (yY b);let a:m.i9[i]?=8 (7 [5 n,4 d]):=by rw[xB b,p]
     erw[n,d,a,5];unfold brD at c;rw[z,yJ,a] at c;rw[g,l];rwa[c]
    .cases f z
def fT(h:Va d day=_n):d<=day:=by
 unfold Va at h;split at h
 .ext h
 .lia
def Nd(h:Vv F m day ps (8 i) oa=_n):(0<=i/\i.toNat<m.i9.9)/\brD m i<=day:=by
 unfold Vv at h;simp only[yH] at h;let(2,a,22,b,2):=h;erw[5,fT b];let a:Jl m i=none:=a;unfold Jl at a;split at a
 .grind
 .ext a
def UM.step{bs:List Bool}{i:Nat}{s:V8}{u:List Ev×Nat}(h:UM bs i s.2 u){a:AD}(g:Fs s a):UM bs i (Vw s a).2 (evS bs i u a):=by
 let no:u.1++(none:Option Ev).toList=u.1:=xT _;let up:∀{t:ZW} r,r∈s.2.o8.getD i []->∃e:D,r=7 [.non,e]\/∃k:Nat,r=7 [4 k,e]/\k<(s.2.oX ++ [t]).9:=λr hr=>(h.r r hr).imp λe z=>z.imp id λ⟨k,a,b⟩=>(k,a,by rw[Wl];lia);cases a with
 | s d =>
  ext d
  case bring n day =>
   erw[5,h.n,55,λe he=>?_,λx hx=>?_]
   .show ((s.2.o8 ++ [[]]).getD i []).filterMap _=_;rw[MP];rwa[h.d.trans (congrArg (List.map evD) no.6)]
   .show ∀r∈(s.2.o8 ++ [[]]).getD i [],_;rw[MP];rwa[h.r]
   .show (s.2.o8 ++ [[]]).9=(s.2.i9 ++ [_]).9;rw[Wl,Wl,h.h]
   .let(n,d,e1,e2):=h.b e (no▸he);erw[n,d,5,e2];show (s.2.i9 ++ [_])[i]?=_;rw[zS (xF.mp e1).1];rwa[e1]
   .rcases xL.mp hx with z | z
    .rwa[h.s x z]
    .rwa[n,day,xU.mp z]
  case give j x y day =>
   let hg:=g.2.1;simp only[eSD,yH] at hg;let((j0,j1),hd):=Nd hg.2.1;let eE:evE bs i u.2 (.s (.give j x y day))=if j=(i:Int) then 8 (day,8 x,y) else none:=rfl
   let(a1,a2,a3,a4,a5):=h.put (e:=(day,8 x,y)) (o:=.non) (oe:=evE bs i u.2 (.s (.give j x y day))) (m':=(Vw s (.s (.give j x y day))).2) j0 j1 hd S S S (xD _) (1 S) (λz=>by rw[eE,_j z];rfl) (by rw[eE];split;rwa[2 S];rwa[1 S]) (λz=>by rw[eE,_i z]);rwa[a1,h.n,a2,a3,a4,a5]
  all_goals rwa[h.d.trans (congrArg (List.map evD) no.6),h.n,h.r,h.h,λe he=>h.b e (no▸he),h.s]
 | c d day need o1 o2 f =>
  ext d
  case clm x j =>
   let(22222222,hg,2):=g;simp only[eCD,CI,yH] at hg;let((j0,j1),hd):=Nd hg.2.2.1;let hn:=h.n;let tl:((Vw s (.c (.clm x j) day need o1 o2 f)).2.oX).9=s.2.oX.9+1:=Wl _ _;let eE:evE bs i u.2 (.c (.clm x j) day need o1 o2 f)=if j=(i:Int)/\bs.getD u.2 _x=_t then 8 (day,_n,x) else none:=rfl
   let(a1,a2,a3,a4,a5):=h.put (e:=(day,_n,x)) (o:=4 s.2.oX.9) (oe:=evE bs i u.2 (.c (.clm x j) day need o1 o2 f)) (m':=(Vw s (.c (.clm x j) day need o1 o2 f)).2) j0 j1 hd S S S (by rw[tl];lia) (2 (1,by rw[tl];lia)) (λz=>by
    rw[eE,hn];show (if bs.getD (s.2.oX.9:Int).toNat _x=_t then 8 (evD (day,_n,x)) else _n)=_;rw[yJ]
    by_cases y:bs.getD s.2.oX.length _x=_t
    .rw[_j y,_j (z,y)];rfl
    .rw[_i y,_i (λq=>y q.2)];rfl) (by rw[eE];split;rwa[2 S];rwa[1 S]) (λz=>by rw[eE,_i (λq=>z q.1)])
   rwa[a1,by rw[tl];show u.2+1=_;rw[hn],a2,a3,a4,a5]
  all_goals rwa[h.d.trans (congrArg (List.map evD) no.6),(congrArg (· + 1) h.n).trans (Wl _ _).6,up,h.h,λe he=>h.b e (no▸he),h.s]
def gB(bs:List Bool)(i:Nat)(g:VJ as):UM bs i (Zg as).2 (evT bs i as):=by
 let a:∀k,k<=as.9->UM bs i (Zg (as.take k)).2 (evT bs i (as.take k)):=by
  intro k
  induction k with
  | zero=>rwa[λ_=>(33,(λ_ z=>nomatch z),3,(λ_ z=>nomatch z),λ_ z=>nomatch z)]
  | succ k c =>
   intro b;obtain⟨x,b⟩:∃x,as[k]?=8 x:=(2,xB ());have:=(c ()).step (g.2 k x b);rw[show as.take (k+1)=as.take k ++ [x] by rw[xQ,b];rfl,JB];unfold evT at this |-;rw[zB];rwa[this]
 have:=a as.length (xD _)
 (rw[xZ] at this;assumption)
theorem Ko:∀{as:List AD}{u:List Ev×Nat},e∈(as.foldl (evS bs i) u).1->e∈u.1\/∃a∈as,∃c,evE bs i c a=8 e
 | [],_,h=>1 h
 | a::as,u,h=>by
  rcases Ko (as:=as) h with z | ⟨b,hb,z⟩
  .rcases xL.mp z with y | y
   .rwa[1 y]
   .grind
  .grind
theorem EM:∀{as:List AD}{u:List Ev×Nat},(as.foldl (evS bs i) u).1.9<=u.1.9+as.9
 | [],u=>xD _
 | a::as,u=>by
  let b:=EM (bs:=bs) (i:=i) (as:=as) (u:=evS bs i u a);let b:(evS bs i u a).1.9<=u.1.9+1:=by
   show (u.1++_).9<=_;rw[xI];cases evE bs i u.2 a<;>simp
  rw[zL,yN];lia
def jG(b:∀x∈as,dyA x)(h:e∈(evT bs i as).1):e.at_<=40:=by
 rcases Ko h with z | ⟨a,ha,k,z⟩
 .ext z
 .have:=b a ha;cases a with
  | s d =>
   ext d
   case give j x y b =>
    unfold evE at z;dsimp only at z;split at z
    .ext z;rwa[this]
    .ext z
   all_goals ext z
  | c d b g l m f =>
   ext d
   case clm x j =>
    unfold evE at z;dsimp only at z;split at z
    .ext z;rwa[this]
    .ext z
   all_goals ext z
def Lr(as:List AD):(Zg as).2.i9=(as.filter Yn).map FX:=by
 suffices h:∀(as:List AD)(s:V8),(as.foldl Vw s).2.i9=s.2.i9++(as.filter Yn).map FX from h as _
 intro as
 induction as with
 | nil=>rwa[λs=>(xT _).6]
 | cons a as b =>
  intro s;rw[zL,b];cases a with
  | s d =>
   ext d
   case bring n a =>
    show (s.2.i9 ++ [_])++_=s.2.i9++(FX (.s (.bring n a))::_);rw[yW];rfl
   all_goals rfl
  | c d a b e g f=>ext d<;>rfl
def NN(g:∀x∈as,dyA x)(h:Zy (Zg as).1 n=8 x):x.1<=40:=by
 let b:∀i,i<=as.9->Zy (Zg (as.take i)).1 n=8 x->x.1<=40:=by
  intro i
  induction i with
  | zero=>exact λ_ z=>by ext z
  | succ i j =>
   intro a h;obtain⟨a,c⟩:∃a,as[i]?=8 a:=(2,xB ());let f:as.take (i+1)=as.take i ++ [a]:=by rw[xQ,c];rfl
   cases e:Zy (Zg (as.take i)).1 n with
   | some z =>
    let y:=Kn (as:=as.take (i+1)) (i:=i) (n:=n) (d:=z) (by rw[List.take_take,mE (me i)];rwa[e]);rw[h] at y;ext y;rwa[j () e]
   | none =>
    rw[f,A9,LV e] at h;let e:=g a (xM c);split at h
    .split at h
     .ext h;rwa[e]
     .ext h
    .ext h
 rwa[b as.length (xD _) (by rw[xZ];rwa[h])]
def Lm(g:VJ as)(e:WH (Zg as).2)(a:as.9<=40)(h:(as.filter Yn)[i]?=8 (.s (.bring n d))):CP (Zg as).2 i n d (evT (Zg as).2.j9 i as).1:=by
 let E:=gB (Zg as).2.j9 i g;let a:(Zg as).2.i9[i]?=8 (7 [5 n,4 d]):=by rw[Lr,xG,h];rfl
 let c:=(xF.mp a).1;let b:(Zg as).2.o8[i]?=8 ((Zg as).2.o8.getD i []):=by
  have:i<(Zg as).2.o8.9:=by rw[E.h];rwa[c]
  rw[xR,xB this];rfl
 erw[a,(2,b,by rw[DR,e.vl];rwa[E.r],E.d),5,λe f=>?_]
 .have:(evT (Zg as).2.j9 i as).1.9<=0+as.9:=EM;lia
 .let(k,j,b,c):=E.b e f;rw[a] at b;ext b;rwa[c]
def Ky(as:List AD):(evT bs i as).2=(Zg as).2.oX.9:=by
 suffices h:∀(as:List AD)(s:V8)(u:List Ev×Nat),u.2=s.2.oX.9->(as.foldl (evS bs i) u).2=(as.foldl Vw s).2.oX.9 from h as _ _ S
 intro as
 induction as with
 | nil=>rwa[λs u h=>h]
 | cons a as b=>rwa[λs u h=>b _ _ (by rw[Rj,<- h];rfl)]
theorem Il:∀{as:List AD}{u:List Ev×Nat},u.2<=(as.foldl (evS bs i) u).2
 | [],_=>xD _
 | a::as,u=>xX (Nat.le_add_right _ _) (Il (as:=as) (u:=evS bs i u a))
def dW(c:¬Y1 x="give")(e:¬Y1 x="claim"):evE bs i k x=none:=by
 cases x with
 | s d=>ext d<;>first | rfl | rwa[_a S c]
 | c d b a g h f=>ext d<;>first | rfl | rwa[_a S e]
def Oo(h:Y1 x="give"):∃j a b d,x=.s (.give j a b d):=by
 cases x with
 | s d=>ext d<;>first | rwa[2228]| (rwa[_a h (by simp only[Y1];decide +kernel)])
 | c d e c g i f=>ext d<;>rwa[_a h (by simp only[Y1];decide +kernel)]
def gL(h:Y1 x="claim"):∃a j day b e g f,x=.c (.clm a j) day b e g f:=by
 cases x with
 | s d=>ext d<;>rwa[_a h (by simp only[Y1];decide +kernel)]
 | c d day b e g f=>ext d<;>first | rwa[2222228]| (rwa[_a h (by simp only[Y1];decide +kernel)])
def NJ(h:ZC H J):Ue H J:=(λb L e=>h _ _ e)
inductive AE:Sp
 |mk(s:jY) (W:WL) (d:jV) (a c:List AD) (b:Nat)(_:vs=[3 W.wl,4 b]/\ZZ s H d W a c (Zg a).2.oX/\WH (Zg a).2/\a.9<=1000/\∀(l:jY)(c:aG)(J:Hp),H l=_n->J l=8 (6 c)->TR J ((evT (Zg a).2.j9 b a).1.map evV) c->ZC H J->Q (3 l) J)
abbrev MV:Stmt:=top 96
def XG(b5:YB K mg "_law_moot_events" MV)(T:Txt mg)(b4:10 Fn "_law_is_case" lB 1 Jz)(b3:10 Fn "_law_settled" ["_law_suits"] 3 VN):10 Fn "_law_moot_events" lT 4 AE:=by
 erw[b5.fq ["_law_world","_law_thing","_law_told","_law_events","_law_case","_law_deed_here"] λH vs Q E hr h=>?_];let(s,W,fx,t,bs,g,7,hW,ok,al,k):=h;erw[72,(11 (Zv 2 (Zm b3 (0 (Zh Z6 Q0 Zd)))) (Zv 3 (Yl Zb)) (Zv 4 (Vj Vl Zd)) (Wd mL rfl (Y2 (Zh Z6 Q0 Zd)) (Yc 5) (11 (Zt (Wz (Zm b4 (0 Q5))) (Zf (Zv 4 (Z3 Wh Q4 Zd))) Zs) (Zt (QW.pt (V0 (Zo Yh (Zh Zn Q5 Zd) Z5 (Zq _)) (Jg (Zo Yh (Zh Zn Q5 Zd) Q1 (Zq _))))) (Zf (Zk (Ys aD aE aF Yz Q3 (0 (Yb (0 (Zh Zn Q5 Zd) Z5 (Zh Zn Q5 Zd) (Zh Zn Q5 Zd))))))) Zs) (Zt (QW.pt (V0 (Zo Yh (Zh Zn Q5 Zd) Z5 (Zq _)) (V0 (Zo Yh (Zh Zn Q5 Zd) Q1 (Zq _)) (Jg (Wz (Zh Z6 Q2 Q4)))))) (Zf (Zk (Ys aD aE aF Yz Q3 (0 (Yb (0 (Zh Zn Q5 Zd) Z5 Y3 (Zh Zn Q5 Zd))))))) Zs))) (Zr Q3)),5];let hz:=aC
 let(vs,hv,c3):=id hW.d;let a8:=c3.9;rw[xA] at a8;let(us,hu,c2):=id hW.u;let tl:=ok.le;let su:ZT H (Zg t).2.oX W.sl:=(us,hu,c2.oy Ej);erw[Yy λD1 b6=>?_];erw[8,W.wl,2,(1),3 W.sl,77,9 hW.e,7,W.sl,8,su,6,λl2 H1 k1 S1=>Z4 (b6 _ _ ?_)];rw[<- Qf] at k1;let vl:=ok.vl;generalize c5:(Zg t).2.j9=l at k1 vl k;erw[Yy λD2 b7=>?_];erw[aB rfl,λx G=>Z4 (b7 _ _ ?_)];let a7:=S1.free G;erw[nw (o:=6 []) G λH2 S2 k2=>?_];let a0:=S1.trans S2;erw[Yy λD3 b8=>(8,b8 _ _ ?_)];erw[Yy λD4 b9=>?_];erw[8,W.wl,2,(0),3 W.dl,77,9 (a0 _ _ hW.e),7,W.dl,7,(2,9 (a0 _ _ hv)),5];let a5:∀{J:Hp},ZF x H2 J->ZC H J:=λL b o e=>L b o (λz=>by rw[z] at e;rw[S1 _ _ e] at G;ext G) (a0 _ _ e);let c4:l2≠x:=λz=>by rw[z,G] at k1;ext k1
 erw[Vo vs (λi Y J=>∃(v5:Option V)(cz:Int)(B:aG),Y=[8 (3 W.wl),8 (4 g),8 (3 l2),8 (3 x),8 (4 cz),v5]/\cz+1=((evT l g (t.take i)).2:Int)/\J x=8 (6 B)/\TR J ((evT l g (t.take i)).1.map evV) B/\ZF x H2 J) (_n,-1,[],77,k2,7,λ_ _ _ e=>e) (λi Y J _ ⟨_,_,_,_,_,_,_,L⟩=>9 (a5 L _ _ hv)) ?_ ?_]
 .rintro i y Y J hy hI;erw[opq λD0 a2 _ _ _=>?_];let(v5,cz,B,7,hc,O,rp,L):=hI;let S:=a5 L;let a9:ZN (fz fx J) (t.map adT) vs:=by
   let(c9,e,r):=(hW.same S).d;rw[S _ _ hv] at e;ext e;rwa[r]
  let(x0,b0,re):=a9.get hy;rw[xG] at b0;let(I,b1,7):=xS.mp b0;let et:evT l g (t.take (i+1))=evS l g (evT l g (t.take i)) I:=by
   unfold evT;rw[xQ,b1];rwa[zB ..]
  let ul:(evT l g (t.take i)).1.9<=i:=by
   have:(evT l g (t.take i)).1.9<=0+(t.take i).9:=EM;rw[xY] at this;lia
  let un:=(Ky (bs:=l) (i:=g) (t.take i));let hi:i<t.9:=(xF.mp b1).1;let a1:(evT l g (t.take (i+1))).2<=l.9:=by
   let h1:=(Ky (bs:=l) (i:=g) t);let h2:evT l g t=(t.drop (i+1)).foldl (evS l g) (evT l g (t.take (i+1))):=by unfold evT;rw[<- zB,zD]
   rw[vl,<- h1,h2];rwa[Il]
  rw[et] at a2 a1;generalize evT l g (t.take i)=u at hc rp ul un a2 a1;let ml:=rp.9;rw[xA] at ml;erw[Z4 ?_];erw[opq λD5 c0 _ _ _=>?_];let a6:∀{e:Ev}{U:Hp}{d:jY},ZC J U->U d=8 (7 (evV e))->U x=8 (6 B)/\TR (upd U x (6 (B ++ [3 d]))) ((u.1 ++ [e]).map evV) (B ++ [3 d])/\ZF x H2 (upd U x (6 (B ++ [3 d]))):=λ{e U d} X hd=>by
   let a3:=X _ _ O;erw[a3,5,λb o n e=>by rw[Ze n];rwa[X _ _ (L b o n e)]];rw[xH];rwa[TR.snoc (Uq a3 _ _ hd) (TR.mono (λb o e=>Uq a3 _ _ (X _ _ e)) rp)]
  let A:∀{v:Int}{a4:aG}{C:Hp}{es:List Ev}{v5:Option V},v=cz+(if isC I=_t then 1 else 0)->(evE l g u.2 I).toList=es->C x=8 (6 a4)->TR C ((u.1++es).map evV) a4->ZF x H2 C->D0.nx [8 (3 W.wl),8 (4 g),8 (3 l2),8 (3 x),8 (4 v),v5] C:=λ{v a4 C es v5} e1 e2 h1 h2 h3=>by
   erw[a2 _ _ (2,v,85,h1,by unfold evS;rw[e2];rwa[h2],h3)];rw[e1];show _=((u.2+(if isC I=_t then 1 else 0):Nat):Int);split<;>lia
  let nil:∀{C:Hp},ZC J C->TR C ((u.1 ++ []).map evV) B:=λm=>by rw[xT];rwa[TR.mono (NJ m) rp]
  let(q,c8,7,hq,hw):=Bu re;erw[82,fx,I,7,re,λC m=>(8,5)];let c:=ZO.of (K:=K) (m _ _ hq);let R:ZF x H2 C:=λb o n e=>m _ _ (L b o n e);let next:∀v:Int,v=cz+(if isC I=_t then 1 else 0)->D5.nx [8 (3 W.wl),8 (4 g),8 (3 l2),8 (3 x),8 (4 v),8 (3 q)] C:=λv ez=>by
   erw[c0 _ _ ?_];dsimp only
   by_cases wp:Y1 I="give"
   .let(j,a,b,d,7):=Oo wp;let(q',e',N):=By re;ext e';let eE:evE l g u.2 (.s (.give j a b d))=if j=(g:Int) then 8 (d,8 a,b) else none:=rfl
    let c:=ZO.of (K:=K) (m _ _ N);erw[Yy λD6 M=>?_];erw[8,q,2,(0),5 "give",77,c,778,Zx (λ_=>?_) (λz=>_a rfl z)];erw[8,q,2,(1),4 j,77,c,7878,Zx (λz=>?_) (λz=>M _ _ ?_)]
    .let z:j=g:=by injection z
     erw[8,1 (72,9 (m _ _ O)),8,q,2,(4),4 d,77,c,78,q,2,(2),5 a,77,c,78,q,2,(3),5 b,77,c,7,aB rfl,λp hp=>?_];erw[nw (o:=7 [4 d,5 "given", 5 a,5 b]) hp λU X k4=>?_];let(a1,a2,a3):=a6 (e:=(d,8 a,b)) (m.trans X) k4;erw[x,B,3 p,77,a1,6,M _ _ ?_];erw[8,q,2,(0),5 "give",77,ZO.of (Uq a1 _ _ (X _ _ (m _ _ N))),778,Zx (λz=>_a z (E7 aA)) (λ_=>Zz ?_)];rwa[A ez (by rw[eE,_j z];rfl) Zi a2 a3]
    .erw[8,q,2,(0),5 "give",77,c,778,Zx (λz=>_a z (E7 aA)) (λ_=>Zz ?_)];rwa[A (es:=[]) ez (by rw[eE,_i (λy=>z (by rw[y]))];rfl) (m _ _ O) (nil m) R]
   erw[Yy λD6 M=>?_];erw[8,q,2,(0),5 (Y1 I),77,c,Yo hw,78,Zx (λz=>_a (by injection z) wp) (λ_=>Zz (M _ _ ?_))];erw[8,q,2,(0),5 (Y1 I),77,c,Yo hw,78,Zx (λz=>?_) (λz=>Zz ?_)]
   .let wq:Y1 I="claim" := by injection z
    let(a,j,F,b2,o1,o2,f,7):=gL wq;let(q',c6,c7,e',N,2):=Di re;ext e';let c1:u.2<l.9:=a1;let c:=ZO.of (K:=K) (m _ _ N);obtain⟨bb,hb⟩:∃bb,l[u.2]?=8 bb:=(2,xB c1);let hg:l.getD u.2 _x=bb:=by rw[xR,hb];rfl
    let ow:evE l g u.2 (.c (.clm a j) F b2 o1 o2 f)=if j=(g:Int)/\bb=_t then 8 (F,_n,a) else none:=by unfold evE;rw[hg]
    erw[8,q,2,(2),4 j,77,c,7878,Zx (λz=>?_) (λz=>Zz ?_)]
    .let z:j=g:=by injection z
     erw[88,l2,2,u.2,.bl bb,7,congrArg V.int (by rw[ez];show cz+1=_;lia),9 (m _ _ (L _ _ c4 (S2 _ _ k1))),Yo (by rw[xG,hb];rfl),bb,75];cases bb with
     | false=>rwa[Zz (A (es:=[]) ez (by rw[ow,_i (λy=>nomatch y.2)];rfl) (m _ _ O) (nil m) R)]
     | true =>
      erw[Z7 ?_];erw[8,1 (72,9 (m _ _ O)),8,q,2,(3),4 F,77,c,78,q,2,(1),5 a,77,c,7,aB rfl,λp hp=>?_];erw[nw (o:=7 [4 F,5 "won", .non,5 a]) hp λU X k4=>?_];let(a1,a2,a3):=a6 (e:=(F,_n,a)) (m.trans X) k4;rwa[x,B,3 p,77,a1,6,A ez (by rw[ow,_j (z,7)];rfl) Zi a2 a3]
    .rwa[A (es:=[]) ez (by rw[ow,_i (λy=>z (by rw[y.1]))];rfl) (m _ _ O) (nil m) R]
   .rwa[A (es:=[]) ez (by rw[dW wp (λy=>z (by rw[y]))];rfl) (m _ _ O) (nil m) R]
  cases ic:isC I with
  | true =>
   erw[Z7 (8287,next _ ?_)];rw[ic];rfl
  | false =>
   erw[Zz (next _ ?_)];rw[ic];rwa[(Int.add_zero _).6]
 .rintro Y J ⟨v5,cz,B,rfl,hc,O,rp,L⟩;rw[a8,xZ] at rp;erw[b9 _ _ (8,5)];rwa[k x B J a7 O rp (a5 L)]
def Hy{H:Hp}{d:jV}{as:List AD}{a:jY}{vs:aG}{n:St}{Q:VK}(o:H a=8 (6 vs))(j:ZN (fz d H) (as.map adT) vs)(w:as.9<=1000)(v:∀l ys,H l=_n->ZN (fz d H) ((as.filter Yn).map adT) ys->Q (3 l) (upd H l (6 ys))) :
  Uj (JO K a) 1 n (Wv 0) (BN (Jr CC (Jr (Tx K) (YL 0) (tC (V.int 0))) (tC (V.str "bring")))) (YL 0) Q H:=by
 let g:=j.9;rw[xA] at g;erw[Uw (L:=vs) (λi ys J=>J=H/\ZN (fz d H) (((as.take i).filter Yn).map adT) ys) (3,3) () (λi ys J _ ⟨e,_⟩=>by rw[e];rwa[9 o]) (λi ys J ⟨_,e⟩=>by rw[e.9,xA];rwa[xX (yE _ _) (by rw[xY];lia)]) ?_ ?_]
 .rintro i x ys J s ⟨rfl,e⟩ A f;let(u,3):=Uh f;let(B,b,k):=j.get s;rw[xG] at b;let(c,h,3):=xS.mp b;let(q,t,3,p,r):=Bu k;let m:as.take (i+1)=as.take i ++ [c]:=by rw[xQ,h];rfl
  rw[m,yQ];erw[([_],33),1,q,2,(0),5 (Y1 c),33,ZO.of p,Yo r,31,Zx (λz=>(1,35)) (λz=>(3,5))]
  .rw[wP ((BH c).mp (by injection z)),xH];rwa[ZN.snoc k e]
  .rw[wQ (λy=>z (by rw[(BH c).mpr y]))];show ZN _ ((_ ++ []).map _) _;rw[xT];rwa[e]
 .grind
inductive A4:Sp
 |mk(s:jY) (W:WL) (d:jV) (a c:List AD) (i:Nat) (n:Str) (b:Int)(_:vs=[3 W.wl,4 i]/\ZZ s H d W a c (Zg a).2.oX/\a.9<=1000/\(a.filter Yn)[i]?=8 (.s (.bring n b))/\∀(l:jY)(J:Hp),H l=_n->J l=8 (7 [5 n,4 b])->ZC H J->Q (3 l) J)
abbrev MC:Stmt:=top 97
def NM(a:YB K mg "_law_brought" MC)(T:Txt mg):10 Fn "_law_brought" lT 1 A4:=by
 erw[a.fq ["_law_world","_law_thing","_law_deed_here"] λH c Q E a h=>?_];let(s,W,g,a,d,i,n,j,3,b,e,f,k):=h
 refine(32,(11 (Zv 2 (Zh Z6 (Vg (locs:=lB) (fr:=[]) (3,aA,aA,aA,aA,aA) .nil S (Y2 (Zh Z6 Q0 Zd)) ⟨λ_ _ _ _ _ _=>by
  let a:(inN lB []).Nodup:=aA
  rwa[(Y9 0 a),(Um (Zo Yh (Zh AK (Yj 0) Zd) Z5 (Zq _))),(Yj 0)]⟩) Q1)) (Zr (Yb (0 (Zh Zn Q2 Zd) (Zh Zn Q2 Zd))))),5)
 let a:=aC
 let(c,d,a):=id b.d;erw[Yy λg c=>?_];erw[1,W.wl,2,(0),13,9 b.e,3,W.dl,3,(2,9 d),5];erw[Hy d a e λl e a g=>?_];erw[nw a λa b h=>?_];let a:=g.9;rw[xA] at a;let a:=(xF.mp f).1;let d:e[i]?=8 e[i]:=xB ();let(o,a,m):=g.get d;rw[xG,f] at a;ext a;let(q,f,a):=By m;rw[f] at d;let a:=ZO.of (K:=K) (b _ _ a);erw[1,l,e,i,3 q,33,9 h,Yo d,Z4 (c _ _ ?_)];erw[1,q,2,(1),5 n,33,a,31,q,2,(2),4 j,33,a,3,aB S,λp a=>?_];rwa[k p _ (b.free a) Zi (b.trans (ZC.new a))]
inductive J0:Sp
 |mk(l) (us) (st)(_:vs=[3 l]/\H l=8 (6 us)/\TR H (st.map stV) us/\Q (oV (Vd st)) H)
abbrev LA:Stmt:=top 98
def NH(a:YB K mg "_law_last" LA)(T:Txt mg):10 Fn "_law_last" ["_law_steps"] 1 J0:=by
 erw[a.fq ["_law_steps"] λH b Q E a h=>?_];let(l,b,st,3,e,d,k):=h;erw[72,(11 (Zt (Zo Yh (Z1 Yw T.len Yk (0 Q0)) Zd (Zq _)) (Zf (Zr Y3)) Zs) (Zr (Zh Zn (Zh Z6 Q0 (Vj Vl Zd)) Zd))),5];let a:=d.9;rw[xA] at a;erw[1,l,b,3,1 (9 e),31,Zx (λz=>?_) (λz=>?_)]
 .let z:V.int b.9=V.int 0:=z;let z:st=[]:=by injection z;rwa[mJ ()]
  rw[z] at k;rwa[k]
 .let f:st ≠ []:=λy=>z (by rw[a,y];rfl);let(a,c):=BI f;let a:=d;rw[c,xH] at a;let(h,c,d,2,g):=TR.last a;let a:atI b (-1)=8 (3 c):=by rw[d];rwa[BP]
  erw[11,l,b,-1,3 c,33,9 e,a,c,2,(3),5 (Ws st).t,33,ZO.of g,35];rw[show Vd st=8 (Ws st).t from _i f] at k;rwa[k]
section
variable{C CM T:jY}
def Me(g:VJ as)(p:∀x∈as,dyA x)(j:i<(as.filter Yn).9):∃n d,(as.filter Yn)[i]?=8 (.s (.bring n d))/\0<=d/\d<=40:=by
 let t:=yY j;let(b,e):=zN.mp t;let u:(as.filter Yn)[i]?=8 (as.filter Yn)[i]:=xB j;generalize (as.filter Yn)[i]=x at *;let o:=p x b;let(k,r):=List.getElem?_of_mem b;let m:=g.2 k x r;cases x with
 | c d a l v w f=>ext e
 | s d =>
  ext d
  case bring n a =>
   let h:=m.2.1;simp only[eSD,yH] at h;let h:=h.1;unfold eM at h;split at h
   .rename_i z;rwa[n,a,u,z.1,o]
   .ext h
  all_goals ext e
def rdA(as:List AD)(i:Nat)(day:Int):List YJ:=match (as.filter Yn)[i]? with
 | some (.s (.bring n d))=>Vf (Zg as).1 n d (evT (Zg as).2.j9 i as).1 day
 | _=>[]
def gZ(g:VJ as)(b:as.9<=40):YM (Zg as).1:=(λn a=>g.ranked.oM b n a)
def XB(a:∀x∈as,dyA x)(h:(as.filter Yn)[i]?=8 (.s (.bring n d)))(b:d<=40):Vf (Zg as).1 n d (evT (Zg as).2.j9 i as).1 (if day<40 then day else 40)=rdA as i day:=by
 let e:rdA as i day=Vf (Zg as).1 n d (evT (Zg as).2.j9 i as).1 day:=by unfold rdA;rw[h]
 rw[e];split
 .rfl
 .rwa[(bK b () (λe b=>jG a b) (λn x b=>NN a b)).6]
theorem Gj:∀L:List Nat,ZN H (L.map λ(i:Nat)=>D.int i) (L.map λ(i:Nat)=>V.int i)
 | []=>rfl
 | _::L=>(4,Gj L)
theorem MB:∀L:List Nat,Uo (L.map λ(i:Nat)=>D.int i)=0
 | []=>rfl
 | x::L=>by show max 0 _=0;rw[MB L];rfl
theorem HH:∀st:List YJ,Uo (st.map stD)<=1
 | []=>yI _
 | s::st=>by
  have:=HH st;let e:(stD s).deep<=1:=by
   show max 0 (max 0 (max (oD s.g).deep (max 0 0)))+1<=1;cases s.g<;>rwa[xD _]
  show max (stD s).deep (Uo (st.map stD))<=1;lia
def Gv(h:H l=_n)(S:ZC H J):ZC H (upd J l o):=(λb u e=>by
 rw[Ze (λz=>by rw[z,h] at e;ext e)];rwa[S _ _ e])
def ZS.src(h:ZS H T nm)(hs:ZM H s la)(k:ZF s H J):ZS J T nm:=by
 let(d,i,b,st,c,a,2):=hs;rwa[h.x a k]
def gA(E:YM F)(h:es.9<=60):(Vf F n d0 es day).9<=2501:=by
 unfold Vf;split
 .rwa[yI _]
 .let a:=Du E day ((byD d0 (day+1 - d0).toNat es).foldl (Wt F) [We n d0]);let a:=BR E (byD d0 (day+1 - d0).toNat es) [We n d0];let a:=FZ (lo:=d0) (n:=(day+1 - d0).toNat) (es:=es);let a:([We n d0]:List YJ).9=1:=rfl;lia
inductive Te(C CM T:jY):Sp
 |mk(p s la nl) (W) (ns) (fx) (as) (O)(_:vs=[3 s,3 p,3 W.wl,3 nl]/\Ww C CM p s la nl W ns H fx (Zg as) as O/\Wk ns as/\Cm ns (Zg as).1/\(∀x∈as,dyA x)/\ZS H T TK/\ns.9<=40/\as.9<=40/\∀J,Ww C CM p s la nl W ns J fx (Zg as) as O->ZS J T TK->Q (.bl _t) J)
abbrev Cg:Stmt:=top 99
def IA:ZK lp lz (Zj Cg):=(fsc)
def EL:Nm (Zj Cg) "_law_held" .cell:=(aA)
def FB:Nm (Zj Cg) "_law_name" .cell:=(aA)
def Xo(e:YB K mg "_law_right" Cg)(T0:Txt mg)(Tm:ZP K CM)(m:10 Fn "_law_next" lj 1 YI)(j:10 Fn "_law_moot_events" lT 4 AE)(l:10 Fn "_law_brought" lT 1 A4)(i:10 Fn "_law_road" lR 4 UZ)(g:10 Fn "_law_last" ["_law_steps"] 1 J0)(c:10 Mt CM "road" lJ 7 (Tg C CM T))(a:10 Mt CM "holder" lJ 7 (VO C CM T))(b:10 Mt CM "holds" lu 8 (UI C CM T))(d:10 Fn "_law_same" lK 6 (VU 4)):10 Fn "_law_right" lz 9 (Te C CM T):=by
 erw[e.fq lp λH t Q E e h=>?_];let(p,s,r,nl,W,ns,o,f,O,3,U,R,cm,dy,n,e,hl,k):=h;let T:=T0
 refine(32,(11 (Zv 4 (Z1 Yw T.len Yk (0 (Vg (locs:=lB) (fr:=[]) (3,aA,aA,aA,aA,aA) .nil S (Y2 (Zh Z6 Q2 Zd)) ⟨λ_ _ _ _ _ _=>by
  let e:(inN lB []).Nodup:=aA
  rwa[(Y9 0 e),(Um (Zo Yh (Zh AK (Yj 0) Zd) Z5 (Zq _))),(Yj 0)]⟩)))) (Wd mL S (Y2 (Yl (0 (Zm m (0 Q0 Zd)) Zd))) (Yc 5)
 (11 (FO (i:=6) IA.nd EL (Yl Zb)) (Wd mL S (J3 T.range (0 Q4)) (Yc 7)
 (11 (Zv 8 (Zm l (0 Q2 Q7))) (Zv 9 (Zm i (0 (Zh Z6 Q2 Zd) Q8 (Zm j (0 Q2 Q7)) (Z1 (LF (by rfl)) T.min EK (0 Q5 Zd))))) (Zv 10 (Ve Q1 Tm.cl c (0 Q7 Q5))) (Zt (QW.pt (CZ (Uk (Wz (Zm d (0 Q9 (qvN 9))))) (Cr (Uk (Wz (Zm d (0 (Ve Q1 Tm.cl a (0 Q7 Q5)) (Zm g (0 (qvN 9)))))))))) (Zf (Zr Ul)) Zs) (Zk (Ys aD aE aF Yz Q9 (0 (Yb (0 Zd Z5 Y3 Z5))))) (Zk (Ys aD aE aF Yz (qvC 6 EL) (0 (Zm g (0 (qvN 9)))))))) (Wd mL S (Y2 Q3) (Hv (i:=11) IA.nd FB)
 (11 (Zv 10 (Ve Q1 Tm.cl b (0 (qvC 11 FB) Q5))) (Zt (Uk (Wz (Zm d (0 Q9 (Vg (locs:=["_law_thing"]) (fr:=[("_law_held",(6)),("_law_name",(11))]) (3,aA,aA,aA,aA,aA) (.ig EL (.ig FB .nil)) S (J3 T.range (0 Q4)) ⟨λ_ _ _ _ _ _=>by
  let e:(inN ["_law_thing"] [("_law_held",(6)),("_law_name",(11))]).Nodup:=aA
  rwa[(Y9 0 e),(Um (Zo Yh (Zh B9 (Wp 1) (Yj 0)) (Wp 2) (Zq _))),(Yj 0)]⟩))))) (Zf (Zr Ul)) Zs) (Zk (Ys aD aE aF Yz Q9 (0 Zd))))))) (Zr Ul)),5)
 let a:=aC
 let(t,a,c):=id U.wd.d;erw[Yy λd b=>?_];erw[1,W.wl,2,(0),13,9 U.wd.e,3,W.dl,3,(2,9 a),5];erw[Hy a c () λg ys c i=>?_];erw[nw c λc d e=>?_];let c:=i.9;rw[xA] at c;erw[g,ys,3,1 (9 e),Z4 (b _ _ ?_)];rw[c];let b:(f.filter Yn).9<=40:=xX (yE _ _) hl;let c:=U.same d;let e:=n.same d;erw[1,s,r,(30),3,c.sr,aA,aA,λd i j l g b=>?_];let i:=c.x g b;let g:=ZS.src e c.sr b;erw[aB S,λl b=>?_];erw[nw (o:=6 [4 d,4 9999]) b λe b n=>?_];let U3:=i.same b;let a2:=g.same b;let(M,g,L,c,eM,b,2):=id U3.w;let(dm,z):=b.ob;rw[eM] at z;generalize c:([4 d,4 9999]:aG)=b at n;let i:∀(j:Nat)(v:V),b[j]?=8 v->∃x:Int,v=4 x/\0<=x/\x<=9999:=by
  rw[<- c];intro j v a
  match j,a with
  | 0,a=>ext a;rwa[166]
  | 1,a=>ext a;rwa[166]
  | j+2,a=>simp at a
 erw[l,3,(2,9 n),5];erw[Vo b (λj Y J=>∃v5 v6 l m r d g,Y=[8 (3 s),8 (3 p),8 (3 W.wl),8 (3 nl),8 (4 (f.filter Yn).9),v5,v6,l,m,r,d,g]/\ZC e J) (_n,_n,_n,_n,_n,_n,_n,3,λ_ _ e=>e) (λj Y J _ ⟨_,_,_,_,_,_,_,_,e⟩=>9 (e _ _ n)) ?_ ?_]
 .rintro j v Y H4 a ⟨v5,v6,l,m,r,d,g,rfl,t⟩;let(c,3,y0,y1):=i j v a;let U4:=U3.same t;let a3:=a2.same t;let E0:=gZ R.g hl;let d4:(Zg f).2.il.9<=400:=by rw[DT];lia
  let bb:(Zg f).2.i9.9=(f.filter Yn).9:=by rw[Lr,xA]
  erw[Yy λb a=>?_];erw[aB S,λhq a5=>Z4 (a _ _ ?_)];erw[nw a5 λb a n=>?_];erw[Gf λi a9 b=>?_];erw[11665];erw[Ap (f.filter Yn).length () (λi Y J=>∃l m r d g,Y=[8 (3 s),8 (3 p),8 (3 W.wl),8 (3 nl),8 (4 (f.filter Yn).9),8 (4 c),8 (3 hq),l,m,r,d,g]/\ZC H4 J/\J hq=8 (6 ((List.range i).map λj=>oV (Vd (rdA f j c))))) (l,m,r,d,g,3,a,n) ?_ ?_]
  .rintro i Y H6 a hI;erw[opq λD0 U _ _ _=>?_];let(l,m,r,d,g,3,u,k6):=hI;rw[Int.zero_add];let(n,E,M,z0,z1):=Me R.g dy a;let y:=Lm R.g R.ok hl M;let U6:=U4.same u;let a4:=a3.same u;let er:∀L,rdA f i L=Vf (Zg f).1 n E (evT (Zg f).2.j9 i f).1 L:=λL=>by unfold rdA;rw[M]
   erw[Yy λD4 N=>?_];erw[11,s,W,o,f,f.filter isC,i,n,E,3,U6.wd,6,M,λH H7 a F v=>Z4 (N _ _ ?_)];let U7:=U6.same v;erw[Yy λD5 Q=>?_];erw[1,W.wl,2,(0),3 W.dl,33,9 U7.wd.e,3111,s,W,o,f,f.filter isC,i,3,U7.wd,R.ok,6,λX us H8 a b A I=>?_];let a1:(evT (Zg f).2.j9 i f).1.9<=60:=y.2.2.1;let G:=v.trans I;erw[1215];let a:(if (40:Int)<c then (40:Int) else c)=if c<40 then c else 40:=by split<;>split<;>lia
   rw[a];let B:=U7.same I;let a:=I _ _ F;erw[W.dl,H,X,o,f,us,2,n,E,1,B.wd.d,a,b,A,a1,E0,z0,6,by split<;>lia,by split<;>lia,y.2.2.2,λld ud H9 fld X A S9=>Z4 (Q _ _ ?_)];rw[XB dy M z1] at A;let o:=B.same S9;let a:=G.trans S9;erw[Yy λB b=>?_];erw[1,p,dm,1,(t.trans (u.trans a)) _ _ z,Yi _ aA,11,p,22,O,i,c,n,E,1,o.w,R.ok,d4,y0,y1,y,E0,a4.same a,by rw[bb];lia,λF uf Ha a8 a6 a0 B=>Z4 (b _ _ ?_)];rw[<- er] at a0;let Ua:=o.same B;let a7:=a.trans B;let H:(D.lst ((rdA f i c).map stD)).deep<=4:=by
    show Uo _+1<=4;have:=HH (rdA f i c);lia
   erw[Gf λb b0 _=>?_];erw[11,3 F,3 ld,6 ((rdA f i c).map stD),3,(F,1,a6,a0.sts),(ld,1,B _ _ X,(A.mono (λb o e=>B _ _ e)).sts),H,λH Sb=>?_];let Ub:=Ua.same Sb;let H:=a7.trans Sb;erw[1,Zz ?_];erw[1,p,dm,1,(t.trans (u.trans H)) _ _ z,Yi _ aA,11,p,22,O,i,c,n,E,1,Ub.w,R.ok,d4,y0,y1,y,E0,a4.same H,by rw[bb];lia,λy Sc=>?_];rw[<- er];let y:=(B.trans Sb).trans Sc;erw[1,ld,ud,1,y _ _ X,A.mono (λb o e=>y _ _ e),5];erw[22,oD (Vd (rdA f i c)),3,Fy _,Fy _,by cases Vd (rdA f i c)<;>rwa[yI _],λHd y=>(1,Zz (b0 _ _ ?_))];let a4:=(H.trans Sc).trans y;let H:=(Sb.trans Sc).trans y;let y:=H _ _ a6;let a4:=a0.9;rw[xA] at a4;erw[Yy λD8 a4=>?_];erw[1,1 (32,9 y),aB S,λL a0=>?_];erw[nw (o:=7 [4 0,5 "won", .non,5 "x"]) a0 λHe Se _=>?_];erw[F,uf,3 L,33,Se _ _ y,5,a4 _ _ ?_]
   .have:=gA (n:=n) (d0:=E) (day:=c) E0 a1;rw[<- er] at this;lia
   let y:=Gv (o:=6 (uf ++ [3 L])) a8 ((B.trans H).trans Se);generalize (upd He F (6 (uf ++ [3 L])))=H at y |-;let H:=a.trans y;let a:=H _ _ k6;erw[1,1 (32,9 a),1,ld,ud,1,y _ _ X,A.mono (λb o e=>y _ _ e),hq,4,a,by rw[xA,yV];lia,U _ _ (22221,Gv a5 (u.trans H),5)];rw[Zi,wB,xH];rfl
  .rintro Y H6 ⟨l,m,r,d,g,rfl,u,k6⟩;erw[a9 _ _ ?_];let U6:=U4.same u;erw[1,nl,3,(2,9 U6.nm),5];erw[Vo (ns.map V.str) (λi Y J=>∃l m r d g,Y=[8 (3 s),8 (3 p),8 (3 W.wl),8 (3 nl),8 (4 (f.filter Yn).9),8 (4 c),8 (3 hq),l,m,r,d,g]/\ZC H6 J) (l,m,r,d,g,3,λ_ _ e=>e) (λi Y J _ ⟨_,_,_,_,_,_,e⟩=>9 (e _ _ U6.nm)) ?_ ?_]
   .rintro i x Y H7 a hI;erw[opq λD0 U _ _ _=>?_];let(l,m,r,d,g,3,v):=hI;obtain⟨n,b,rfl⟩:∃a,ns[i]?=8 a/\x=5 a:=by grind
    let(s,o):=cm.1 n (xM b);let a:=u.trans v;let U7:=U4.same a;let b:=a3.same a;erw[Yy λD4 N=>?_];erw[1,p,dm,1,(t.trans a) _ _ z,Yi _ aA,11,p,22,O,n,s,c,(λj=>Vd (rdA f j c)),3,U7.w,R.ok,d4,y0,y1,o,λj o=>?_,E0,b,by rw[bb];lia,λF H8 p b I=>Z4 (N _ _ ?_)]
    .let(n,E,M,z0,z1):=Me R.g dy (i:=j) ();rwa[n,E,2,Lm R.g R.ok hl M,by unfold rdA;rw[M]]
    rw[bb] at b;let G:=v.trans I;let a:=G _ _ k6;erw[Gf λD5 Q _=>?_];erw[111665];let y:∀j:Nat,(List.range (j+1)).filter (λi=>decide (Vd (rdA f i c)=8 n))=(List.range j).filter (λi=>decide (Vd (rdA f i c)=8 n))++(if Vd (rdA f j c)=8 n then [j] else []):=λj=>by
     rw[wB,yQ];congr 1
     by_cases z:Vd (rdA f j c)=8 n
     .grind
     .grind
    let s:=I _ _ (v _ _ k6);erw[Fg (f.filter Yn).length () (λj ys J=>J=H8/\ys=((List.range j).filter λi=>Vd (rdA f i c)=8 n).map λ(i:Nat)=>V.int i) (3,3) () (λj ys J h=>by rw[h.2,xA];rwa[xX (yE _ _) (by rw[yV];rwa[xD _])]) ?_ ?_]
    .rintro j ys J o ⟨rfl,rfl⟩ h a;let(h,3):=Ga a;rw[Int.zero_add];erw[([_],33),5];erw[11,hq,2,j,oV (Vd (rdA f j c)),33,9 s,Yo (by rw[xG,zV o];rfl),15];rw[y];cases e:Vd (rdA f j c) with
     | none =>
      erw[71,Zx (λz=>nomatch z) (λ_=>(3,5))];rw[_i (λz=>nomatch z),xT]
     | some x =>
      erw[71,Zx (λz=>?_) (λz=>?_)]
      .let z:V.str x=V.str n:=z;let z:x=n:=by injection z
       erw[135];rw[_j (by rw[z]),xH];rfl
      .erw[75];rw[_i (λy=>z (by rw[ma y];rfl)),xT]
    .rintro ys J ⟨rfl,rfl⟩ h a;erw[nw a λH9 S9 e=>?_];rw[show (List.range (f.filter Yn).9).filter (λi=>decide (Vd (rdA f i c)=8 n))=(List.range (f.filter Yn).9).filter λi=>decide ((λj=>Vd (rdA f j c)) i=8 n) from S] at e;let a:=yE (λi=>decide ((λj=>Vd (rdA f j c)) i=8 n)) (List.range (f.filter Yn).9);rw[yV] at a;generalize (List.range (f.filter Yn).9).filter (λi=>decide ((λj=>Vd (rdA f j c)) i=8 n))=c at b e a;let a:=S9 _ _ b;erw[3 F,3 h,6 (c.map λ(i:Nat)=>D.int i),3,(F,1,a,Gj c),(h,1,e,Gj c),by show Uo _+1<=4;rw[MB];decide,λHa B=>(1,Zz (Q _ _ ?_))];let a:=S9.trans B;erw[1,1 (32,9 (a _ _ b)),F,2,4 0,33,a _ _ b,by rw[xA];lia,U _ _ (22221,v.trans (Gv p (I.trans a)))]
   .rintro Y H7 ⟨l,m,r,d,g,rfl,v⟩;rwa[2222221,t.trans (u.trans v)]
 .rintro Y H4 ⟨v5,v6,l,m,r,d,g,rfl,t⟩;rwa[k _ (U3.same t) (a2.same t)]
end
section
variable{C CM p s la nl:jY}{W:WL}{ns:jS}{H J:Hp}{fx:jV}{as:List AD}{O O':jY->Prop}{q:jY}
def LD(ns:jS)(O:jY->Prop)(s:jY)(W:WL)(H:Hp)(q:jY):Prop :=
 (∃d,H q=8 (7 (sdV d))/\dOk ns d/\dyA (.s d))\/
 ∃c e d b a g h,H q=8 (7 (cdV b a c e d))/\H c=8 (6 (g.map V.str))/\H e=8 (6 (h.map V.str))/\cOk ns d/\El ns a g h/\(0<=b/\b<=9999)/\(∀f,dyA (.c d b a g h f))/\∀b ∈ [c,e],¬O b/\b ∉ [s,W.dl,W.sl,W.tl]
def iJ(ns:jS)(as:List AD)(H:Hp)(fx:jV)(q:jY)(x:AD):Prop :=
 Wk ns (as ++ [x])/\kss as (Zg as).2.oX x=(Zg (as ++ [x])).2.oX/\YC (fz fx H) (adT x) (3 q)/\dyA x/\∀d b a c e f,x=.c d b a c e f->c.9<=60/\e.9<=60
def Ww.tryD(U:Ww C CM p s la nl W ns H fx (Zg as) as O)(k:Wk ns as)(h:LD ns O s W H q){Q:V->Hp->Prop}{E:XK}(g:∀ (l:jY) (e:aG) (J:Hp) (O':jY->Prop),J l=8 (6 e)->YK O H O' J->(e=[]/\Ww C CM p s la nl W ns J fx (Zg as) as O')\/(∃ (v:V) (x:AD) (c:jV),e=[v]/\Ww C CM p s la nl W ns J c (Zg (as ++ [x])) as O'/\iJ ns as J c q x/\(∀b∈c,b∈fx\/∃u,H b=8 (6 u))/\((∃d,x=.s d/\v=sdR (Zg as).2 d/\dOk ns d/\eSD (Zg as).1 (Zg as).2 d=_n)\/∃d day a I K f,x=.c d day a I K f/\v=4 (Zg as).2.oX.9))->Q (3 l) J) :
  (Sp.or (WR C CM) (WQ C CM)) [3 p,3 q] H Q E:=by
 rcases h with⟨d,i,j,c⟩ | ⟨B,G,d,day,a,I,K,i,L,M,j,R,T,c,N⟩
 .erw[U.tryS k i j λl e n m y F o=>g l e n m y F (o.imp (λz=>(z.1,z.2.2)) λ⟨w,r,t⟩=>(2,.s d,fx,w,t,(k.snoc j r,55,c,5),λb A=>1 A,1 (d,33,j,r)))]
  .rw[JB];ext d<;>rfl
  .rwa[q,1,Wr (F.1 _ _ i (U.w.oG i)),BJ _ d]
  .exact λ_ _ _ _ _ _ z=>by ext z
 .let(Z,s1,P,s3,X,Y):=R;rw[xI] at Y;erw[U.tryC k i L M j P () () (Vq T.1 ()) (Vq () ()) λl e n m y F o=>g l e n m y F (o.imp (λz=>(z.1,z.2.2)) λ⟨w,r,t⟩=>?_)];let e:=N B (by simp);let n:=N G (by simp);let N:=F.1 _ _ L e.1;let L:=F.1 _ _ M n.1;let e:∀{b:jY}{o:HO},H b=8 o->¬O b->¬m b:=λe n z=>(F.2 _ z).elim n (λy=>by rw[e] at y;ext y);let e:=t.more (gx:=[B,G]) λb A=>by grind
  erw[2,.c d day a I K (wf as day),[B,G]++fx,w,e,(k.snocC j P X () () r,55,c _,5),λb A=>?_,2 (2,2224)]
  .rw[JB];ext d<;>rfl
  .rwa[q,1,Wr (F.1 _ _ i (U.w.oG i)),IF (Us (by simp) N) (Us (by simp) L) d]
  .grind
  .grind
def Qi(h:DM ns nb d):dyA (.s d):=by
 cases d with
 | bring n a=>have:=h.2.2;show a<=40;lia
 | give i x y a=>have:=h.2.2.2.2.2;show a<=40;lia
 | die n b a=>have:=h.2.2.2;show a<=40;lia
 | _=>trivial
def dF(h:Cz ns nb nc day dy d)(a:Aj day)(f:Str->Int):dyA (.c d dy need o1 o2 f):=by
 cases d with
 | clm x i=>have:=h.2.2.2;have:=a.2;show dy<=40;lia
 | _=>trivial
def Ww.drawn(U:Ww C CM p s la nl W ns H fx (Zg as) as O)(k:Wk ns as){Q:V->Hp->Prop}{E:XK}(g:∀ (q:jY) (J:Hp),Ww C CM p s la nl W ns J fx (Zg as) as O->LD ns O s W J q->Q (3 q) J):UP [3 s,3 W.wl,3 nl] H Q E:=by
 let a:=k.wok.al;let x:=k.wok.sl;let i:(as.filter Yn).9<=1000:=xX (yE _ _) a;erw[s,la,nl,ns,W,fx,as,as.filter isC,(Zg as).2.oX,3,U.sr,U.wd,k.wok,U.nm,λz=>U.nn (by rw[z];simp),λq d J a m e f h=>g q J (U.x f h) (1 (d,e,Qn a i,Qi a)),λq t u d j l b v w J a c r m y z e n o f h=>g q J (U.x f h) (2 (t,u,d,l,b,v,w,e,n,o,PD c i x,r,gS c a,dF c a,λb a=>?_))];let a:H b=none:=by grind
 rwa[U.w.out a,U.new a]
end
section
variable{C CM:jY}
inductive Jw(C CM:jY):Sp
 |mk(p s la nl) (W) (ns) (fx) (as) (O) (n)(_:vs=[3 s,3 p,3 W.wl,3 nl,4 n]/\Ww C CM p s la nl W ns H fx (Zg as) as O/\Wk ns as/\Cm ns (Zg as).1/\(∀x∈as,dyA x)/\0<=n/\n<=1000/\as.9+n<=300/\∀b a c J,Ww C CM p s la nl W ns J b (Zg a) a c->Wk ns a->Cm ns (Zg a).1->(∀x∈a,dyA x)->a.9<=as.9+n->Q .non J)
abbrev II:Stmt:=top 86
def NV(u:YB K mg "_law_play" II)(T:Txt mg)(o:10 Fn "_law_deed" lW 5 UP)(r:10 Fn "_law_try" lQ 9 (Sp.or (WR C CM) (WQ C CM)))(t:10 Fn "_law_keep" lP 2 VR):10 Fn "_law_play" lM 10 (Jw C CM):=by
 erw[u.fq ["_law_src_here","_law_moot","_law_world","_law_names_here","_law_many","_law_k","_law_deed_here"] λH vs Q E hr h=>?_];let(p,s,la,nl,W,G,b,N,O,n,3,U,R,c,g,n0,n1,hl,k):=h;erw[72,(Zf (Wd mL S (J3 T.range (0 Q4)) (Yc 5) (11 (Zv 6 (Zm o (0 Q0 Q2 Q3))) (Zt (Zo AI (Z1 Yw T.len Yk (0 (Zm r (0 Q1 Q6)))) Zd (Zq _)) (Zf (Zk (Zm t (0 Q2 Q6)))) Zs)))),5];erw[1,n,3665];erw[Ap n.toNat () (λi Y J=>∃(I L:Option V)(b:jV)(a:List AD)(O:jY->Prop),Y=[8 (3 s),8 (3 p),8 (3 W.wl),8 (3 nl),8 (4 n),I,L]/\Ww C CM p s la nl W G J b (Zg a) a O/\Wk G a/\Cm G (Zg a).1/\(∀x∈a,dyA x)/\a.9<=N.9+i) (_n,_n,b,N,O,3,U,R,c,g,xD _) ?_ ?_]
 .rintro i Y J hi hI;erw[opq λD0 j _ _ _=>?_];let(I,L,b,a,O,3,U,R,c,g,B):=hI;erw[Yy λD7 F=>?_];erw[1115];dsimp only [V3];erw[U.drawn R λq H1 U1 dr=>F _ _ ?_];erw[11,U1.tryD R dr λl tv H3 M X F3 hc=>?_];rcases hc with⟨rfl,m⟩ | ⟨v,x,fx3,rfl,m,kp,_,hx⟩
  .rwa[l,1,1 (9 X),41,Zx (λz=>_a z aA) (λ_=>j _ _ (22,b,a,M,3,m,R,c,g,6))]
  .erw[l,1,1 (9 X),41,Zx (λ_=>?_) (λz=>_a (show (0:Int)<1 by decide) z)];erw[115];dsimp only [V3];erw[m.keep R kp.2.1 kp.2.2.1 kp.2.2.2.2 λA H7 U7 f7 g7=>j _ _ (22,A,2,M,3,U7,kp.1,c.snoc λd e=>?_,λy hy=>(xL.mp hy).elim (g y) λz=>xU.mp z▸kp.2.2.2.1,by rw[Wl];lia)];rcases hx with⟨d,rfl,_,hd,he⟩ | ⟨d,day,need,o1,o2,f,rfl,_⟩
   .ext e;rwa[hd,he]
   .ext e
 .rintro Y J ⟨I,L,b,a,O,rfl,U,R,c,g,B⟩;rwa[k b a O J U R c g ()]
end
abbrev BB:Stmt:=top 100
def bQ:ZK ["_law_script","_law_src_here","_law_moot","_law_world","_law_names_here","_law_k"] ["_law_script"] (Zj BB):=(fsc)
def dM(hts:∃c,((c,Tt,TK):Tb)∈ts)(F_law:Ti K "law" "law" BB f fd)(T:Txt mg)(Tm:ZP K CM)(Z45:10 Fn "_law_src" ["_law_script"] 1 (Ay K))(Yd:10 Fn "_law_next" lj 1 YI)(Z46:10 Fn "_law_names" lL 3 Tr)(M_Moot:10 Ds CM "Moot" 3 (Tp C CM))(Z47:10 Fn "_law_start" lz 10 (λvs H Q E=>Tu C CM vs H (λv J=>CO H J->Q v J) E))(Z48:10 Fn "_law_play" lM 10 (λvs H Q E=>Jw C CM vs H (λv J=>CO H J->Q v J) E))(Zsc:10 Fn "_law_right" lz 9 (Te C CM Tt)):10 YD YV 12 f fd ["_law_script"] (D9 K ts):=by
 erw[F_law.okQ bQ (λvs H Q E h=>?_) (λcdv A outer s0 H vs Q E hr h=>?_)]
 .let(a,ns,32):=h;rfl
 .let(a0,ks,3,hS,hlen,hTs,k):=h;let(cT,hcT):=hts;let hT0:ZS H Tt TK:=hTs _ hcT;erw[2,(11 (Zv 1 (Zm Z45 (0 Q0))) (Zv 2 (KC M_Moot)) (Zv 3 (Yl (0 (Yl Zb) (Yl Zb) (Yl Zb)))) (Zv 4 (Zm Z46 (0 Q1 (Z3 Wh Zd (Zm Yd (0 Q1 Zd)))))) (Zk (Zm Z47 (0 Q1 Q2 Q3 Q4))) (Wd mL S (J3 T.range (0 (Zm Yd (0 Q1 Zd)))) (Yc 5) (11 (Zk (Zm Z48 (0 Q1 Q2 Q3 Q4 (Zm Yd (0 Q1 Zd))))) (Zt (Uk (Wz (Zm Zsc (0 Q1 Q2 Q3 Q4)))) (Zf (Zr Ul)) Zs))) (Zr (Zm Zsc (0 Q1 Q2 Q3 Q4)))),5];let hz:=aC
  erw[Yy λD1 hn1=>?_];erw[1,a0,ks,3,hS,λs la H1 hs hla hs1 sm1=>hn1 _ _ ?_];erw[Yy λD2 hn2=>?_];intro p dx nx ndx nex;erw[p,dx,3,Zi,λM H2 hM W2 kp fr=>(3,hn2 _ _ ?_)];let sm2:ZC H1 H2:=λb o e=>kp b o (by rw[Ze (Zl e nx),Ze (Zl e ndx)];rwa[e]) (Zl e nx);let no2:∀b o,H1 b=8 o->¬mo M [] (λ_=>0) [] [] b:=λb o e z=>by
   rcases fr b z with y | y
   .rw[y,nx] at e;ext e
   .let nb:b≠p:=λz=>by rw[z,nx] at e;ext e
    rw[Ze nb,Ze (Zl e ndx),e] at y;ext y
  let(22222,hq1,hq2,2):=id hs1;let W3:YE C CM H2 p (Zg []).1 (Zg []).2 (mo M [] (λ_=>0) [] []):=(M,2,[],[],hM,W2,3);let ns1:=no2 _ _ hq1;let ns2:=no2 _ _ hq2;let hs2:=hs1.keep sm2;generalize mo M [] (λ_=>0) [] []=O3 at W3 ns1 ns2;clear W2 kp fr nex no2;erw[Yy λD3 hn3=>?_];erw[aB S,λdl hdl=>(aB S,λsl hsl=>(aB S,λtl htl=>(aB S,λwl hwl=>Z4 (hn3 _ _ ?_))))];let S1:=ZC.new (o:=6 []) hdl;let k1:(upd H2 dl (6 [])) dl=8 (6 []):=Zi;generalize (upd H2 dl (6 []))=Ha at *;let S2:=ZC.new (o:=6 []) hsl;let k2:(upd Ha sl (6 [])) sl=8 (6 []):=Zi;generalize (upd Ha sl (6 []))=Hb at *;let S3:=ZC.new (o:=6 []) htl;let k3:(upd Hb tl (6 [])) tl=8 (6 []):=Zi;generalize (upd Hb tl (6 []))=Hc at *;let S4:=ZC.new (o:=6 [3 dl,3 sl,3 tl]) hwl;let k4:(upd Hc wl (6 [3 dl,3 sl,3 tl])) wl=8 (6 [3 dl,3 sl,3 tl]):=Zi;generalize (upd Hc wl (6 [3 dl,3 sl,3 tl]))=Hd at *;let S34:=S3.trans S4;let S24:=S2.trans S34;let S14:=S1.trans S24;let s2:=sm2 _ _ hq1;let l2:=sm2 _ _ hq2;let d1:dl≠s:=Zl s2 hdl |>.symm
  let d2:sl≠s:=Zl (S1 _ _ s2) hsl |>.symm
  let d3:tl≠s:=Zl ((S1.trans S2) _ _ s2) htl |>.symm
  let d4:wl≠s:=Zl (((S1.trans S2).trans S3) _ _ s2) hwl |>.symm
  let e1:dl≠la:=Zl l2 hdl |>.symm
  let e2:sl≠la:=Zl (S1 _ _ l2) hsl |>.symm
  let e3:tl≠la:=Zl ((S1.trans S2) _ _ l2) htl |>.symm
  let f1:sl≠dl:=Zl k1 hsl |>.symm
  let f2:tl≠dl:=Zl (S2 _ _ k1) htl |>.symm
  let f3:wl≠dl:=Zl ((S2.trans S3) _ _ k1) hwl |>.symm
  let f4:tl≠sl:=Zl k2 htl |>.symm
  let f5:wl≠sl:=Zl (S3 _ _ k2) hwl |>.symm
  let f6:wl≠tl:=Zl k3 hwl |>.symm
  let wd0:ZZ s Hd [] (wl,dl,sl,tl) [] [] []:=by
   erw[k4,([],S24 _ _ k1,3),([],S34 _ _ k2,3),([],S4 _ _ k3,3),55,λb hb=>nomatch hb]
   .intro b hb;simp only[xE,xV,or_false] at hb;rcases hb with rfl | rfl | rfl | rfl<;>assumption
   .simp only[yM,xE,xV,or_false,not_or,not_false_eq_true,List.nodup_nil,and_true];rwa[(f3,f5,f6),(f1.6,f2.6),f4.6]
  erw[Yy λD4 hn4=>?_];erw[11,s,la,(6),3,hs2.keep S14,aA,aA,λz H4 z0 z1 hs4 sx4=>(4,s,la,2+z,3,hs4,66,λnl ns H5 hnl hnd hnm fnl knl hs5 sx5=>Z4 (hn4 _ _ ?_))];let up:∀{b:jY}{o:HO},Hd b=8 o->b≠s->H5 b=8 o:=λe n=>sx5 _ _ n (sx4 _ _ n e);let g1:nl≠dl:=Zl (sx4 _ _ d1 (S24 _ _ k1)) fnl |>.symm
  let g2:nl≠sl:=Zl (sx4 _ _ d2 (S34 _ _ k2)) fnl |>.symm
  let g3:nl≠tl:=Zl (sx4 _ _ d3 (S4 _ _ k3)) fnl |>.symm
  let W4:=W3.same S14;let(22222,q4,2):=id (hs2.keep S14);let hT5:ZS H5 Tt TK:=ZS.src (ZS.src (((hT0.same sm1).same sm2).same S14) (hs2.keep S14) sx4) hs4 sx5;let W5:YE C CM H5 p (Zg []).1 (Zg []).2 O3:=by
   let(22222,q5,2):=id hs4;rwa[YE.x (YE.x W4 q4 ns1 sx4) q5 ns1 sx5]
  let U:Ww C CM p s la nl (wl,dl,sl,tl) ns H5 [] (Zg []) [] O3:=by
   let o1:=W3.out hdl;let o2:=(W3.same S1).out hsl;let o3:=(W3.same (S1.trans S2)).out htl;let o4:=(W3.same ((S1.trans S2).trans S3)).out hwl;let o5:=(YE.x W4 q4 ns1 sx4).out fnl;let(22222,q5,q6,2,q7):=id hs5;let g0:nl≠s:=λz=>by let(22222,q5,2):=id hs4;rw[z,q5] at fnl;ext fnl
   let u1:=up (S24 _ _ k1) d1;let u2:=up (S34 _ _ k2) d2;let u3:=up (S4 _ _ k3) d3;let u4:=up k4 d4;erw[W5,hs5,(u4,([],u1,3),([],u2,3),([],u3,3),55,λb hb=>nomatch hb),knl,555]
   .intro b hb;simp only[xE,xV,or_false] at hb;rcases hb with rfl | rfl | rfl | rfl<;>assumption
   .simp only[yM,xE,xV,or_false,not_or,not_false_eq_true,List.nodup_nil,and_true];rwa[(f3,f5,f6),(f1.6,f2.6),f4.6]
   .intro b hb;simp only[xE,xV,or_false] at hb;rcases hb with rfl | rfl | rfl | rfl | rfl | rfl | rfl
    .rwa[ns1,2,q5]
    .rwa[ns2,2,q6]
    .rwa[o5,2,knl]
    .rwa[o4,2,u4]
    .rwa[o1,2,u1]
    .rwa[o2,2,u2]
    .rwa[o3,2,u3]
   .simp only[xE,xV,or_false,not_or];rwa[g0,g1,g2,g3]
   .simp only[xE,xV,or_false,not_or];rwa[q7,e1.6,e2.6,e3.6]
  let K0:Wk ns []:=Wk.nil hnm hnd () ();generalize hW:((wl,dl,sl,tl):WL)=W at U;let hw:wl=W.wl:=by rw[<- hW]
  erw[Yy λD5 hn5=>?_];erw[1111,p,s,la,nl,W,ns,[],O3,by rw[<- hw],U,K0,6,λfx as O H6 V6 K6 Y6 T6 l6 tb6=>hn5 _ _ ?_];let hT6:=ZS.call hT5 tb6;let nls:nl≠s:=λz=>U.nn (by rw[z];simp);let nsl:ns.9<=8:=by lia
  let cm6:=Cm.of T6;clear U K0 T6;erw[Yy λD6 hn6=>?_];erw[1,s,la,(4),3,V6.sr,aA,aA,λm H7 m0 m1 hs7 sx7=>?_];let V7:=V6.x hs7 sx7;let hT7:=ZS.src hT6 V6.sr sx7;erw[1665];erw[Ap m.toNat () (λi Y J=>∃(v5:Option V)(fx:jV)(as:List AD)(O:jY->Prop),Y=[8 (3 a0),8 (3 s),8 (3 p),8 (3 W.wl),8 (3 nl),v5]/\Ww C CM p s la nl W ns J fx (Zg as) as O/\Wk ns as/\Cm ns (Zg as).1/\(∀x∈as,dyA x)/\ZS J Tt TK/\as.9<=ns.9+2+8 * i) (_n,fx,as,O,by rw[<- hw];rfl,V7,K6,cm6,Y6,hT7,6) ?_ ?_]
  .rintro i Y J hi hI;erw[opq λD0 hnx _ _ _=>?_];let(v5,fx,as,O,3,U,R,cm,dy,hT,hl):=hI;erw[Yy λD7 hn7=>?_];erw[11111,s,la,(9),3,U.sr,aA,aA,λn H8 n0 n1 hs8 sx8=>?_];let hT8:=ZS.src hT U.sr sx8;erw[p,s,la,nl,W,ns,fx,as,O,n,3,U.x hs8 sx8,R,cm,dy,n0,66,λfx' as' O' H9 U9 R9 cm9 dy9 l9 tb9=>hn7 _ _ ?_];let hT9:=ZS.call hT8 tb9;erw[1111,p,s,la,nl,W,ns,fx',as',O',3,U9,R9,cm9,dy9,hT9,66,λHa Ua hTa=>(1,Zz (hnx _ _ (2,fx',as',O',3,Ua,R9,cm9,dy9,hTa,6)))]
  .rintro Y J ⟨v5,fx,as,O,rfl,U,R,cm,dy,hT,hl⟩;rwa[hn6 _ _ (1111,p,s,la,nl,W,ns,fx,as,O,3,U,R,cm,dy,hT,66,λHa _ _=>k Ha)]
def cE(x:Str):jY:=(([("MootError",(38)),("NoName",(58)),("NoMeasure",(77)),("Unknown",(96)),("Taken",(115)),("NoThing",(134)),("NoCase",(153)),("NoOath",(172)),("NotYet",(191)),("Dead",(210)),("NoHeir",(229)),("TooMany",(248)),("SwornTwice",(267)),("Forsworn",(286)),("TooLight",(305)),("Broken",(324)),("NoDeed",(343))]:List (Str×jY)).lookup x).getD 0
def tabs:List Tb:=[((567),(563), "by_day" ++ ".<locals>." ++ "<lambda>")]
def tabs_ok(p:Params):∀t∈tabs,(Dw p).lookup t.P=_s {cls:=.none,data:=.fields #[] }/\codeHdIn (KK p) t.c t.P=_t/\(KK p).lookup t.P=none:=by
 intro t a;simp only[tabs,xE,xV,or_false] at a;rcases a with rfl<;>rwa[by kernel_rfl,by kernel_rfl,by kernel_rfl]
local macro_rules | `(tactic| walk_at "k")=>`(tactic| ((repeat' (refine And.intro ?_ ?_))<;>kernel_rfl))
def all_mk{d:jZ}{w:kB}{h:Heap}{mg:jR}{a:jY}(X:(KK w.params).In h)(G:h.Ns _g mg)(b:mg "law"=8 (3 a)) :
  ∃c:FuncData,(∀(s:jW)(v:jX),BindsTo s c ([v],[]) [("_law_script", v)])/\∀Z:Heap,(KK w.params).In Z->Z.Ns _g mg->YD d w (KK w.params) mg Z YV 40 a c ["_law_script"] (D9 (KK w.params) tabs):=by
 let e:8 (Value.ref a)=8 (3 1141):=b.symm.trans (mg_of X G (by kernel_rfl));ext e;let N:Jv (KK w.params) mg "by_day" Ez 567:=SL (f:=568) (oc:=.type "function") (od:=_n) (an:=_n) (osl:=#[]) (kV:=.none) (doc:=.none) (pm:=(5 "forsworn.goods" 863)) (ct:=.none) X G (by kernel_rfl) (by kernel_rfl) (by kernel_rfl) (by kernel_rfl);let p:AX (KK w.params) mg 567 563:=(by kernel_rfl,((4),(.type "module", 8 0,.plain,#[]),mg_of X G (by kernel_rfl),aA,aA,aA,by kernel_rfl,333),aA);let F:=FG (K:=KK w.params) (x:="law") (qual:="law") (st:=BB) (f:=1141) (oc:=.type "function") (od:=_n) (an:=_n) (osl:=#[]) (kV:=.none) (doc:=.none) (pm:=(5 "law_forsworn_k36_things_of_a_moot" 1433)) (cdv:=(3 1140)) (ct:=.none) (by kernel_rfl) (by kernel_rfl) (by kernel_rfl);let b:gG (KK w.params) 545:=by
  erw[(5,555),5555]<;>(show _=_;kernel_rfl)
 let A:makesIn (KK w.params) 545=true:=by kernel_rfl
 let y:keepIn (KK w.params) (3 545)=true:=by kernel_rfl
 let t:mg "Folk"=8 (3 545):=mg_of X G (by kernel_rfl);let a:ZP (KK w.params) 949:=by
  erw[(5,555),555555555]<;>(show _=_;kernel_rfl)
 let B:makesIn (KK w.params) 949=true:=by kernel_rfl
 let z:keepIn (KK w.params) (3 949)=true:=by kernel_rfl
 let u:mg "Moot"=8 (3 949):=mg_of X G (by kernel_rfl);let m:Er (KK w.params) mg cE errs:=Pr X G (by kernel_rfl);let c:mg "road_goods"=mg "road" := (mg_of X G (by kernel_rfl):mg "road_goods"=8 (3 554)).trans (mg_of X G (by kernel_rfl):mg "road"=8 (3 554)).6;let i:mg "holder_goods"=mg "holder" := (mg_of X G (by kernel_rfl):mg "holder_goods"=8 (3 561)).trans (mg_of X G (by kernel_rfl):mg "holder"=8 (3 561)).6;let e:mg "breakers_stands"=mg "breakers" := (mg_of X G (by kernel_rfl):mg "breakers_stands"=8 (3 603)).trans (mg_of X G (by kernel_rfl):mg "breakers"=8 (3 603)).6;let n:mg "DAY"=8 (4 0 865):=mg_of X G (by kernel_rfl);let k:mg "TAKER"=8 (4 3 871):=mg_of X G (by kernel_rfl);let o:mg "ONES"=8 (4 0 921):=mg_of X G (by kernel_rfl);let l:mg "OTHERS"=8 (4 1 923):=mg_of X G (by kernel_rfl);let j:mg "NAMED"=8 (4 3 927):=mg_of X G (by kernel_rfl);let T:Txt mg:=by constructor<;>rwa[PySem.W.mg_none_of X G (by kernel_rfl)]
 exact(fnOf "law" "law" (Wy BB) (Yu BB) (Zj BB) .none .none .none (5 "law_forsworn_k36_things_of_a_moot" 1433) _n (3 1140) .none,λs v=>.of_eq S,λZ kb _=>by
  let r:=NY (P:=d) (w:=w) (Z:=Z) (hQ "_law_next" Nu 967 966 pm7 X G) T;let g:=cN (P:=d) (w:=w) (Z:=Z) (hQ "check_day" GM 359 358 pm1 X G) (2,(mg_of X G (by kernel_rfl):mg "LAST_DAY"=8 (4 9999 602))) m;let C:=XW (P:=d) (w:=w) (Z:=Z) (hQ "check_weight" GZ 366 365 pm1 X G) (2,(mg_of X G (by kernel_rfl):mg "MOST_WEIGHT"=8 (4 1000 604))) m;let I:=iN (P:=d) (w:=w) (Z:=Z) (hQ "check_money" Lh 380 379 pm1 X G) (2,(mg_of X G (by kernel_rfl):mg "MOST_MONEY"=8 (4 1000000 608))) m;let E:=Pp (P:=d) (w:=w) (Z:=Z) (hQ "check_need" Mn 373 372 pm1 X G) (2,(mg_of X G (by kernel_rfl):mg "MOST_NEED"=8 (4 12000 606))) m;let R:=P0 (P:=d) (w:=w) (mg:=mg) (Z:=Z) (hMQ (K:=KK w.params) 545 "died_by" "Folk.died_by" Mu 479 478 pm3) b;let H:=Xz (P:=d) (w:=w) (Z:=Z) (hMQ (K:=KK w.params) 545 "check_known" "Folk.check_known" HP 521 520 pm3) b m;let J:=fW (P:=d) (w:=w) (Z:=Z) (hMQ (K:=KK w.params) 545 "check_there" "Folk.check_there" Nf 528 527 pm3) b m;let M:=OQ (hMQ (K:=KK w.params) 545 "check_living" "Folk.check_living" GX 535 534 pm3) b m R;let W:=Ox (P:=d) (w:=w) (Z:=Z) (hMQ (K:=KK w.params) 545 "check_untold" "Folk.check_untold" MH 542 541 pm3) b m;let Y:=NX (hMQ (K:=KK w.params) 545 "check_coming" "Folk.check_coming" Nr 500 499 pm3) T b (2,(mg_of X G (by kernel_rfl):mg "MOST_FOLK"=8 (4 40 656))) m (dP (P:=d) (w:=w) (Z:=Z) (hQ "is_name" Mp 385 384 pm2 X G) T (2,(mg_of X G (by kernel_rfl):mg "LONGEST_NAME"=8 (4 12 640)))) g C;let X6:=Ow (hMQ (K:=KK w.params) 545 "check_rise" "Folk.check_rise" IH 507 506 pm3) b g C H J M;let X7:=Ot (hMQ (K:=KK w.params) 545 "check_death" "Folk.check_death" K4 514 513 pm3) b m g H J W;let O:=iV (hQ "settled" KJ 589 588 pm5 X G) T (OS (hQ "settled_with" Mb 596 595 pm5 X G) T (2,j) (dB (hQ "margin_without" Iy 634 633 pm5 X G) T (2,o) (2,l) (2,(mg_of X G (by kernel_rfl):mg "NEED"=8 (4 2 925))) (OR (P:=d) (w:=w) (Z:=Z) (hQ "kept_weight" Dv 639 638 pm5 X G) T)));let Q:=NP (hQ "check_oath" Hz 627 626 pm5 X G) T (2,o) (2,l) m (Qh (P:=d) (w:=w) (Z:=Z) (hQ "check_case" Hx 622 621 pm5 X G) T m);let l:=λC=>PN (P:=d) (w:=w) (Z:=Z) (C:=C) (hMQ (K:=KK w.params) 949 "check_moments" "Moot.check_moments" Hn 946 945 pm6) T a m (2,(mg_of X G (by kernel_rfl):mg "MOST_MOMENTS"=8 (4 400 1013)));let L:=λC=>SS (P:=d) (w:=w) (Z:=Z) (C:=C) (hMQ (K:=KK w.params) 949 "check_thing" "Moot.check_thing" K7 932 931 pm6) T a m;let o:=bE (hMQ (K:=KK w.params) 949 "check_named" "Moot.check_named" MO 925 924 pm6) b a m H J M (L _) Q;let U:=eS (hMQ (K:=KK w.params) 949 "weighed" "Moot.weighed" Ew 911 910 pm6) b a (XE (hMQ (K:=KK w.params) 545 "weight" "Folk.weight" Gp 444 443 pm3) T b g H J);let M:=λC=>Pe (P:=d) (w:=w) (mg:=mg) (Z:=Z) (C:=C) (hMQ (K:=KK w.params) 949 "forsworn_names" "Moot.forsworn_names" IE 906 905 pm6) T a (2,j);let J:=Rz (hMQ (K:=KK w.params) 949 "check_sides" "Moot.check_sides" Na 939 938 pm6) T a m (2,(mg_of X G (by kernel_rfl):mg "MOST_CASES"=8 (4 60 1009))) (2,(mg_of X G (by kernel_rfl):mg "MOST_SWEARERS"=8 (4 12 1011))) (l _) (M _) U (gD (P:=d) (w:=w) (Z:=Z) (hQ "total" Iw 390 389 pm2 X G) T);let M:=Xs (hMQ (K:=KK w.params) 949 "try_case" "Moot.try_case" K3 918 917 pm6) T a U O;let R2:=Rv (hQ "_law_try" Fu 1038 1037 pm7 X G) T m (eR (P:=d) (w:=w) (Z:=Z) (hQ "_law_hand" Ih 1033 1032 pm7 X G) T) (Od (hQ "done" Fi 352 351 pm0 X G) a m (iT (hMQ (K:=KK w.params) 949 "come" "Moot.come" Ho 660 659 pm6) b a Y (Ss (hMQ (K:=KK w.params) 545 "come" "Folk.come" Lz 411 410 pm3) b Y) (l _)) (Qj (hMQ (K:=KK w.params) 949 "rise" "Moot.rise" LO 667 666 pm6) b a X6 (dS (hMQ (K:=KK w.params) 545 "rise" "Folk.rise" Mj 418 417 pm3) b X6) (l _)) (iZ (hMQ (K:=KK w.params) 949 "die" "Moot.die" MS 674 673 pm6) b a X7 (RM (hMQ (K:=KK w.params) 545 "die" "Folk.die" Ks 425 424 pm3) b X7) (l _)) (Qr (hMQ (K:=KK w.params) 949 "penance" "Moot.penance" Lb 681 680 pm6) T b a H W (l _)) (Ql (hMQ (K:=KK w.params) 949 "bring" "Moot.bring" GQ 688 687 pm6) T a (2,(mg_of X G (by kernel_rfl):mg "MOST_THINGS"=8 (4 40 1007))) m g o (l _)) (Oj (hMQ (K:=KK w.params) 949 "give" "Moot.give" Iz 695 694 pm6) a g o (l _)) (Pc (hMQ (K:=KK w.params) 949 "pay" "Moot.pay" HS 702 701 pm6) a I g o (l _)) (cR (hMQ (K:=KK w.params) 949 "claim" "Moot.claim" Mq 709 708 pm6) T a g E o J M) (Sr (hMQ (K:=KK w.params) 949 "wergild" "Moot.wergild" GU 716 715 pm6) T a I g E o J M) (QB (hMQ (K:=KK w.params) 949 "accuse" "Moot.accuse" Ml 723 722 pm6) T a m g E o J (Fn.alias (iB (hQ "breakers" KA 603 602 pm5 X G) T Q (bR (hQ "breaking" MJ 608 607 pm5 X G) T O (bF (P:=d) (w:=w) (Z:=Z) (hQ "naming" MN 615 614 pm5 X G) T (2,j)))) e) M));let m:=ON (hQ "_law_one" Ik 1071 1070 pm7 X G) T r;let o:=eW (P:=d) (w:=w) (Z:=Z) (hQ "_law_weighs" MQ 1021 1020 pm7 X G) T;let E:=hV (P:=d) (w:=w) (Z:=Z) (hQ "_law_is_case" Nk 1045 1044 pm7 X G) T;let I:=iP (hQ "_law_keep" B3 1050 1049 pm7 X G) T E o;let l:=fK (P:=d) (w:=w) (Z:=Z) (hQ "_law_death" La 1007 1006 pm7 X G) T;let M:=Xh (hQ "_law_is_dead" LJ 1014 1013 pm7 X G) T l;let O:=fM (P:=d) (w:=w) (Z:=Z) (hQ "_law_settled" AH 1096 1095 pm7 X G) T;let e:=Sv (P:=d) (w:=w) N p kb T (2,n);let p:=Qu (hQ "leave_on" Kx 575 574 pm4 X G) T b (2,n) (2,k) R (cZ (P:=d) (w:=w) (mg:=mg) (Z:=Z) (hMQ (K:=KK w.params) 545 "death_day" "Folk.death_day" Ic 486 485 pm3) b) (Sl (P:=d) (w:=w) (mg:=mg) (Z:=Z) (hMQ (K:=KK w.params) 545 "heir_of" "Folk.heir_of" GP 493 492 pm3) b);let J:=NL (P:=d) (w:=w) (Z:=Z) (hQ "pass_on" HX 582 581 pm4 X G) T (2,n) (2,(mg_of X G (by kernel_rfl):mg "WORD"=8 (4 1 867))) (2,(mg_of X G (by kernel_rfl):mg "GIVER"=8 (4 2 869))) (2,k);let j:=iO (hQ "road" FM 554 553 pm4 X G) T (2,n) e p J;let n:=QU (hQ "holder" Hj 561 560 pm4 X G) (2,k) (Fn.alias j c);let e:=λC=>NI (P:=d) (w:=w) (mg:=mg) (Z:=Z) (C:=C) (hMQ (K:=KK w.params) 949 "counting" "Moot.counting" FF 899 898 pm6) a;let k:=cL (hMQ (K:=KK w.params) 949 "road" "Moot.road" LY 861 860 pm6) a g (L _) (e _) (Fn.alias j c);let c:=bO (hMQ (K:=KK w.params) 949 "holder" "Moot.holder" HA 854 853 pm6) a g (L _) (e _) (Fn.alias n i);let e:=OI (hMQ (K:=KK w.params) 949 "holds" "Moot.holds" Cu 866 865 pm6) T b a g H c;let g:=bT (hQ "_law_left" Ka 1110 1109 pm7 X G) T l M;let i:=dU (hQ "_law_road" HQ 1103 1102 pm7 X G) T g;let g:=XG (hQ "_law_moot_events" MV 1117 1116 pm7 X G) T E O;let j:=NM (P:=d) (w:=w) (Z:=Z) (hQ "_law_brought" MC 1122 1121 pm7 X G) T;let l:=NH (P:=d) (w:=w) (Z:=Z) (hQ "_law_last" LA 1129 1128 pm7 X G) T;let n:=Xo (hQ "_law_right" Cg 1134 1133 pm7 X G) T a r g j i l k c e (HD (hQ "_law_same" Ck 981 980 pm7 X G) T (XR (P:=d) (w:=w) (Z:=Z) (hQ "_law_whole" GI 974 973 pm7 X G) T) 4);let c:=NV (hQ "_law_play" II 1057 1056 pm7 X G) T (fQ (hQ "_law_deed" LR 1091 1090 pm7 X G) T r m (Ro (hQ "_law_case_deed" Ln 1086 1085 pm7 X G) T r m (iC (hQ "_law_sides" DQ 1076 1075 pm7 X G) T r (jA (hQ "_law_pick" Ki 1028 1027 pm7 X G) T r) o) (Px (hQ "_law_accused" DV 1081 1080 pm7 X G) T r))) R2 I
  rwa[(dM (ts:=tabs) (2,yC) F T a (dH (P:=d) (w:=w) (Z:=Z) (hQ "_law_src" Lw 960 959 pm7 X G) T) r (cS (hQ "_law_names" IS 1000 999 pm7 X G) T r (Pk (hQ "_law_word" CF 993 992 pm7 X G) T r) (OL (P:=d) (w:=w) (Z:=Z) (hQ "_law_unlike" IJ 988 987 pm7 X G) T)) ((PF (hMQ (K:=KK w.params) 949 "__init__" "Moot.__init__" HY 653 652 pm6) a ((bI (P:=d) (w:=w) (mg:=mg) (Z:=Z) (hMQ (K:=KK w.params) 545 "__init__" "Folk.__init__" Hk 404 403 pm3) b).mks A y t)).mks B z u) (Oc (hQ "_law_start" IX 1064 1063 pm7 X G) T r R2 I).tabs c.tabs n).mono aA])
end Law
end
open PySem PySem.W PyProof.Rows
set_option maxRecDepth 100000 in
set_option maxHeartbeats 0 in
theorem PySem.Challenge.cw_forsworn_k36_things_of_a_moot_holds : PySem.Challenge.rw_forsworn_k36_things_of_a_moot.Holds := by
 w_on;o_law
 refine holds_open (q:=Law.q) (loose:=["road_goods","holder_goods","breakers_stands"]) (Xt:=λs=>xlAt Law.q [] s&&recOk (RowW.records PySem.Challenge.rw_forsworn_k36_things_of_a_moot.row.toRowW) s) (XP:=XL Law.q []) (Yf:=Law.HK.obs) (Ya:=Law.HK.val) (YP:=Law.HK.says) (N:=12958) Law.left Law.HK.of Law.HK.keeps (λs e=>xl_of s (Bool.and_eq_true_iff.mp e).1) XL.keeps (by rfl) (by rfl) (by rfl) (λs e=>recFacts_of (Bool.and_eq_true_iff.mp e).2) (by rfl) (by first | assumption | decide +kernel) (by decide +kernel) ⟨rfl,rfl,rfl,rfl,rfl,by decide +kernel⟩ ?hw ?hc
 case hw=>w_witness2
 refine L2.walkLawT (l:=PySem.Challenge.rw_forsworn_k36_things_of_a_moot) (K:=Law.KK) (KT:=Law.Dw) (ts:=Law.tabs) rfl rfl (λw h Y=>PySem.W.kIn_of (K:=Law.Dw) Y) (λp h x=>L2.Frag.In.left x) (λp t ht=>Law.tabs_ok p t ht) aA λw mg fa h KX G hmg=>Law.all_mk KX G hmg
namespace Law
end Law
