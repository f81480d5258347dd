import PyProof.Rows.All
import Wide.All
import OpenK.AllK
import Wide.FinOn
import Lean
import PyProof.EqAt
import PyProof.EqKinds
import PyProof.TupleCall
import KE.KSortTup
import PyProof.NeKinds
import KE.KDictSum
import KE.KLam
import KE.KNestM
import KE.KSortKey
import PyProof.Rows.TupAdd
import KE.KRevIter
import PyProof.Rows.TupDisplay
import KE.KDictOf
import PyProof.ExcArgsOwn
import PyProof.ExcAttrAll.ValueError
import KE.KIsAll
import KE.KIntText
import PyProof.Rows.StrNews
import PyProof.Rows.StrSplitCount
import PyProof.Rows.SetFrom
import PyProof.Conv_int_bool
import KE.KMinKey
import PySem.Challenge.RW_forsworn_k32_whole_cases_refused
set_option Elab.async false
set_option linter.all false
set_option maxRecDepth 100000
set_option maxHeartbeats 4000000
open PySem.W (fnOf Hook kHook view xlAt recOk RowW instObj methodObj hideAll hideAll_get of_hideAll hideAll_none lookIn InstAt plainGet hasDictIn handedIn plainGet_of isFn plainOver takerIn makesIn typeIn emptyDict keepIn kitOne kia_one kitx_list kitx_dict callWith_K methodCall_KW callWith_K0 cellsFrom_some codeIn codeRec_of nsIn mg_of subIn looks_subIn)
open PyProof.Rows (callWith_builtin1 callWith_type1 callWith_kw kws_cons kws_nil)
open PySem (Value Str Addr Program World OsState mem_of_lookup IsL argsOk)
section
inductive Ex2{α β}(p:α→β→Prop):Prop|mk(x y)(h:p x y)
inductive Ex3{α β γ}(p:α→β→γ→Prop):Prop|mk(x y z)(h:p x y z)
inductive Ex4{α β γ δ}(p:α→β→γ→δ→Prop):Prop|mk(x y z u)(h:p x y z u)
inductive Ex5{α β γ δ ε}(p:α→β→γ→δ→ε→Prop):Prop|mk(x y z u v)(h:p x y z u v)
inductive An3(a b c:Prop):Prop|mk(x:a)(y:b)(z:c)
inductive An4(a b c d:Prop):Prop|mk(x:a)(y:b)(z:c)(u:d)
inductive An5(a b c d e:Prop):Prop|mk(x:a)(y:b)(z:c)(u:d)(v:e)
inductive An6(a b c d e f:Prop):Prop|mk(x:a)(y:b)(z:c)(u:d)(v:e)(w:f)
section
open Lean
def yAz:Nat→Syntax→List Syntax|n+1,s=>if s.isOfKind ``«term_∧_» then s[0]::yAz n s[2] else [s]|_,s=>[s]
def yBz(p q:String)(k n:Nat)(l:List Syntax):Syntax:=.node .none ``Parser.Term.app #[mkCIdent (.mkSimple (if n=k then q else p++n.repr)),mkNullNode l.toArray]
def yCz:Nat→List Syntax→Syntax|_,[s]=>s|n+1,l=>if l.length<7 then yBz "An" "And" 2 l.length l else yBz "An" "" 2 6 (l.take 5++[yCz n (l.drop 5)])|_,_=>.missing
def yDz:Nat→Nat→Nat→Syntax→Syntax|f+1,0,n,s=>if n=0 then s else yBz "Ex" "Exists" 1 (n.min 5) [yDz f (n.min 5) (n-5) s]|f+1,k+1,n,s=>let t:=s[1][0];t.setArg 1 (t[1].setArg 3 (yDz f k n t[1][3]))|_,_,_,s=>s
def yEz:Nat→Syntax→Syntax→Nat|f+1,h,s=>if s[0]==h then yEz f h s[1][0][1][3]+1 else 0|_,_,_=>0
def yFz:Macro:=fun s=>do
 let c:=yAz 99 s[3]
 let r←expandExplicitBinders ``Nat s[1] (yCz 99 c)
 let n:=yEz 99 r[0] r
 if n<2&&c.length<3 then Macro.throwUnsupported
 return yDz 99 0 n r
def yGz:Macro:=fun s=>if s[0][4].getNumArgs=0&&["def","abbrev"].contains s[1][0].getAtomVal then return s.setArg 0 (s[0].setArg 4 (mkNullNode #[.node .none ``Parser.Command.noncomputable #[.atom .none "noncomputable"]])) else Macro.throwUnsupported
end
local macro_rules(kind:=«term∃_,_»)|s=>yFz s
local macro_rules(kind:=Lean.Parser.Command.declaration)|s=>yGz s
abbrev m8:=@Prod.ext
abbrev m9:=@PySem.Paired.length
abbrev ma:=@Option.some.inj
abbrev md:=@List.filterMap_cons
abbrev me:=@Nat.le_of_eq
abbrev mh:=@Nat.lt_succ_self
abbrev mi:=@Nat.le_succ
abbrev mj:=@PyProof.Rows.slot_tuple_getitem
abbrev ml:=@PySem.SeqAt.EqAt.int_int
abbrev mn:=@PySem.SeqAt.EqAt.str_str
abbrev mr:=@List.any_cons
abbrev mv:=@Nat.succ_le_succ
abbrev mw:=@Option.isSome_map
abbrev mB:=@PySem.F.slot_dict_get
abbrev mD:=@PySem.Calls.callWith_builtin
abbrev mE:=@PySem.Calls.evalArgs_plain
abbrev mF:=@PySem.Calls.spliced_cons
abbrev mG:=@PySem.Calls.spliced_nil
abbrev mH:=@Nat.succ.inj
abbrev mI:=@List.length_range
abbrev mJ:=@List.drop_zero
abbrev mK:=@Nat.min_eq_left
abbrev mL:=@Nat.lt_succ_of_lt
abbrev mO:=@PySem.Heap.SameBut.update
abbrev mP:=@PySem.Around.under_plainId
abbrev mQ:=@PyProof.Rows.F.plain_set_update_loop
abbrev mR:=@PySem.Obj.data_mapFields
abbrev mS:=@PySem.F.plain_max_loop
abbrev mT:=@List.eq_nil_of_length_eq_zero
abbrev mU:=@List.map_take
abbrev mV:=@List.map_map
abbrev mW:=@PySem.PassesOwn.never
abbrev mX:=@PySem.Str.length_append
abbrev mY:=@Option.getD_some
abbrev mZ:=@List.filter_cons_of_neg
abbrev M0:=@List.flatMap_append
theorem aA{p:Prop}[Decidable p](h:decide p=true:=by kernel_rfl):p:=of_decide_eq_true h
abbrev aD:=@PySem.F.plainAttrs_list
abbrev aE:=@PySem.F.slot_list_append
abbrev aF:=@PySem.F.type_list_append
abbrev fX:=Value->PySem.Shared->Prop
abbrev fY:=Str->Option Value
abbrev fZ:=List Str
abbrev gA:=List Value
abbrev gB:=Str->Addr
abbrev gC:=List Addr
abbrev gD:=PySem.Shared
abbrev gE:=Value
abbrev gF:=Addr
abbrev gG:=Program
abbrev gH:=World
abbrev gI:=PySem.Around
abbrev xA:=@List.length_map
abbrev xB:=@List.getElem?_eq_getElem
abbrev xC:=@List.getElem?_map
abbrev xD:=@List.mem_cons
abbrev xE:=@List.length_append
abbrev xF:=@Nat.le_refl
abbrev xG:=@List.mem_of_getElem?
abbrev xH:=@PySem.Heap.get?_push_of_some
abbrev xI:=@List.getElem?_eq_some_iff
abbrev xJ:=@List.mem_append
abbrev xK:=@List.mem_append_right
abbrev xL:=@Option.map_eq_some_iff
abbrev xM:=@List.map_append
abbrev xN:=@Bool.false_ne_true
abbrev xO:=@List.mem_cons_of_mem
abbrev xP:=@List.mem_singleton
abbrev xQ:=@List.size_toArray
abbrev xR:=@List.length_take
abbrev xS:=@List.take_add_one
abbrev xT:=@List.take_length
abbrev xU:=@PySem.Heap.lt_size
abbrev xV:=@List.not_mem_nil
abbrev xW:=@PySem.Heap.get?_push_size
abbrev xX:=@List.append_nil
abbrev xY:=@Option.or_eq_none_iff
abbrev xZ:=@Nat.le_trans
abbrev yC:=@Int.eq_ofNat_of_zero_le
abbrev yD:=@List.getD_eq_getElem?_getD
abbrev yE:=@List.mem_cons_self
abbrev yF:=@List.map_cons
abbrev yG:=@Nat.ne_of_lt
abbrev yH:=@Int.toNat_natCast
abbrev yI:=@Option.none_or
abbrev yJ:=@List.length_cons
abbrev yK:=@List.cons_append
abbrev yL:=@Nat.lt_of_lt_of_le
abbrev yM:=@List.nodup_cons
abbrev yN:=@List.mem_append_left
abbrev yO:=@Bool.and_eq_true
abbrev yP:=@Nat.zero_le
abbrev yQ:=@PySem.Heap.get?_update_other
abbrev yR:=@decide_eq_true
abbrev yS:=@List.length_filter_le
abbrev yT:=@List.append_assoc
abbrev yU:=@Option.bind_some
abbrev yV:=@List.replicate_succ
abbrev yW:=@Nat.lt_of_le_of_lt
abbrev yX:=@List.lookup_cons
abbrev yY:=@List.take_of_length_le
abbrev yZ:=@List.of_mem_zip
abbrev zA:=@List.foldl_cons
abbrev zB:=@Bool.eq_iff_iff
abbrev zC:=@List.getElem?_zip_eq_some
abbrev zD:=@List.take_append_drop
abbrev zE:=@Nat.le_of_lt
abbrev zF:=@List.mem_map
abbrev zG:=@List.length_drop
abbrev zH:=@Bool.false_eq_true
abbrev zI:=@List.filter_append
abbrev zJ:=@List.filter_cons_of_pos
abbrev zK:=@List.nil_append
abbrev zL:=@decide_eq_false
abbrev zM:=@List.mem_filter
abbrev zN:=@List.getElem_mem
abbrev zO:=@PySem.Heap.get?_update_self
abbrev zP:=@List.length_singleton
abbrev zQ:=@List.drop_eq_getElem_cons
abbrev zR:=@Option.isSome_iff_exists
abbrev zS:=@Nat.le_succ_of_le
abbrev zT:=@Nat.lt_irrefl
abbrev zU:=@List.findSome?_cons
abbrev zV:=@List.all_eq_true
abbrev zW:=@List.find?_cons
abbrev zX:=@List.length_replicate
abbrev zY:=@List.getElem?_append_right
abbrev zZ:=@Array.getElem?_eq_some_iff
abbrev wA:=@List.findSome?_eq_none_iff
abbrev wB:=@List.flatten_cons
abbrev wC:=@List.foldl_append
abbrev wD:=@List.mem_of_mem_take
abbrev wE:=@List.getElem?_of_mem
abbrev wF:=@List.getElem?_append_left
abbrev wG:=@Bool.false_and
abbrev wH:=@PySem.Heap.size_push
abbrev wI:=@List.getElem?_range
abbrev wJ:=@Option.map_some
abbrev wK:=@List.length_set
abbrev wL:=@List.getElem?_drop
abbrev wM:=@decide_eq_true_iff
abbrev wN:=@List.drop_of_length_le
abbrev wO:=@List.map_nil
abbrev wP:=@List.getElem?_eq_none
abbrev wQ:=@List.mem_range
abbrev wR:=@beq_self_eq_true
abbrev uFg:=PySem.W.Frag
namespace L2
open PySem PySem.W
def topRunT(b:String->Option Builtin)(p:gG)(w:gH)(m:Nat)(a:Option gE):Nat->SharedT->Thread->Option SharedT
 | 0,_,_=>none
 | n+1,s,t=>match through t with
  | true=>some s
  | false=>match stepOk m a t with
   | false=>none
   | true=>match stepT (denote b) p w s t with
    | some x=>topRunT b p w m a n x.1 x.2
    | none=>none
theorem FU{d:String->Option Builtin}{p:gG}{w:gH}{m:Nat}{c:Option gE}:∀{n:Nat}{s r:SharedT}{t:Thread},topRunT d p w m c n s t=some r->topRun d p w m c n s.abs t=some r.abs
 | 0,s,r,t,h=>by cases h
 | n+1,s,r,t,h=>by
  unfold topRunT at h;unfold topRun;cases a:through t with
  | true=>rw[a] at h;cases h;rfl
  | false =>
   rw[a] at h;cases b:stepOk m c t with
   | false=>rw[b] at h;cases h
   | true =>
    rw[b] at h;cases c:stepT (denote d) p w s t with
    | none=>rw[c] at h;cases h
    | some x=>obtain⟨a,b⟩:=x;rw[c] at h;dsimp only at h |-;rw[stepT_spec c];exact FU h
def Dm:List Obj->Nat->BT->BT
 | [],_,t=>t
 | o::r,i,t=>Dm r (i+1) (t.ins i o)
noncomputable def s0T (P:Params) (os:OsState):SharedT:=⟨Dm (boot_heap P).objs.toList 0 .nil,11,(boot_heap P).life,#[],boot_drawn,boot_toks,os⟩
noncomputable def seenT {a:Type}(p q:gG) (loose:fZ) (Xt:gD->Bool) (Yf:gD->a) (P:Params) (s:gD) :=
 (staticsOk (importedModules p.main.body) (boot_heap P) s.heap&&namesBound p s.heap&&gensDone s&&laidKept (boot_heap P) s.heap,openSeen q loose (importedModules p.main.body) Xt true s,Yf s)
theorem GY(P:Params)(os:OsState):(s0T P os).abs=⟨boot_heap P,#[],boot_drawn,boot_toks,os⟩:=by kernel_rfl
theorem Gf(P:Params):((boot_heap P).isNs mainGlobals&&(#[]:Array GenState).size==0,(boot_heap P).objs.size,(boot_heap P).nsMap mainGlobals "__annotations__")=(true,11,some (.ref 6)):=by kernel_rfl
theorem fW{p q:gG}{loose:fZ}{Xt:gD->Bool}{a:Type}{Yf:gD->a}{Ya:gH->a}{N:Nat}(e:opening p=plainProg p.main.scope.names)(g:Nat.ble 600 N=true)(f:∀s,fenceModules? p s=some s)(run:∀ (w:gH) (os:OsState),(topRunT treeTable p w 11 (some (.ref 6)) N (s0T w.params os) (topStub p)).map (λs=>seenT p q loose Xt Yf w.params s.abs)=some (true,openGood q loose,Ya w)):LeftO p q loose Xt Yf Ya N:=λw=>by
 obtain⟨⟨h,c,d,k,os⟩,b,a⟩:=xL.mp (boot_open e g f w);obtain⟨rfl,rfl,rfl,rfl⟩:h=boot_heap w.params/\c=#[]/\d=boot_drawn/\k=boot_toks:=by simpa using a
 obtain⟨s,h,a⟩:=xL.mp (run w os);unfold seenT at a;obtain⟨c,d,g⟩:_/\_/\_:=by simpa only [Prod.mk.injEq] using a
 have r:=FU h;rw[GY] at r;obtain⟨a,h,i⟩:_/\_/\_:=by simpa only [Prod.mk.injEq] using Gf w.params
 have t:topFrom treeTable p w N ⟨boot_heap w.params,#[],boot_drawn,boot_toks,os⟩=some s.abs:=by
  unfold topFrom;dsimp only;rw[a,h,i,r];show (match staticsOk (importedModules p.main.body) (boot_heap w.params) s.abs.heap&&namesBound p s.abs.heap&&gensDone s.abs&&laidKept (boot_heap w.params) s.abs.heap with | true=>some s.abs | false=>none)=_;rw[c]
 unfold openEnds;rw[b];show (topFrom treeTable p w N _).map _=_;rw[t];exact congrArg some (m8 d g)
def Zz(p:gG)(i:Nat):Stmt:=p.main.body.getD i (.Pass ⟨0,0,0,0⟩)
def hIn(s:Stmt)(j:Nat):Stmt:=match s with
 | .ClassDef _ _ _ b _ _ _ _ _ _ _=>b.getD j (.Pass ⟨0,0,0,0⟩)
 | _=>s
def GP(s:Stmt):Arguments:=match s with
 | .FunctionDef _ a _ _ _ _ _ _ _ _=>a
 | _=>⟨[],[],none,[],[],none,[]⟩
def L4(s:Stmt):List Stmt:=match s with
 | .FunctionDef _ _ b _ _ _ _ _ _ _=>b
 | _=>[]
def IE(s:Stmt):Scope:=match s with
 | .FunctionDef _ _ _ _ _ _ c _ _ _=>c
 | _=>{kind:=.function,names:=[],isGenerator:=false,isCoroutine:=false }
def de(P:Params)(n:Str)(t:Tok)(v:gE):DictEntry:=⟨PyData.keyHash P n,.str n t,v⟩
def kFn(n q:Str)(st:Stmt)(pm:gE)(c:gF):Obj:=⟨.type "function", none,.func (fnOf n q (GP st) (L4 st) (IE st) .none .none .none pm none (.ref c) .none),#[]⟩
def kC(n q:Str)(t l a u:Nat)(r s v x y:gE):Obj:=⟨.type "code", none,.fields #[.str n t,.str q (t+1),.str "/claim/cut.py" (t+2),.int l 0,.int a 0,.int 0 0,.int 0 0,.int 3 0,r,.bool true,.int 181 0,s,.none,v,x,y,.int u 0,.int l 0,.str "/claim/cut.py" (u+1)],#[]⟩
def kg(c:Nat)(n q:Str)(t l a u:Nat)(st:Stmt)(pm:gE)(r:uFg):uFg:=(c,kC n q t l a u (.ref (c - 5)) (.ref (c - 4)) (.ref (c - 3)) (.ref (c - 2)) (.ref (c - 1)))::(c+1,kFn n q st pm c)::r
def kg0(c:Nat)(n q:Str)(t l a u:Nat)(st:Stmt)(pm:gE)(r:uFg):uFg:=(c,kC n q t l a u (.ref (c - 3)) (.ref (c - 2)) .none .none (.ref (c - 1)))::(c+1,kFn n q st pm c)::r
def kE(P:Params)(a:Nat)(n:Str)(l t:Nat)(r:uFg):uFg:=(a,⟨.type "dict", none,.dict #[de P "__module__" t (.str "forsworn.errors" 194),de P "__firstlineno__" (t+4) (.int l (t+3)),de P "called" (t+11) (.ref (a - 2)),de P "__static_attributes__" (t+12) (.ref (a - 1)),de P "__doc__" (t+13) .none] 2,#[]⟩)::(a+1,⟨.type "type", none,.cls {name:=n,bases:=[.ref 38],mro:=[.ref (a+1),.ref 38,.type "ValueError", .type "Exception", .type "BaseException", .type "object"],ns:=a,qualname:=n,hasDict:=true,slotNames:=[],subclasses:=[],abstract:=false,collection:=none,hasDel:=false },#[some (.ref (a - 15)),none,some (.str n (t - 7)),some (.str n (t+1)),some (.builtin "ValueError.__new__"),some (.bool true)]⟩)::r
def kpO(x:gF×Obj)(r:uFg):uFg:=x::r
def kf(c:Nat)(n:Str):=kg c n n
def kf0(c:Nat)(n:Str):=kg0 c n n
end L2
namespace PySem.W.Fast
noncomputable def tw14598715356260435866:PySem.Params->PySem.Obj:=PySem.W.boot_o_0
theorem te14598715356260435866:PySem.W.boot_o_0=tw14598715356260435866:=rfl
end PySem.W.Fast
lay_quick L2.topRunT L2.s0T L2.seenT
namespace L2
open PySem PySem.W PyProof.Rows
abbrev p0:Pos:=⟨0,0,0,0⟩
def BD(p:gG):Env:={scope:=p.main.scope,locals:=mainNs,globals:=mainNs,cells:=[],code:=.ref 13,frame:=some 14 }
def cP(p:gG):Code:=.body (behindTheImports p) (BD p)
def CY(b:String->Option Builtin)(p:gG)(w:gH)(m:Nat)(a:Option gE):Nat->SharedT->Thread->Option (SharedT×Thread)
 | 0,s,t=>some (s,t)
 | n+1,s,t=>match through t with
  | true=>none
  | false=>match stepOk m a t with
   | false=>none
   | true=>match stepT (denote b) p w s t with
    | some x=>CY b p w m a n x.1 x.2
    | none=>none
theorem Hu{d:String->Option Builtin}{p:gG}{w:gH}{m:Nat}{c:Option gE}:∀{n:Nat}{s r:SharedT}{t u:Thread},CY d p w m c n s t=some (r,u)->topGo d p w m c n s.abs t=some (r.abs,u)
 | 0,s,r,t,u,h=>by cases h;rfl
 | n+1,s,r,t,u,h=>by
  unfold CY at h;unfold topGo;cases a:through t with
  | true=>rw[a] at h;cases h
  | false =>
   rw[a] at h;cases b:stepOk m c t with
   | false=>rw[b] at h;cases h
   | true =>
    rw[b] at h;cases c:stepT (denote d) p w s t with
    | none=>rw[c] at h;cases h
    | some x=>obtain⟨a,b⟩:=x;rw[c] at h;dsimp only at h |-;rw[stepT_spec c];exact Hu h
def preP(p:gG)(w:gH)(s:SharedT):Option (SharedT×Thread):=CY treeTable p w 11 (some (.ref 6)) 12 s (topStub p)
def stubT(p:gG):Thread:=⟨denote treeTable (cP p),cP p,p0,[topFrame p0]⟩
def blkP(p:gG)(w:gH)(s:SharedT):Option (Flow×SharedT×Code×Pos):=segRunT treeTable p w 11 (some (.ref 6)) 1 1 s (blockOf (behindTheImports p) (BD p) (cP p) p0 [topFrame p0])
def segP(p:gG)(w:gH)(n k j:Nat)(pos:Pos)(s:SharedT):Option (Flow×SharedT×Code×Pos):=segRunT treeTable p w 11 (some (.ref 6)) 1 n s (piecesOf (((behindTheImports p).drop k).take j) (BD p) (cP p) pos [topFrame p0])
def topQ(p:gG)(w:gH)(n k:Nat)(pos:Pos)(s:SharedT):Option SharedT:=topRunT treeTable p w 11 (some (.ref 6)) n s (restOf ((behindTheImports p).drop k) (BD p) (cP p) pos [topFrame p0])
def vI(n:Nat):gE:=.int n 0
def tuO(l:gA):Obj:=⟨.type "tuple", none,.seq l.toArray 0,#[]⟩
def fdO(c:gE)(l:gA):Obj:=⟨c,none,.fields l.toArray,#[]⟩
def diO(l:List DictEntry)(n:Nat):Obj:=⟨.type "dict", none,.dict l.toArray n,#[]⟩
def cut(t:Nat):gE:=.str "/claim/cut.py" t
def mdl:gE:=.str "forsworn.errors" 194
def cdO(n q:Str)(b l:Nat)(d e:Nat)(c:Bool)(a:Nat)(r:gA):Obj:=fdO (.type "code") ([.str n b,.str q (b+1),cut (b+2),vI l,vI d,vI 0,vI 0,vI e,.ref a,.bool c,vI 181,.ref (a+1)]++r ++ [vI (if c then b+4 else b+3),vI l,cut (if c then b+5 else b+4)])
def fn0(n q:Str)(st:Stmt):Obj:=⟨.none,none,.func {name:=n,qualname:=q,params:=GP st,body:=.stmts (L4 st),scope:=IE st,globals:=0,closure:=[],defaults:=.none,kwdefaults:=.none },#[]⟩
def Ib(P:Params)(a b l:Nat)(st:Stmt)(bs:gE)(g:Nat)(c:List DictEntry)(f:Obj)(n q:Str)(h:List Obj)(i:List Obj):List Obj :=
 let d:=[de P "__module__" (b+7) mdl]
 let e:=[de P "__firstlineno__" (b+11) (.int l (b+10)),de P "called" (b+18) (.ref (a+13)),de P "__static_attributes__" (b+19) (.ref (a+14))]
 h ++ [tuO [bs],fdO (.type "builtin_function_or_method") [.builtin "type.__prepare__", .type "type"],diO (d ++ [de P "__qualname__" (b+9) (.str n (b+8))]++e) 5,tuO [],fdO .none [vI (l+2),vI 4,.ref (a+12)],
  cdO n n (b+2) l 0 0 false (a+3) [.none,.none,.none,.none],⟨.type "frame", none,.plain,#[some (.ref (a+5)),some (.ref 3),some (.ref (a+2)),none,some mdl,none,some (.ref 0)]⟩,
  tuO [],fdO .none [],tuO [.str "self" (b+15)],tuO [],fn0 "called" q st,cdO "called" q (b+12) (l+2) 1 3 true (a+7) [.none,.ref (a+9),.ref (a+10),.ref (a+11)],
  kFn "called" q st mdl (a+12),tuO [],diO (d++e++c) g,f]++i ++ [fdO (.type "super") [.ref (a+16),.ref (a+16),.ref (a+16)],fdO (.type "builtin_function_or_method") [.builtin "object.__init_subclass__", .ref (a+16)]]
def tyO(a b:Nat)(n:Str)(bs:gA)(c:gA)(sub:gA):Obj:=⟨.type "type", none,.cls {name:=n,bases:=bs,mro:=.ref (a+16)::c,ns:=a+15,qualname:=n,hasDict:=true,slotNames:=[],subclasses:=sub,abstract:=false,collection:=none,hasDel:=false },
 #[some (.ref a),none,some (.str n b),some (.str n (b+8)),some (.builtin "ValueError.__new__"),some (.bool true)]⟩
def LA:List gE:=[.type "ValueError", .type "Exception", .type "BaseException", .type "object"]
def Pg(P:Params)(p:gG)(j:Nat)(x:Str×Str):List Obj:=let a:=42+19 * j;let b:=221+23 * j;let l:=9+4 * j
 Ib P a b l (hIn (Zz p (3+j)) 0) (.ref 38) 2 [de P "__doc__" (b+20) .none] (tyO a b x.1 [.ref 38] (.ref 38::LA) []) x.1 x.2 [] []
def num{a:Type}:Nat->List a->List (Nat × a)
 | _,[]=>[]
 | i,x::r=>(i,x)::num (i+1) r
noncomputable def Oy (p:gG) (P:Params) (ns:List (Str×Str)):List Obj:=let w:=Zz p 0
  [boot_o_0 P,boot_o_1 P,boot_o_2 P,
   diO ([de P "__name__" 165 mdl,de P "__doc__" 166 .none,de P "__package__" 167 .none,de P "__loader__" 168 (.builtin "__main__.__loader__#opaque"),de P "__spec__" 169 .none,de P "__annotations__" 170 (.ref 6),de P "__builtins__" 171 (.ref 4),de P "__file__" 173 (cut 172),de P "__cached__" 174 .none,de P "_wall" 193 (.ref 21),de P "MootError" 220 (.ref 38)]++(num 0 ns).map λx=>de P x.2.1 (243+23 * x.1) (.ref (58+19 * x.1))) (11+ns.length),
   boot_o_4 P,boot_o_5 P,boot_o_6 P,boot_o_7 P,boot_o_8 P,boot_o_9 P,boot_o_10 P,tuO [],fdO .none ([vI 1,vI 0,.ref 20,vI 5,vI 0,.ref 27]++((num 0 ns).map λx=>[vI (9+4 * x.1),vI 0,.ref (47+19 * x.1)]).flatten),
   cdO "<module>" "<module>" 182 1 0 0 false 11 [.none,.none,.none,.none],⟨.type "frame", none,.plain,#[some (.ref 13),some (.ref 3),some (.ref 3),none,some (.str "__main__" 164),none,some (.ref 0)]⟩,
   tuO [],fdO .none [],tuO [.str "k" 190],tuO [],fn0 "_wall" "_wall" w,cdO "_wall" "_wall" 187 1 1 3 true 15 [.none,.ref 17,.ref 18,.ref 19],kFn "_wall" "_wall" w (.str "__main__" 164) 20] ++
  Ib P 22 196 5 (hIn (Zz p 2) 0) (.type "ValueError") 3 [de P "__weakref__" 217 (.ref 39),de P "__doc__" 218 .none] (tyO 22 196 "MootError" [.type "ValueError"] LA ((num 0 ns).map λx=>.ref (58+19 * x.1))) "MootError" "MootError.called" [] [fdO (.type "getset_descriptor") [.str "__weakref__" 216,.ref 38,.builtin "ExceptionGroup.__weakref__", .none]] ++
  ((num 0 ns).map λx=>Pg P p x.1 x.2).flatten
noncomputable def errS (p:gG) (ns:List (Str×Str)) (P:Params) (os:OsState):SharedT:=⟨Dm (Oy p P ns) 0 .nil,42+19 * ns.length,(boot_heap P).life,#[],boot_drawn,221+23 * ns.length,os⟩
noncomputable def stubS (P:Params) (os:OsState):SharedT:=⟨Dm ((boot_heap P).objs.toList ++ [tuO [],fdO .none [],cdO "<module>" "<module>" 182 1 0 0 false 11 [.none,.none,.none,.none],⟨.type "frame", none,.plain,#[some (.ref 13),some (.ref 3),some (.ref 3),none,some (.str "__main__" 164),none,some (.ref 0)]⟩]) 0 .nil,15,(boot_heap P).life,#[],boot_drawn,187,os⟩
def WY(p:gG)(w:gH)(os:OsState)(M:Nat)(s:SharedT)(k:Nat)(pos:Pos):Prop:=∀(N:Nat)(r:gD),
 topRun treeTable p w 11 (some (.ref 6)) N s.abs (restOf ((behindTheImports p).drop k) (BD p) (cP p) pos [topFrame p0])=some r->topRun treeTable p w 11 (some (.ref 6)) (M+N) (s0T w.params os).abs (topStub p)=some r
theorem WY.zero{p:gG}{w:gH}{os:OsState}(h:preP p w (s0T w.params os)=some (stubS w.params os,stubT p))(b:blkP p w (stubS w.params os)=some (.next,stubS w.params os,cP p,p0)):WY p w os 13 (stubS w.params os) 0 p0:=λN r k=>by
 have a:=go_top (Hu h) (piece_block (segRun_of b) k)
 rwa [<- Nat.add_assoc] at a
theorem WY.step{p:gG}{w:gH}{os:OsState}{M k:Nat}{s b:SharedT}{pos a:Pos}(R:WY p w os M s k pos)(n j:Nat)(h:segP p w n k j pos s=some (.next,b,cP p,a)):WY p w os (M+n) b (k+j) a:=λN r x=>by
 rw[Nat.add_assoc];refine R _ r ?_;rw[<- zD j ((behindTheImports p).drop k),List.drop_drop];exact piece_app (segRun_of h) x
section
variable(p q:gG)(loose:fZ)(Xt:gD->Bool)
noncomputable def sn0 (P:Params) (s:SharedT):Bool:=staticsOk (importedModules p.main.body) (boot_heap P) s.abs.heap&&namesBound p s.abs.heap&&gensDone s.abs&&laidKept (boot_heap P) s.abs.heap
def sn1(s:SharedT):=(seen ((recsOf q).map (·.name)) (ownsOf q) [] {s.abs with gens:=#[] },s.abs.heap.bltView)
def sn2(s:SharedT):Bool:=s.abs.heap.keysOk (looseW q loose) ((recsOf q).map (·.name)) ((litsOf q).map (·.1)) ((clssOf q (looseW q loose)).map (·.name))&&s.abs.heap.accountedOkI (importedModules p.main.body)&&s.abs.heap.isNs mainGlobals&&s.abs.heap.isNs builtinsNs&&tablesOk q s.abs.heap&&Xt s.abs&&(if true then s.abs.gens.size==0 else !leftWithCleanup s.abs.gens)
def sn3(s:SharedT):Bool:=tabsOk q s.abs
def sn4(s:SharedT):=pinSeenD q (drecsOf q) s.abs
def sn9(i:Nat)(s:SharedT):=(((plainsOf q (looseW q loose)).drop i).take 1).map λc=>s.abs.heap.plainShapeAt c.withCmp
def snA(i:Nat)(s:SharedT):=((plainsOf q (looseW q loose)).drop i).map λc=>s.abs.heap.plainShapeAt c.withCmp
def sn5(s:SharedT):=plainSeenD q loose s.abs
def sn8(s:SharedT):=wideSeen q s.abs
def sn6(s:SharedT):=clsSeenW q loose s.abs
end
def gd9(q:gG)(loose:fZ)(i:Nat):=(((plainsOf q (looseW q loose)).drop i).take 1).map λc=>some c.withCmp.plainShape
def gdA(q:gG)(loose:fZ)(i:Nat):=((plainsOf q (looseW q loose)).drop i).map λc=>some c.withCmp.plainShape
theorem Ig{c d:Type}(f:c->d)(l:List c):l.map f=((l.drop 0).take 1).map f++(((l.drop 1).take 1).map f++(l.drop 2).map f):=by
 rcases l with _ | ⟨a,_ | ⟨b,l⟩⟩<;>rfl
theorem SB{p q:gG}{loose:fZ}{Xt:gD->Bool}{a:Type}{Yf:gD->a}{Ya:gH->a}{M N k:Nat}{s:gH->OsState->SharedT}{pos:Pos}(e:opening p=plainProg p.main.scope.names)(c:Nat.ble 600 (M+N)=true)(f:∀s,fenceModules? p s=some s)(R:∀ (w:gH) (os:OsState),WY p w os M (s w os) k pos)(g:∀ (w:gH) (os:OsState),(topQ p w N k pos (s w os)).map (sn0 p w.params)=some true)(i:∀ (w:gH) (os:OsState),(topQ p w N k pos (s w os)).map (sn1 q)=some (expectedOf q,bltViewBooted))(j:∀ (w:gH) (os:OsState),(topQ p w N k pos (s w os)).map (sn2 p q loose Xt)=some true)(l:∀ (w:gH) (os:OsState),(topQ p w N k pos (s w os)).map (sn3 q)=some true)(m:∀ (w:gH) (os:OsState),(topQ p w N k pos (s w os)).map (sn4 q)=some (pinGoodD (drecsOf q)))(o:∀ (w:gH) (os:OsState),(topQ p w N k pos (s w os)).map (sn9 q loose 0)=some (gd9 q loose 0))(z:∀ (w:gH) (os:OsState),(topQ p w N k pos (s w os)).map (sn9 q loose 1)=some (gd9 q loose 1))(y:∀ (w:gH) (os:OsState),(topQ p w N k pos (s w os)).map (snA q loose 2)=some (gdA q loose 2))(n:∀ (w:gH) (os:OsState),(topQ p w N k pos (s w os)).map (sn5 q loose)=some (plainGoodD q loose))(v:∀ (w:gH) (os:OsState),(topQ p w N k pos (s w os)).map (sn8 q)=some (wideGood q))(r:∀ (w:gH) (os:OsState),(topQ p w N k pos (s w os)).map (sn6 q loose)=some (clsGoodW q loose))(t:∀ (w:gH) (os:OsState),(topQ p w N k pos (s w os)).map (λs=>Yf s.abs)=some (Ya w)):LeftO p q loose Xt Yf Ya (M+N):=λw=>by
 obtain⟨⟨h,b,d,k,os⟩,u,a⟩:=xL.mp (boot_open e c f w);obtain⟨rfl,rfl,rfl,rfl⟩:h=boot_heap w.params/\b=#[]/\d=boot_drawn/\k=boot_toks:=by simpa using a
 obtain⟨s,x,b⟩:=xL.mp (g w os);have a:=i w os;have c:=j w os;have d:=l w os;have g:=m w os;have h:=n w os;have m:=o w os;have n:=y w os;have o:=z w os;have l:=v w os;have i:=r w os;have j:=t w os;rw[x,wJ,Option.some_inj] at a c d g h i j l m n o;have r:=R w os N _ (FU x);rw[GY] at r;obtain⟨v,x,y⟩:_/\_/\_:=by simpa only [Prod.mk.injEq] using Gf w.params
 have t:topFrom treeTable p w (M+N) ⟨boot_heap w.params,#[],boot_drawn,boot_toks,os⟩=some s.abs:=by
  unfold topFrom;dsimp only;rw[v,x,y,r];show (match staticsOk (importedModules p.main.body) (boot_heap w.params) s.abs.heap&&namesBound p s.abs.heap&&gensDone s.abs&&laidKept (boot_heap w.params) s.abs.heap with | true=>some s.abs | false=>none)=_;unfold sn0 at b;rw[b]
 unfold openEnds;rw[u];show (topFrom treeTable p w (M+N) _).map _=_;rw[t];refine congrArg some (m8 ?_ j);have b:=congrArg Prod.fst a;have j:=congrArg Prod.snd a;exact m8 b (m8 j (m8 c (m8 d (m8 g (m8 ((Ig _ _).trans ((congr (congrArg _ m) (congr (congrArg _ o) n)).trans (Ig _ _).symm)) (m8 h (m8 l i)))))))
end L2
lay_quick L2.preP L2.blkP L2.segP L2.topQ L2.errS L2.stubS L2.stubT L2.sn0 L2.sn1 L2.sn2 L2.sn3 L2.sn4 L2.sn5 L2.sn6 L2.sn8 L2.sn9 L2.snA L2.gd9 L2.gdA
namespace Law
open PySem L2
def pm0:gE:=(.str "forsworn.deeds" 589)
def pm1:gE:=(.str "forsworn.measures" 600)
def pm2:gE:=(.str "forsworn.oaths" 638)
def pm3:gE:=(.str "forsworn.folk" 654)
def pm4:gE:=(.str "forsworn.stands" 863)
def pm5:gE:=(.str "forsworn.moot" 949)
def pm6:gE:=(.str "law_forsworn_k32_whole_cases_refused" 1382)
def Kp(p:gG)(P:Params):uFg :=
 kpO (3,⟨(.type "dict"),none,(.dict #[de P "__name__" 165 (.str "law_forsworn_k32_whole_cases_refused" 1382),de P "__doc__" 166 .none,de P "__package__" 167 .none,de P "__loader__" 168 (.builtin "__main__.__loader__#opaque"),de P "__spec__" 169 .none,de P "__annotations__" 170 (.ref 6),de P "__builtins__" 171 (.ref 4),de P "__file__" 173 (.str "/claim/cut.py" 172),de P "__cached__" 174 .none,de P "_wall" 193 (.ref 21),de P "MootError" 220 (.ref 38),de P "NoName" 243 (.ref 58),de P "NoMeasure" 266 (.ref 77),de P "Unknown" 289 (.ref 96),de P "Taken" 312 (.ref 115),de P "NoThing" 335 (.ref 134),de P "NoCase" 358 (.ref 153),de P "NoOath" 381 (.ref 172),de P "NotYet" 404 (.ref 191),de P "Dead" 427 (.ref 210),de P "NoHeir" 450 (.ref 229),de P "TooMany" 473 (.ref 248),de P "SwornTwice" 496 (.ref 267),de P "Forsworn" 519 (.ref 286),de P "TooLight" 542 (.ref 305),de P "Broken" 565 (.ref 324),de P "NoDeed" 588 (.ref 343),de P "done" 599 (.ref 352),de P "LAST_DAY" 603 (.int (9999) 602),de P "MOST_WEIGHT" 605 (.int (1000) 604),de P "MOST_NEED" 607 (.int (12000) 606),de P "MOST_MONEY" 609 (.int (1000000) 608),de P "check_day" 616 (.ref 359),de P "check_weight" 623 (.ref 366),de P "check_need" 630 (.ref 373),de P "check_money" 637 (.ref 380),de P "LONGEST_NAME" 641 (.int (12) 640),de P "is_name" 647 (.ref 385),de P "total" 653 (.ref 390),de P "MOST_FOLK" 657 (.int (40) 656),de P "Folk" 862 (.ref 545),de P "ONES" 866 (.int (0) 865),de P "OTHERS" 868 (.int (1) 867),de P "NEED" 870 (.int (2) 869),de P "NAMED" 872 (.int (3) 871),de P "settled" 879 (.ref 556),de P "settled_with" 891 (.ref 563),de P "breakers" 900 (.ref 570),de P "breakers_stands" 901 (.ref 570),de P "breaking" 907 (.ref 575),de P "naming" 918 (.ref 582),de P "check_case" 926 (.ref 589),de P "check_oath" 932 (.ref 594),de P "margin_without" 942 (.ref 601),de P "kept_weight" 948 (.ref 606),de P "MOST_THINGS" 952 (.int (40) 951),de P "MOST_CASES" 954 (.int (60) 953),de P "MOST_SWEARERS" 956 (.int (12) 955),de P "MOST_MOMENTS" 958 (.int (400) 957),de P "Moot" 1381 (.ref 920),de P "_law_src" 1390 (.ref 931),de P "_law_next" 1400 (.ref 938),de P "_law_unlike" 1411 (.ref 945),de P "_law_word" 1417 (.ref 950),de P "_law_names" 1431 (.ref 957),de P "_law_came" 1440 (.ref 964),de P "_law_death" 1449 (.ref 971),de P "_law_is_dead" 1459 (.ref 978),de P "_law_weighs" 1471 (.ref 985),de P "_law_pick" 1483 (.ref 992),de P "_law_hand" 1489 (.ref 997),de P "_law_try" 1495 (.ref 1002),de P "_law_is_case" 1502 (.ref 1009),de P "_law_keep" 1508 (.ref 1014),de P "_law_start" 1522 (.ref 1021),de P "_law_one" 1530 (.ref 1028),de P "_law_sides" 1536 (.ref 1033),de P "_law_accused" 1542 (.ref 1038),de P "_law_case_deed" 1548 (.ref 1043),de P "_law_deed" 1554 (.ref 1048),de P "_law_settled" 1560 (.ref 1053),de P "_law_lost" 1566 (.ref 1058),de P "_law_is_forsworn" 1582 (.ref 1065),de P "_law_folk_of" 1589 (.ref 1072),de P "_law_early_due" 1595 (.ref 1077),de P "_law_due" 1601 (.ref 1082),de P "_law_kinds" 1611 (.ref 1089),de P "_law_kinds_of" 1617 (.ref 1094),de P "_law_odd_row" 1627 (.ref 1101),de P "_law_wild" 1639 (.ref 1108),de P "law" 1657 (.ref 1115)] 91),#[]⟩)<|
 kpO (37,⟨(.type "dict"),none,(.dict #[de P "__module__" 203 (.str "forsworn.errors" 194),de P "__firstlineno__" 207 (.int (5) 206),de P "called" 214 (.ref 35),de P "__static_attributes__" 215 (.ref 36),de P "__weakref__" 217 (.ref 39),de P "__doc__" 218 .none] 3),#[]⟩)<|
 kpO (38,⟨(.type "type"),none,(.cls {name:="MootError", bases:=[(.type "ValueError")],mro:=[(.ref 38),(.type "ValueError"),(.type "Exception"),(.type "BaseException"),(.type "object")],ns:=37,qualname:="MootError", hasDict:=true,slotNames:=[],subclasses:=[(.ref 58),(.ref 77),(.ref 96),(.ref 115),(.ref 134),(.ref 153),(.ref 172),(.ref 191),(.ref 210),(.ref 229),(.ref 248),(.ref 267),(.ref 286),(.ref 305),(.ref 324),(.ref 343)],abstract:=false,collection:=none,hasDel:=false }),#[some (.ref 22),none,some (.str "MootError" 196),some (.str "MootError" 204),some (.builtin "ValueError.__new__"),some (.bool true)]⟩)<|
 kE P 57 "NoName" 9 228<|
 kE P 76 "NoMeasure" 13 251<|
 kE P 95 "Unknown" 17 274<|
 kE P 114 "Taken" 21 297<|
 kE P 133 "NoThing" 25 320<|
 kE P 152 "NoCase" 29 343<|
 kE P 171 "NoOath" 33 366<|
 kE P 190 "NotYet" 37 389<|
 kE P 209 "Dead" 41 412<|
 kE P 228 "NoHeir" 45 435<|
 kE P 247 "TooMany" 49 458<|
 kE P 266 "SwornTwice" 53 481<|
 kE P 285 "Forsworn" 57 504<|
 kE P 304 "TooLight" 61 527<|
 kE P 323 "Broken" 65 550<|
 kE P 342 "NoDeed" 69 573<|
 kf 351 "done" 591 74 2 597 (Zz p 20) pm0<|
 kf 358 "check_day" 610 102 1 614 (Zz p 26) pm1<|
 kf 365 "check_weight" 617 105 1 621 (Zz p 27) pm1<|
 kf 372 "check_need" 624 108 1 628 (Zz p 28) pm1<|
 kf 379 "check_money" 631 111 1 635 (Zz p 29) pm1<|
 kf0 384 "is_name" 642 116 1 645 (Zz p 32) pm2<|
 kf0 389 "total" 648 118 1 651 (Zz p 33) pm2<|
 kg 403 "__init__" "Folk.__init__" 670 124 1 674 (hIn (Zz p 36) 0) pm3<|
 kg 410 "come" "Folk.come" 677 130 4 684 (hIn (Zz p 36) 1) pm3<|
 kg 417 "rise" "Folk.rise" 687 135 4 694 (hIn (Zz p 36) 2) pm3<|
 kg 424 "die" "Folk.die" 697 139 4 704 (hIn (Zz p 36) 3) pm3<|
 kg0 443 "weight" "Folk.weight" 722 150 3 725 (hIn (Zz p 36) 6) pm3<|
 kg 478 "died_by" "Folk.died_by" 762 171 3 768 (hIn (Zz p 36) 11) pm3<|
 kg 499 "check_coming" "Folk.check_coming" 787 180 4 794 (hIn (Zz p 36) 14) pm3<|
 kg 506 "check_rise" "Folk.check_rise" 797 190 4 804 (hIn (Zz p 36) 15) pm3<|
 kg 513 "check_death" "Folk.check_death" 807 197 4 814 (hIn (Zz p 36) 16) pm3<|
 kg 520 "check_known" "Folk.check_known" 817 207 2 822 (hIn (Zz p 36) 17) pm3<|
 kg 527 "check_there" "Folk.check_there" 825 211 3 831 (hIn (Zz p 36) 18) pm3<|
 kg 534 "check_living" "Folk.check_living" 834 215 3 840 (hIn (Zz p 36) 19) pm3<|
 kg 541 "check_untold" "Folk.check_untold" 843 219 2 848 (hIn (Zz p 36) 20) pm3<|
 kpO (544,⟨(.type "dict"),none,(.dict #[de P "__module__" 665 (.str "forsworn.folk" 654),de P "__firstlineno__" 669 (.int (122) 668),de P "__init__" 676 (.ref 404),de P "come" 686 (.ref 411),de P "rise" 696 (.ref 418),de P "die" 706 (.ref 425),de P "names" 713 (.ref 432),de P "came" 721 (.ref 439),de P "weight" 727 (.ref 444),de P "dead" 736 (.ref 451),de P "stands_for" 745 (.ref 458),de P "twin" 752 (.ref 465),de P "stand_in" 761 (.ref 472),de P "died_by" 770 (.ref 479),de P "death_day" 778 (.ref 486),de P "heir_of" 786 (.ref 493),de P "check_coming" 796 (.ref 500),de P "check_rise" 806 (.ref 507),de P "check_death" 816 (.ref 514),de P "check_known" 824 (.ref 521),de P "check_there" 833 (.ref 528),de P "check_living" 842 (.ref 535),de P "check_untold" 850 (.ref 542),de P "__static_attributes__" 855 (.ref 543),de P "__dict__" 857 (.ref 546),de P "__weakref__" 859 (.ref 547),de P "__doc__" 860 .none] 4),#[]⟩)<|
 kpO (545,⟨(.type "type"),none,(.cls {name:="Folk", bases:=[(.type "object")],mro:=[(.ref 545),(.type "object")],ns:=544,qualname:="Folk", hasDict:=true,slotNames:=[],subclasses:=[],abstract:=false,collection:=none,hasDel:=false }),#[none,none,some (.str "Folk" 658),some (.str "Folk" 666),some (.builtin "object.__new__"),some (.bool true)]⟩)<|
 kf 555 "settled" 873 227 1 877 (Zz p 42) pm4<|
 kf 562 "settled_with" 880 229 2 889 (Zz p 43) pm4<|
 kf 569 "breakers" 892 239 3 898 (Zz p 44) pm4<|
 kf0 574 "breaking" 902 243 1 905 (Zz p 46) pm4<|
 kf 581 "naming" 908 245 2 916 (Zz p 47) pm4<|
 kf 588 "check_case" 919 252 2 924 (Zz p 48) pm4<|
 kf0 593 "check_oath" 927 255 3 930 (Zz p 49) pm4<|
 kf 600 "margin_without" 933 259 3 940 (Zz p 50) pm4<|
 kf0 605 "kept_weight" 943 262 3 946 (Zz p 51) pm4<|
 kg 619 "__init__" "Moot.__init__" 971 271 1 975 (hIn (Zz p 57) 0) pm5<|
 kg 626 "come" "Moot.come" 978 282 4 985 (hIn (Zz p 57) 1) pm5<|
 kg 633 "rise" "Moot.rise" 988 288 4 995 (hIn (Zz p 57) 2) pm5<|
 kg 640 "die" "Moot.die" 998 294 4 1005 (hIn (Zz p 57) 3) pm5<|
 kg 647 "penance" "Moot.penance" 1008 300 2 1013 (hIn (Zz p 57) 4) pm5<|
 kg 654 "bring" "Moot.bring" 1016 307 3 1022 (hIn (Zz p 57) 5) pm5<|
 kg 661 "give" "Moot.give" 1025 318 5 1033 (hIn (Zz p 57) 6) pm5<|
 kg 668 "pay" "Moot.pay" 1036 325 5 1044 (hIn (Zz p 57) 7) pm5<|
 kg 675 "claim" "Moot.claim" 1047 333 7 1058 (hIn (Zz p 57) 8) pm5<|
 kg 682 "wergild" "Moot.wergild" 1061 343 8 1073 (hIn (Zz p 57) 9) pm5<|
 kg 689 "accuse" "Moot.accuse" 1076 354 7 1086 (hIn (Zz p 57) 10) pm5<|
 kg 696 "now" "Moot.now" 1089 364 1 1093 (hIn (Zz p 57) 11) pm5<|
 kg 876 "forsworn_names" "Moot.forsworn_names" 1296 444 1 1304 (hIn (Zz p 57) 37) pm5<|
 kg0 881 "weighed" "Moot.weighed" 1307 452 3 1310 (hIn (Zz p 57) 38) pm5<|
 kg 888 "try_case" "Moot.try_case" 1313 455 6 1322 (hIn (Zz p 57) 39) pm5<|
 kg 895 "check_named" "Moot.check_named" 1325 461 5 1334 (hIn (Zz p 57) 40) pm5<|
 kg 902 "check_thing" "Moot.check_thing" 1337 477 2 1342 (hIn (Zz p 57) 41) pm5<|
 kg 909 "check_sides" "Moot.check_sides" 1345 481 5 1355 (hIn (Zz p 57) 42) pm5<|
 kg 916 "check_moments" "Moot.check_moments" 1358 496 1 1362 (hIn (Zz p 57) 43) pm5<|
 kpO (919,⟨(.type "dict"),none,(.dict #[de P "__module__" 966 (.str "forsworn.moot" 949),de P "__firstlineno__" 970 (.int (269) 969),de P "__init__" 977 (.ref 620),de P "come" 987 (.ref 627),de P "rise" 997 (.ref 634),de P "die" 1007 (.ref 641),de P "penance" 1015 (.ref 648),de P "bring" 1024 (.ref 655),de P "give" 1035 (.ref 662),de P "pay" 1046 (.ref 669),de P "claim" 1060 (.ref 676),de P "wergild" 1075 (.ref 683),de P "accuse" 1088 (.ref 690),de P "now" 1095 (.ref 697),de P "roll" 1102 (.ref 704),de P "names" 1109 (.ref 711),de P "weight" 1118 (.ref 718),de P "dead" 1127 (.ref 725),de P "stands_for" 1136 (.ref 732),de P "things" 1143 (.ref 739),de P "cases" 1150 (.ref 746),de P "suits" 1156 (.ref 751),de P "standing" 1163 (.ref 758),de P "stands" 1171 (.ref 765),de P "margin" 1179 (.ref 772),de P "breakers" 1188 (.ref 779),de P "chain" 1196 (.ref 786),de P "bearing" 1204 (.ref 793),de P "paper" 1212 (.ref 800),de P "fewest" 1220 (.ref 807),de P "forsworn" 1228 (.ref 814),de P "holder" 1237 (.ref 821),de P "road" 1246 (.ref 828),de P "holds" 1255 (.ref 835),de P "owed" 1263 (.ref 842),de P "balance" 1272 (.ref 849),de P "twin" 1279 (.ref 856),de P "then" 1287 (.ref 863),de P "counting" 1295 (.ref 870),de P "forsworn_names" 1306 (.ref 877),de P "weighed" 1312 (.ref 882),de P "try_case" 1324 (.ref 889),de P "check_named" 1336 (.ref 896),de P "check_thing" 1344 (.ref 903),de P "check_sides" 1357 (.ref 910),de P "check_moments" 1364 (.ref 917),de P "__static_attributes__" 1374 (.ref 918),de P "__dict__" 1376 (.ref 921),de P "__weakref__" 1378 (.ref 922),de P "__doc__" 1379 .none] 4),#[]⟩)<|
 kpO (920,⟨(.type "type"),none,(.cls {name:="Moot", bases:=[(.type "object")],mro:=[(.ref 920),(.type "object")],ns:=919,qualname:="Moot", hasDict:=true,slotNames:=[],subclasses:=[],abstract:=false,collection:=none,hasDel:=false }),#[none,none,some (.str "Moot" 959),some (.str "Moot" 967),some (.builtin "object.__new__"),some (.bool true)]⟩)<|
 kf 930 "_law_src" 1384 500 1 1388 (Zz p 59) pm6<|
 kf 937 "_law_next" 1391 502 2 1398 (Zz p 60) pm6<|
 kf 944 "_law_unlike" 1401 517 2 1409 (Zz p 61) pm6<|
 kf0 949 "_law_word" 1412 525 2 1415 (Zz p 62) pm6<|
 kf 956 "_law_names" 1418 528 2 1429 (Zz p 63) pm6<|
 kf 963 "_law_came" 1432 541 2 1438 (Zz p 64) pm6<|
 kf 970 "_law_death" 1441 546 2 1447 (Zz p 65) pm6<|
 kf 977 "_law_is_dead" 1450 551 3 1457 (Zz p 66) pm6<|
 kf 984 "_law_weighs" 1460 554 3 1469 (Zz p 67) pm6<|
 kf 991 "_law_pick" 1472 562 3 1481 (Zz p 68) pm6<|
 kf0 996 "_law_hand" 1484 568 1 1487 (Zz p 69) pm6<|
 kf0 1001 "_law_try" 1490 570 2 1493 (Zz p 70) pm6<|
 kf 1008 "_law_is_case" 1496 580 1 1500 (Zz p 71) pm6<|
 kf0 1013 "_law_keep" 1503 582 2 1506 (Zz p 72) pm6<|
 kf 1020 "_law_start" 1509 593 4 1520 (Zz p 73) pm6<|
 kf 1027 "_law_one" 1523 602 2 1528 (Zz p 74) pm6<|
 kf0 1032 "_law_sides" 1531 604 4 1534 (Zz p 75) pm6<|
 kf0 1037 "_law_accused" 1537 615 2 1540 (Zz p 76) pm6<|
 kf0 1042 "_law_case_deed" 1543 622 4 1546 (Zz p 77) pm6<|
 kf0 1047 "_law_deed" 1549 633 3 1552 (Zz p 78) pm6<|
 kf0 1052 "_law_settled" 1555 650 1 1558 (Zz p 79) pm6<|
 kf0 1057 "_law_lost" 1561 664 1 1564 (Zz p 80) pm6<|
 kf 1064 "_law_is_forsworn" 1567 667 2 1580 (Zz p 81) pm6<|
 kf 1071 "_law_folk_of" 1583 681 1 1587 (Zz p 82) pm6<|
 kf0 1076 "_law_early_due" 1590 687 2 1593 (Zz p 83) pm6<|
 kf0 1081 "_law_due" 1596 711 2 1599 (Zz p 84) pm6<|
 kf 1088 "_law_kinds" 1602 731 2 1609 (Zz p 85) pm6<|
 kf0 1093 "_law_kinds_of" 1612 741 1 1615 (Zz p 86) pm6<|
 kf 1100 "_law_odd_row" 1618 747 3 1625 (Zz p 87) pm6<|
 kf 1107 "_law_wild" 1628 756 3 1637 (Zz p 88) pm6<|
 kf 1114 "law" 1640 767 1 1655 (Zz p 89) pm6<|[]
def KK(P:Params):uFg:=Kp PySem.Challenge.pw_forsworn_k32_whole_cases_refused P
def askd:List gF:=[3,37,38,57,58,76,77,95,96,114,115,133,134,152,153,171,172,190,191,209,210,228,229,247,248,266,267,285,286,304,305,323,324,342,343,351,352,358,359,365,366,372,373,379,380,384,385,389,390,403,404,410,411,417,418,424,425,443,444,478,479,499,500,506,507,513,514,520,521,527,528,534,535,541,542,544,545,555,556,562,563,569,570,574,575,581,582,588,589,593,594,600,601,605,606,619,620,626,627,633,634,640,641,647,648,654,655,661,662,668,669,675,676,682,683,689,690,696,697,876,877,881,882,888,889,895,896,902,903,909,910,916,917,919,920,930,931,937,938,944,945,949,950,956,957,963,964,970,971,977,978,984,985,991,992,996,997,1001,1002,1008,1009,1013,1014,1020,1021,1027,1028,1032,1033,1037,1038,1042,1043,1047,1048,1052,1053,1057,1058,1064,1065,1071,1072,1076,1077,1081,1082,1088,1089,1093,1094,1100,1101,1107,1108,1114,1115]
def HK:Hook:=kHook KK askd λ_=>by kernel_rfl
def q:gG:=view PySem.Challenge.pw_forsworn_k32_whole_cases_refused [0,2,3,4,5,6,7,8,9,10,11,12,13,14,15,16,17,18,20,22,23,24,25,26,27,28,29,31,32,33,35,36,38,39,40,41,42,43,44,45,46,47,48,49,50,51,53,54,55,56,57,59,60,61,62,63,64,65,66,67,68,69,70,71,72,73,74,75,76,77,78,79,80,81,82,83,84,85,86,87,88,89]
def ens:List (Str×Str):=[("NoName","NoName.called"),("NoMeasure","NoMeasure.called"),("Unknown","Unknown.called"),("Taken","Taken.called"),("NoThing","NoThing.called"),("NoCase","NoCase.called"),("NoOath","NoOath.called"),("NotYet","NotYet.called"),("Dead","Dead.called"),("NoHeir","NoHeir.called"),("TooMany","TooMany.called"),("SwornTwice","SwornTwice.called"),("Forsworn","Forsworn.called"),("TooLight","TooLight.called"),("Broken","Broken.called"),("NoDeed","NoDeed.called")]
end Law
namespace PySem.W.Fast
noncomputable def tw1248643019226195654:Program:=PySem.Challenge.pw_forsworn_k32_whole_cases_refused
theorem te1248643019226195654:PySem.Challenge.pw_forsworn_k32_whole_cases_refused=tw1248643019226195654:=rfl
end PySem.W.Fast
lay_quick PySem.Challenge.rw_forsworn_k32_whole_cases_refused Law.q Law.ens
namespace Law
open PySem L2 PySem.W.Fast
set_option maxRecDepth 1000000
noncomputable abbrev zqP:=(tw2368527892694137696 tw10724865728090589415).prog
theorem bO(w:gH)(os:OsState):tw14574945829899846032 zqP w (tw15095419895629540892 w.params os)=some (tw17173385231801463501 w.params os,tw17649063868247884333 zqP):=by
 kernel_rfl
theorem SI(w:gH)(os:OsState):tw897522592586576512 zqP w (tw17173385231801463501 w.params os)=some (.next,tw17173385231801463501 w.params os,cP zqP,p0):=by
 kernel_rfl
theorem eY(w:gH)(os:OsState):tw3364177927453363911 zqP w 4143 0 19 p0 (tw17173385231801463501 w.params os)=some (.next,(tw15053072615319938550 zqP (tw2665081048563830263.take 16) w.params os),cP zqP,⟨69,0,72,23⟩):=by
 kernel_rfl
noncomputable abbrev zqS(w:World)(os:OsState):=tw9491608239551792999 zqP w 8428 19 ⟨69,0,72,23⟩ (tw15053072615319938550 zqP (tw2665081048563830263.take 16) w.params os)
theorem RI(w:gH)(os:OsState):Option.map (tw5166864615210023351 zqP w.params) (zqS w os)=some true:=by
 kernel_rfl
theorem PK(w:gH)(os:OsState):Option.map (tw9146811602139678113 tw2797900513057943271) (zqS w os)=some (PyProof.Rows.expectedOf tw2797900513057943271,bltViewBooted):=by
 kernel_rfl
theorem N4(w:gH)(os:OsState):Option.map (tw4330636226384752446 zqP tw2797900513057943271 ["breakers_stands"] (λs=>xlAt tw2797900513057943271 [] s&&recOk (tw2368527892694137696 tw10724865728090589415).records s)) (zqS w os)=some true:=by
 kernel_rfl
theorem fA(w:gH)(os:OsState):Option.map (tw290884773970851577 tw2797900513057943271) (zqS w os)=some true:=by
 kernel_rfl
theorem Oe(w:gH)(os:OsState):Option.map (tw9020109020722589832 tw2797900513057943271) (zqS w os)=some (pinGoodD (PyProof.Rows.drecsOf tw2797900513057943271)):=by
 kernel_rfl
theorem cW(w:gH)(os:OsState):Option.map (tw1658975667393823239 tw2797900513057943271 ["breakers_stands"] 0) (zqS w os)=some (tw10258256380655884400 tw2797900513057943271 ["breakers_stands"] 0):=by
 kernel_rfl
theorem Qh(w:gH)(os:OsState):Option.map (tw1658975667393823239 tw2797900513057943271 ["breakers_stands"] 1) (zqS w os)=some (tw10258256380655884400 tw2797900513057943271 ["breakers_stands"] 1):=by
 kernel_rfl
theorem PF(w:gH)(os:OsState):Option.map (tw1671388014868620310 tw2797900513057943271 ["breakers_stands"] 2) (zqS w os)=some (tw2047387775680494199 tw2797900513057943271 ["breakers_stands"] 2):=by
 kernel_rfl
theorem MM(w:gH)(os:OsState):Option.map (tw11153056314078912757 tw2797900513057943271 ["breakers_stands"]) (zqS w os)=some (PyProof.Rows.plainGoodD tw2797900513057943271 ["breakers_stands"]):=by
 kernel_rfl
theorem MX(w:gH)(os:OsState):Option.map (tw1743938642414776662 tw2797900513057943271) (zqS w os)=some (PySem.W.wideGood tw2797900513057943271):=by
 kernel_rfl
theorem Nv(w:gH)(os:OsState):Option.map (tw15055011524645977279 tw2797900513057943271 ["breakers_stands"]) (zqS w os)=some (PySem.W.clsGoodW tw2797900513057943271 ["breakers_stands"]):=by
 kernel_rfl
theorem Pm(w:gH)(os:OsState):Option.map (λs=>askd.map s.abs.heap.get?) (zqS w os)=some ((Kp tw1248643019226195654 w.params).map λp=>some p.2):=by
 kernel_rfl
local macro_rules | `(tactic| walk_at "q")=>`(tactic| (intro h;simp only[zqS,← te14574945829899846032,← te897522592586576512,← te3364177927453363911,← te9491608239551792999,← te15053072615319938550,← te17173385231801463501,← te17649063868247884333,← te2665081048563830263,← te5166864615210023351,← te9146811602139678113,← te4330636226384752446,← te290884773970851577,← te9020109020722589832,← te11153056314078912757,← te15055011524645977279,← te1743938642414776662,← te1658975667393823239,← te1671388014868620310,← te10258256380655884400,← te2047387775680494199,← te15095419895629540892,← te2797900513057943271,← te2368527892694137696,← te10724865728090589415,← te14364793385576792824,← te1248643019226195654] at h;exact h))
theorem left:PySem.W.LeftO PySem.Challenge.rw_forsworn_k32_whole_cases_refused.row.prog q ["breakers_stands"] (λs=>xlAt q [] s&&recOk (RowW.records PySem.Challenge.rw_forsworn_k32_whole_cases_refused.row.toRowW) s) HK.obs HK.val 12584:=by
 refine SB (M:=4156) (N:=8428) (k:=19) (pos:=⟨69,0,72,23⟩) (s:=λw os=>errS PySem.Challenge.rw_forsworn_k32_whole_cases_refused.row.prog (ens.take 16) w.params os) (by kernel_rfl) aA (λs=>by kernel_rfl) (λw os=>?_)
  (λw os=>(by have h:=RI w os;revert h;walk_at "q"))
  (λw os=>(by have h:=PK w os;revert h;walk_at "q"))
  (λw os=>(by have h:=N4 w os;revert h;walk_at "q"))
  (λw os=>(by have h:=fA w os;revert h;walk_at "q"))
  (λw os=>(by have h:=Oe w os;revert h;walk_at "q"))
  (λw os=>(by have h:=cW w os;revert h;walk_at "q"))
  (λw os=>(by have h:=Qh w os;revert h;walk_at "q"))
  (λw os=>(by have h:=PF w os;revert h;walk_at "q"))
  (λw os=>(by have h:=MM w os;revert h;walk_at "q"))
  (λw os=>(by have h:=MX w os;revert h;walk_at "q"))
  (λw os=>(by have h:=Nv w os;revert h;walk_at "q"))
  (λw os=>(by have h:=Pm w os;revert h;walk_at "q"))
 have R:=WY.zero (p:=PySem.Challenge.rw_forsworn_k32_whole_cases_refused.row.prog) (w:=w) (os:=os) (by have h:=bO w os;revert h;walk_at "q") (by have h:=SI w os;revert h;walk_at "q");have R:=R.step 4143 19 (by have h:=eY w os;revert h;walk_at "q");exact R
end Law
section
namespace L2
open PySem PySem.Spec PyProof.Rows
theorem aB{n:Nat}(h:Nat.ble n 5000=true):n<=sizeLine:=Nat.le_trans (Nat.le_of_ble_eq_true h) (by decide)
theorem aC:(5000:Nat)<=sizeLine:=by decide
abbrev ZT:=Sum Int Str
def B9:ZT->gE->Bool
 | .inl k,v=>Value.isInt k v
 | .inr x,v=>Value.isStrOf x v
def fJ(w:gH):ZT->Int
 | .inl k=>hashInt k
 | .inr x=>hashStr w x
theorem J8:∀{k:ZT}{v:gE},B9 k v=true->(∃i t,k=Sum.inl i/\v=Value.int i t)\/(∃x t,k=Sum.inr x/\v=Value.str x t)
 | .inl i,v,h=>by
  obtain⟨t,e⟩:=Value.isInt_shape (k:=i) (v:=v) h;exact .inl ⟨i,t,rfl,e⟩
 | .inr x,v,h=>by
  obtain⟨t,e⟩:=Value.isStrOf_shape (x:=x) (v:=v) h;exact .inr ⟨x,t,rfl,e⟩
theorem bW(i:Int)(t:Tok):B9 (.inl i) (.int i t)=true:=by simp[B9,Value.isInt]
theorem RB(x:Str)(t:Tok):B9 (.inr x) (.str x t)=true:=by simp[B9,Value.isStrOf]
theorem Qk(a b:Int):decide ((Sum.inl a:ZT)=Sum.inl b)=(a==b):=by grind
theorem RA(a b:Str):decide ((Sum.inr a:ZT)=Sum.inr b)=decide (a=b):=by grind
theorem dJ(a:Int)(b:Str):decide ((Sum.inl a:ZT)=Sum.inr b)=false:=zL (λq=>nomatch q)
theorem RH(a:Str)(b:Int):decide ((Sum.inr a:ZT)=Sum.inl b)=false:=zL (λq=>nomatch q)
def Wp(prog:gG)(w:gH):PySem.KeyKind prog w ZT where
 is:=B9
 hash:=fJ w
 inj:=λv a b d c=>by
  rcases J8 d with⟨i,t,rfl,rfl⟩ | ⟨x,t,rfl,rfl⟩
  .rcases J8 c with⟨j,u,rfl,e⟩ | ⟨y,u,rfl,e⟩
   .injection e with a _;rw[a]
   .exact nomatch e
  .rcases J8 c with⟨j,u,rfl,e⟩ | ⟨y,u,rfl,e⟩
   .exact nomatch e
   .injection e with a _;rw[a]
 byValue:=λk v h=>by
  rcases J8 h with⟨i,t,rfl,rfl⟩ | ⟨x,t,rfl,rfl⟩<;>rfl
 pyHash:=λb h=>by
  rcases J8 b with⟨i,t,rfl,rfl⟩ | ⟨x,t,rfl,rfl⟩
  .exact wpAny_pyHash_int h
  .exact wpAny_pyHash_str h
 eqBool:=λc b h=>by
  rcases J8 c with⟨i,t,rfl,rfl⟩ | ⟨x,t,rfl,rfl⟩
  .rcases J8 b with⟨j,u,rfl,rfl⟩ | ⟨y,u,rfl,rfl⟩
   .rw[Qk] at h;exact wpAny_eqBool_int h
   .rw[dJ] at h;exact SeqAt.EqAt.int_str i t y u _ _ _ _ h
  .rcases J8 b with⟨j,u,rfl,rfl⟩ | ⟨y,u,rfl,rfl⟩
   .rw[RH] at h;exact SeqAt.EqAt.str_int x t j u _ _ _ _ h
   .rw[RA] at h;exact wpAny_eqBool_str h
 «strs»:=λk x t v h=>by
  rcases J8 h with⟨i,u,rfl,e⟩ | ⟨y,u,rfl,e⟩
  .exact nomatch e
  .injection e with a _
   subst a
   cases v<;>rfl
theorem MB(prog:gG)(w:gH)(i:Int)(t:Tok):(Wp prog w).is (.inl i) (.int i t)=true:=bW i t
theorem Om(prog:gG)(w:gH)(x:Str)(t:Tok):(Wp prog w).is (.inr x) (.str x t)=true:=RB x t
inductive V where
 | non | bl (b:Bool) | int (i:Int) | str (x:Str) | byt (b:Array UInt8) | flt (b:UInt64) | ref (a:gF) | ty (n:String)
 deriving DecidableEq
abbrev aG:=List V
def ZG:V->gE->Prop
 | .non,u=>u=Value.none
 | .bl b,u=>u=Value.bool b
 | .int i,u=>∃t,u=Value.int i t
 | .str x,u=>∃t,u=Value.str x t
 | .byt b,u=>∃t,u=Value.bytes b t
 | .flt b,u=>∃t,u=Value.float b t
 | .ref a,u=>u=Value.ref a
 | .ty n,u=>u=Value.type n
abbrev ZI:List V->List gE->Prop:=Paired ZG
theorem ZI.length(r:ZI J us):J.length=us.length:=m9 r
theorem ZI.get:∀{J:aG}{us:gA}{i:Nat}{x:V},ZI J us->J[i]?=some x->∃u,us[i]?=some u/\ZG x u:=λ{J us i x} r e=>by
 induction r generalizing i with
 | nil=>cases e
 | cons r _ a=>cases i with
  | zero=>cases e;exact⟨_,rfl,r⟩
  | succ i=>exact a e
theorem ZI.set(r:ZG x u):∀{J:aG}{us:gA}(i:Nat),ZI J us->ZI (J.set i x) (us.set i u):=λi s=>by
 induction s generalizing i with
 | nil=>exact .nil
 | cons q t a=>cases i with
  | zero=>exact .cons r t
  | succ i=>exact .cons q (a i)
theorem ZI.append:∀{J ys:aG}{us a:gA},ZI J us->ZI ys a->ZI (J++ys) (us++a):=λr s=>by
 induction r with
 | nil=>exact s
 | cons r _ a=>exact .cons r a
theorem ZI.take:∀{J:aG}{us:gA}(n:Nat),ZI J us->ZI (J.take n) (us.take n):=λn s=>by
 induction s generalizing n with
 | nil=>cases n<;>exact .nil
 | cons q t a=>cases n with
  | zero=>exact .nil
  | succ i=>exact .cons q (a i)
theorem ZI.drop:∀{J:aG}{us:gA}(n:Nat),ZI J us->ZI (J.drop n) (us.drop n):=λn s=>by
 induction s generalizing n with
 | nil=>cases n<;>exact .nil
 | cons q t a=>cases n with
  | zero=>exact .cons q t
  | succ i=>exact a i
def YN:Option V->Option gE->Prop
 | some v,some u=>ZG v u
 | none,none=>True
 | _,_=>False
def KV{a:Type}:List (a×V)->List (a×gE)->Prop:=Paired λ(p:a×V) (q:a×gE)=>p.1=q.1/\ZG p.2 q.2
def kV:ZT->V
 | .inl i=>.int i
 | .inr x=>.str x
inductive HO where
 | lst (J:aG)
 | tup (J:aG)
 | dK (U:List (ZT×V)) | dT (U:List (List ZT×V))
 | set (S:Int->Bool) (n:Nat)
 | ins (C a:gF) (a:List (Str×V))
 | own (x:gF)
 | xd (a:List (Str×V))
 | met (f x:gF)
 | rng (lo a:Int)
 | frz (o:Obj) (u:HO)
 | tbl (a:Array gE)
 | ext (a:Heap->Prop)
abbrev Hp:=gF->Option HO
def upd(H:Hp)(a:gF)(o:HO):Hp:=λb=>if b=a then some o else H b
theorem Zj:upd H a o a=some o:=by unfold upd;rw[if_pos rfl]
theorem Zf(h:b≠a):upd H a o b=H b:=by unfold upd;rw[if_neg h]
theorem Il{H:Hp}{a b:gF}{o u:HO}(h:H a=some o)(h':H b=some u)(d:o≠u):a≠b:=by
 intro e;subst e;rw[h] at h';exact d (ma h')
theorem Zo{H:Hp}{a b:gF}{o:HO}(h:H a=some o)(h':H b=none):a≠b:=by
 intro e;subst e;rw[h] at h';cases h'
section
variable(P:gG)(w:gH)
def ZQ(H:Hp)(h:Heap)(a:gF):HO->Prop
 | .lst J=>J.length<=sizeLine/\∃(b:gA)(n:Nat),ZI J b/\h.get? a=some {cls:=.type "list", data:=.seq b.toArray n }
 | .tup J=>J.length<=sizeLine/\∃b:List gE,ZI J b/\IsTup h a b.toArray
 | .dK U=>U.length<=sizeLine/\(a==sysModules)=false/\∃b,KV U b/\h.DictOf (Wp P w) a b
 | .dT U=>U.length<=sizeLine/\(a==sysModules)=false/\∃J:List (List ZT×gF×gE),
   Paired (λ(p:List ZT×V) (q:List ZT×gF×gE)=>p.1=q.1/\H q.2.1=some (.tup (p.1.map kV))/\ZG p.2 q.2.2) U J /\
   ∃o b c,h.get? a=some o/\o.ExactDict/\o.data=.dict b c/\b.toList=J.map (entryOfKey (tupleKind (Wp P w)))/\(J.map (·.1)).Nodup
 | .set S n=>h.SetOf (intKind P w) a S n
 | .ins C d c=>H d=some (.own a)/\c.length<=1000/\d≠a/\h.get? a=some (instObj C d)/\
   ∃b,h.Ns1 d b/\(∀f,YN (c.lookup f) (b f))/\PySem.Within b (c.map (·.1))
 | .own _=>∃o,h.get? a=some o
 | .xd c=>∃b,h.Ns1 a b/\∀f,YN (c.lookup f) (b f)
 | .rng lo b=>∃t u v,h.get? a=some {cls:=.type "range", data:=.fields #[.int lo t,.int b u,.int 1 v] }
 | .frz o u=>h.get? a=some o/\ZQ H h a u
 | .tbl b=>∃c e t,h.get? a=some {cls:=.none,data:=.fields c }/\TriplesOk c.toList/\b[0]?=some (.str e t)/\∀b d,codeAmong b c.toList=some d->∃c,d=.ref c/\H c=some (.own a)/\h.CodeRec (.ref c) e
 | .met f x=>h.get? a=some (methodObj (.ref f) (.ref x))
 | .ext b=>b h/\(∃o,h.get? a=some o)/\∀c d:Heap,b c->(∀o,c.get? a=some o->d.get? a=some o)->b d
def YO(H:Hp)(h:Heap):Prop:=∀a o,H a=some o->ZQ P w H h a o
end
section
variable{P:gG}{w:gH}{H:Hp}{h h':Heap}{a:gF}{o:HO}
theorem ZQ.lt(x:ZQ P w H h a o):a<h.objs.size:=by
 cases o with
 | lst J=>obtain⟨_,_,_,_,e⟩:=x;exact xU e
 | tup J=>obtain⟨_,_,_,p⟩:=x;exact p.lt
 | dK U=>obtain⟨_,_,_,_,o,_,_,e,_⟩:=x;exact xU e
 | dT U=>obtain⟨_,_,_,_,o,_,_,e,_⟩:=x;exact xU e
 | set S n=>obtain⟨o,_,_,_,e,_⟩:=x;exact xU e
 | ins C c b=>obtain⟨_,_,_,e,_⟩:=x;exact xU e
 | own y=>obtain⟨_,e⟩:=x;exact xU e
 | xd b=>obtain⟨_,⟨_,_,_,e,_⟩,_⟩:=x;exact xU e
 | rng lo b=>obtain⟨_,_,_,e⟩:=x;exact xU e
 | frz b u=>obtain⟨e,_⟩:=x;exact xU e
 | tbl b=>obtain⟨_,_,_,e,_⟩:=x;exact xU e
 | met f y=>exact xU (show h.get? a=some _ from x)
 | ext b=>obtain⟨_,⟨_,e⟩,_⟩:=x;exact xU e
theorem Paired.mapP{c d:Type}{F G:c->d->Prop}:∀{l₁:List c}{l₂:List d},Paired F l₁ l₂->(∀a b,F a b->G a b)->Paired G l₁ l₂:=λr f=>by
 induction r with
 | nil=>exact .nil
 | cons r _ b=>exact .cons (f _ _ r) b
theorem ZQ.iV(x:ZQ P w H h a o)(k:∀b u,(b=a\/H b=some (.own a))->h.get? b=some u->h'.get? b=some u)(s:∀b,H b=some (.own a)->Y b=some (.own a))(j:∀b J,H b=some (.tup J)->Y b=some (.tup J)):ZQ P w Y h' a o:=by
 induction o with
 | lst J=>obtain⟨z,d,n,r,e⟩:=x;exact⟨z,d,n,r,k _ _ (.inl rfl) e⟩
 | tup J=>obtain⟨z,d,r,b,e,c⟩:=x;exact⟨z,d,r,b,k _ _ (.inl rfl) e,c⟩
 | dK U=>obtain⟨z,y,l,r,b,g,f,e,c⟩:=x;exact⟨z,y,l,r,b,g,f,k _ _ (.inl rfl) e,c⟩
 | dT U =>
  obtain⟨z,y,J,r,b,g,f,e,c,d,m,i⟩:=x;exact⟨z,y,J,Paired.mapP r λp q z=>⟨z.1,j _ _ z.2.1,z.2.2⟩,b,g,f,k _ _ (.inl rfl) e,c,d,m,i⟩
 | set S n=>obtain⟨b,g,f,t,e,c⟩:=x;exact⟨b,g,f,t,k _ _ (.inl rfl) e,c⟩
 | ins C d n =>
  obtain⟨d,z,v,e,j,⟨od,g,f,i,c⟩,r,A⟩:=x;exact⟨s _ d,z,v,k _ _ (.inl rfl) e,j,⟨od,g,f,k _ _ (.inr d) i,c⟩,r,A⟩
 | own y=>obtain⟨b,e⟩:=x;exact⟨b,k _ _ (.inl rfl) e⟩
 | xd n=>obtain⟨j,⟨od,g,f,e,c⟩,r⟩:=x;exact⟨j,⟨od,g,f,k _ _ (.inl rfl) e,c⟩,r⟩
 | rng lo d=>obtain⟨t,u,v,e⟩:=x;exact⟨t,u,v,k _ _ (.inl rfl) e⟩
 | frz b u d=>obtain⟨e,q⟩:=x;exact⟨k _ _ (.inl rfl) e,d q⟩
 | tbl b =>
  obtain⟨d,b,t,e,f,g,z⟩:=x;refine⟨d,b,t,k a _ (.inl rfl) e,f,g,λb d r=>?_⟩;obtain⟨c,f,i,m,t,l,v,g,j,n⟩:=z b d r;cases g;exact⟨c,f,s _ i,c,t,l,v,rfl,k _ _ (.inr i) j,n⟩
 | met f y =>
  have e:h.get? a=some (methodObj (.ref f) (.ref y)):=x;show h'.get? a=some (methodObj (.ref f) (.ref y));exact k a _ (.inl rfl) e
 | ext b=>obtain⟨p,⟨o,e⟩,st⟩:=x;exact⟨st _ _ p λo q=>k _ _ (.inl rfl) q,⟨o,k _ _ (.inl rfl) e⟩,st⟩
theorem YO.lt(x:YO P w H h)(e:H a=some o):a<h.objs.size:=(x a o e).lt
theorem YO.fresh(x:YO P w H h)(e:h.objs.size<=a):H a=none:=by
 cases q:H a with
 | none=>rfl
 | some u=>exact absurd (yL (x.lt q) e) (zT _)
theorem YO.kept(x:YO P w H h)(k:∀b u,h.get? b=some u->h'.get? b=some u):YO P w H h':=λa o e =>
 (x a o e).iV (λb u _ q=>k b u q) (λ_ q=>q) λ_ _ q=>q
theorem YO.laid(x:YO P w H h)(k:∀b u,h.get? b=some u->h'.get? b=some u)(d:h.objs.size<=a)(c:ZQ P w (upd H a o) h' a o):YO P w (upd H a o) h':=λb u e=>by
 have f:=x.fresh d
 by_cases d:b=a
 .subst d;rw[Zj] at e;cases e;exact c
 .rw[Zf d] at e;exact(x b u e).iV (λc v _ q=>k c v q) (λc q=>by rw[Zf (Zo q f)];exact q) λc J q=>by rw[Zf (Zo q f)];exact q
end
def Rd(H:Hp)(a:gF)(u:HO):Prop:=H a=some u\/∃o,H a=some (.frz o u)
theorem Rd.ok(r:Rd H a u)(x:YO P w H h):ZQ P w H h a u:=by
 rcases r with r | ⟨o,r⟩
 .exact x a u r
 .obtain⟨_,q⟩:=x a _ r;exact q
def BJ:Option HO->Prop
 | some (.lst _)=>True
 | some (.dK _)=>True
 | some (.dT _)=>True
 | some (.set _ _)=>True
 | some (.ins _ _ _)=>True
 | some (.ext _)=>True
 | _=>False
theorem YO.write(m:YO P w H h)(a:BJ (H x))(l:e=x\/H e=some (.own x))(k:∀b u,b≠e->h.get? b=some u->h'.get? b=some u)(i:∃u,h'.get? e=some u)(j:ZQ P w (upd H x o') h' x o'):YO P w (upd H x o') h':=λb u q=>by
 have d:∀c y,H c=some (.own y)->c≠x:=λc y r z=>by subst z;rw[r] at a;exact a
 have f:∀c J,H c=some (.tup J)->c≠x:=λc J r z=>by subst z;rw[r] at a;exact a
 by_cases g:b=x
 .subst g;rw[Zj] at q;cases q;exact j
 .rw[Zf g] at q
  by_cases a:b=e
  .have j:H b=some (.own x):=by
    rcases l with z | z
    .exact absurd (a.trans z) g
    .rw[a];exact z
   rw[q] at j;cases j;obtain⟨v,g⟩:=i;exact⟨v,by rw[a];exact g⟩
  .refine(m b u q).iV (λc v g r=>k c v ?_ r) (λc r=>by rw[Zf (d c b r)];exact r) λc J r=>by rw[Zf (f c J r)];exact r
   rcases g with rfl | g
   .exact a
   .grind
structure Un (fs ex:gC) (H Y:Hp) (h h':Heap):Prop where
 keep:∀b o,h.get? b=some o->H b=none->b∉fs->b∉ex->h'.get? b=some o
 slot:∀b o,h.get? b=some o->H b=none->b∈fs->b∉ex->∃sl,h'.get? b=some {o with slots:=sl }
 free:∀b o,h.get? b=some o->H b=none->b∉ex->Y b=none
 there:∀b o,h.get? b=some o->b∉ex->∃o',h'.get? b=some o'
 o9:∀b J,H b=some (.tup J)->Y b=some (.tup J)
 iz:∀b o u,H b=some (.frz o u)->Y b=some (.frz o u)
 iZ:∀b ps,H b=some (.tbl ps)->∃more,Y b=some (.tbl (ps++more))
section
variable{fs ex:gC}{H:Hp}{h h':Heap}{a:gF}{o:HO}
theorem Un.any(u:Un fs ex H H1 h h1)(q:h.get? b=some ob)(n:H b=none)(d:b∉ex):∃c,h1.get? b=some {ob with slots:=c }:=by
 by_cases c:b∈fs
 .exact u.slot b ob q n c d
 .exact⟨ob.slots,u.keep b ob q n c d⟩
theorem Un.kept(k:∀b u,h.get? b=some u->h'.get? b=some u):Un fs ex H H h h' :=
 ⟨λb c q _ _ _=>k b c q,λb c q _ _ _=>⟨c.slots,k b c q⟩,λ_ _ _ n _=>n,λb c q _=>⟨c,k b c q⟩,λ_ _ q=>q,λ_ _ _ q=>q,λ_ b q=>⟨#[],by rw[q];simp⟩⟩
theorem Un.refl:Un fs ex H H h h:=Un.kept λ_ _ q=>q
theorem Un.laid(k:∀b u,h.get? b=some u->h'.get? b=some u)(d:h.objs.size<=a)(c:H a=none):Un fs ex H (upd H a o) h h' where
 keep:=λb u q _ _ _=>k b u q
 slot:=λb u q _ _ _=>⟨u.slots,k b u q⟩
 free:=λb u q n _=>by rw[Zf (yG (yL (xU q) d))];exact n
 there:=λb u q _=>⟨u,k b u q⟩
 o9:=λb J q=>by rw[Zf (Zo q c)];exact q
 iz:=λb u J q=>by rw[Zf (Zo q c)];exact q
 iZ:=λb d q=>⟨#[],by rw[Zf (Zo q c),q];simp⟩
theorem Un.write(c:BJ (H x))(f:e=x\/H e=some (.own x))(k:∀b u,b≠e->h.get? b=some u->h'.get? b=some u)(d:∃u,h'.get? e=some u):Un fs ex H (upd H x o) h h':=by
 have i:∀b,H b=none->b≠x:=λb n z=>by subst z;rw[n] at c;exact c
 have g:∀b,H b=none->b≠e:=λb n z=>by
  subst z;rcases f with r | r
  .exact i b n r
  .rw[n] at r;cases r
 have f:∀b u,H b=some u->¬BJ (some u)->b≠x:=λb u q j z=>by subst z;rw[q] at c;exact j c
 refine⟨λb u q n _ _=>k b u (g b n) q,λb u q n _ _=>⟨u.slots,k b u (g b n) q⟩,λb u q n _=>by rw[Zf (i b n)];exact n,λb u q _=>?_,
  λb J q=>by rw[Zf (f b _ q λz=>z)];exact q,λb u J q=>by rw[Zf (f b _ q λz=>z)];exact q,λb c q=>⟨#[],by rw[Zf (f b _ q λz=>z),q];simp⟩⟩
 by_cases c:b=e
 .subst c;exact d
 .exact⟨u,k b u c q⟩
end
def trk(h:Heap)(H:Hp):List gF:=(List.range h.objs.size).filter λa=>(H a).isSome
def J3(h:Heap)(H:Hp):Heap:=hideAll h (trk h H)
theorem Pw(h:Heap)(H:Hp):(J3 h H).objs.size=h.objs.size:=PySem.W.hideAll_size _ _
theorem Rh(e:h.get? b=some o)(n:H b=none):(J3 h H).get? b=some o :=
 hideAll_get _ e λa=>by
  have q:(H b).isSome=true:=(zM.mp a).2;rw[n] at q;simp at q
theorem PX(e:(J3 h H).get? b=some o):h.get? b=some o/\H b=none:=by
 have a:h.get? b=some o:=of_hideAll (trk h H) e;refine⟨a,?_⟩;cases q:H b with
 | none=>rfl
 | some x =>
  have c:b∈trk h H:=zM.mpr ⟨wQ.mpr (xU a),by simp[q]⟩;have z:(J3 h H).get? b=none:=hideAll_none (trk h H) c;rw[z] at e;cases e
structure Mod (K:uFg) (mg:fY) (base:Heap):Prop where
 kin:K.In base
 glob:base.Ns mainGlobals mg
 blt:∃mb,base.Ns builtinsNs mb/\∀x:Str,x ≠ "__name__" -> mb x=bootBuiltins x
 nolimit:base.NoLimit
structure Cx where
 prog:gG
 w:gH
 K:uFg
 mg:Str->Option gE
 base:Heap
 A:gI
 N:List Str
 s₀:gD
 H₀:Hp
 env:Env
 outer:List Env
 stack:List Env
 ex:List gF
 fn:Str->Bool
 calm:Bool
 pn:List (gF×Obj)
 xe:gE->gD->Prop
def frs(l:List Env):List gF:=l.filterMap (·.frame)
abbrev Cx.fs(X:Cx):List gF:=frs X.outer
def Dr(a:Scope)(x:Str):Prop:=a.names.lookup x=some .local\/a.names.lookup x=some .cell\/a.names.lookup x=some .free
def CV(a:Scope)(x:Str):Prop:=a.names.lookup x=some .local\/a.names.lookup x=some .cell
def O5(env:Env)(h:Heap)(m:fY)(x:Str)(u:gE):Prop :=
 (env.kindOf x=some .local/\m x=some u)\/((env.kindOf x=some .cell\/env.kindOf x=some .free)/\∃c,env.cells.lookup x=some c/\h.IsCell c (some u))
structure Cx.Ok (X:Cx):Prop where
 mod:Mod X.K X.mg X.base
 kind:X.env.scope.kind=.function
 glob:X.env.globals=mainGlobals
 blt:X.env.builtins=builtinsNs
 above:X.s₀.heap.objs.size<=X.env.locals
 inj:∀x y c,X.env.cells.lookup x=some c->X.env.cells.lookup y=some c->x=y
 has:∀x,(X.env.kindOf x=some .cell\/X.env.kindOf x=some .free)->∃c,X.env.cells.lookup x=some c
 ie:∀x c,X.fn x=true->X.env.cells.lookup x=some c->X.s₀.heap.objs.size<=c
 hd:X.calm=true->X.A.handled=none
 frames:X.A.frames=some X.stack
 iW:X.stack=X.outer\/(X.stack=X.env::X.outer/\X.env.frame=some X.env.locals)
 exf:∀b∈X.ex,b≠X.env.locals/\∀x c,X.env.cells.lookup x=some c->c≠b
 bs:∀b o,X.base.get? b=some o->X.s₀.heap.get? b=some o/\X.H₀ b=none
 ic:X.base.objs.size<=X.s₀.heap.objs.size
 iM:∀b o,X.base.get? b=some o->b∉X.ex
 ir:∀b∈X.ex,b∉X.fs
 iA:X.s₀.heap.FunFrames X.base X.outer
 iy:∀b∈X.fs,X.H₀ b=none
structure ZE (X:Cx) (B:List (gF×Obj)) (L:List (Option V)) (H:Hp) (s:gD):Prop where
 ok:X.Ok
 os:s.os=X.s₀.os
 bare:AllBare s.gens
 base:Un X.fs X.ex X.H₀ H X.s₀.heap s.heap
 loc:∃m,s.heap.Ns X.env.locals m/\∀(i:Nat)(x:Str)(v:V),X.N[i]?=some x->L[i]?=some (some v)->Dr X.env.scope x->∃u,ZG v u/\O5 X.env s.heap m x u
 cell:∀x c,X.env.cells.lookup x=some c->∃v,s.heap.IsCell c v
 free:H X.env.locals=none
 ix:∀x c,X.env.cells.lookup x=some c->H c=none
 pin:∀p∈X.pn++B,s.heap.get? p.1=some p.2/\H p.1=none/\p.1≠X.env.locals/\p.1∉X.fs/\∀v,p.2.data ≠ .cell v
 iD:YO X.prog X.w H s.heap
 len:L.length=X.N.length
section
variable{X:Cx}
theorem Cx.Ok.nofr(c:X.Ok){b:gF}{o:Obj}(e:X.base.get? b=some o):b∉X.fs:=λa=>by
 have:=(c.iA.mem a).1;rw[e] at this;cases this
theorem ZE.bs(I:ZE X B L H s):∀b o,X.base.get? b=some o->s.heap.get? b=some o/\H b=none:=λb o e =>
 ⟨I.base.keep b o (I.ok.bs b o e).1 (I.ok.bs b o e).2 (I.ok.nofr e) (I.ok.iM b o e),I.base.free b o (I.ok.bs b o e).1 (I.ok.bs b o e).2 (I.ok.iM b o e)⟩
theorem ZE.bk(I:ZE X B L H s):∀b o,X.base.get? b=some o->s.heap.get? b=some o:=λb o e=>(I.bs b o e).1
theorem ZE.mod(I:ZE X B L H s):Mod X.K X.mg X.base:=I.ok.mod
theorem ZE.iF(I:ZE X B L H s):X.K.In s.heap:=I.ok.mod.kin.keeps I.bk
theorem ZE.lt(I:ZE X B L H s):X.env.locals<s.heap.objs.size:=let ⟨_,a,_⟩:=I.loc;a.lt
theorem ZE.sz(I:ZE X B L H s):X.s₀.heap.objs.size<=s.heap.objs.size:=xZ I.ok.above (zE I.lt)
theorem ZE.nofs(I:ZE X B L H s){a:gF}(h:s.heap.objs.size<=a):a∉X.fs:=λb=>by
 obtain⟨_,o,c,_⟩:=I.ok.iA.mem b;exact absurd (yL (xU c) (xZ I.sz h)) (zT _)
theorem ZE.cne(I:ZE X B L H s):∀x c,X.env.cells.lookup x=some c->c≠X.env.locals:=λx c e z=>by
 obtain⟨v,o,f,d⟩:=I.cell x c e;obtain⟨m,⟨h,g,e,b,a,_⟩,_⟩:=I.loc;rw[z,b] at f;cases f;rw[a] at d;cases d
theorem ZE.iA(I:ZE X B L H s):s.heap.FunFrames X.base X.outer:=by
 have c:∀(l:List Env),(∀b∈frs l,b∈X.fs)->X.s₀.heap.FunFrames X.base l->s.heap.FunFrames X.base l:=by
  intro l
  induction l with
  | nil=>intro _ _;trivial
  | cons a r m =>
   intro g d;obtain⟨i,⟨a,o,f,j,k,h⟩,l⟩:=d;have d:a∈X.fs:=g a (by unfold frs;rw[md,f];exact yE);obtain⟨n,e⟩:=I.base.slot a o k (I.ok.iy a d) d λz=>I.ok.ir a z d;exact⟨i,⟨a,_,f,j,e,h⟩,m (λb a=>g b (by unfold frs;rw[md,f];exact xO _ a)) l⟩
 exact c X.outer (λ_ a=>a) I.ok.iA
theorem ZE.stack(I:ZE X B L H s):s.heap.FunFrames X.base X.stack:=by
 rcases I.ok.iW with e | ⟨e,hf⟩
 .rw[e];exact I.iA
 .rw[e];obtain⟨m,a,_⟩:=I.loc;refine .cons (by rw[I.ok.kind];decide) hf a ?_ I.iA;exact Heap.get?_none_of_le (xZ I.ok.ic I.ok.above)
theorem ZE.iY(I:ZE X B L H s):∀b∈frs X.stack,b∈X.env.locals::X.fs:=λb a=>by
 rcases I.ok.iW with e | ⟨e,hf⟩
 .rw[e] at a;exact xO _ a
 .rw[e] at a;unfold frs at a;rw[md,hf] at a;exact a
theorem ZE.iX(I:ZE X B L H s):∀b∈frs X.stack,H b=none:=λb a=>by
 rcases xD.mp (I.iY b a) with e | a
 .rw[e];exact I.free
 .obtain⟨_,o,c,_⟩:=I.ok.iA.mem a;exact I.base.free b o c (I.ok.iy b a) λz=>I.ok.ir b z a
theorem ZE.step{g':Array GenState}{t':Nat}{d':Drawn}{ch:gC}(I:ZE X B L H s)(g:∀b∈ch,(b∈X.ex\/X.s₀.heap.objs.size<=b)/\b≠X.env.locals/\(∀x c,X.env.cells.lookup x=some c->c≠b)/\∀p∈X.pn++B,p.1≠b)(keep:∀b o,b≠X.env.locals->b∉X.fs->b∉ch->s.heap.get? b=some o->H b=none->h'.get? b=some o)(l:∀b o,b≠X.env.locals->b∈X.fs->b∉ch->s.heap.get? b=some o->H b=none->∃M,h'.get? b=some {o with slots:=M })(f:∀b o,b∉ch->s.heap.get? b=some o->H b=none->Y b=none)(t:∀b o,b∉ch->s.heap.get? b=some o->∃C,h'.get? b=some C)(y:∀b J,H b=some (.tup J)->Y b=some (.tup J))(j:∀b o u,H b=some (.frz o u)->Y b=some (.frz o u))(E:∀b F,H b=some (.tbl F)->∃a,Y b=some (.tbl (F++a)))(ns:∀m,s.heap.Ns X.env.locals m->h'.Ns X.env.locals m)(K:YO X.prog X.w Y h')(N:AllBare g') :
  ZE X B L Y {s with heap:=h',gens:=g',drawn:=d',toks:=t' }:=by
 have A:∀b o,X.s₀.heap.get? b=some o->b≠X.env.locals:=λb o e=>yG (yL (xU e) I.ok.above);have i:∀b o,X.s₀.heap.get? b=some o->b∉X.ex->b∉ch:=λb o e a r=>by
  rcases(g b r).1 with z | z
  .exact a z
  .exact absurd (yL (xU e) z) (zT _)
 have d:∀x c,X.env.cells.lookup x=some c->∀v,s.heap.IsCell c v->h'.IsCell c v:=λx c e v ⟨o,w,G⟩=>by
  have h:c∉ch:=λz=>(g c z).2.2.1 x c e rfl
  by_cases n:c∈X.fs
  .obtain⟨M,q⟩:=l c o (I.cne x c e) n h w (I.ix x c e);exact⟨_,q,G⟩
  .exact⟨o,keep c o (I.cne x c e) n h w (I.ix x c e),G⟩
 refine⟨I.ok,I.os,N,⟨λb o e n r a=>?_,λb o e n r a=>?_,λb o e n a=>?_,λb o e a=>?_,λb J e=>y b J (I.base.o9 b J e),λb o J e=>j b o J (I.base.iz b o J e),λb F e=>?_⟩,?_,λx c e=>?_,?_,λx c e=>?_,λp N=>?_,K,I.len⟩
 .exact keep b o (A b o e) r (i b o e a) (I.base.keep b o e n r a) (I.base.free b o e n a)
 .obtain⟨M,j⟩:=I.base.slot b o e n r a;obtain⟨K,y⟩:=l b _ (A b o e) r (i b o e a) j (I.base.free b o e n a);exact⟨K,y⟩
 .obtain⟨C,j⟩:=I.base.there b o e a;exact f b C (i b o e a) j (I.base.free b o e n a)
 .obtain⟨C,j⟩:=I.base.there b o e a;exact t b C (i b o e a) j
 .obtain⟨a,j⟩:=I.base.iZ b F e;obtain⟨i,y⟩:=E b _ j;exact⟨a++i,by rw[y,Array.append_assoc]⟩
 .obtain⟨m,a,b⟩:=I.loc;refine⟨m,ns m a,λi x v j y a=>?_⟩;obtain⟨u,r,l⟩:=b i x v j y a;refine⟨u,r,?_⟩;rcases l with l | ⟨k,c,e,z⟩
  .exact .inl l
  .exact .inr ⟨k,c,e,d x c e _ z⟩
 .obtain⟨v,z⟩:=I.cell x c e;exact⟨v,d x c e v z⟩
 .obtain⟨m,⟨o,_,_,w,_⟩,_⟩:=I.loc;exact f _ o (λz=>(g _ z).2.1 rfl) w I.free
 .obtain⟨v,o,w,G⟩:=I.cell x c e;exact f c o (λz=>(g c z).2.2.1 x c e rfl) w (I.ix x c e)
 .obtain⟨e,n,a,b,d⟩:=I.pin p N;have h:p.1∉ch:=λz=>(g p.1 z).2.2.2 p N rfl;exact⟨keep p.1 p.2 a b h e n,f p.1 p.2 h e n,a,b,d⟩
theorem ZE.un(I:ZE X B L H s)(u:Un X.fs [] H Y s.heap h')(d:YO X.prog X.w Y h'):ZE X B L Y {s with heap:=h',toks:=t' }:=by
 obtain⟨m,⟨o,b,a,f,r⟩,_⟩:=id I.loc;obtain⟨a,g⟩:=u.any f I.free (by simp)
 exact I.step (g':=s.gens) (d':=s.drawn) (ch:=[]) (λ_ z=>nomatch z) (λb o _ a _ e n=>u.keep b o e n a (by simp)) (λb o _ a _ e n=>u.slot b o e n a (by simp)) (λb o _ e n=>u.free b o e n (by simp)) (λb o _ e=>u.there b o e (by simp)) u.o9 u.iz u.iZ (λa e=>by
  obtain⟨i,c,b,a,h⟩:=e;rw[f] at a;cases a
  exact⟨_,c,b,g,h⟩) d I.bare
theorem ZE.call(I:ZE X B L H s)(u:Un (frs X.stack) ch H Y s.heap h')(g:YO X.prog X.w Y h')(i:AllBare g')(a:∀b∈ch,(b∈X.ex\/X.s₀.heap.objs.size<=b)/\b≠X.env.locals/\(∀x c,X.env.cells.lookup x=some c->c≠b)/\∀p∈X.pn++B,p.1≠b) :
  ZE X B L Y {s with heap:=h',gens:=g',drawn:=d',toks:=t' }:=by
 obtain⟨m,⟨o,e,d,h,r⟩,_⟩:=id I.loc;obtain⟨d,f⟩:=u.any h I.free λz=>(a _ z).2.1 rfl
 exact I.step (ch:=ch) a (λb o f d a e n=>u.keep b o e n (λz=>(xD.mp (I.iY b z)).elim f d) a) (λb o _ _ a e n=>u.any e n a) (λb o a e n=>u.free b o e n a) (λb o a e=>u.there b o e a) u.o9 u.iz u.iZ (λa e=>by
  obtain⟨k,d,b,a,j⟩:=e;rw[h] at a;cases a
  exact⟨_,d,b,f,j⟩) g i
theorem ZE.turned(I:ZE X B L H s)(k:∀b o,b≠it->s.heap.get? b=some o->h'.get? b=some o)(a:H it=none)(f:it≠X.env.locals)(g:it∈X.ex\/X.s₀.heap.objs.size<=it)(h:∀x c,X.env.cells.lookup x=some c->c≠it)(i:∀p∈X.pn++B,p.1≠it):ZE X B L H {s with heap:=h',toks:=t' }:=by
 have d:∀b u,H b=some u->b≠it:=λb u e z=>by rw[z,a] at e;cases e
 refine I.step (g':=s.gens) (d':=s.drawn) (ch:=[it]) (λb j=>?_) (λb o _ _ a e _=>k b o (λz=>a (by simp[z])) e) (λb o _ _ a e _=>⟨o.slots,k b o (λz=>a (by simp[z])) e⟩) (λ_ _ _ _ n=>n)
  (λb o a e=>⟨o,k b o (λz=>a (by simp[z])) e⟩) (λ_ _ e=>e) (λ_ _ _ e=>e) (λb l e=>⟨#[],by rw[e];simp⟩) (λm l=>?_) (λb u e=>?_) I.bare
 .have e:b=it:=by simpa using j
  subst e;exact⟨g,f,h,i⟩
 .obtain⟨o,h,g,i,r⟩:=l;exact⟨o,h,g,k _ o (Ne.symm f) i,r⟩
 .refine(I.iD b u e).iV (λc v a q=>k c v ?_ q) (λ_ q=>q) λ_ _ q=>q;rcases a with z | z
  .rw[z];exact d b u e
  .exact d c _ z
theorem ZE.tok(I:ZE X B L H s)(t:Nat):ZE X B L H {s with toks:=t }:=I.un (h':=s.heap) (t':=t) Un.refl I.iD
theorem ZE.kept(I:ZE X B L H s)(k:∀b u,s.heap.get? b=some u->h'.get? b=some u):ZE X B L H {s with heap:=h',toks:=t' }:=I.un (Un.kept k) (I.iD.kept k)
theorem ZE.laid{a:gF}{o:HO}{t':Nat}(I:ZE X B L H s)(k:∀b u,s.heap.get? b=some u->h'.get? b=some u)(c:s.heap.objs.size<=a)(d:ZQ X.prog X.w (upd H a o) h' a o) :
  ZE X B L (upd H a o) {s with heap:=h',toks:=t' }:=I.un (Un.laid k c (I.iD.fresh c)) (I.iD.laid k c d)
theorem ZE.write(I:ZE X B L H s)(f:BJ (H x))(d:e=x\/H e=some (.own x))(k:∀b u,b≠e->s.heap.get? b=some u->h'.get? b=some u)(a:∃u,h'.get? e=some u)(c:ZQ X.prog X.w (upd H x o) h' x o):ZE X B L (upd H x o) {s with heap:=h',toks:=t' }:=I.un (Un.write f d k a) (I.iD.write f d k a c)
theorem ZE.iS(I:ZE X B L H s)(h:∀p∈pins',s.heap.get? p.1=some p.2/\H p.1=none/\p.1≠X.env.locals/\p.1∉X.fs/\∀v,p.2.data ≠ .cell v):ZE X pins' L H s :=
 ⟨I.ok,I.os,I.bare,I.base,I.loc,I.cell,I.free,I.ix,λp a=>(xJ.mp a).elim (λz=>I.pin p (yN _ z)) (h p),I.iD,I.len⟩
theorem FS{N:fZ}(e:N.Nodup){i j:Nat}{x:Str}(a:N[i]?=some x)(b:N[j]?=some x):i=j:=by
 obtain⟨d,c⟩:=xI.mp a;obtain⟨f,d⟩:=xI.mp b;exact(List.getElem_inj e).mp (c.trans d.symm)
theorem Xr(I:ZE X B L H s)(hN:X.N.Nodup)(S:X.N[i]?=some x)(w:CV X.env.scope x)(r:ZG v u)(h:∀b,ZE X B (L.set i (some v)) H b->(∃a,Heap.SameBut a s.heap b.heap/\(a=X.env.locals\/X.env.cells.lookup x=some a))->Q () b)(R:X.fn x=true\/X.env.scope.names.lookup x=some .local:=by first | exact .inl rfl | exact .inr rfl | assumption):wpAny M A (storeName X.env x u) Q E s:=by
 obtain⟨m,hn,hl⟩:=id I.loc;have g:(X.env.scope.kind==.class || (X.env.scope.kind==.module&&X.env.locals != X.env.globals))=false:=by rw[I.ok.kind];rfl
 have F:i<L.length:=by rw[I.len];exact(xI.mp S).1
 have J:=I.cne;have l:∀{a:gF}{P:Heap},(∃o,s.heap.get? a=some o/\H a=none)->Heap.SameBut a s.heap P->YO X.prog X.w H P:=λ{a P} c f b j e=>by
  obtain⟨_,_,d⟩:=c;refine(I.iD b j e).iV (λc Y t q=>(f.2 c ?_).trans q) (λ_ q=>q) λ_ _ q=>q;rintro rfl;rcases t with rfl | t
  .rw[d] at e;cases e
  .rw[d] at t;cases t
 rcases w with G | G
 .refine wpAny_storeName_local G hn (λP d f=>?_) g;obtain⟨z,_,_,k,_⟩:=id hn;refine h _ ⟨I.ok,I.os,I.bare,⟨λb o e n K w=>?_,λb o e n K w=>?_,I.base.free,λb o e w=>?_,I.base.o9,I.base.iz,I.base.iZ⟩,⟨_,d,λj y v' g C Z=>?_⟩,λy c e=>?_,I.free,I.ix,λp hp=>?_,l ⟨z,k,I.free⟩ f,by simpa using I.len⟩ ⟨_,f,.inl rfl⟩
  .exact(f.2 b (yG (yL (xU e) I.ok.above))).trans (I.base.keep b o e n K w)
  .obtain⟨sl,g⟩:=I.base.slot b o e n K w;exact⟨sl,(f.2 b (yG (yL (xU e) I.ok.above))).trans g⟩
  .obtain⟨o',g⟩:=I.base.there b o e w;exact⟨o',(f.2 b (yG (yL (xU e) I.ok.above))).trans g⟩
  .by_cases O:j=i
   .subst O;rw[S] at g;cases g;rw[List.getElem?_set_self F] at C;cases C;exact⟨u,r,.inl ⟨G,by simp⟩⟩
   .rw[List.getElem?_set_ne (Ne.symm O)] at C;obtain⟨u',r',q⟩:=hl j y v' g C Z;refine⟨u',r',?_⟩;rcases q with⟨k,e⟩ | ⟨k,c,e,z⟩
    .refine .inl ⟨k,?_⟩;have:y≠x:=λe=>O (FS hN g (e▸S));simp[this,e]
    .exact .inr ⟨k,c,e,z.sameBut f (J y c e)⟩
  .obtain⟨Y,z⟩:=I.cell y c e;exact⟨Y,z.sameBut f (J y c e)⟩
  .obtain⟨e,n,W,nf,d⟩:=I.pin p hp;exact⟨(f.2 p.1 W).trans e,n,W,nf,d⟩
 .have N:X.fn x=true:=by
   rcases R with z | z
   .exact z
   .rw[z] at G;cases G
  obtain⟨c,t⟩:=I.ok.has x (.inl G);obtain⟨Y,z⟩:=I.cell x c t;refine wpAny_storeName_cell I.ok.kind G t z (λP R f=>?_);obtain⟨oc,T,U⟩:=id z;refine h {s with heap:=P } ⟨I.ok,I.os,I.bare,⟨λb o e n K w=>?_,λb o e n K w=>?_,I.base.free,λb o e w=>?_,I.base.o9,I.base.iz,I.base.iZ⟩,⟨m,hn.sameBut f (Ne.symm (J x c t)),λj y v' g C Z=>?_⟩,λy m e=>?_,I.free,I.ix,λp hp=>?_,l ⟨oc,T,I.ix x c t⟩ f,by simpa using I.len⟩ ⟨c,f,.inr t⟩
  .exact(f.2 b (yG (yL (xU e) (I.ok.ie x c N t)))).trans (I.base.keep b o e n K w)
  .obtain⟨sl,g⟩:=I.base.slot b o e n K w;exact⟨sl,(f.2 b (yG (yL (xU e) (I.ok.ie x c N t)))).trans g⟩
  .obtain⟨o',g⟩:=I.base.there b o e w;exact⟨o',(f.2 b (yG (yL (xU e) (I.ok.ie x c N t)))).trans g⟩
  .by_cases O:j=i
   .subst O;rw[S] at g;cases g;rw[List.getElem?_set_self F] at C;cases C;exact⟨u,r,.inr ⟨.inl G,c,t,R⟩⟩
   .rw[List.getElem?_set_ne (Ne.symm O)] at C;obtain⟨u',r',q⟩:=hl j y v' g C Z;refine⟨u',r',?_⟩;rcases q with q | ⟨k,m,e,z'⟩
    .exact .inl q
    .refine .inr ⟨k,m,e,z'.sameBut f ?_⟩;rintro rfl;exact O (FS hN g (I.ok.inj _ _ _ e t▸S))
  .by_cases b:m=c
   .subst b;exact⟨_,R⟩
   .obtain⟨c,g⟩:=I.cell y m e;exact⟨c,g.sameBut f b⟩
  .obtain⟨e,n,W,nf,d⟩:=I.pin p hp;refine⟨(f.2 p.1 ?_).trans e,n,W,nf,d⟩;intro q;rw[q,T] at e;have b:oc=p.2:=ma e;exact d Y (by rw[<- b];exact U)
theorem CJ(I:ZE X B L H s)(b:X.N.Nodup)(d:X.N[i]?=some x)(e:CV X.env.scope x)(r:ZG v u)(h:∀a,ZE X B (L.set i (some v)) H a->Q () a)(c:X.fn x=true\/X.env.scope.names.lookup x=some .local:=by first | exact .inl rfl | exact .inr rfl | assumption):wpAny M A (storeName X.env x u) Q E s :=
 Xr I b d e r (λa b _=>h a b) c
theorem ZE.ig(I:ZE X B L H s)(h:s'.os=s.os)(u:Un (frs X.stack) ch H Y s.heap s'.heap)(d:YO X.prog X.w Y s'.heap)(g:AllBare s'.gens)(a:∀b∈ch,(b∈X.ex\/X.s₀.heap.objs.size<=b)/\b≠X.env.locals/\(∀x c,X.env.cells.lookup x=some c->c≠b)/\∀p∈X.pn++B,p.1≠b):ZE X B L Y s':=by
 obtain⟨e,f,b,j,i⟩:=s';have e:i=s.os:=h;subst e;exact I.call (g':=f) (t':=j) (d':=b) u d g a
end
abbrev XK:=gE->Option gF->Hp->Prop
abbrev St:=List (Option V)
abbrev VK:=V->Hp->Prop
abbrev TE:=St->Hp->VK->Prop
abbrev TT:=St->Hp->(Bool->Hp->Prop)->Prop
abbrev TA:=St->Hp->(List V->Hp->Prop)->Prop
structure ZY where
 nx:St->Hp->Prop
 rt:VK
 bk:St->Hp->Prop:=λ_ _=>False
 ct:St->Hp->Prop:=λ_ _=>False
abbrev TS:=ZY->St->Hp->Prop
def EP(X:Cx)(B:List (gF×Obj))(L:St)(Q:VK)(u:gE)(a:gD):Prop:=∃v Y,ZE X B L Y a/\ZG v u/\Q v Y
def TP(X:Cx)(B:List (gF×Obj))(L:St)(Q:Bool->Hp->Prop)(b:Bool)(a:gD):Prop:=∃Y,ZE X B L Y a/\Q b Y
def AP(X:Cx)(B:List (gF×Obj))(L:St)(Q:List V->Hp->Prop)(us:gA)(b:gD):Prop:=∃a Y,ZE X B L Y b/\ZI a us/\Q a Y
def SP(X:Cx)(B:List (gF×Obj))(D:ZY)(f:Flow)(b:gD):Prop :=
 match f with
 | .next=>∃ a Y,ZE X B a Y b/\D.nx a Y
 | .brk=>∃ a Y,ZE X B a Y b/\D.bk a Y
 | .cont=>∃ a Y,ZE X B a Y b/\D.ct a Y
 | .ret u=>∃v a Y,ZE X B a Y b/\ZG v u/\D.rt v Y
def PE(X:Cx)(e:Expr)(t:TE):Prop :=
 ∀(B:List (gF×Obj))(s:gD)(L:St)(H:Hp)(Q:VK),ZE X B L H s->t L H Q->wpAny (model X.prog X.w) X.A (eval e X.env) (EP X B L Q) X.xe s
def PT(X:Cx)(e:Expr)(t:TT):Prop :=
 ∀(B:List (gF×Obj))(s:gD)(L:St)(H:Hp)(Q:Bool->Hp->Prop),ZE X B L H s->t L H Q->wpAny (model X.prog X.w) X.A (isTrue e X.env (eval e X.env)) (TP X B L Q) X.xe s
def PW(X:Cx)(e:Expr)(t:TT):Prop :=
 ∀(a:Sem gE)(B:List (gF×Obj))(s:gD)(L:St)(H:Hp)(Q:Bool->Hp->Prop),ZE X B L H s->t L H Q->wpAny (model X.prog X.w) X.A (isTrue e X.env a) (TP X B L Q) X.xe s
theorem PW.pt(h:PW X e t):PT X e t:=h _
def PA(X:Cx)(b:List Expr)(t:TA):Prop :=
 ∀(a:Pos)(B:List (gF×Obj))(s:gD)(L:St)(H:Hp)(Q:List V->Hp->Prop),ZE X B L H s->t L H Q->wpAny (model X.prog X.w) X.A (spliced (backTo a (starEach b X.env))) (AP X B L Q) X.xe s
def PS(X:Cx)(st:Stmt)(t:TS):Prop :=
 ∀(B:List (gF×Obj))(s:gD)(L:St)(H:Hp)(D:ZY),ZE X B L H s->t D L H->wpAny (model X.prog X.w) X.A (exec st X.env) (SP X B D) X.xe s
def A1(X:Cx)(st:List Stmt)(t:TS):Prop :=
 ∀(B:List (gF×Obj))(s:gD)(L:St)(H:Hp)(D:ZY),ZE X B L H s->t D L H->wpAny (model X.prog X.w) X.A (execs st X.env) (SP X B D) X.xe s
theorem thn{c:Type}{t:Sem c}{Q b:c->gD->Prop}(h:wpAny M A t Q E s)(hQ:∀a s,Q a s->b a s):wpAny M A t b E s:=wpAny_mono h hQ λ_ _ x=>x
section
variable{X:Cx}
inductive YJ(i:Nat)(L:St)(H:Hp)(Q:VK):Prop
 |mk(v)(_:L[i]?=some (some v))(_:Q v H)
def tC(v:V):TE:=λ_ H Q=>Q v H
theorem CU{i:Nat}{x:Str}{pos:Pos}(a:X.N[i]?=some x)(j:Dr X.env.scope x)(f:(x==("__debug__":Str))=false:=by decide)(d:(x==("__classdict__":Str))=false:=by decide):PE X (.Name x pos) (YJ i):=by
 intro B s L H Q I h;obtain⟨v,e,h⟩:=h;obtain⟨m,g,b⟩:=I.loc;obtain⟨u,r,l⟩:=b i x v a e j;have a:EP X B L Q u s:=⟨v,H,I,r,h⟩;rcases l with⟨b,e⟩ | ⟨b,c,hc,hcell⟩
 .exact wpAny_Name (wpAny_loadName_local I.ok.kind b g e a) f
 .rcases b with b | b
  .exact wpAny_Name (wpAny_loadName_cell I.ok.kind b hc hcell a) f
  .exact wpAny_Name (wpAny_loadName_free I.ok.kind b hc hcell a d) f
def Gl(X:Cx)(x:Str):Prop:=X.env.kindOf x=some .globalImplicit
theorem AC{E:fX}{B:List (gF×Obj)}{s:gD}{L:St}{H:Hp}{x:Str}{u:gE}{pos:Pos}{Q:fX}(I:ZE X B L H s)(b:Gl X x)(c:X.mg x=some u)(h:Q u s)(a:(x==("__debug__":Str))=false:=by decide):wpAny (model X.prog X.w) X.A (eval (.Name x pos) X.env) Q E s :=
 Calls.Name_function_global I.ok.kind b (Calls.loadGlobal_global (by rw[I.ok.glob];exact I.mod.glob.keeps I.bk) c h) a
theorem Ut{E:fX}{B:List (gF×Obj)}{s:gD}{L:St}{H:Hp}{x:Str}{u:gE}{pos:Pos}{Q:fX}(I:ZE X B L H s)(d:Gl X x)(e:X.mg x=none)(g:bootBuiltins x=some u)(h:Q u s)(f:x ≠ "__name__" := by decide)(c:(x==("__debug__":Str))=false:=by decide):wpAny (model X.prog X.w) X.A (eval (.Name x pos) X.env) Q E s:=by
 obtain⟨i,a,b⟩:=I.mod.blt;exact Calls.Name_function_global I.ok.kind d (Calls.loadGlobal_builtin (by rw[I.ok.glob];exact I.mod.glob.keeps I.bk) e (by rw[I.ok.blt];exact a.keeps I.bk) ((b x f).trans g) h) c
theorem M1(b:Gl X x)(c:X.mg x=some u)(r:ZG v u)(a:(x==("__debug__":Str))=false:=by decide):PE X (.Name x pos) (tC v) :=
 λ_ _ _ H _ I h=>AC I b c ⟨v,H,I,r,h⟩ a
theorem bB{x:Str}{v:V}{u:gE}{pos:Pos}(b:Gl X x)(c:X.mg x=none)(e:bootBuiltins x=some u)(r:ZG v u)(d:x ≠ "__name__" := by decide)(a:(x==("__debug__":Str))=false:=by decide):PE X (.Name x pos) (tC v) :=
 λ_ _ _ H _ I h=>Ut I b c e ⟨v,H,I,r,h⟩ d a
variable{a b:Expr}{ta tb:TE}{pos:Pos}
inductive cJ(Q:Bool->Hp->Prop)(x:V)(d:Hp):Prop
 |mk(c)(_:x=.bl c)(_:Q c d)
def tB(t:TE):TT:=λL H Q=>t L H λx c=>cJ Q x c
variable{tA tB':TT}{rest:List Expr}
def fN(t u:TT):TT:=λL H Q=>t L H λc d=>if c=true then u L d Q else Q false d
def Ro(t u:TT):TT:=λL H Q=>t L H λc d=>if c=true then Q true d else u L d Q
def SR(t:TT):TT:=λL H Q=>t L H λc d=>Q (!c) d
inductive Bf(tb:TE)(L:St)(Q:VK)(x:V)(d:Hp):Prop
 |mk(c)(_:x=.bl c)(_:if c=true then tb L d Q else Q (.bl false) d)
def SH(ta tb:TE):TE:=λL H Q=>ta L H λx c=>Bf tb L Q x c
theorem dU {op} (h:PE X a t):PE X (.BoolOp op [a] pos) t:=λB s L H Q I c=>BoolOp_one (h B s L H Q I c)
def SF(t:TT)(ta tb:TE):TE:=λL H Q=>t L H λc d=>if c=true then ta L d Q else tb L d Q
end
def ZD(K:uFg)(H:Hp)(a:gF)(J:aG):Prop :=
 Rd H a (.lst J)\/
  ∃o b n,K.lookup a=some o/\o.cls=.type "list" /\ o.dict=none/\o.data=.seq b n/\b.size<=sizeLine/\ZI J b.toList
def ZJ(K:uFg)(H:Hp)(a:gF)(J:aG):Prop :=
 Rd H a (.tup J)\/
  ∃o b n,K.lookup a=some o/\o.cls=.type "tuple" /\ o.data=.seq b n/\b.size<=sizeLine/\ZI J b.toList
def QZ:gE->Option V
 | .none=>some .non
 | .bool b=>some (.bl b)
 | .int i _=>some (.int i)
 | .str x _=>some (.str x)
 | .bytes b _=>some (.byt b)
 | .float b _=>some (.flt b)
 | .ref a=>some (.ref a)
 | .type n=>some (.ty n)
 | _=>none
theorem ZG.abs(r:ZG x u):QZ u=some x:=by
 cases x with
 | non=>cases r;rfl
 | bl _=>cases r;rfl
 | int _=>obtain⟨t,rfl⟩:=r;rfl
 | str _=>obtain⟨t,rfl⟩:=r;rfl
 | byt _=>obtain⟨t,rfl⟩:=r;rfl
 | flt _=>obtain⟨t,rfl⟩:=r;rfl
 | ref _=>cases r;rfl
 | ty _=>cases r;rfl
theorem ZG.inj(r:ZG x u)(q:ZG y u):x=y:=ma (r.abs.symm.trans q.abs)
theorem ZI.inj:∀{J ys:aG}{us:gA},ZI J us->ZI ys us->J=ys:=λ{J ys us} r s=>by
 induction r generalizing ys with
 | nil=>cases s;rfl
 | cons r _ a=>cases s with | cons q t=>rw[r.inj q,a t]
section
variable{X:Cx}{B:List (gF×Obj)}{L:St}{H:Hp}{s:gD}{a:gF}{J ys:aG}
theorem ZD.of{K:uFg}(h:H a=some (.lst J)):ZD K H a J:=.inl (.inl h)
theorem ZJ.of{K:uFg}(h:H a=some (.tup J)):ZJ K H a J:=.inl (.inl h)
theorem ZE.list(I:ZE X B L H s)(h:ZD X.K H a J):∃b:List gE,ZI J b/\PlainL s.heap a b.toArray/\J.length<=sizeLine:=by
 rcases h with h | ⟨o,b,n,hk,hc,hd,hs,hz,r⟩
 .obtain⟨z,b,n,r,e⟩:=h.ok I.iD;exact⟨b,r,⟨_,n,e,rfl,rfl,rfl⟩,z⟩
 .refine⟨b.toList,r,⟨o,n,I.iF a o hk,hc,hd,by simpa using hs⟩,?_⟩;have e:=r.length;simp only[Array.length_toList] at e;lia
theorem ZE.tuple(I:ZE X B L H s)(h:ZJ X.K H a J):∃b:List gE,ZI J b/\IsTup s.heap a b.toArray/\J.length<=sizeLine:=by
 rcases h with h | ⟨o,b,n,hk,hc,hs,hz,r⟩
 .obtain⟨z,b,r,p⟩:=h.ok I.iD;exact⟨b,r,p,z⟩
 .refine⟨b.toList,r,⟨o,I.iF a o hk,hc,n,by simpa using hs⟩,?_⟩;have e:=r.length;simp only[Array.length_toList] at e;lia
theorem ZE.iH(I:ZE X B L H s)(h:ZD X.K H a J)(h':ZD X.K H a ys):J=ys:=by
 obtain⟨c,r,⟨o,n,e,_,_,d⟩,_⟩:=I.list h;obtain⟨b,i,⟨k,j,g,_,_,f⟩,_⟩:=I.list h';rw[e] at g;cases g;rw[d] at f;injection f with d _
 have:c=b:=by simpa using congrArg Array.toList d
 subst this;exact r.inj i
theorem ZE.o8(I:ZE X B L H s)(h:ZJ X.K H a J)(h':ZJ X.K H a ys):J=ys:=by
 obtain⟨c,r,⟨o,e,_,n,d⟩,_⟩:=I.tuple h;obtain⟨b,i,⟨k,g,_,j,f⟩,_⟩:=I.tuple h';rw[e] at g;cases g;rw[d] at f;injection f with d _
 have:c=b:=by simpa using congrArg Array.toList d
 subst this;exact r.inj i
end
abbrev Cx.ox(X:Cx)(E:fX):Cx:={X with xe:=E }
abbrev Cx.iO(X:Cx):Cx:=X.ox λ_ _=>False
theorem Cx.Ok.ox{X:Cx}(a:X.Ok)(E:fX):(X.ox E).Ok :=
 ⟨a.mod,a.kind,a.glob,a.blt,a.above,a.inj,a.has,a.ie,a.hd,a.frames,a.iW,a.exf,a.bs,a.ic,a.iM,a.ir,a.iA,a.iy⟩
theorem Cx.Ok.oq{X:Cx}{E:fX}(a:(X.ox E).Ok):X.Ok :=
 ⟨a.mod,a.kind,a.glob,a.blt,a.above,a.inj,a.has,a.ie,a.hd,a.frames,a.iW,a.exf,a.bs,a.ic,a.iM,a.ir,a.iA,a.iy⟩
section
variable{X:Cx}{B:List (gF×Obj)}{L:St}{H:Hp}{s:gD}{E:fX}
theorem ZE.ox(I:ZE X B L H s)(E:fX):ZE (X.ox E) B L H s:=⟨I.ok.ox E,I.os,I.bare,I.base,I.loc,I.cell,I.free,I.ix,I.pin,I.iD,I.len⟩
theorem ZE.oq(I:ZE (X.ox E) B L H s):ZE X B L H s:=⟨I.ok.oq,I.os,I.bare,I.base,I.loc,I.cell,I.free,I.ix,I.pin,I.iD,I.len⟩
theorem SP.oq(h:SP (X.ox E) B D f s'):SP X B D f s':=by
 cases f with
 | next=>obtain⟨a,Y,I,q⟩:=h;exact⟨a,Y,I.oq,q⟩
 | brk=>obtain⟨a,Y,I,q⟩:=h;exact⟨a,Y,I.oq,q⟩
 | cont=>obtain⟨a,Y,I,q⟩:=h;exact⟨a,Y,I.oq,q⟩
 | ret u=>obtain⟨v,a,Y,I,r,q⟩:=h;exact⟨v,a,Y,I.oq,r,q⟩
theorem A1.iO{st:List Stmt}{t:TS}(h:A1 X.iO st t):A1 X st t:=λB s L H D I a =>
 wpAny_mono (h B s L H D (I.ox _) a) (λ_ _ q=>q.oq) λ_ _ z=>False.elim z
end
section
variable{X:Cx}{st:Stmt}{rest:List Stmt}{t u:TS}{te:TE}
def Yy:TS:=λD L H=>D.nx L H
def Ug(t u:TS):TS:=λD L H=>t {D with nx:=u D } L H
def bF:TS:=λD L H=>D.ct L H
theorem ZE.quiet{B:List (gF×Obj)}{L:St}{H:Hp}{s:gD}(I:ZE X B L H s):interactive X.env=false:=by simp[interactive,I.ok.kind]
def EJ(te:TE):TS:=λD L H=>te L H λ_ a=>D.nx L a
def Sn(te:TE):TS:=λD L H=>te L H D.rt
def Dn(c:TT)(t u:TS):TS:=λD L H=>c L H λb a=>if b=true then t D L a else u D L a
end
abbrev TG:=V->St->Hp->(St->Hp->Prop)->Prop
abbrev Jd:=List V->St->Hp->(St->Hp->Prop)->Prop
def PG(X:Cx)(a:Expr)(t:TG):Prop :=
 ∀(B:List (gF×Obj))(s:gD)(L:St)(H:Hp)(v:V)(u:gE)(Q:St->Hp->Prop),ZE X B L H s->ZG v u->t v L H Q ->
  wpAny (model X.prog X.w) X.A (assign a X.env u) (λ_ b=>∃ a Y,ZE X B a Y b/\Q a Y) X.xe s
def LD(X:Cx)(c:List Expr)(t:Jd):Prop :=
 ∀(B:List (gF×Obj))(s:gD)(L:St)(H:Hp)(b:aG)(a:gA)(Q:St->Hp->Prop),ZE X B L H s->ZI b a->t b L H Q ->
  wpAny (model X.prog X.w) X.A (assignInOrder ((assignEach c X.env).map (·.2)) a) (λ_ b=>∃ a Y,ZE X B a Y b/\Q a Y) X.xe s
abbrev DK:=V->V->V->Hp->(Hp->Prop)->Prop
def SV(X:Cx)(t:DK):Prop :=
 ∀(B:List (gF×Obj))(s:gD)(L:St)(H:Hp)(o i v:V)(b a u:gE)(Q:Hp->Prop),ZE X B L H s->ZG o b->ZG i a->ZG v u->t o i v H Q ->
  wpAny (model X.prog X.w) X.A (setItem b a u) (λ_ a=>∃Y,ZE X B L Y a/\Q Y) X.xe s
section
variable{X:Cx}{pos:Pos}
def Wr(i:Nat):TG:=λv L H Q=>Q (L.set i (some v)) H
theorem Ex(a:X.N.Nodup)(c:X.N[i]?=some x)(d:CV X.env.scope x)(b:X.fn x=true\/X.env.scope.names.lookup x=some .local:=by first | exact .inl rfl | exact .inr rfl | assumption):PG X (.Name x pos) (Wr i):=by
 intro B s L H v u Q I r h;exact wpAny_assign_Name (CJ I a c d r (λc a=>⟨_,H,a,h⟩) b)
def Gb:Jd:=λa L H Q=>a=[]/\Q L H
inductive VQ(t:TG)(u:Jd)(vs:aG)(L:St)(H:Hp)(Q:St->Hp->Prop):Prop
 |mk(v r)(_:vs=v::r)(_:t v L H λa Y=>u r a Y Q)
inductive Tv(K:uFg)(n:Nat)(t:Jd)(v:V)(L:St)(H:Hp)(Q:St->Hp->Prop):Prop
 |mk(a J)(_:v=.ref a)(_:ZJ K H a J)(_:J.length=n)(_:t J L H Q)
theorem IL{a:List Expr}{k:Nat}{t:Jd}{n:Nat}(e:X.calm=true)(h:LD X a t)(g:(assignEach a X.env).length=n:=by rfl)(b:(assignEach a X.env).findIdx? (·.1)=none:=by rfl):PG X (.Tuple a k pos) (Tv X.K n t):=by
 intro B s L H v u Q I r c;obtain⟨a,J,d,i,f,c⟩:=c;subst d;cases r;obtain⟨j,a,d,l⟩:=I.tuple i;refine assign_Tuple_tuple (I.ok.hd e) d (by simp[g,<- f,a.length]) b λb f=>?_;have d:ZE X B L H {s with heap:=b }:=I.kept (t':=s.toks) λb o e=>f b o (yG (xU e)) e;exact h B _ L H J _ Q d (by simpa using a) c
def eQ(a b:TE)(t:DK):TG:=λv L H Q=>a L H λo a=>b L a λi a=>t o i v a λa=>Q L a
def Js(a:TE)(g:TG):TS:=λD L H=>a L H λx a=>g x L a D.nx
theorem KO{i:Nat}{x:Str}{e:Expr}{b:TE}{a:Pos}(c:X.N.Nodup)(g:X.N[i]?=some x)(j:CV X.env.scope x)(d:PE X e b)(hs:swapsWith e (some (.Name x a)) pos.line X.env=pure false:=by rfl)(f:X.fn x=true\/X.env.scope.names.lookup x=some .local:=by first | exact .inl rfl | exact .inr rfl | assumption) :
  PS X (.Assign [.Name x a] e pos) (Js b (Wr i)):=by
 intro B s L H D I h;refine wpAny_Assign_Name (thn (d B s L H _ I h) λv k ⟨y,a,b,h,d⟩=>?_) hs;exact CJ b c g j h (λc b=>⟨_,a,b,d⟩) f
end
structure It where
 go:Nat->Hp->Prop
 oy:Nat->Hp->V->Hp->Prop
 stop:Nat->Hp->Prop
def Up(X:Cx)(B:List (gF×Obj))(H:Hp)(b:gF):Prop :=
 H b=none/\b≠X.env.locals/\b∉X.fs/\(b∈X.ex\/X.s₀.heap.objs.size<=b)/\(∀x c,X.env.cells.lookup x=some c->c≠b)/\∀p∈X.pn++B,p.1≠b
theorem ZE.iw{X:Cx}{B:List (gF×Obj)}{L:St}{H Y:Hp}{s:gD}{b:gF}(I:ZE X B L H s)(a:s.heap.objs.size<=b)(c:Y b=none):Up X B Y b:=by
 refine⟨c,Nat.ne_of_gt (yL I.lt a),I.nofs a,.inr (xZ I.sz a),λx c e z=>?_,λp b z=>?_⟩
 .obtain⟨v,q⟩:=I.cell x c e;exact absurd (yL q.lt (by rw[z];exact a)) (zT _)
 .exact absurd (yL (xU (I.pin p b).1) (by rw[z];exact a)) (zT _)
structure VL (P:gG) (w:gH) (K:uFg) (tg:Expr) (J:It) (fp:gC) (it:gF) (tn:Nat->Heap->Prop):Prop where
 mem:it∈fp
 obj:∀i h,tn i h->∀b∈fp,∃o,h.get? b=some o/\∀v,o.data ≠ .cell v
 keep:∀i h h',tn i h->(∀b∈fp,∀o,h.get? b=some o->h'.get? b=some o)->tn i h'
 item:∀(X:Cx),X.prog=P->X.w=w->X.K=K->X.calm=true->∀(i:Nat)(B:List (gF×Obj))(s:gD)(L:St)(H:Hp)(E:fX),ZE X B L H s->(∀b∈fp,Up X B H b)->tn i s.heap->J.go i H ->
  wpAny (model P w) X.A (pyNext (.ref it)) (λr s1=>∃u,r=some u /\
   wpAny (model P w) X.A (letOwnedTupleGo tg (.ref it) u) (λ_ s2=>∃x Y,ZE X B L Y s2/\ZG x u/\J.oy i H x Y/\tn (i+1) s2.heap/\∀b∈fp,Y b=none) E s1) E s
 done:∀(X:Cx),X.prog=P->X.w=w->X.K=K->X.calm=true->∀(i:Nat)(B:List (gF×Obj))(s:gD)(L:St)(H:Hp)(E:fX),ZE X B L H s->(∀b∈fp,Up X B H b)->tn i s.heap->J.stop i H ->
  wpAny (model P w) X.A (pyNext (.ref it)) (λr s1=>r=none/\ZE X B L H s1) E s
 self:∀(A:gI)(i:Nat)(s:gD)(Q:fX)(E:fX),tn i s.heap->Q (.ref it) s->wpAny (model P w) A (pyIter (.ref it)) Q E s
abbrev TI:=St->Hp->(It->Hp->Prop)->Prop
def FT(X:Cx)(B:List (gF×Obj))(L:St)(e:Expr)(R:It->Hp->Prop)(a:gE)(b:gD):Prop :=
 ∃it c d J Y,a=.ref it/\ZE X B L Y b/\VL X.prog X.w X.K e J c it d/\d 0 b.heap/\(∀b∈c,Up X B Y b)/\R J Y
def PI(X:Cx)(b a:Expr)(c:TI):Prop :=
 ∀(B:List (gF×Obj))(s:gD)(L:St)(H:Hp)(R:It->Hp->Prop),ZE X B L H s->c L H R ->
  wpAny (model X.prog X.w) X.A (eval a X.env) (λv a=>wpAny (model X.prog X.w) X.A (pyIter v) (FT X B L b R) X.xe a) X.xe s
theorem Bv(d:s.heap.get? it=some o)(a:o.cls=.type n)(b:o.data=.fields vs)(c:["enumerate","zip","dict_itemiterator","dict_reverseitemiterator","odict_iterator","itertools.zip_longest","itertools.pairwise"].contains n=false)(hQ:Q () s):wpAny M A (letOwnedTupleGo tg (.ref it) u) Q E s:=by
  unfold letOwnedTupleGo;cases tg<;>first
    | exact wpAny_pure hQ
    | (cases u<;>first
        | exact wpAny_pure hQ
        | (refine wpAny_bind (wpAny_load d ?_)
           rw[a,b];show wpAny M A (if (["enumerate","zip","dict_itemiterator","dict_reverseitemiterator","odict_iterator","itertools.zip_longest","itertools.pairwise"].contains n&&vs[0]?==some (rawInt _))=true then _ else _) Q E s;rw[if_neg (by intro h;rw[c,wG] at h;cases h)]
           exact wpAny_pure hQ))
def JC(K:uFg)(a:gF):It :=
 ⟨λi H=>∃J x,ZD K H a J/\J[i]?=some x,λi H x Y=>Y=H/\∀J,ZD K H a J->J[i]?=some x,λi H=>∃J,ZD K H a J/\J.length<=i⟩
def Eh(K:uFg)(a:gF):It :=
 ⟨λi H=>∃J x,ZJ K H a J/\J[i]?=some x,λi H x Y=>Y=H/\∀J,ZJ K H a J->J[i]?=some x,λi H=>∃J,ZJ K H a J/\J.length<=i⟩
def Jn(lo:Int)(n:Nat):It:=⟨λi _=>i<n,λi H x Y=>Y=H/\x=.int (lo+i),λi _=>n<=i⟩
theorem X8{P:gG}{w:gH}{K:uFg}{b:Expr}(a it:gF):VL P w K b (JC K a) [it] it (λi h=>h.IsListIter it a i) where
 mem:=by simp
 obj:=λi h st b f=>by
  have e:b=it:=by simpa using f
  subst e;obtain⟨o,e,c,d⟩:=st;exact⟨o,e,λv z=>by rw[d] at z;cases z⟩
 keep:=λi h j st k=>st.at λo e=>k it (by simp) o e
 item:=by
  intro X z C y N i B s L H E I k st A;subst z C y;obtain⟨J,x,l,F⟩:=A;obtain⟨G,M,p,R⟩:=I.list l;obtain⟨u,g,S⟩:=M.get F;obtain⟨m,n,Q,r,t,v⟩:=k it (by simp);refine wpAny_pyNext_list_item st p.isList (x:=u) (by simpa using g) λj g T=>?_;have O:ZE X B L H {s with heap:=j }:=I.turned (t':=s.toks) (λb o f e=>(T.2 b f).trans e) m n r t v;obtain⟨o,e,c,d⟩:=id g;exact⟨u,rfl,Bv (s:={s with heap:=j }) e c d aA ⟨x,H,O,S,⟨rfl,λd c=>by rw[I.iH c l];exact F⟩,g,λb f=>(k b f).1⟩⟩
 done:=by
  intro X z C y N i B s L H E I k st A;subst z C y;obtain⟨J,l,F⟩:=A;obtain⟨G,M,p,R⟩:=I.list l;obtain⟨m,n,Q,r,t,v⟩:=k it (by simp);have c:=M.length;exact wpAny_pyNext_list_end (I.ok.hd N) st p.isList (by simp;lia) λj c=>⟨rfl,I.turned (t':=s.toks) (λb o f e=>c b o f e) m n r t v⟩
 self:=λ_ _ _ _ _ st h=>wpAny_pyIter_listiter st h
theorem Mw{P:gG}{w:gH}{K:uFg}{b:Expr}(a it:gF):VL P w K b (Eh K a) [it] it (λi h=>h.IsTupleIter it a i) where
 mem:=by simp
 obj:=λi h st b f=>by
  have e:b=it:=by simpa using f
  subst e;obtain⟨o,e,c,d⟩:=st;exact⟨o,e,λv z=>by rw[d] at z;cases z⟩
 keep:=λi h l st k=>st.at λo e=>k it (by simp) o e
 item:=by
  intro X A F z N i B s L H E I k st C;subst A F z;obtain⟨J,x,m,G⟩:=C;obtain⟨g,M,p,R⟩:=I.tuple m;obtain⟨u,j,S⟩:=M.get G;obtain⟨n,r,Q,t,v,y⟩:=k it (by simp);refine wpAny_pyNext_tuple_item st (show s.heap.IsTuple a g.toArray from p) (x:=u) (by simpa using j) λl j T=>?_;have O:ZE X B L H {s with heap:=l }:=I.turned (t':=s.toks) (λb o f e=>(T.2 b f).trans e) n r t v y;obtain⟨o,e,c,d⟩:=id j;exact⟨u,rfl,Bv (s:={s with heap:=l }) e c d aA ⟨x,H,O,S,⟨rfl,λd c=>by rw[I.o8 c m];exact G⟩,j,λb f=>(k b f).1⟩⟩
 done:=by
  intro X A F z N i B s L H E I k st C;subst A F z;obtain⟨J,m,G⟩:=C;obtain⟨g,M,p,R⟩:=I.tuple m;obtain⟨n,r,Q,t,v,y⟩:=k it (by simp);have c:=M.length;exact wpAny_pyNext_tuple_end (I.ok.hd N) st (show s.heap.IsTuple a g.toArray from p) (by simp;lia) λl c=>⟨rfl,I.turned (t':=s.toks) (λb o f e=>c b o f e) n r t v y⟩
 self:=λ_ _ _ _ _ st h=>wpAny_pyIter_tupleiter st h
theorem Xm{P:gG}{w:gH}{K:uFg}{a:Expr}(it:gF)(lo:Int)(n:Nat):VL P w K a (Jn lo n) [it] it (λi h=>IsRangeIter h it (lo+(i:Nat) * 1) ((n:Int) - (i:Nat)) 1) where
 mem:=by simp
 obj:=λi h st b a=>by grind
 keep:=λi h d st k=>k it (by simp) _ st
 item:=by
  intro X r y p u i B s L H E I f st x;subst r y p;obtain⟨g,j,A,k,l,m⟩:=f it (by simp);have W:=Walks.range (prog:=X.prog) (w:=X.w) (I.ok.hd u) it lo 1 n;refine W.item i s _ _ x st λv d z e c C=>?_;obtain⟨t,rfl⟩:=e;have v:ZE X B L H {s with heap:=d,toks:=z }:=I.turned (λb o a e=>C b o (by simpa using a) e) g j k l m;refine⟨_,rfl,Bv (s:={s with heap:=d,toks:=z }) (n:="range_iterator") c rfl rfl aA ⟨.int (lo+i),H,v,⟨t,?_⟩,⟨rfl,rfl⟩,c,λb a=>(f b a).1⟩⟩;rw[Int.mul_one]
 done:=by
  intro X r y p u i B s L H E I f st x;subst r y p;obtain⟨g,j,A,k,l,m⟩:=f it (by simp);exact wpAny_pyNext_range_end (I.ok.hd u) st (by have:n<=i:=x;lia) λd c=>⟨rfl,I.turned (t':=s.toks) (λb o a e=>c b o a e) g j k l m⟩
 self:=λ_ _ _ _ _ st h=>wpAny_pyIter_rangeiter st h
section
variable{X:Cx}{tg:Expr}
inductive A8(K:uFg)(R:It->Hp->Prop)(x:V)(b:Hp):Prop
 |mk(a)(_:x=.ref a)(_:(∃J,ZD K b a J))(_:R (JC K a) b)
def dZ(K:uFg)(a:TE):TI:=λL H R=>a L H λx a=>A8 K R x a
inductive BN(K:uFg)(R:It->Hp->Prop)(x:V)(b:Hp):Prop
 |mk(a)(_:x=.ref a)(_:(∃J,ZJ K b a J))(_:R (Eh K a) b)
def RX(K:uFg)(a:TE):TI:=λL H R=>a L H λx a=>BN K R x a
theorem Gd{B:List (gF×Obj)}{L:St}{H:Hp}{s:gD}{R:It->Hp->Prop}{E:fX}{lo a:Int}{t u v:Tok}{d:Nat}(I:ZE X B L H s)(b : -(2^62)<=lo)(c:lo<2^62)(e : -(2^62)<=a)(f:a<2^62)(q:R (Jn lo (a - lo).toNat) H):wpAny (model X.prog X.w) X.A (pyIter (.ref s.heap.objs.size)) (FT X B L tg R) E {s with heap:=s.heap.push {cls:=.type "range", data:=.fields #[.int lo t,.int a u,.int 1 v] },toks:=d }:=by
 refine wpAny_pyIter_range (IsRange.new ..) (small_one b c e f) ?_;have c:ZE X B L H {s with heap:=s.heap.push {cls:=.type "range", data:=.fields #[.int lo t,.int a u,.int 1 v] },toks:=d }:=I.kept λb o e=>xH _ e;refine⟨(s.heap.push {cls:=.type "range", data:=.fields #[.int lo t,.int a u,.int 1 v] }).objs.size,[(s.heap.push {cls:=.type "range", data:=.fields #[.int lo t,.int a u,.int 1 v] }).objs.size],_,_,H,rfl, c.kept (t':=d) λb o e=>xH _ e,Xm _ lo (a - lo).toNat,?_,λb g=>?_,q⟩
 .have d:lo+((0:Nat):Int) * 1=lo:=by simp
  have f:(((a - lo).toNat:Nat):Int) - ((0:Nat):Int)=Builtin.Range.rangeSize lo a 1:=by rw[rangeSize_one];split<;>lia
  show IsRangeIter _ _ (lo+((0:Nat):Int) * 1) ((((a - lo).toNat:Nat):Int) - ((0:Nat):Int)) 1;rw[d,f];exact xW _ rfl
 .have e:b=(s.heap.push {cls:=.type "range", data:=.fields #[.int lo t,.int a u,.int 1 v] }).objs.size:=by simpa using g
  subst e;exact c.iw (xF _) (c.iD.fresh (xF _))
inductive AA(R:It->Hp->Prop)(vs:aG)(a:Hp):Prop
 |mk(j)(_:vs=[.int j])(_:-(2^62)<=j)(_:j<2^62)(_:R (Jn 0 j.toNat) a)
def NF(a:TA):TI:=λL H R=>a L H λb a=>AA R b a
inductive Bi(R:It->Hp->Prop)(vs:aG)(a:Hp):Prop
 |mk(i j)(_:vs=[.int i,.int j])(_:(-(2^62)<=i/\i<2^62 /\ -(2^62)<=j/\j<2^62))(_:R (Jn i (j - i).toNat) a)
def NM(a:TA):TI:=λL H R=>a L H λb a=>Bi R b a
def fU(a:TI)(g:TG)(c:TS):TS:=λD L H=>a L H λJ a=>∃W:Nat->Nat->St->Hp->Prop,(∃m,W 0 m L a)/\∀i m L H,W i m L H ->
 (J.stop i H/\D.nx L H)\/(J.go i H/\∃N:St->Hp->Prop,(∀ a Y,N a Y->∃b,b<m/\W (i+1) b a Y)/\∀x Y,J.oy i H x Y->g x L Y λa b=>c {D with nx:=N,ct:=N,bk:=D.nx } a b)
def Bj(a:gC)(h:Heap):List (gF×Obj):=a.filterMap λb=>(h.get? b).map λo=>(b,o)
theorem BK(a:b∈fp)(e:h.get? b=some o):(b,o)∈Bj fp h:=List.mem_filterMap.mpr ⟨b,a,by rw[e];rfl⟩
theorem Hf(a:p∈Bj fp h):p.1∈fp/\h.get? p.1=some p.2:=by
 obtain⟨b,c,e⟩:=List.mem_filterMap.mp a;cases q:h.get? b with
 | none=>rw[q] at e;cases e
 | some o =>
  rw[q] at e;have a:(b,o)=p:=ma e;subst a;exact⟨c,q⟩
theorem ZE.pinned{B:List (gF×Obj)}{L:St}{H:Hp}{s:gD}{a:gC}(I:ZE X B L H s)(d:∀b∈a,Up X B H b)(h:∀b∈a,∃o,s.heap.get? b=some o/\∀v,o.data ≠ .cell v):ZE X (B++Bj a s.heap) L H s :=
 I.iS λp a=>(xJ.mp a).elim (λz=>I.pin p (xK _ z)) λz=>by
  obtain⟨b,e⟩:=Hf z;obtain⟨c,f,g,_⟩:=d p.1 b;obtain⟨o,a,d⟩:=h p.1 b;rw[e] at a;cases a;exact⟨e,c,f,g,d⟩
theorem ZE.oh{B pl:List (gF×Obj)}{L:St}{H:Hp}{s:gD}(I:ZE X (B++pl) L H s):ZE X B L H s:=I.iS λp a=>I.pin p (xK _ (yN _ a))
end
theorem Nq{K:uFg}{a:gF}{J:aG}{g:TG}{f:TS}{D:ZY}{L:St}{H:Hp}(Pv:Nat->St->Hp->Prop)(h:Pv 0 L H)(k:∀i L H,i<=J.length->Pv i L H->ZD K H a J)(hs:∀i x L H,J[i]?=some x->Pv i L H->g x L H λc d=>f {D with nx:=Pv (i+1),ct:=Pv (i+1),bk:=D.nx } c d)(j:∀ L H,Pv J.length L H->D.nx L H) :
  ∃W:Nat->Nat->St->Hp->Prop,(∃m,W 0 m L H)/\∀i m L H,W i m L H ->
   ((JC K a).stop i H/\D.nx L H)\/((JC K a).go i H/\∃N:St->Hp->Prop,(∀ b Y,N b Y->∃e,e<m/\W (i+1) e b Y)/\∀x Y,(JC K a).oy i H x Y->g x L Y λc d=>f {D with nx:=N,ct:=N,bk:=D.nx } c d):=by
 refine⟨λi m L H=>m=J.length - i/\i<=J.length/\Pv i L H,⟨J.length,by simp,yP _,h⟩,?_⟩;rintro i m L H ⟨rfl,c,p⟩;have q:=k i L H c p
 by_cases c:i<J.length
 .refine .inr ⟨⟨J,J[i],q,by simp[c]⟩,Pv (i+1),λb Y d=>⟨J.length - (i+1),by lia,rfl,c,d⟩,λx Y y=>?_⟩;obtain⟨e,y⟩:=y;subst e;exact hs i x L _ (y J q) p
 .have e:i=J.length:=by lia
  subst e;exact .inl ⟨⟨J,q,xF _⟩,j L H p⟩
theorem MQ{lo:Int}{n:Nat}{g:TG}{e:TS}{D:ZY}{L:St}{H:Hp}(Pv:Nat->St->Hp->Prop)(f:Pv 0 L H)(hs:∀i L H,i<n->Pv i L H->g (.int (lo+i)) L H λa c=>e {D with nx:=Pv (i+1),ct:=Pv (i+1),bk:=D.nx } a c)(h:∀ L H,Pv n L H->D.nx L H) :
  ∃W:Nat->Nat->St->Hp->Prop,(∃m,W 0 m L H)/\∀i m L H,W i m L H ->
   ((Jn lo n).stop i H/\D.nx L H)\/((Jn lo n).go i H/\∃N:St->Hp->Prop,(∀ b Y,N b Y->∃d,d<m/\W (i+1) d b Y)/\∀x Y,(Jn lo n).oy i H x Y->g x L Y λa c=>e {D with nx:=N,ct:=N,bk:=D.nx } a c):=by
 refine⟨λi m L H=>m=n - i/\i<=n/\Pv i L H,⟨n,by simp,yP _,f⟩,?_⟩;rintro i m L H ⟨rfl,a,p⟩
 by_cases a:i<n
 .refine .inr ⟨a,Pv (i+1),λb Y c=>⟨n - (i+1),by lia,rfl,a,c⟩,λx Y y=>?_⟩;obtain⟨e,y⟩:=y;subst e y;exact hs i L _ a p
 .have e:i=n:=by lia
  subst e;exact .inl ⟨xF _,h L H p⟩
abbrev R2:=V->V->Hp->VK->Prop
def TK(X:Cx)(f:gE->gE->Sem gE)(r:R2):Prop :=
 ∀(B:List (gF×Obj))(s:gD)(L:St)(H:Hp)(x y:V)(v u:gE)(Q:VK),ZE X B L H s->ZG x v->ZG y u->r x y H Q ->
  wpAny (model X.prog X.w) X.A (f v u) (EP X B L Q) X.xe s
def eX(X:Cx)(f:gE->Sem gE)(r:V->Hp->VK->Prop):Prop :=
 ∀(B:List (gF×Obj))(s:gD)(L:St)(H:Hp)(x:V)(v:gE)(Q:VK),ZE X B L H s->ZG x v->r x H Q ->
  wpAny (model X.prog X.w) X.A (f v) (EP X B L Q) X.xe s
def Jr(X:Cx)(f:gE)(r:List V->Hp->VK->Prop):Prop :=
 ∀(B:List (gF×Obj))(s:gD)(L:St)(H:Hp)(J:aG)(a:gA)(Q:VK),ZE X B L H s->ZI J a->r J H Q ->
  wpAny (model X.prog X.w) X.A (call f a) (EP X B L Q) X.xe s
def eU(X:Cx)(r:V->Hp->(Bool->Hp->Prop)->Prop):Prop :=
 ∀(B:List (gF×Obj))(s:gD)(L:St)(H:Hp)(x:V)(v:gE)(Q:Bool->Hp->Prop),ZE X B L H s->ZG x v->r x H Q ->
  wpAny (model X.prog X.w) X.A (truthy v) (TP X B L Q) X.xe s
def JA(r:R2)(a b:TE):TE:=λL H Q=>a L H λx a=>b L a λy a=>r x y a Q
def RQ(r:V->Hp->VK->Prop)(a:TE):TE:=λL H Q=>a L H λx a=>r x a Q
inductive rI(C:Int->Int->Prop)(g:Int->Int->V)(x y:V)(H:Hp)(Q:VK):Prop
 |mk(i j)(_:x=.int i)(_:y=.int j)(_:C i j)(_:Q (g i j) H)
inductive JE(g:Int->Int->V)(x y:V)(H:Hp)(Q:VK):Prop
 |mk(i j)(_:x=.int i)(_:y=.int j)(_:Q (g i j) H)
inductive rU(g:Int->V)(x:V)(H:Hp)(Q:VK):Prop
 |mk(i)(_:x=.int i)(_:Q (g i) H)
theorem FG(j:PE X a ta)(k:PE X b tb){B:List (gF×Obj)}{s:gD}{L:St}{H:Hp}{R:V->V->Hp->Prop}(I:ZE X B L H s)(h:ta L H λx i=>tb L i λy c=>R x y c){Q:fX}{f:gE->gE->Sem gE}(l:∀v u g x y c,ZE X B L c g->ZG x v->ZG y u->R x y c->wpAny (model X.prog X.w) X.A (f v u) Q X.xe g) :
  wpAny (model X.prog X.w) X.A (eval a X.env) (λv d=>wpAny (model X.prog X.w) X.A (eval b X.env) (λu e=>wpAny (model X.prog X.w) X.A (f v u) Q X.xe e) X.xe d) X.xe s:=by
 refine thn (j B s L H _ I h) λv m ⟨x,i,d,j,e⟩=>?_;refine thn (k B m L i _ d e) λu g ⟨y,c,d,i,e⟩=>?_;exact l v u g x y c d j i e
theorem opI{f:gE->gE->Sem gE}{C:Int->Int->Prop}{g:Int->Int->Int}(rule:∀i j t u s Q E,C i j->Q (.int (g i j) s.toks) {s with toks:=s.toks+1 }->wpAny (model X.prog X.w) X.A (f (.int i t) (.int j u)) Q E s) :
  TK X f (rI C λi j=>.int (g i j)):=by
 intro B s L H x y v u Q I b c h;obtain⟨i,j,rfl,rfl,a,q⟩:=h;obtain⟨t,rfl⟩:=b;obtain⟨b,rfl⟩:=c;exact rule i j t b s _ _ a ⟨.int (g i j),H,I.tok _,⟨_,rfl⟩,q⟩
theorem GC{f:gE->gE->Sem gE}{g:Int->Int->Int}(rule:∀i j t u s Q E,Q (.int (g i j) s.toks) {s with toks:=s.toks+1 }->wpAny (model X.prog X.w) X.A (f (.int i t) (.int j u)) Q E s) :
  TK X f (JE λi j=>.int (g i j)):=by
 intro B s L H x y v u Q I a b h;obtain⟨i,j,rfl,rfl,q⟩:=h;obtain⟨t,rfl⟩:=a;obtain⟨a,rfl⟩:=b;exact rule i j t a s _ _ ⟨.int (g i j),H,I.tok _,⟨_,rfl⟩,q⟩
theorem DY{f:gE->gE->Sem gE}{g:Int->Int->Bool}(rule:∀i j t u s Q E,Q (.bool (g i j)) s->wpAny (model X.prog X.w) X.A (f (.int i t) (.int j u)) Q E s) :
  TK X f (JE λi j=>.bl (g i j)):=by
 intro B s L H x y v u Q I a b h;obtain⟨i,j,rfl,rfl,q⟩:=h;obtain⟨t,rfl⟩:=a;obtain⟨a,rfl⟩:=b;exact rule i j t a s _ _ ⟨.bl (g i j),H,I,rfl,q⟩
def KS(i j:Int):Prop:=0<j/\j<1073741824
def Ih(i j:Int):Prop:=0<=j/\j<=1000000/\i.natAbs<2^64
def JP(i j:Int):Prop:=(-(2^64)<i/\i<2^64)\/(-(2^64)<j/\j<2^64)
theorem JP.ok(h:JP i j):IntMulOk i j:=by
 rcases h with⟨a,b⟩ | ⟨a,b⟩
 .exact .of_left (intBits_le_64 a b)
 .exact .of_right (intBits_le_64 a b)
def LY:V->V->Bool
 | .non,.non=>true | .non,.int _=>true | .int _,.non=>true | .non,.bl _=>true | .bl _,.non=>true | .non,.str _=>true | .str _,.non=>true
 | .int _,.int _=>true | .bl _,.bl _=>true | .str _,.str _=>true | .byt _,.byt _=>true
 | .int _,.str _=>true | .str _,.int _=>true | .bl _,.str _=>true | .str _,.bl _=>true
 | _,_=>false
def CO:R2:=λx y H Q=>LY x y=true/\Q (.bl (decide (x=y))) H
def fG:R2:=λx y H Q=>LY x y=true/\Q (.bl (!decide (x=y))) H
theorem Ge:decide (V.int i=V.int j)=(i==j):=by
 rw[zB];simp
theorem IH:decide (V.bl i=V.bl j)=(i==j):=by
 rw[zB];simp
theorem Kg:decide (V.str i=V.str j)=(i==j):=by
 rw[zB];simp
theorem LP:decide (V.byt i=V.byt j)=(i.toList==j.toList):=by
 rw[zB];cases i;cases j;simp
section
variable{b:Expr}{ta tb tc:TE}
theorem Y0{B:List (gF×Obj)}{L:St}{H:Hp}{s:gD}{Q:VK}{k a:Bool}(I:ZE X B L H s)(q:Q (.bl k) H)(e:k=a):EP X B L Q (.bool a) s:=by
 subst e;exact⟨.bl k,H,I,rfl,q⟩
theorem Zn(b:Expr)(h:op ≠ .In:=by decide)(d:op ≠ .NotIn:=by decide):behindInMarks op b=false:=by
 have a:(op==CmpOp.In)=false:=by cases op<;>first | rfl | exact absurd rfl h
 have c:(op==CmpOp.NotIn)=false:=by cases op<;>first | rfl | exact absurd rfl d
 cases b<;>simp[behindInMarks,a,c]
def Cz(t:TE):TT:=λL H Q=>t L H λx Y=>∃k,x=.bl k/\Q k Y
inductive JK(d:R2)(tc:TE)(L:St)(Q:VK)(y z:V)(a:Hp):Prop
 |mk(k)(_:z=.bl k)(_:(if k=true then tc L a λe c=>d y e c Q else Q (.bl false) a))
def Kj(r c:R2)(ta tb tc:TE):TE:=λL H Q=>ta L H λx a=>tb L a λy a=>r x y a λz a=>JK c tc L Q y z a
def GG(K:uFg)(x:V)(H:Hp)(k:Bool):Prop :=
 match x with
 | .non=>k=false
 | .bl b=>k=b
 | .int i=>k=(i != 0)
 | .str y=>y.length<=sizeLine/\k=((y.length:Int) != 0)
 | .byt y=>y.size<=sizeLine/\k=((y.size:Int) != 0)
 | .ref p=>(∃J,ZD K H p J/\k = !J.isEmpty)\/(∃J,ZJ K H p J/\k = !J.isEmpty)\/∃U,H p=some (.dK U)/\k = !U.isEmpty
 | _=>False
theorem NW{a:Type}{U:List (a×V)}{vs:List (a×gE)}(r:KV U vs):(!vs.isEmpty)= !U.isEmpty:=by
 cases r<;>rfl
theorem IF(r:ZI J its):(!its.toArray.isEmpty)= !J.isEmpty:=by
 cases r<;>simp
theorem Bc:(sizeLine:Nat)<2^63:=by rw[sizeLine_eq];decide
theorem Sh:eU X (λx H Q=>∃k,GG X.K x H k/\Q k H):=by
 intro B s L H x v Q I c h;obtain⟨k,e,q⟩:=h;have a:=Bc;have a:sizeLine=16777216:=sizeLine_eq;cases x with
 | non =>
  cases c;have a:k=false:=e;subst a;exact truthy_none ⟨H,I,q⟩
 | bl b =>
  cases c;have a:k=b:=e;subst a;exact wpAny_truthy_bool ⟨H,I,q⟩
 | int i =>
  obtain⟨t,rfl⟩:=c;have a:k=(i != 0):=e;subst a;exact PySem.P.truthy_int ⟨H,I,q⟩
 | str y =>
  obtain⟨t,rfl⟩:=c;obtain⟨d,a⟩:y.length<=sizeLine/\k=((y.length:Int) != 0):=e;subst a;exact PySem.P.truthy_str (by lia) ⟨H,I.tok _,q⟩
 | byt y =>
  obtain⟨t,rfl⟩:=c;obtain⟨d,a⟩:y.size<=sizeLine/\k=((y.size:Int) != 0):=e;subst a;exact PySem.W.truthy_bytes (by lia) ⟨H,I.tok _,q⟩
 | ref p =>
  cases c;have a:(∃J,ZD X.K H p J/\k = !J.isEmpty)\/(∃J,ZJ X.K H p J/\k = !J.isEmpty)\/∃U,H p=some (.dK U)/\k = !U.isEmpty:=e;rcases a with⟨J,d,a⟩ | ⟨J,d,a⟩ | ⟨U,d,a⟩
  .subst a;obtain⟨f,r,g,h⟩:=I.list d;have c:=r.length;exact wpAny_truthy_list g.isList (by simp only[xQ];lia) ⟨H,I.tok _,by rw[IF r];exact q⟩
  .subst a;obtain⟨f,r,g,h⟩:=I.tuple d;have c:=r.length;exact truthy_tuple g (by simp only[xQ];lia) ⟨H,I.tok _,by rw[IF r];exact q⟩
  .subst a;obtain⟨h,f,a,r,m⟩:U.length<=sizeLine/\(p==sysModules)=false/\∃a,KV U a/\s.heap.DictOf (Wp X.prog X.w) p a:=I.iD p _ d;have c:U.length=a.length:=m9 r;exact wpAny_truthy_dict f m (by lia) ⟨H,I.tok _,by rw[NW r];exact q⟩
 | _=>exact(show False from e).elim
theorem Tx(r:ZI [x] us):∃u,us=[u]/\ZG x u:=by
 cases r with
 | cons a c=>cases c;exact⟨_,rfl,a⟩
theorem FB(r:ZI [x,y] us):∃u a,us=[u,a]/\ZG x u/\ZG y a:=by
 cases r with
 | cons a c =>
  cases c with
  | cons c d=>cases d;exact⟨_,_,rfl,a,c⟩
end
structure UA (h:Heap) (x dx C:gF) (mA:fY):Prop where
 obj:h.get? x=some (instObj C dx)
 ns:h.Ns1 dx mA
 ne:dx≠x
theorem MJ{h:Heap}{a:gF}{b:fY}(n:h.Ns1 a b):∃od,h.get? a=some od/\∀name,lookIn name od=some (b name):=by
 obtain⟨o,c,f,e,a,d,_,b⟩:=n;refine⟨o,e,λname=>?_⟩;have e:=b name;unfold nsFind findBy at e;rw[<- Array.find?_toList] at e;unfold lookIn;rw[a];dsimp only;split
 .rename_i y q;rw[q] at e;exact congrArg some e
 .rename_i q;rw[q] at e;have a:c.toList.any (·.refKey)=false:=by
   rw[List.any_eq_false];intro y f;obtain⟨z,t,b⟩:=d y (Array.mem_toList_iff.mp f);simp[DictEntry.refKey,b]
  have b:¬c.toList.any (·.refKey)=true:=by rw[a];exact xN
  rw[if_neg b];exact congrArg some e
theorem UA.look(I:UA h x dx C mA):∃od,InstAt h x (instObj C dx) C (some od)/\∀name,lookIn name od=some (mA name) :=
 let ⟨od,b,a⟩:=MJ I.ns
 ⟨od,⟨I.obj,rfl,rfl,b⟩,a⟩
section
variable{prog:gG}{w:gH}{A:gI}{E:fX}{s:gD}{K:uFg}{x dx C f:gF}{mA:fY}{name:Str}{v:gE}
theorem QP{a:Bool}{Q:fX}(X:K.In s.heap)(I:UA s.heap x dx C mA)(d:plainGet K C name=true)(e:hasDictIn K C=true)(c:PySem.W.findIn K (.ref C) name=some none)(g:mA name=some v)(b:handedIn v=true)(h:Q v {s with toks:=s.toks+1 }) :
  wpAny (model prog w) A (getAttr (.ref x) name a) Q E s:=by
 obtain⟨od,J,a⟩:=I.look;exact PySem.W.get_value X J (plainGet_of d).1 (PySem.W.findObj_own e c rfl (by rw[a,g])) b h
theorem bY{pl:Sem Bool}{Q:gE×List gE->gD->Prop}(X:K.In s.heap)(I:UA s.heap x dx C mA)(a:plainGet K C name=true)(b:PySem.W.findIn K (.ref C) name=some (some (.ref f)))(d:isFn K (.ref f)=true)(e:mA name=none)(h:Q (.ref f,[.ref x]) s) :
  wpAny (model prog w) A (getMethod (.ref x) name pl) Q E s:=by
 obtain⟨od,J,c⟩:=I.look;exact PySem.W.method_fn X J (plainGet_of a).1 (plainGet_of a).2 b (beq_iff_eq.mp d) (by show (lookIn name od).map (·.isSome)=some false;rw[c,e];rfl) h
theorem XW{ns:fZ}{Q:Unit->gD->Prop}(X:K.In s.heap)(I:UA s.heap x dx C mA)(hs:PySem.W.findIn K (.ref C) "__setattr__"=some (some (.builtin "object.__setattr__")))(b:plainOver K C=true)(c:takerIn K C name=some none)(d:hasDictIn K C=true)(k:PySem.Within mA ns)(hsz:ns.length<=sizeLine)(h:∀h',UA h' x dx C (λy=>if y=name then some v else mA y)->Heap.SameBut dx s.heap h'->Q () {s with heap:=h',toks:=s.toks+2 }) :
  wpAny (model prog w) A (setAttr (.ref x) name v) Q E s:=by
 obtain⟨od,J,e⟩:=I.look;refine PySem.W.set_plain X J hs (PySem.W.osa_open (s:={s with toks:=s.toks+1 }) (r:=none) X J b c λb=>?_);obtain⟨e,c,b⟩:=PySem.W.any_some d;have d:s.heap.get? x=some ⟨.ref C,some dx,.plain,#[]⟩:=I.obj;refine wpAny_bind (wpAny_pure (wpAny_bind (wpAny_bind (wpAny_loadPart d (wpAny_bind (PySem.W.Looks.here (s:={s with toks:=s.toks+1 }) (PySem.W.looks_clsIn X c) ?_))))));rw[b];refine wpAny_pure (a:=some dx) (wpAny_bind (wpAny_pure (wpAny_bind ?_)));refine wpAny_nsSet1 (s:={s with toks:=s.toks+1 }) I.ns λh' b c=>?_;obtain⟨l,j,i,g,e,d⟩:=b.count (PySem.Within.cons name v k);refine wpAny_bind (wpAny_lookBehind g (by rw[e];exact pastItsLine_dict (xZ d (by rw[yJ];lia))) ?_);exact wpAny_pure (h _ ⟨(c.2 _ (Ne.symm I.ne)).trans I.obj,b,I.ne⟩ c)
theorem Qr{R:Result->gD->Prop}{vs:gA}{kw:List (Str×gE)}(X:K.In s.heap)(c:makesIn K C=true)(a:PySem.W.findIn K (.ref C) "__init__"=some (some (.ref f)))(b:typeIn K (.ref f)=some (.type "function"))(h:codeAny (model prog w) (A.under (.builtin "type.__call__" ⟨.ref C::vs,kw⟩)) (.call (.ref f) ⟨.ref (s.heap.objs.size+1)::vs,kw⟩) (PySem.W.InitBack (s.heap.objs.size+1) R) {s with heap:=(s.heap.push emptyDict).push (instObj C s.heap.objs.size) }) :
  codeAny (model prog w) A (.call (.ref C) ⟨vs,kw⟩) R s:=by
 obtain⟨e,g,d,t,os⟩:=s;exact PySem.W.make_core (PySem.W.makes_of X c) (PySem.W.looks_findIn X a) (λa=>PySem.W.bind_fn X a b) (.inl rfl) h
end
def Zy(f:Str)(v:V):List (Str×V)->List (Str×V)
 | []=>[(f,v)]
 | (g,x)::r=>if g=f then (g,v)::r else (g,x)::Zy f v r
theorem Wc(f g:Str)(v:V):∀a:List (Str×V),(Zy f v a).lookup g=if g=f then some v else a.lookup g
 | []=>by
  show List.lookup g [(f,v)]=_
  by_cases h:g=f
  .grind
  .grind
 | (k,x)::r=>by
  have a:=Wc f g v r;rw[show Zy f v ((k,x)::r)=(if k=f then (k,v)::r else (k,x)::Zy f v r) from rfl]
  by_cases a:k=f
  .grind
  .grind
theorem Fy(f:Str)(v:V):∀a:List (Str×V),f∈(Zy f v a).map (·.1)/\∀g,g∈a.map (·.1)->g∈(Zy f v a).map (·.1)
 | []=>⟨by simp[Zy],λg h=>by simp at h⟩
 | (k,x)::r=>by
  obtain⟨a,b⟩:=Fy f v r;rw[show Zy f v ((k,x)::r)=(if k=f then (k,v)::r else (k,x)::Zy f v r) from rfl]
  by_cases a:k=f
  .rw[if_pos a];subst a;exact⟨by simp,λg h=>by simpa using h⟩
  .grind
theorem A3(f:Str)(v:V):∀a:List (Str×V),(Zy f v a).length<=a.length+1
 | []=>by simp[Zy]
 | (k,x)::r=>by
  have a:=A3 f v r;rw[show Zy f v ((k,x)::r)=(if k=f then (k,v)::r else (k,x)::Zy f v r) from rfl]
  by_cases a:k=f
  .rw[if_pos a,yJ,yJ];lia
  .rw[if_neg a,yJ,yJ];lia
theorem YN.some_of(r:YN (some v) o):∃u,o=some u/\ZG v u:=by
 cases o with
 | none=>exact(show False from r).elim
 | some u=>exact⟨u,rfl,r⟩
theorem YN.none_of(r:YN none o):o=none:=by
 cases o with
 | none=>rfl
 | some u=>exact(show False from r).elim
theorem XB(r:ZG v u):handedIn u=true:=by
 cases v with
 | non=>cases (show u=Value.none from r);rfl
 | bl b=>cases (show u=Value.bool b from r);rfl
 | int i=>obtain⟨t,e⟩:=(show ∃t,u=Value.int i t from r);cases e;rfl
 | str x=>obtain⟨t,e⟩:=(show ∃t,u=Value.str x t from r);cases e;rfl
 | byt b=>obtain⟨t,e⟩:=(show ∃t,u=Value.bytes b t from r);cases e;rfl
 | flt b=>obtain⟨t,e⟩:=(show ∃t,u=Value.float b t from r);cases e;rfl
 | ref a=>cases (show u=Value.ref a from r);rfl
 | ty n=>cases (show u=Value.type n from r);rfl
theorem Dg(c:YO P w H h)(e:H a=some (.ins C dx fs)):∃b,UA h a dx C b/\(∀f,YN (fs.lookup f) (b f))/\PySem.Within b (fs.map (·.1))/\fs.length<=1000/\H dx=some (.own a):=by
 obtain⟨d,z,g,i,b,n,r,q⟩:=(show ZQ P w H h a (.ins C dx fs) from c a _ e);exact⟨b,⟨i,n,g⟩,r,q,z,d⟩
structure VX (K:uFg) (C:gF):Prop where
 pg:plainGet K C Str.empty=true
 hd:hasDictIn K C=true
 po:plainOver K C=true
 sa:PySem.W.findIn K (.ref C) "__setattr__"=some (some (.builtin "object.__setattr__"))
theorem VX.get{K:uFg}{C:gF}(c:VX K C)(f:Str):plainGet K C f=true:=c.pg
def ZV(K:uFg)(C:gF)(f:Str):Prop:=PySem.W.findIn K (.ref C) f=some none
theorem ZV.taker{K:uFg}{C:gF}{f:Str}(n:ZV K C f):takerIn K C f=some none:=by
 unfold takerIn;rw[show PySem.W.findIn K (.ref C) f=some none from n];rfl
structure Tf (K:uFg) (C:gF) (m:Str) (f:gF):Prop where
 at_:PySem.W.findIn K (.ref C) m=some (some (.ref f))
 fn:isFn K (.ref f)=true
 kp:keepIn K (.ref f)=true
section
variable{X:Cx}{B:List (gF×Obj)}{L:St}{H:Hp}{s:gD}{a C dx:gF}{fs:List (Str×V)}{f:Str}{v:V}{A:gI}{E:fX}
theorem bK{b:Bool}{Q:fX}(I:ZE X B L H s)(e:H a=some (.ins C dx fs))(c:VX X.K C)(n:ZV X.K C f)(l:fs.lookup f=some v)(h:∀u d,ZE X B L H d->ZG v u->Q u d):wpAny (model X.prog X.w) A (getAttr (.ref a) f b) Q E s:=by
 obtain⟨g,O,r,_,_,_⟩:=Dg I.iD e;obtain⟨u,d,b⟩:=YN.some_of (v:=v) (o:=g f) (by rw[<- l];exact r f);exact QP I.iF O (c.get f) c.hd n d (XB b) (h u _ (I.tok _) b)
theorem CN{m:Str}{g:gF}{pl:Sem Bool}{Q:gE×List gE->gD->Prop}(I:ZE X B L H s)(e:H a=some (.ins C dx fs))(c:VX X.K C)(k:Tf X.K C m g)(l:fs.lookup m=none)(h:Q (.ref g,[.ref a]) s):wpAny (model X.prog X.w) A (getMethod (.ref a) m pl) Q E s:=by
 obtain⟨d,O,r,_,_,_⟩:=Dg I.iD e;have b:d m=none:=YN.none_of (by rw[<- l];exact r m);exact bY I.iF O (c.get m) k.at_ k.fn b h
theorem Xe{y:V}{u:gE}{Q:Unit->gD->Prop}(I:ZE X B L H s)(e:H a=some (.ins C dx fs))(c:VX X.K C)(n:ZV X.K C f)(d:fs.length<1000)(m:ZG y u)(h:∀b,ZE X B L (upd H a (.ins C dx (Zy f y fs))) b->Q () b):wpAny (model X.prog X.w) A (setAttr (.ref a) f u) Q E s:=by
 obtain⟨i,O,r,j,_,g⟩:=Dg I.iD e;have b:(fs.map (·.1)).length<=sizeLine:=by rw[xA,sizeLine_eq];lia
 refine XW I.iF O c.sa c.po n.taker c.hd j b λb d p=>h _ ?_;have l:∃o,b.get? dx=some o:=let ⟨o,_,_,b,_⟩:=d.ns;⟨o,b⟩
 refine I.write (x:=a) (e:=dx) (by rw[e];exact True.intro) (.inr g) (λb q k z=>(p.2 b k).trans z) l ?_;refine⟨by rw[Zf O.ne];exact g,?_,O.ne,d.obj,_,d.ns,λg=>?_,λg b=>?_⟩
 .have:=A3 f y fs;lia
 .show YN ((Zy f y fs).lookup g) (if g=f then some u else i g);rw[Wc]
  by_cases q:g=f
  .rw[if_pos q,if_pos q];exact m
  .rw[if_neg q,if_neg q];exact r g
 .by_cases q:g=f
  .rw[q];exact(Fy f y fs).1
  .refine(Fy f y fs).2 g (j g λz=>b ?_);show (if g=f then some u else i g)=none;rw[if_neg q];exact z
theorem ZE.made(I:ZE X B L H s):ZE X B L (upd (upd H s.heap.objs.size (.own (s.heap.objs.size+1))) (s.heap.objs.size+1) (.ins C s.heap.objs.size []))
  {s with heap:=(s.heap.push emptyDict).push (instObj C s.heap.objs.size) }:=by
 have c:(s.heap.push emptyDict).get? s.heap.objs.size=some emptyDict:=xW s.heap rfl;have g:((s.heap.push emptyDict).push (instObj C s.heap.objs.size)).get? (s.heap.objs.size+1)=some (instObj C s.heap.objs.size):=by
  have:=xW (s.heap.push emptyDict) (o:=instObj C s.heap.objs.size) rfl
  rwa [wH] at this
 have h:(s.heap.push emptyDict).Ns s.heap.objs.size (λ_=>none):=⟨emptyDict,#[],_,c,rfl,(λe b=>absurd b (by simp)),λ_=>rfl⟩;have d:=I.laid (a:=s.heap.objs.size) (o:=.own (s.heap.objs.size+1)) (h':=s.heap.push emptyDict) (t':=s.toks) (λb u q=>xH _ q) (xF _) ⟨_,c⟩;refine d.laid (a:=s.heap.objs.size+1) (o:=.ins C s.heap.objs.size []) (t':=s.toks) (λb u q=>xH _ q) (me (wH _ _)) ?_;have b:s.heap.objs.size≠s.heap.objs.size+1:=yG (mh _);refine⟨by rw[Zf b,Zj],yP _,b,g,λ_=>none,(Heap.Ns1.of_empty h).at λo q=>xH _ q,λ_=>True.intro,λy b=>absurd rfl b⟩
theorem SO(c:attributeBase e f env (eval e env)=eval e env)(h:wpAny (model prog w) A (eval e env) (λo b=>wpAny (model prog w) A (getAttr o f true) Q E b) E s):wpAny (model prog w) A (eval (.Attribute e f pos) env) Q E s :=
 Attribute_any_ h (by rw[arm_eval_Attribute,c])
end
inductive Ca(K:uFg)(f:Str)(Q:VK)(x:V)(b:Hp):Prop
 |mk(a C dx fs v)(_:x=.ref a)(_:b a=some (.ins C dx fs))(_:VX K C)(_:ZV K C f)(_:fs.lookup f=some v)(_:Q v b)
def Fu(K:uFg)(a:TE)(f:Str):TE:=λL H Q=>a L H λx a=>Ca K f Q x a
inductive sFld_(K:uFg)(f:Str)(D:ZY)(L:St)(y x:V)(b:Hp):Prop
 |mk(a C dx fs)(_:x=.ref a)(_:b a=some (.ins C dx fs))(_:VX K C)(_:ZV K C f)(_:fs.length<1000)(_:D.nx L (upd b a (.ins C dx (Zy f y fs))))
def eP(K:uFg)(b a:TE)(f:Str):TS:=λD L H=>a L H λy a=>b L a λx a=>sFld_ K f D L y x a
theorem GX(b:PE X e ta)(a:attributeBase e f X.env (eval e X.env)=eval e X.env):PE X (.Attribute e f pos) (Fu X.K ta f):=by
 intro B s L H Q I h;refine SO a (thn (b B s L H _ I h) λu m ⟨x,b,d,i,a,C,j,k,v,h,g,c,n,l,q⟩=>?_);subst h;obtain rfl:u=Value.ref a:=i;exact bK d g c n l λg d a c=>⟨v,b,a,c,q⟩
section
variable{X:Cx}{B:List (gF×Obj)}{L:St}{H:Hp}{s:gD}{A:gI}{E:fX}{Q:fX}{c:gE}{b:Bool}
inductive YY (K:uFg) (H:Hp):V->gE->Prop where
 | non:YY K H .non (.type "NoneType")
 | bl (x:Bool):YY K H (.bl x) (.type "bool")
 | int (i:Int):YY K H (.int i) (.type "int")
 | str (x:Str):YY K H (.str x) (.type "str")
 | flt (x:UInt64):YY K H (.flt x) (.type "float")
 | lst {a:gF}{J:aG}(e:H a=some (.lst J)):YY K H (.ref a) (.type "list")
 | frz {a:gF}{o:Obj}{J:aG}(e:H a=some (.frz o (.lst J))):YY K H (.ref a) (.type "list")
 | tup {a:gF}{J:aG}(e:H a=some (.tup J)):YY K H (.ref a) (.type "tuple")
 | dK {a:gF}{U:List (ZT×V)}(e:H a=some (.dK U)):YY K H (.ref a) (.type "dict")
 | dT {a:gF}{U:List (List ZT×V)}(e:H a=some (.dT U)):YY K H (.ref a) (.type "dict")
 | ins {a C d:gF}{f:List (Str×V)}(e:H a=some (.ins C d f)) (h:VX K C) (i:PySem.W.findIn K (.ref C) "__class__"=some (some (.builtin "object.__class__")))
   (k:PySem.W.specialIn K (.builtin "object.__class__") "__get__"=some (some (.builtin "getset_descriptor.__get__"))) (g:PySem.W.takesIn K (.builtin "object.__class__")=some true)
   (j:PySem.W.mroIn K C (.type "object")=some true):YY K H (.ref a) (.ref C)
theorem Ot{x:V}{u t:gE}(I:ZE X B L H s)(f:ZG x u)(d:YY X.K H x t)(e:kitOne X.K t c=some b)(h:∀a,Q (.bool b) {s with toks:=a }) :
  wpAny (model X.prog X.w) A (call (.builtin "isinstance") [u,c]) Q E s:=by
 cases d with
 | non=>cases (show u=Value.none from f);exact kia_one PySem.W.kitx_none I.iF True.intro e (λz=>nomatch z) h
 | bl y=>cases (show u=Value.bool y from f);exact kia_one PySem.W.kitx_bool I.iF True.intro e (λz=>nomatch z) h
 | int i=>obtain⟨t,q⟩:=(show ∃t,u=Value.int i t from f);cases q;exact kia_one PySem.W.kitx_int I.iF True.intro e (λz=>nomatch z) h
 | str y=>obtain⟨t,q⟩:=(show ∃t,u=Value.str y t from f);cases q;exact kia_one PySem.W.kitx_str I.iF True.intro e (λz=>nomatch z) h
 | flt y=>obtain⟨t,q⟩:=(show ∃t,u=Value.float y t from f);cases q;exact kia_one PySem.W.kitx_float I.iF True.intro e (λz=>nomatch z) h
 | @lst a J d =>
  cases (show u=Value.ref a from f);obtain⟨_,_,n,_,g⟩:=(show ZQ X.prog X.w H s.heap a (.lst J) from I.iD a _ d);exact kia_one kitx_list I.iF ⟨_,g,rfl⟩ e (λz=>nomatch z) h
 | @frz a i J d =>
  cases (show u=Value.ref a from f);obtain⟨_,_,_,n,_,g⟩:=(show ZQ X.prog X.w H s.heap a (.frz i (.lst J)) from I.iD a _ d);exact kia_one kitx_list I.iF ⟨_,g,rfl⟩ e (λz=>nomatch z) h
 | @tup a J d =>
  cases (show u=Value.ref a from f);obtain⟨_,_,_,p⟩:=(show ZQ X.prog X.w H s.heap a (.tup J) from I.iD a _ d);obtain⟨o,g,i,_⟩:=p;exact kia_one PySem.W.kitx_tuple I.iF ⟨o,g,i⟩ e (λz=>nomatch z) h
 | @dK a U d =>
  cases (show u=Value.ref a from f);obtain⟨_,_,j,_,p⟩:=(show ZQ X.prog X.w H s.heap a (.dK U) from I.iD a _ d);obtain⟨o,k,j,g,i,_⟩:=p;exact kia_one kitx_dict I.iF ⟨o,g,i.1⟩ e (λz=>nomatch z) h
 | @dT a U d =>
  cases (show u=Value.ref a from f);obtain⟨_,_,J,_,o,k,j,g,i,_⟩:=(show ZQ X.prog X.w H s.heap a (.dT U) from I.iD a _ d);exact kia_one kitx_dict I.iF ⟨o,g,i.1⟩ e (λz=>nomatch z) h
 | @ins a C m n d i j l g k =>
  cases (show u=Value.ref a from f);obtain⟨a,O,_⟩:=Dg I.iD d;obtain⟨od,a,_⟩:=O.look;exact kia_one (PySem.W.kitx_own (i.get _) i.hd j l g k) I.iF a e (λz=>nomatch z) h
end
structure ZL (k:Nat) (A:gI):Prop where
 hd:A.handled=none
 dp:A.depth+3 * k+5<recursionLimit
 un:A.units+16 * k+200<cLine
theorem ZL.mono(r:ZL k A)(h:j<=k):ZL j A:=⟨r.hd,by have:=r.dp;lia,by have:=r.un;lia⟩
theorem ZL.deeper(r:ZL (k+1) A)(env:Env):ZL k (A.deeper env) :=
 ⟨r.hd,by have:=r.dp;show A.depth+1+3 * k+5<_;lia,by have:=r.un;show A.units+3+16 * k+200<_;lia⟩
theorem Qn{A:gI}{C:gF}{us:gA}{kw:List (Str×gE)}:(A.under (.builtin "type.__call__" ⟨.ref C::us,kw⟩)).depth=A.depth+1:=by
 first | rfl | simp[Around.under,Code.weight,Code.isCreation,Code.isGuard,Code.isCaller,Code.frames,Code.isFrame,guardIds]
theorem SQ{A:gI}{C:gF}{us:gA}{kw:List (Str×gE)}:(A.under (.builtin "type.__call__" ⟨.ref C::us,kw⟩)).units=A.units+1:=by
 first | rfl | simp[Around.under,Code.cUnits,Code.frames,Code.isFrame]
theorem ZL.make(r:ZL (k+1) A)(C:gF)(us:gA)(kw:List (Str×gE)):ZL k (A.under (.builtin "type.__call__" ⟨.ref C::us,kw⟩)) :=
 ⟨r.hd,by have:=r.dp;rw[Qn];lia,by have:=r.un;rw[SQ];lia⟩
theorem ZL.depth(r:ZL k A):A.depth<recursionLimit:=by have:=r.dp;lia
theorem ZL.units(r:ZL k A):A.units+64<cLine:=by have:=r.un;lia
theorem ZL.units0(r:ZL k A):A.units<cLine:=by have:=r.un;lia
def Vw:TA:=λ_ H Q=>Q [] H
def Uu(a:TE)(b:TA):TA:=λL H Q=>a L H λx a=>b L a λJ a=>Q (x::J) a
section
variable{t:TA}
def QY(t:TA):TE:=λL H Q=>t L H λJ a=>J.length<=sizeLine/\∀p,a p=none->Q (.ref p) (upd a p (.tup J))
def Ru(t:TA):TE:=λL H Q=>t L H λJ a=>J.length<=sizeLine/\∀p,a p=none->Q (.ref p) (upd a p (.lst J))
end
abbrev Sp:=List V->Hp->VK->XK->Prop
abbrev UR:=List Env->Hp->gD->XK->gE->gD->Prop
structure VT (P:gG) (w:gH) (K:uFg) (mg:fY) (base:Heap) (A:gI) (outer:List Env) (s:gD) (H:Hp):Prop where
 frames:A.frames=some outer
 mod:Mod K mg base
 bs:∀b o,base.get? b=some o->s.heap.get? b=some o/\H b=none
 ic:base.objs.size<=s.heap.objs.size
 iA:s.heap.FunFrames base outer
 iy:∀b∈frs outer,H b=none
 iD:YO P w H s.heap
 bare:AllBare s.gens
def CE(outer:List Env)(P:gG)(w:gH)(H:Hp)(s:gD)(Q:VK)(u:gE)(a:gD):Prop :=
 ∃v Y,a.os=s.os/\AllBare a.gens/\Un (frs outer) [] H Y s.heap a.heap/\YO P w Y a.heap/\ZG v u/\Q v Y
def CR(CX:UR)(outer:List Env)(P:gG)(w:gH)(H:Hp)(s:gD)(Q:VK)(E:XK)(r:Result)(a:gD):Prop :=
 match r with
 | .ok (.ret u)=>CE outer P w H s Q u a
 | .ok _=>False
 | .error e=>CX outer H s E e a
structure YG (P:gG) (w:gH) (K:uFg) (mg:fY) (base:Heap) (CX:UR) (k:Nat) (f:gF) (fd:FuncData) (ps:fZ) (sp:Sp):Prop where
 len:∀vs H Q E,sp vs H Q E->vs.length=ps.length
 run:∀(A:gI)(outer:List Env)(s:gD)(H:Hp)(args:Args)(us:gA)(vs:aG)(Q:VK)(E:XK),ZL k A->VT P w K mg base A outer s H->BindsTo s fd args (ps.zip us)->ZI vs us->sp vs H Q E ->
  codeAny (model P w) A (.call (.ref f) args) (CR CX outer P w H s Q E) s
theorem YG.mono{P:gG}{w:gH}{K:uFg}{mg:fY}{Z:Heap}{CX:UR}{j k:Nat}{f:gF}{a:FuncData}{b:fZ}{sp:Sp}(F:YG P w K mg Z CX j f a b sp)(h:j<=k) :
  YG P w K mg Z CX k f a b sp:=⟨F.len,λA a s H b d e Q E c=>F.run A a s H b d e Q E (c.mono h)⟩
theorem VT.make{P:gG}{w:gH}{K:uFg}{mg:fY}{Z:Heap}{A:gI}{outer:List Env}{s:gD}{H:Hp}(e:VT P w K mg Z A outer s H)(C:gF)(us:gA)(kw:List (Str×gE)) :
  VT P w K mg Z (A.under (.builtin "type.__call__" ⟨.ref C::us,kw⟩)) outer s H:=⟨by first | exact e.frames | (simpa [Around.under,Code.envs,Code.isFrame,pushEnvs] using e.frames),e.mod,e.bs,e.ic,e.iA,e.iy,e.iD,e.bare⟩
section
variable{X:Cx}{B:List (gF×Obj)}{L:St}{H:Hp}{s s':gD}
theorem ZE.env0(I:ZE X B L H s):VT X.prog X.w X.K X.mg X.base X.A X.stack s H :=
 ⟨I.ok.frames,I.ok.mod,I.bs,xZ I.ok.ic I.sz,I.stack,I.iX,I.iD,I.bare⟩
theorem ZE.after{Q:VK}{u:gE}(I:ZE X B L H s)(h:CE X.stack X.prog X.w H s Q u s'):EP X B L Q u s':=by
 obtain⟨v,Y,os,a,f,b,r,q⟩:=h;obtain⟨e,g,d,t,c⟩:=s';obtain rfl:c=s.os:=os;exact⟨v,Y,I.call (h':=e) (g':=g) (d':=d) (t':=t) (ch:=[]) f b a (λb z=>absurd z (by simp)),r,q⟩
end
def EY(sp:Sp)(a:aG)(E:XK)(t:TA):TE:=λL H Q=>t L H λc b=>sp (c++a) b Q E
inductive AH(C:gF)(m:Str)(sp:Sp)(b:aG)(E:XK)(t:TA)(L:St)(Q:VK)(x:V)(c:Hp):Prop
 |mk(a dx fs)(_:x=.ref a)(_:c a=some (.ins C dx fs))(_:fs.lookup m=none)(_:t L c λd c=>sp (x::(d++b)) c Q E)
def Do(C:gF)(m:Str)(sp:Sp)(a:aG)(E:XK)(b:TE)(t:TA):TE:=λL H Q=>b L H λx b=>AH C m sp a E t L Q x b
def HC(C:gF)(sp:Sp)(c:aG)(E:XK)(t:TA):TE:=λL H Q=>t L H λd b=>∀x a,b x=none->b a=none->a≠x ->
 sp (.ref x::(d++c)) (upd (upd b a (.own x)) x (.ins C a [])) (λv a=>v=.non/\Q (.ref x) a) E
def YK(K:uFg)(c:FuncData)(b:fZ)(S:gA):Prop :=
 ∀s a,K.In s.heap->(a++S).length=b.length->BindsTo s c ⟨a,[]⟩ (b.zip (a++S))
theorem YK.all{K:uFg}{b:FuncData}{a:fZ}(h:∀us:List gE,us.length=a.length->bindArgs b ⟨us,[]⟩=pure (a.zip us)):YK K b a []:=λs us _ a=>by
 rw[xX] at a |-;exact .of_eq (h us a)
def AY(CX:UR)(X:Cx)(E:XK):Prop:=∀(B:List (gF×Obj))(L:St)(H:Hp)(s:gD)(e:gE)(a:gD),ZE X B L H s->CX X.stack H s E e a->X.xe e a
section
variable{X:Cx}{CX:UR}{k:Nat}{f C:gF}{fd:FuncData}{ps:fZ}{sp:Sp}{dvs:aG}{S:gA}{E:XK}{x m:Str}{p pos apos:Pos}{e o:Expr}{es:List Expr}{ta:TE}{t:TA}
theorem FY{B:List (gF×Obj)}{L:St}{H:Hp}{s:gD}{Q:VK}{us:gA}{vs:aG}(F:YG X.prog X.w X.K X.mg X.base CX k f fd ps sp)(d:ZL k X.A)(b:YK X.K fd ps S)(c:ZI dvs S)(g:AY CX X E)(I:ZE X B L H s)(r:ZI vs us)(h:sp (vs++dvs) H Q E):wpAny (model X.prog X.w) X.A (call (.ref f) us) (EP X B L Q) X.xe s:=by
 have a:ZI (vs++dvs) (us++S):=r.append c;have c:(us++S).length=ps.length:=by rw[<- a.length];exact F.len _ _ _ _ h
 refine wpAny_call (codeAny_mono (F.run X.A X.stack s H ⟨us,[]⟩ (us++S) (vs++dvs) Q E d I.env0 (b s us I.iF c) a h) λr b a=>?_);cases r with
 | error e=>exact g B L H s e b I a
 | ok b =>
  cases b with
  | ret u=>exact I.after a
  | next=>exact False.elim a
  | brk=>exact False.elim a
  | cont=>exact False.elim a
abbrev sEq(X:Cx)(e:Expr)(es:List Expr):Prop:=starEach (e::es) X.env=(false,eval e X.env)::starEach es X.env
abbrev sFq(X:Cx)(pos:Pos)(es:List Expr):Prop:=(backTo pos (starEach es X.env)).any (·.1)=false
theorem QR(F:YG X.prog X.w X.K X.mg X.base CX k f fd ps sp)(u:ZL k X.A)(j:Gl X x)(n:X.mg x=some (.ref f))(l:keepIn X.K (.ref f)=true)(d:YK X.K fd ps S)(g:ZI dvs S)(v:AY CX X E)(c:PA X (e::es) t)(a:(x==("__debug__":Str))=false:=by decide)(i:sEq X e es:=by rfl)(b:sFq X pos es:=by rfl) :
  PE X (.Call (.Name x p) (e::es) [] pos) (EY sp dvs E t):=by
 intro B s L H Q I h;refine wpAny_Call_Name_kw (AC I j n ?_ a);refine callWith_K (h₀:=X.base) I.ok.mod.kin l (thn (c pos B s L H _ I h) λj h ⟨l,c,a,r,q⟩=>⟨a.iF,?_⟩) i b;exact FY F u d g v a r q
theorem fK{pl:Sem Bool}(g:PE X o ta)(c:VX X.K C)(i:Tf X.K C m f)(F:YG X.prog X.w X.K X.mg X.base CX k f fd ps sp)(y:ZL k X.A)(v:YK X.K fd ps S)(w:ZI dvs S)(A:AY CX X E)(r:PA X (e::es) t)(d:sEq X e es:=by rfl)(b:sFq X pos es:=by rfl)(z:eval (.Call (.Attribute o m apos) (e::es) [] pos) X.env=(do
   let a <- eval o X.env
   standAt apos.atName
   let (f,first) <- holding [a] (getMethod a m pl)
   callWith pos f first (backTo pos (starEach (e::es) X.env)) (backToKw pos (keywordEach [] X.env))):=by rfl) :
  PE X (.Call (.Attribute o m apos) (e::es) [] pos) (Do C m sp dvs E ta t):=by
 intro B s L H Q I h;refine methodCall_KW (pl:=pl) (thn (g B s L H _ I h) λu G ⟨x,h,g,s,a,H,J,n,j,l,q⟩=>?_) z;subst n;obtain rfl:u=Value.ref a:=s;refine CN g j c i l ?_;refine callWith_K (first:=[.ref a]) (h₀:=X.base) I.ok.mod.kin i.kp (thn (r pos B G L h _ g q) λi n ⟨j,l,g,r,h⟩=>⟨g.iF,?_⟩) d b;exact FY (us:=.ref a::i) (vs:=.ref a::j) F y v w A g (.cons rfl r) h
theorem eK(b:PE X o ta)(c:VX X.K C)(d:Tf X.K C m f)(F:YG X.prog X.w X.K X.mg X.base CX k f fd ps sp)(n:ZL k X.A)(i:YK X.K fd ps S)(j:ZI dvs S)(v:AY CX X E)(r:eval (.Call (.Attribute o m apos) [] [] pos) X.env=(do
   let a <- eval o X.env
   standAt apos.atName
   let (f,first) <- holding [a] (getMethod a m pl)
   callWith pos f first (backTo pos (starEach [] X.env)) (backToKw pos (keywordEach [] X.env))):=by rfl) :
  PE X (.Call (.Attribute o m apos) [] [] pos) (Do C m sp dvs E ta Vw):=by
 intro B s L H Q I h;refine methodCall_KW (pl:=pl) (thn (b B s L H _ I h) λu A ⟨x,w,b,s,a,y,z,h,g,l,q⟩=>?_) r;subst h;obtain rfl:u=Value.ref a:=s;refine CN b g c d l ?_;exact callWith_K0 (first:=[.ref a]) b.iF d.kp (FY (us:=[.ref a]) (vs:=[.ref a]) F n i j v b (.cons rfl .nil) q)
structure Mk (K:uFg) (C f:gF):Prop where
 makes:makesIn K C=true
 init:PySem.W.findIn K (.ref C) "__init__"=some (some (.ref f))
 fn:isFn K (.ref f)=true
 kp:keepIn K (.ref C)=true
theorem dB{B:List (gF×Obj)}{L:St}{H:Hp}{s:gD}{Q:VK}{us:gA}{vs:aG}(M:Mk X.K C f)(F:YG X.prog X.w X.K X.mg X.base CX k f fd ps sp)(i:ZL (k+1) X.A)(d:YK X.K fd ps S)(g:ZI dvs S)(j:AY CX X E)(I:ZE X B L H s)(r:ZI vs us)(h:∀x a,H x=none->H a=none->a≠x->sp (.ref x::(vs++dvs)) (upd (upd H a (.own x)) x (.ins C a [])) (λv b=>v=.non/\Q (.ref x) b) E) :
  wpAny (model X.prog X.w) X.A (call (.ref C) us) (EP X B L Q) X.xe s:=by
 have a:=h (s.heap.objs.size+1) s.heap.objs.size (I.iD.fresh (mi _)) (I.iD.fresh (xF _)) (yG (mh _));have b:=ZE.made (C:=C) I;have c:ZI (V.ref (s.heap.objs.size+1)::(vs++dvs)) (Value.ref (s.heap.objs.size+1)::(us++S)):=.cons rfl (r.append g);have g:(Value.ref (s.heap.objs.size+1)::us++S).length=ps.length:=by
  have e:=c.length;rw[F.len _ _ _ _ a] at e;exact e.symm
 refine wpAny_call (Qr (f:=f) I.iF M.makes M.init (beq_iff_eq.mp M.fn) (codeAny_mono (F.run _ X.stack _ _ ⟨Value.ref (s.heap.objs.size+1)::us,[]⟩ (Value.ref (s.heap.objs.size+1)::(us++S)) _ _ E (i.make C us []) (b.env0.make C us []) (d _ (Value.ref (s.heap.objs.size+1)::us) b.iF g) c a) λr c a=>?_));cases r with
 | error e=>exact j B L _ _ e c b a
 | ok c =>
  cases c with
  | ret u =>
   obtain⟨v,Y,c,i,d,g⟩:=b.after a;subst d;exact⟨i,⟨V.ref (s.heap.objs.size+1),Y,c,rfl,g⟩⟩
  | next=>exact False.elim a
  | brk=>exact False.elim a
  | cont=>exact False.elim a
theorem bQ(M:Mk X.K C f)(F:YG X.prog X.w X.K X.mg X.base CX k f fd ps sp)(i:ZL (k+1) X.A)(d:Gl X x)(g:X.mg x=some (.ref C))(b:YK X.K fd ps S)(c:ZI dvs S)(j:AY CX X E)(a:(x==("__debug__":Str))=false:=by decide):PE X (.Call (.Name x p) [] [] pos) (HC C sp dvs E Vw):=by
 intro B s L H Q I h;refine wpAny_Call_Name_kw (AC I d g ?_ a);exact callWith_K0 I.iF M.kp (dB (us:=[]) M F i b c j I .nil h)
end
section
variable{X:Cx}{CX:UR}{k:Nat}{f:gF}{fd:FuncData}{ps ks:fZ}{sp:Sp}{E:XK}{x:Str}{p pos:Pos}{e:Expr}{es:List Expr}{kws:List Keyword}{t tk:TA}
variable{g:List gE->List gE->List gE}{gV:List V->List V->List V}
end
structure ZM (N P:fZ) (sc:Scope):Prop where
 kind:sc.kind=.function
 co:sc.isCoroutine=false
 gen:sc.isGenerator=false
 nd:N.Nodup
 pre:N.take P.length=P
 par:∀x∈P,sc.names.lookup x=some .local\/sc.names.lookup x=some .cell
 nofree:∀y∈sc.names,y.2 ≠ .free
theorem Iq{kindOf:Str->Option NameKind}{x:Str}:∀{a:List (Str×gE)}{m:fY},(∀v,(x,v)∉a)->bindL kindOf a m x=m x
 | [],_,_=>rfl
 | (n,v)::r,m,h=>by
  unfold bindL;rw[Iq λw a=>h w (xO _ a)];split
  .have:x≠n:=by rintro rfl;exact h v yE
   simp[this]
  .rfl
theorem Lk{kindOf:Str->Option NameKind}{x:Str}:∀{a:List (Str×gE)}{m:fY},(∀v,(x,v)∉a)->bindC kindOf a m x=m x
 | [],_,_=>rfl
 | (n,v)::r,m,h=>by
  unfold bindC;rw[Lk λw a=>h w (xO _ a)];split
  .rfl
  .have:x≠n:=by rintro rfl;exact h v yE
   simp[this]
theorem LX{kindOf:Str->Option NameKind}{x:Str}{v:gE}:∀{P:fZ}{vs:gA}{i:Nat}{m:fY},P.Nodup->P[i]?=some x->vs[i]?=some v->kindOf x=some .local ->
  bindL kindOf (P.zip vs) m x=some v
 | [],_,_,_,_,h,_,_=>by simp at h
 | _::_,[],_,_,_,_,h,_=>by simp at h
 | p::P,w::vs,0,m,nd,h1,h2,hk=>by
  simp at h1 h2;subst h1;subst h2;show bindL kindOf ((p,w)::P.zip vs) m p=_;unfold bindL;rw[Iq λv a=>(yM.mp nd).1 (yZ a).1,if_pos hk];simp
 | p::P,w::vs,i+1,m,nd,h1,h2,hk=>by
  show bindL kindOf ((p,w)::P.zip vs) m x=_;unfold bindL;exact LX (i:=i) (yM.mp nd).2 (by simpa using h1) (by simpa using h2) hk
theorem Iw{kindOf:Str->Option NameKind}{x:Str}{v:gE}:∀{P:fZ}{vs:gA}{i:Nat}{m:fY},P.Nodup->P[i]?=some x->vs[i]?=some v->kindOf x≠some .local ->
  bindC kindOf (P.zip vs) m x=some v
 | [],_,_,_,_,h,_,_=>by simp at h
 | _::_,[],_,_,_,_,h,_=>by simp at h
 | p::P,w::vs,0,m,nd,h1,h2,hk=>by
  simp at h1 h2;subst h1;subst h2;show bindC kindOf ((p,w)::P.zip vs) m p=_;unfold bindC;rw[Lk λv a=>(yM.mp nd).1 (yZ a).1,if_neg hk];simp
 | p::P,w::vs,i+1,m,nd,h1,h2,hk=>by
  show bindC kindOf ((p,w)::P.zip vs) m x=_;unfold bindC;exact Iw (i:=i) (yM.mp nd).2 (by simpa using h1) (by simpa using h2) hk
def start(N:fZ)(vs:aG):St:=vs.map some++List.replicate (N.length - vs.length) none
def Y8(CX:UR)(P:gG)(w:gH)(K:uFg)(mg:fY)(Z:Heap)(N:fZ)(qual:Str)(F:Scope)(f:gF)(a:gE)(A:gI)(outer:List Env)(s:gD)(H:Hp)(E:XK):Cx where
 prog:=P
 w:=w
 K:=K
 mg:=mg
 base:=Z
 A:=A.deeper (envOfC qual F s.heap.objs.size f a)
 N:=N
 s₀:=s
 H₀:=H
 env:=envOfC qual F s.heap.objs.size f a
 outer:=outer
 stack:=envOfC qual F s.heap.objs.size f a::outer
 ex:=[]
 calm:=true
 fn:=λ_=>true
 pn:=[]
 xe:=λe c=>wpAny (model P w) (A.deeper (envOfC qual F s.heap.objs.size f a)) (leaving (envOfC qual F s.heap.objs.size f a) e) (λ_ a=>CX outer H s E e a) (λb a=>CX outer H s E b a) c
theorem HA{a:Scope}{n:Nat}{x:Str}(h:a.names.lookup x=some .cell):∃c,(cellsFrom n a.names []).lookup x=some c:=by
 have q:=cellsFrom_some a.names n [] (.inl h);exact zR.mp q
theorem HE{CX:UR}{P:gG}{w:gH}{K:uFg}{mg:fY}{Z:Heap}{N j:fZ}{qual:Str}{F:Scope}{f:gF}{a:gE}{A:gI}{outer:List Env}{s b:gD}{H:Hp}{E:XK}{us:gA}{vs:aG}(S:ZM N j F)(i:A.handled=none)(d:VT P w K mg Z A outer s H)(c:vs.length=j.length)(r:ZI vs us)(x:InCallC s s.heap.objs.size (bindL (envOfC qual F s.heap.objs.size f a).kindOf (j.zip us) λ_=>none) (cellsFrom (s.heap.objs.size+1) F.names []) (bindC (envOfC qual F s.heap.objs.size f a).kindOf (j.zip us) λ_=>none) b) :
  ZE (Y8 CX P w K mg Z N qual F f a A outer s H E) [] (start N vs) H b:=by
 have b:j.length<=N.length:=by have:=congrArg List.length S.pre;rw[xR] at this;lia
 obtain⟨k,b,rfl,l⟩:=x.done;have e:∀b:gF,b∉(Y8 CX P w K mg Z N qual F f a A outer s H E).ex:=λb z=>absurd (show b∈([]:gC) from z) (by simp);refine⟨⟨d.mod,S.kind,rfl,rfl,xF _,λy z c k g=>?_,λy a=>?_,λy c _ h=>?_,λ_=>i,Around.frames_deeper d.frames,.inr ⟨rfl,rfl⟩,λb z=>absurd z (e b),d.bs,d.ic,λb _ _=>e b,λb z=>absurd z (e b),d.iA,d.iy⟩, rfl,d.bare,Un.kept l,⟨_,x.toInCall.ns,λi y v k g b=>?_⟩,λy c h=>⟨_,x.cell y c h⟩,d.iD.fresh (xF _),λy c h=>?_,λp b=>absurd (show p∈([]:List (gF×Obj)) from b) (by simp),d.iD.kept l,?_⟩
 .exact name_of_addr x.apart (mem_of_lookup k) (mem_of_lookup g)
 .have a:F.names.lookup y=some .cell\/F.names.lookup y=some .free:=a;rcases a with a | a
  .exact HA a
  .exact absurd rfl (S.nofree _ (mem_of_lookup a))
 .exact zE (x.above y c (mem_of_lookup h))
 .have e:i<vs.length:=by
   unfold start at g
   by_cases e:i<vs.length
   .exact e
   .grind
  have l:vs[i]?=some v:=by
   unfold start at g;rw[wF (by simpa using e),xC] at g;cases e:vs[i]? with
   | none=>rw[e] at g;cases g
   | some a=>rw[e] at g;cases g;rfl
  obtain⟨u,g,m⟩:=r.get l;have b:j[i]?=some y:=by
   rw[<- S.pre,List.getElem?_take_of_lt (by lia)];exact k
  have a:j.Nodup:=by rw[<- S.pre];exact S.nd.sublist (List.take_sublist _ _)
  refine⟨u,m,?_⟩;rcases S.par y (xG b) with k | k
  .exact .inl ⟨k,LX a b g k⟩
  .obtain⟨c,e⟩:=HA (n:=s.heap.objs.size+1) k;refine .inr ⟨.inl k,c,e,?_⟩;have q:=x.cell y c e;rw[Iw a b g (by show F.names.lookup y≠_;rw[k];decide)] at q;exact q
 .exact d.iD.fresh (zE (x.above y c (mem_of_lookup h)))
 .unfold start;show _=N.length;rw[xE,xA,zX];lia
theorem Ll{CX:UR}{P:gG}{w:gH}{K:uFg}{mg:fY}{Z:Heap}{k:Nat}{f:gF}{name qual:Str}{a:Arguments}{b:List Stmt}{F:Scope}{d kV doc pm cdv ct oc:gE}{an od:Option gF}{osl:Array (Option gE)}{N h:fZ}{sp:Sp}(x:K.lookup f=some ⟨oc,od,.func (fnOf name qual a b F d kV doc pm an cdv ct),osl⟩)(i:codeIn K cdv qual=true)(S:ZM N h F)(e:∀vs H Q E,sp vs H Q E->vs.length=h.length)(c:∀A outer s H vs Q E,ZL k (A.deeper (envOfC qual F s.heap.objs.size f cdv))->sp vs H Q E -> ∃t,A1 (Y8 CX P w K mg Z N qual F f cdv A outer s H E) b t/\t {nx:=λ_ Y=>Q .non Y,rt:=Q } (start N vs) H) :
  YG P w K mg Z CX (k+1) f (fnOf name qual a b F d kV doc pm an cdv ct) h sp:=by
 refine⟨e,λA outer s H a n vs Q E j d p r g=>?_⟩;have u:=e _ _ _ _ g;have m:K.In s.heap:=d.mod.kin.keeps λb o e=>(d.bs b o e).1;have l:s.heap.NoLimit:=d.mod.nolimit.keeps λb o e=>(d.bs b o e).1;have a:∀y∈h.zip n,F.names.lookup y.1=some .local\/(F.names.lookup y.1=some .cell/\((cellsFrom (s.heap.objs.size+1) F.names []).lookup y.1).isSome=true):=λ⟨n,v⟩ b=>by
  rcases S.par n (yZ b).1 with q | q
  .exact .inl q
  .exact .inr ⟨q,cellsFrom_some _ _ _ (.inl q)⟩
 refine codeAny_call_function j.depth (m _ _ x) rfl S.co S.gen rfl (codeRec_of m i) (p _ _ _ _ ?_);refine wpAny_newFunctionEnv_cells S.kind a λb h a x=>?_;subst h;refine⟨l.keeps x.toInCall.keep,codeAny_func ?_⟩;obtain⟨t,h,b⟩:=c A outer s H vs Q E (j.deeper _) g;have I:ZE (Y8 CX P w K mg Z N qual F f cdv A outer s H E) [] (start N vs) H a:=HE S j.hd d u r x;refine wpAny_mono (h [] a (start N vs) H _ I b) (λg d b=>?_) λe d b=>b;have c:∀{a:St}{Y:Hp}{v:V}{u:gE},ZE (Y8 CX P w K mg Z N qual F f cdv A outer s H E) [] a Y d->ZG v u->Q v Y->CE outer P w H s Q u d :=
  λ{a Y v u} J d q=>⟨v,Y,J.os,J.bare,J.base,J.iD,d,q⟩
 cases g with
 | ret u =>
  obtain⟨v,a,Y,J,d,q⟩:=b;exact c J d q
 | next =>
  obtain⟨a,Y,J,q⟩:=b;exact c (v:=V.non) (u:=Value.none) J rfl q
 | brk =>
  obtain⟨_,_,_,q⟩:=b;exact False.elim q
 | cont =>
  obtain⟨_,_,_,q⟩:=b;exact False.elim q
section
variable{X:Cx}{x:Str}{p pos:Pos}{e:Expr}{es:List Expr}{t:TA}{id:String}{r:List V->Hp->VK->Prop}
def BA(r:List V->Hp->VK->Prop)(t:TA):TE:=λL H Q=>t L H λb a=>r b a Q
theorem cU(d:Jr X (.builtin id) r)(g:Gl X x)(i:X.mg x=none)(k:bootBuiltins x=some (.builtin id))(c:PA X (e::es) t)(j:x ≠ "__name__" := by decide)(a:(x==("__debug__":Str))=false:=by decide)(f:sEq X e es:=by rfl)(b:sFq X pos es:=by rfl):PE X (.Call (.Name x p) (e::es) [] pos) (BA r t):=by
 intro B s L H Q I h;refine wpAny_Call_Name_kw (Ut I g i k ?_ j a);exact callWith_builtin1 (thn (c pos B s L H _ I h) λj i ⟨k,a,c,h,g⟩=>d B i L a k j Q c h g) f b
theorem MW(d:Jr X (.type T) r)(g:Gl X x)(i:X.mg x=none)(k:bootBuiltins x=some (.type T))(c:PA X (e::es) t)(j:x ≠ "__name__" := by decide)(a:(x==("__debug__":Str))=false:=by decide)(f:sEq X e es:=by rfl)(b:sFq X pos es:=by rfl):PE X (.Call (.Name x p) (e::es) [] pos) (BA r t):=by
 intro B s L H Q I h;refine wpAny_Call_Name_kw (Ut I g i k ?_ j a);exact callWith_type1 (thn (c pos B s L H _ I h) λj i ⟨k,a,c,h,g⟩=>d B i L a k j Q c h g) f b
end
end L2
namespace HT
open PySem PyProof.Rows
section
open PySem.SeqAt
open PySem.AutoSeq1 (wpAny_loadPart')
open PySem.MeetsSeq PySem.MeetsSeq2 PySem.MeetsSeq3
end
theorem cat_tup(e:IsTup s.heap t vs.toArray)(v:IsTup s.heap b c.toArray)(m:vs ≠ [])(r:c=[]->Q (.ref t) s)(u:c ≠ []->Q (.ref s.heap.objs.size) {s with heap:=s.heap.push {cls:=.type "tuple", data:=.seq (vs++c).toArray } })(hsz:vs.length+c.length<=sizeLine):wpAny (model prog w) A (binaryOp .Add (.ref t) (.ref b)) Q E s:=by
 obtain⟨⟨d,j,a,p⟩,h,k,n,l⟩:=id e;obtain⟨⟨i,d,data2,g⟩,a,e,o,f⟩:=id v;simp only at k l e f;subst k l e f;have e:vs.toArray++c.toArray=(vs++c).toArray:=by simp
 by_cases f:c=[]
 .exact concat_meets ⟨_,h,rfl⟩ ⟨_,a,rfl⟩ noFill_tuple_add seq_tuple_add PySem.F.slot_tuple_add PySem.F.entry_tuple_add (PySem.F.args_tuple_add_2 _ _)
   (tuple_addW1 t b vs.toArray c.toArray n o j d p g (by simpa using m) (by simp[f])) ⟨h,a,r f⟩
 .refine concat_meets ⟨_,h,rfl⟩ ⟨_,a,rfl⟩ noFill_tuple_add seq_tuple_add PySem.F.slot_tuple_add PySem.F.entry_tuple_add (PySem.F.args_tuple_add_2 _ _)
   (tuple_addW2 t b vs.toArray c.toArray n o j d p g (by simpa using m) (by simpa using f) (by rw[xQ,xQ];exact hsz)) ⟨h,a,?_⟩
  rw[e];exact u f
def sIx(n d:Nat):Option Int->Nat
 | none=>d
 | some v=>if v<0 then (v+(n:Int)).toNat else min v.toNat n
theorem sIx_none(n d:Nat):sIx n d none=d:=rfl
theorem sIx_nat(n d k:Nat):sIx n d (some (k:Int))=min k n:=by
 show (if (k:Int)<0 then ((k:Int)+(n:Int)).toNat else min (k:Int).toNat n)=min k n;rw[if_neg (by lia),yH]
theorem Xo(n d:Nat)(a:d<=n)(o:Option Int):sIx n d o<=n:=by
 cases o with
 | none=>exact a
 | some v =>
  show (if v<0 then (v+(n:Int)).toNat else min v.toNat n)<=n
  by_cases a:v<0
  .rw[if_pos a];lia
  .rw[if_neg a];exact Nat.min_le_right _ _
theorem LV(v:Int)(n d:Nat):(if v<0 then max (v+(n:Int)) 0 else min v (n:Int))=((sIx n d (some v):Nat):Int):=by
 show (if v<0 then max (v+(n:Int)) 0 else min v (n:Int))=(((if v<0 then (v+(n:Int)).toNat else min v.toNat n):Nat):Int)
 by_cases a:v<0
 .simp only[if_pos a];lia
 .simp only[if_neg a];lia
theorem Xi(lo a:Option Int)(n:Nat):Builtin.Slice.sliceAdjust lo a 1 (n:Int)=(((sIx n 0 lo:Nat):Int),((sIx n n a:Nat):Int)):=by
 have b:¬((1:Int)<0):=by lia
 unfold Builtin.Slice.sliceAdjust;simp only[b,if_false];refine m8 ?_ ?_
 .cases lo with
  | none=>rfl
  | some v=>exact LV v n 0
 .cases a with
  | none=>rfl
  | some v=>exact LV v n n
theorem cC(i j:Nat):Builtin.Slice.slicePlaces (i:Int) (j:Int) 1=j - i:=by
 unfold Builtin.Slice.slicePlaces;have a:(1:Int) > 0:=by lia
 simp only[a,if_true,Int.ediv_one];split<;>lia
theorem GT(p:IsPart v o)(h:Q o s):wpAny (model prog w) A (Builtin.Slice.slicePartIndex v) Q E s:=by
 cases p with
 | none=>exact slicePart_none h
 | int i t=>exact slicePart_int h
theorem Ol{a:gF}{d e:gE}{lo b:Option Int}{n:Nat}{Q:Int×Int×Nat->gD->Prop}(hs:s.heap.IsSliceOf a d e .none)(pl:IsPart d lo)(g:IsPart e b)(h:Q (((sIx n 0 lo:Nat):Int),1,sIx n n b - sIx n 0 lo) s):wpAny (model prog w) A (Builtin.Slice.sliceApplied (.ref a) (pure (n:Int))) Q E s:=by
 obtain⟨os,c,f,a⟩:=id hs;unfold Builtin.Slice.sliceApplied Builtin.Slice.sliceFields;refine wpAny_bind (wpAny_bind (wpAny_field c a (x:=d) rfl (wpAny_bind (wpAny_field c a (x:=e) rfl (wpAny_bind (wpAny_field c a (x:=.none) rfl (wpAny_pure ?_)))))));refine wpAny_bind (slicePart_none ?_);show wpAny _ _ (if ((1:Int)== 0)=true then _ else _) _ _ s;rw[if_neg aA];refine wpAny_bind (GT pl (wpAny_bind (GT g (wpAny_bind (wpAny_pure ?_)))));show wpAny _ _ (match Builtin.Slice.sliceAdjust lo b 1 (n:Int) with | (lo,b)=>pure (lo,(1:Int),Builtin.Slice.slicePlaces lo b 1)) _ _ s;rw[Xi lo b n];show wpAny _ _ (pure (((sIx n 0 lo:Nat):Int),(1:Int),Builtin.Slice.slicePlaces ((sIx n 0 lo:Nat):Int) ((sIx n n b:Nat):Int) 1)) _ _ s;rw[cC];exact wpAny_pure h
theorem cG(J:Array gE)(i k:Nat):((List.range k).filterMap λ(m:Nat)=>J[((i:Int)+(m:Int) * 1).toNat]?).toArray=((J.toList.drop i).take k).toArray:=by
 have e:(λ(m:Nat)=>J[((i:Int)+(m:Int) * 1).toNat]?)=λm=>J[i+m]?:=by grind
 rw[e];have:=pick_run J i k;rw[List.filterMap_map] at this;have a:((λx=>J[x]?)∘λx=>i+x)=λm=>J[i+m]?:=rfl;rw[a] at this;rw[this]
theorem getItem_tuple_cut{t g:gF}{items:Array gE}{a d:gE}{lo b:Option Int}{Q:fX}(c:IsTup s.heap t items)(hs:s.heap.IsSliceOf g a d .none)(pl:IsPart a lo)(i:IsPart d b)(a:¬(sIx items.size 0 lo=0/\sIx items.size items.size b=items.size))(h:Q (.ref s.heap.objs.size) {s with heap:=s.heap.push {cls:=.type "tuple", data:=.seq ((items.toList.drop (sIx items.size 0 lo)).take (sIx items.size items.size b - sIx items.size 0 lo)).toArray } })(hsz:items.size<=sizeLine):wpAny (model prog w) A (getItem (.ref t) (.ref g)) Q E s:=by
 have a:sizeOk (.seq ((items.toList.drop (sIx items.size 0 lo)).take (sIx items.size items.size b - sIx items.size 0 lo)).toArray):=by
  show ((items.toList.drop (sIx items.size 0 lo)).take (sIx items.size items.size b - sIx items.size 0 lo)).toArray.size<=sizeLine;rw[xQ,xR,zG,Array.length_toList];lia
 have d:sIx items.size items.size b<=items.size:=Xo _ _ (xF _) b;obtain⟨os,f,e,d⟩:=id hs;have d:s.TypeIs (.ref g) "slice" := ⟨os,f,e⟩;unfold getItem
 try with_reducible refine wpAny_holding ?_
 first | refine wpAny_bind (wpAny_pure ?_) | skip
 refine wpAny_bind (wpAny_sequenceKey c.typeIs aA ?_);refine wpAny_bind (wpAny_callSpecial?_slot (name:=Str.ofString "__getitem__") c.typeIs mj (wpAny_call_entry mj c.typeIs entry_tuple_getitem ?_ (args_tuple_getitem _ _)));show wpAny _ _ (Builtin.Tuple.tupleItemsOf (.ref t) >>= _) _ _ s;refine wpAny_bind (tupleItemsOf_ c ?_);refine wpAny_bind (wpAny_typeOf d ?_);rw[if_pos aA];refine wpAny_bind (Ol hs pl i ?_);have c:¬((((sIx items.size 0 lo:Nat):Int)== 0&&(1:Int)== 1&&(sIx items.size items.size b - sIx items.size 0 lo)== items.size)=true):=by grind
 show wpAny _ _ (if (((sIx items.size 0 lo:Nat):Int)== 0&&(1:Int)== 1&&(sIx items.size items.size b - sIx items.size 0 lo)== items.size)=true then _ else _) _ _ s;rw[if_neg c,cG]
 first
  | exact wpAny_bind (m:=Builtin.Tuple.tupleExact _) (wpAny_newObj_type (wpAny_pure ⟨_,rfl,wpAny_pure h⟩) a)
  | exact wpAny_bind (m:=Builtin.Tuple.tupleExact _) (wpAny_newObj_type (wpAny_bind (wpAny_pure (wpAny_pure ⟨_,rfl,wpAny_pure h⟩))) a)
  | exact wpAny_bind (wpAny_bind (m:=Builtin.Tuple.tupleExact _) (wpAny_newObj_type (wpAny_pure (wpAny_pure ⟨_,rfl,wpAny_pure h⟩)) a))
  | exact wpAny_bind (wpAny_bind (m:=Builtin.Tuple.tupleExact _) (wpAny_newObj_type (wpAny_pure ⟨_,rfl,wpAny_pure h⟩) a))
end HT
namespace L2
open PySem PySem.Spec PyProof.Rows
abbrev TO:=St->Hp->(Option Int->Hp->Prop)->Prop
def PO(X:Cx)(e:Option Expr)(t:TO):Prop :=
 ∀(B:List (gF×Obj))(s:gD)(L:St)(H:Hp)(Q:Option Int->Hp->Prop),ZE X B L H s->t L H Q ->
  wpAny (model X.prog X.w) X.A (evalPart e X.env) (λu a=>∃o Y,ZE X B L Y a/\IsPart u o/\Q o Y) X.xe s
def Pn:TO:=λ_ H Q=>Q none H
inductive AK(Q:Option Int->Hp->Prop)(x:V)(a:Hp):Prop
 |mk(i)(_:x=.int i)(_:Q (some i) a)
def RS(t:TE):TO:=λL H Q=>t L H λx a=>AK Q x a
section
variable{X:Cx}{te:TE}{lo hi:Option Expr}{tl th:TO}
def IZ(X:Cx)(r:V->Option Int->Option Int->Hp->VK->Prop):Prop :=
 ∀(B:List (gF×Obj))(s:gD)(L:St)(H:Hp)(x:V)(v b c:gE)(lo hi:Option Int)(a:gF)(Q:VK),ZE X B L H s->ZG x v->s.heap.IsSliceOf a b c .none->IsPart b lo->IsPart c hi->r x lo hi H Q ->
  ∃T id,typeLookup (.type T) "__getitem__"=pure (some (.builtin id))/\s.TypeIs v T/\wpAny (model X.prog X.w) X.A (getItem v (.ref a)) (EP X B L Q) X.xe s
def QK(r:V->Option Int->Option Int->Hp->VK->Prop)(te:TE)(tl th:TO):TE:=λL H Q=>te L H λx a=>tl L a λl a=>th L a λu a=>r x l u a Q
def Va(J:aG)(lo hi:Option Int):List V:=(J.drop (HT.sIx J.length 0 lo)).take (HT.sIx J.length J.length hi - HT.sIx J.length 0 lo)
theorem K3(J:aG)(lo hi:Option Int):(Va J lo hi).length<=J.length:=by
 unfold Va;rw[xR,zG];lia
inductive FF(K:uFg)(x:V)(lo hi:Option Int)(H:Hp)(Q:VK):Prop
 |mk(a J)(_:x=.ref a)(_:ZJ K H a J)(_:¬(HT.sIx J.length 0 lo=0/\HT.sIx J.length J.length hi=J.length))(_:∀p,H p=none->Q (.ref p) (upd H p (.tup (Va J lo hi))))
inductive Ak(K:uFg)(x y:V)(H:Hp)(Q:VK):Prop
 |mk(a b J ys)(_:x=.ref a)(_:y=.ref b)(_:ZJ K H a J)(_:ZJ K H b ys)(_:J ≠ [])(_:J.length+ys.length<=sizeLine)(_:(ys=[]->Q (.ref a) H))(_:(ys ≠ []->∀p,H p=none->Q (.ref p) (upd H p (.tup (J++ys)))))
theorem ZI.iL(r:ZI J us):us=[]↔J=[]:=by
 cases r with
 | nil=>simp
 | cons _ _=>simp
theorem Po:TK X (binaryOp .Add) (Ak X.K):=by
 intro B s L H x y v u Q I d f h;obtain⟨a,b,J,m,rfl,rfl,c,g,i,e,k,l⟩:=h;cases d;cases f;obtain⟨f,d,h,_⟩:=I.tuple c;obtain⟨f,c,j,_⟩:=I.tuple g;refine HT.cat_tup h j (λz=>i (d.iL.mp z)) (λz=>⟨.ref a,H,I,rfl,k (c.iL.mp z)⟩) (λz=>?_) (by rw[<- d.length,<- c.length];exact e);refine⟨.ref s.heap.objs.size,_,I.laid (t':=s.toks) (o:=.tup (J++m)) (λb a q=>xH _ q) (xF _) ?_,rfl,l (λw=>z (c.iL.mpr w)) _ (I.iD.fresh (xF _))⟩;exact⟨by rw[xE];exact e,_,d.append c,IsTup.new _ _⟩
end
def ixN(n:Nat)(i:Int):Option Nat:=if 0<=i then (if i<n then some i.toNat else none) else if -(n:Int)<=i then some (i+n).toNat else none
def atI{a:Type}(J:List a)(i:Int):Option a:=(ixN J.length i).bind λj=>J[j]?
theorem HZ(h:ixN n i=some j):seqIndex? i n=some j/\j<n /\ -(n:Int)<=i/\i<n:=by
 unfold ixN at h
 by_cases b:0<=i
 .rw[if_pos b] at h
  by_cases a:i<n
  .rw[if_pos a] at h;have e:i.toNat=j:=ma h;exact⟨by rw[seqIndex_of b a,e],by lia,by lia,a⟩
  .rw[if_neg a] at h;cases h
 .rw[if_neg b] at h
  by_cases a : -(n:Int)<=i
  .rw[if_pos a] at h;have e:(i+n).toNat=j:=ma h;exact⟨by rw[seqIndex_neg (by lia) a,e],by lia,a,by lia⟩
  .rw[if_neg a] at h;cases h
theorem Fw{a:Type}{J:List a}{v:a}(h:atI J i=some v):∃j,seqIndex? i J.length=some j/\J[j]?=some v/\j<J.length /\ -(J.length:Int)<=i/\i<J.length:=by
 unfold atI at h;cases e:ixN J.length i with
 | none=>rw[e] at h;cases h
 | some j =>
  rw[e] at h;obtain⟨a,b,c,d⟩:=HZ e;exact⟨j,a,h,b,c,d⟩
theorem Yl{a:Type}{J:List a}{j:Nat}{v:a}(h:J[j]?=some v):atI J (j:Int)=some v:=by
 have a:j<J.length:=(xI.mp h).1;have e:ixN J.length (j:Int)=some j:=by
  unfold ixN;rw[if_pos (by lia),if_pos (by lia)];simp
 unfold atI;rw[e];exact h
def XQ(b:Expr):Prop:=∀o i,subscripted b false o i=operate [o,i] (getItem o i)
def CS(X:Cx)(r:R2):Prop :=
 ∀(b a:Expr)(B:List (gF×Obj))(s:gD)(L:St)(H:Hp)(x y:V)(v u:gE)(Q:VK),ZE X B L H s->ZG x v->ZG y u->r x y H Q ->
  subscripted a false v u=operate [v,u] (getItem v u)->wpAny (model X.prog X.w) X.A (subscriptTail b a v u) (EP X B L Q) X.xe s
def Hs(X:Cx)(id:String)(r:V->List V->Hp->VK->Prop):Prop :=
 ∀(B:List (gF×Obj))(s:gD)(L:St)(H:Hp)(x:V)(J:aG)(v:gE)(a:gA)(Q:VK),ZE X B L H s->ZG x v->ZI J a->r x J H Q ->
  wpAny (model X.prog X.w) X.A (call (.builtin id) (v::a)) (EP X B L Q) X.xe s
section
variable{X:Cx}{a b:Expr}
inductive AQ(K:uFg)(x y:V)(H:Hp)(Q:VK):Prop
 |mk(p J i v)(_:x=.ref p)(_:y=.int i)(_:ZD K H p J)(_:atI J i=some v)(_:Q v H)
inductive Jz(K:uFg)(x y:V)(H:Hp)(Q:VK):Prop
 |mk(p J i v)(_:x=.ref p)(_:y=.int i)(_:ZJ K H p J)(_:atI J i=some v)(_:Q v H)
inductive C4(x y:V)(H:Hp)(Q:VK):Prop
 |mk(z i c)(_:x=.str z)(_:y=.int i)(_:z.length<=sizeLine)(_:atI z.cps.toList i=some c)(_:Q (.str ⟨#[c]⟩) H)
theorem HP:CS X (AQ X.K):=by
 intro d c B s L H x y v u Q I f g h l;obtain⟨p,J,i,z,rfl,rfl,c,e,q⟩:=h;cases f;obtain⟨t,rfl⟩:=g;obtain⟨f,r,g,d⟩:=I.list c;obtain⟨j,d,c,h,m,n⟩:=Fw e;obtain⟨w,h,e⟩:=r.get c;have o:=r.length;have c:=Bc;have c:EP X B L Q w s:=⟨z,H,I,e,q⟩
 by_cases k:0<=i
 .have e:i.toNat=j:=by
   rw[seqIndex_of k n] at d;exact ma d
  exact item_listR g.isList k (by lia) (by rw[e];simpa using h) c l
 .have e:(i+(f.toArray.size:Int)).toNat=j:=by
   rw[seqIndex_neg (by lia) m] at d;rw[xQ,<- o];exact ma d
  exact subscriptTail_builtinR (x:=w) g.isList.typeIs slot_list_getitem.lookup
   (wpAny_getItem_list_neg (Q:=λr d=>r=w/\EP X B L Q r d) g.isList (by lia) (by rw[xQ]<;>lia) (by lia) (by rw[e];simpa using h) ⟨rfl,c⟩) l
theorem Lj:CS X (Jz X.K):=by
 intro d c B s L H x y v u Q I e f h k;obtain⟨p,J,i,z,rfl,rfl,c,d,q⟩:=h;cases e;obtain⟨t,rfl⟩:=f;obtain⟨f,r,e,g⟩:=I.tuple c;obtain⟨j,g,c,f,h,i⟩:=Fw d;obtain⟨w,f,d⟩:=r.get c;have h:=r.length;have c:=Bc;have c:EP X B L Q w s:=⟨z,H,I,d,q⟩;exact subscriptTail_builtinR (x:=w) e.typeIs slot_tuple_getitem.lookup
  (getItem_tuple (j:=j) (Q:=λr d=>r=w/\EP X B L Q r d) e (by lia) (by lia) (by rw[xQ,<- h];exact g) (by simpa using f) ⟨rfl,c⟩) k
theorem Pa:CS X C4:=by
 intro d c B s L H x y v u Q I e f h l;obtain⟨z,i,c,rfl,rfl,d,k,q⟩:=h;obtain⟨t,rfl⟩:=e;obtain⟨d,rfl⟩:=f;obtain⟨j,d,g,h,e,f⟩:=Fw k;have h:z.cps.toList.length=z.length:=by simp[Str.length]
 rw[h] at d e f;have e:=Bc
 exact tail_any (typeIs_str s z t) slot_str_getitem.lookup (getItem_str (c:=c) (by
  have e:decide (i < -(2^63:Int))=false:=zL (by lia);have f:decide (i>=2^63)=false:=zL (by lia)
  rw[e,f,Bool.or_false]) (by rw[d];simpa using g) ⟨.str ⟨#[c]⟩,H,I.tok _,⟨_,rfl⟩,q⟩) l
theorem Rm(c:gA)(n j:Nat)(u:gE):Obj.mapSeq (·.setIfInBounds j u) {cls:=.type "list", data:=.seq c.toArray n }={cls:=.type "list", data:=.seq (c.set j u).toArray n }:=by
 simp[Obj.mapSeq]
theorem ZE.lst{B:List (gF×Obj)}{L:St}{H:Hp}{s:gD}{p:gF}{J:aG}(I:ZE X B L H s)(h:H p=some (.lst J)) :
  ∃c n,ZI J c/\s.heap.get? p=some {cls:=.type "list", data:=.seq c.toArray n }/\J.length<=sizeLine:=by
 obtain⟨z,c,n,r,e⟩:=I.iD p _ h;exact⟨c,n,r,e,z⟩
theorem ZE.lstUpd{B:List (gF×Obj)}{L:St}{H:Hp}{s:gD}{p:gF}{J ys:aG}{c its':gA}{n d:Nat}{f:Obj->Obj}(I:ZE X B L H s)(h:H p=some (.lst J))(i:s.heap.get? p=some {cls:=.type "list", data:=.seq c.toArray n })(g:f {cls:=.type "list", data:=.seq c.toArray n }={cls:=.type "list", data:=.seq its'.toArray d })(r:ZI ys its')(hz:ys.length<=sizeLine)(t:Nat) :
  ZE X B L (upd H p (.lst ys)) {s with heap:=s.heap.update p f,toks:=t }:=by
 have e:(s.heap.update p f).get? p=some {cls:=.type "list", data:=.seq its'.toArray d }:=by
  rw[zO f i (by rw[g]<;>rfl),g]
 refine I.write (x:=p) (e:=p) (by rw[h];trivial) (.inl rfl) (λb u c q=>(yQ _ _ (Ne.symm c)).trans q) ⟨_,e⟩ ?_;exact⟨hz,its',d,r,e⟩
inductive BM(o i v:V)(H:Hp)(Q:Hp->Prop):Prop
 |mk(p J k j)(_:o=.ref p)(_:i=.int k)(_:H p=some (.lst J))(_:ixN J.length k=some j)(_:Q (upd H p (.lst (J.set j v))))
theorem eZ(lo c:Option Int)(n:Nat):(sliceBounds lo c none n).1=((HT.sIx n 0 lo:Nat):Int)/\(sliceBounds lo c none n).2.1=((HT.sIx n n c:Nat):Int)/\(sliceBounds lo c none n).2.2=1:=by
 refine⟨?_,?_,rfl⟩
 .cases lo with
  | none=>simp[sliceBounds,HT.sIx]
  | some i =>
   simp only[sliceBounds,HT.sIx,Option.getD_none,show (1:Int) > 0 by decide,if_true]
   by_cases h:i<0
   .simp only[h,if_true]<;>lia
   .simp only[h,if_false]<;>lia
 .cases c with
  | none=>simp[sliceBounds,HT.sIx]
  | some i =>
   simp only[sliceBounds,HT.sIx,Option.getD_none,show (1:Int) > 0 by decide,if_true]
   by_cases h:i<0
   .simp only[h,if_true]<;>lia
   .simp only[h,if_false]<;>lia
theorem Sw(c:gA)(lo d:Option Int):slicePick c.toArray lo d none=((c.drop (HT.sIx c.length 0 lo)).take (HT.sIx c.length c.length d - HT.sIx c.length 0 lo)).toArray:=by
 obtain⟨e,f,g⟩:=eZ lo d c.toArray.size;unfold slicePick;rw[e,f,g];simp only[sliceRange_one,pick_run,xQ]<;>rfl
inductive BI(K:uFg)(x:V)(lo c:Option Int)(H:Hp)(Q:VK):Prop
 |mk(a J)(_:x=.ref a)(_:ZD K H a J)(_:∀p,H p=none->Q (.ref p) (upd H p (.lst (Va J lo c))))
theorem fT:IZ X (BI X.K):=by
 intro B s L H x v g k lo d c Q I e f i j h;obtain⟨a,J,rfl,c,q⟩:=h;cases e;obtain⟨h,r,e,g⟩:=I.list c;have c:=r.length;refine⟨"list", _,slot_list_getitem.lookup,e.isList.typeIs,?_⟩;refine wpAny_getItem_list_slice e.isList f i j .none (by simp) ?_ (by rw[xQ]<;>lia);rw[Sw,<- c];refine⟨.ref s.heap.objs.size,_,I.laid (t':=s.toks) (o:=.lst (Va J lo d)) (λb c q=>xH _ q) (xF _) ?_,rfl,q _ (I.iD.fresh (xF _))⟩;exact⟨xZ (K3 J lo d) g,_,0,(r.drop (HT.sIx J.length 0 lo)).take (HT.sIx J.length J.length d - HT.sIx J.length 0 lo),xW _ rfl⟩
def J9:V->Bool
 | .non=>true
 | .bl _=>true
 | .int _=>true
 | .str _=>true
 | _=>false
def eqV:V->V->Bool
 | .non,.non=>true
 | .bl a,.bl b=>a==b
 | .bl a,.int b=>(if a then 1 else 0)== b
 | .int a,.bl b=>a==(if b then 1 else 0)
 | .int a,.int b=>a==b
 | .str a,.str b=>a==b
 | _,_=>false
theorem Sf(f:ZG y u)(c:ZG x v)(g:J9 y=true)(e:J9 x=true):SeqAt.EqAt A s u v (eqV y x):=by
 cases y with
 | non =>
  cases f;cases x with
  | non=>cases c;exact SeqAt.EqAt.same _
  | bl b=>cases c;exact SeqAt.EqAt.none_bool b
  | int b=>obtain⟨t,rfl⟩:=c;exact SeqAt.EqAt.none_int b t
  | str b=>obtain⟨t,rfl⟩:=c;exact SeqAt.EqAt.none_str b t
  | _=>exact absurd (show false=true from e) xN
 | bl a =>
  cases f;cases x with
  | non=>cases c;exact SeqAt.EqAt.bool_none a
  | bl b=>cases c;exact SeqAt.EqAt.bool_bool a b
  | int b=>obtain⟨t,rfl⟩:=c;exact SeqAt.EqAt.bool_int a b t
  | str b=>obtain⟨t,rfl⟩:=c;exact SeqAt.EqAt.bool_str a b t
  | _=>exact absurd (show false=true from e) xN
 | int a =>
  obtain⟨d,rfl⟩:=f;cases x with
  | non=>cases c;exact SeqAt.EqAt.int_none a d
  | bl b=>cases c;exact SeqAt.EqAt.int_bool a d b
  | int b=>obtain⟨t,rfl⟩:=c;exact ml a d b t
  | str b=>obtain⟨t,rfl⟩:=c;exact SeqAt.EqAt.int_str a d b t
  | _=>exact absurd (show false=true from e) xN
 | str a =>
  obtain⟨d,rfl⟩:=f;cases x with
  | non=>cases c;exact SeqAt.EqAt.str_none a d
  | bl b=>cases c;exact SeqAt.EqAt.str_bool a d b
  | int b=>obtain⟨t,rfl⟩:=c;exact SeqAt.EqAt.str_int a d b t
  | str b=>obtain⟨t,rfl⟩:=c;exact mn a d b t
  | _=>exact absurd (show false=true from e) xN
 | _=>exact absurd (show false=true from g) xN
def eqU(x:V)(u:gE):Bool:=match u with
 | .none=>eqV .non x
 | .bool b=>eqV (.bl b) x
 | .int i _=>eqV (.int i) x
 | .str z _=>eqV (.str z) x
 | _=>false
theorem Mf(r:ZG y u)(f:J9 y=true):eqU x u=eqV y x:=by
 cases y with
 | non=>cases r;rfl
 | bl b=>cases r;rfl
 | int i=>obtain⟨t,rfl⟩:=r;rfl
 | str z=>obtain⟨t,rfl⟩:=r;rfl
 | _=>exact absurd (show false=true from f) xN
theorem Cr:∀{J:aG}{us:gA},ZI J us->J.all J9=true->us.any (eqU x)=J.any λy=>eqV y x
 | _,_,.nil,_=>rfl
 | y::J,u::us,.cons r t,f=>by
  rw[List.all_cons,yO] at f;rw[mr,mr,Mf r f.1,Cr t f.2]
theorem Cb(e:ZG x v)(d:J9 x=true):∀{J:aG}{us:gA},ZI J us->J.all J9=true->∀u∈us,SeqAt.EqAt A s u v (eqU x u)
 | _,_,.nil,_=>λu c=>by cases c
 | y::J,u::us,.cons r t,f=>λg c=>by
  rw[List.all_cons,yO] at f;rcases xD.mp c with rfl | c
  .rw[Mf r f.1];exact Sf r e f.1 d
  .exact Cb e d t f.2 g c
def inV(x:V)(J:aG):Bool:=J.any λy=>eqV y x
inductive DL(K:uFg)(c:Bool)(x y:V)(H:Hp)(Q:VK):Prop
 |mk(p J)(_:y=.ref p)(_:(ZD K H p J\/ZJ K H p J))(_:J9 x=true)(_:J.all J9=true)(_:Q (.bl (if c then !inV x J else inV x J)) H)
theorem OD:TK X (compareOp .In) (DL X.K false):=by
 intro B s L H x y v u Q I j c h;obtain⟨p,J,rfl,d,i,e,q⟩:=h;cases c;rcases d with d | d
 .obtain⟨c,r,g,h⟩:=I.list d;refine SeqAt.in_listAt (eqU x) g.isList (λw f=>Cb j i r e w (by simpa using f)) ⟨.bl _,H,I,rfl,?_⟩;rw[show c.toArray.any (eqU x)=c.any (eqU x) by simp,Cr r e];exact q
 .obtain⟨c,r,g,h⟩:=I.tuple d;refine SeqAt.in_tupleAt (eqU x) g (λw f=>Cb j i r e w (by simpa using f)) ⟨.bl _,H,I,rfl,?_⟩;rw[show c.toArray.any (eqU x)=c.any (eqU x) by simp,Cr r e];exact q
theorem NH:TK X (compareOp .NotIn) (DL X.K true):=by
 intro B s L H x y v u Q I j c h;obtain⟨p,J,rfl,d,i,e,q⟩:=h;cases c;rcases d with d | d
 .obtain⟨c,r,g,h⟩:=I.list d;refine SeqAt.notIn_listAt (eqU x) g.isList (λw f=>Cb j i r e w (by simpa using f)) ⟨.bl _,H,I,rfl,?_⟩;rw[show c.toArray.any (eqU x)=c.any (eqU x) by simp,Cr r e];exact q
 .obtain⟨c,r,g,h⟩:=I.tuple d;refine SeqAt.notIn_tupleAt (eqU x) g (λw f=>Cb j i r e w (by simpa using f)) ⟨.bl _,H,I,rfl,?_⟩;rw[show c.toArray.any (eqU x)=c.any (eqU x) by simp,Cr r e];exact q
theorem eE:Jr X (.builtin "len") (λJ H Q=>∃p ys,J=[.ref p]/\(ZD X.K H p ys\/ZJ X.K H p ys)/\Q (.int ys.length) H):=by
 intro B s L H J c Q I r h;obtain⟨p,ys,rfl,d,q⟩:=h;obtain⟨u,rfl,c⟩:=Tx r;cases c;have c:=Bc;rcases d with d | d
 .obtain⟨e,g,f,h⟩:=I.list d;have c:=g.length;exact Calls.call_len_list f.isList (by simp only[xQ]<;>lia) ⟨.int ys.length,H,I.tok _,⟨s.toks+1,by rw[xQ,c]⟩,q⟩
 .obtain⟨e,g,f,h⟩:=I.tuple d;have c:=g.length;exact len_tuple f (by simp only[xQ]<;>lia) ⟨.int ys.length,H,I.tok _,⟨s.toks+1,by rw[xQ,c]⟩,q⟩
theorem HW:Jr X (.type "list") (λJ H Q=>∃p ys,J=[.ref p]/\(ZD X.K H p ys\/ZJ X.K H p ys)/\∀l,H l=none->Q (.ref l) (upd H l (.lst ys))):=by
 intro B s L H J c Q I r h;obtain⟨p,ys,rfl,j,q⟩:=h;obtain⟨u,rfl,c⟩:=Tx r;cases c;have h:∀(c:gA),ZI ys c->ys.length<=sizeLine->∀(d:Heap)(f:Nat),(∀b e,s.heap.get? b=some e->d.get? b=some e)->
   d.get? s.heap.objs.size=some {cls:=.type "list", dict:=none,data:=.seq c.toArray f,slots:=#[] }->EP X B L Q (.ref s.heap.objs.size) {s with heap:=d }:=λc g k d f m e =>
  ⟨.ref s.heap.objs.size,_,I.laid (t':=s.toks) m (xF _) (show ZQ X.prog X.w _ d _ (.lst ys) from⟨k,c,f,g,e⟩),rfl,q _ (I.iD.fresh (xF _))⟩
 rcases j with j | j
 .obtain⟨c,g,u,k⟩:=I.list j;have i:=g.length;obtain⟨o,t,r,n,s⟩:=u.isList;exact call_list_seq p (.inl rfl) t r s (λd f m e=>h c g k d f m e) (by simp only[xQ]<;>lia)
 .obtain⟨c,g,u,k⟩:=I.tuple j;have i:=g.length;obtain⟨o,t,r,n,s⟩:=u;exact call_list_seq p (.inr rfl) t r s (λd f m e=>h c g k d f m e) (by simp only[xQ]<;>lia)
theorem PN:Jr X (.type "tuple") (λJ H Q=>∃p ys,J=[.ref p]/\((ZD X.K H p ys/\∀l,H l=none->Q (.ref l) (upd H l (.tup ys)))\/(ZJ X.K H p ys/\Q (.ref p) H))):=by
 intro B s L H J c Q I r h;obtain⟨p,ys,rfl,h⟩:=h;obtain⟨u,rfl,c⟩:=Tx r;cases c;rcases h with⟨f,q⟩ | ⟨f,q⟩
 .obtain⟨c,h,g,j⟩:=I.list f;have d:=h.length;refine call_tuple_list g.isList (λd e=>?_) (by simp only[xQ]<;>lia);have i:ZE X B L H {s with heap:=d }:=I.kept (t':=s.toks) e;have k:ZE X B L (upd H d.objs.size (.tup ys)) {s with heap:=d.push {cls:=.type "tuple", data:=.seq c.toArray } } :=
   i.laid (t':=s.toks) (λb o e=>xH _ e) (xF _) (show ZQ X.prog X.w _ _ _ (.tup ys) from⟨j,c,h,IsTup.new _ _⟩)
  exact⟨.ref d.objs.size,_,k,rfl,q _ (i.iD.fresh (xF _))⟩
 .obtain⟨c,h,g,j⟩:=I.tuple f;exact call_tuple_same g ⟨.ref p,H,I,rfl,q⟩
def tyV(K:uFg)(T:String)(x:V)(H:Hp):Prop:=match x with
 | .str _=>T="str"
 | .int _=>T="int"
 | .ref p=>(T="list" /\ ∃J,ZD K H p J)\/(T="tuple" /\ ∃o,K.lookup p=some o/\o.cls=.type "tuple" /\ o.dict=none)\/
   (T="dict" /\ ((∃U,H p=some (.dK U))\/∃U,H p=some (.dT U)))\/(T="set" /\ ∃S n,H p=some (.set S n))
 | _=>False
theorem LS{B:List (gF×Obj)}{L:St}{H:Hp}{s:gD}{T:String}{x:V}{v:gE}(I:ZE X B L H s)(r:ZG x v)(f:tyV X.K T x H) :
  s.TypeIs v T/\∀a,v=.ref a->∃c,s.heap.get? a=some c/\c.dict=none:=by
 cases x with
 | str z =>
  obtain⟨t,rfl⟩:=r;cases (show T="str" from f);exact⟨typeIs_str s z t,λ_ e=>nomatch e⟩
 | int i =>
  obtain⟨t,rfl⟩:=r;cases (show T="int" from f);exact⟨typeIs_int s i t,λ_ e=>nomatch e⟩
 | ref p =>
  cases r;rcases f with⟨rfl,J,c⟩ | ⟨rfl,o,d,hc,g⟩ | ⟨rfl,d⟩ | ⟨rfl,S,n,d⟩
  .obtain⟨i,_,h,_⟩:=I.list c;refine⟨h.isList.typeIs,λa e=>?_⟩;cases e;obtain⟨o,n,e,c,g,_⟩:=h;exact⟨o,e,g⟩
  .refine⟨⟨o,I.iF p o d,hc⟩,λa e=>?_⟩;cases e;exact⟨o,I.iF _ o d,g⟩
  .have z:∃o,s.heap.get? p=some o/\o.ExactDict:=by
    rcases d with⟨U,d⟩ | ⟨U,d⟩
    .obtain⟨_,_,_,_,o,_,_,e,c,_⟩:=I.iD p _ d;exact⟨o,e,c⟩
    .obtain⟨_,_,_,_,o,_,_,e,c,_⟩:=I.iD p _ d;exact⟨o,e,c⟩
   obtain⟨o,e,c⟩:=z;refine⟨⟨o,e,c.1⟩,λa g=>?_⟩;cases g;exact⟨o,e,c.2.1⟩
  .obtain⟨o,_,_,_,e,c,_⟩:=I.iD p _ d;refine⟨⟨o,e,c.1⟩,λa g=>?_⟩;cases g;exact⟨o,e,c.2.1⟩
 | _=>exact False.elim f
def Qy(K:uFg)(T:String)(r:V->List V->Hp->VK->Prop)(c:TE):TE:=λL H Q=>c L H λx c=>tyV K T x c/\r x [] c Q
def ES(K:uFg)(T:String)(r:V->List V->Hp->VK->Prop)(c:TE)(t:TA):TE:=λL H Q=>c L H λx c=>tyV K T x c/\t L c λJ c=>r x J c Q
variable{o e:Expr}{es:List Expr}{to:TE}{t:TA}{name:Str}{apos cpos:Pos}{T id:String}{r:V->List V->Hp->VK->Prop}
end
def fV(X:Cx)(id:String)(r:V->List V->Hp->VK->Prop):Prop :=
 ∀(B:List (gF×Obj))(s:gD)(L:St)(H:Hp)(x:V)(J:aG)(v:gE)(a:gA)(Q:VK),ZE X B L H s->ZG x v->ZI J a->r x J H Q ->
  wpAny (model X.prog X.w) X.A (call (.builtin id) (v::a)) (EP X B L Q) X.xe s
theorem ZI.one:∀{x:V}{us:gA},ZI [x] us->∃u,us=[u]/\ZG x u:=λh=>by
 cases h with | cons r t=>cases t;exact⟨_,rfl,r⟩
theorem ZI.zero:∀{us:gA},ZI [] us->us=[]
 | _,.nil=>rfl
theorem ZI.eraseIdx:∀{J:aG}{us:gA}(i:Nat),ZI J us->ZI (J.eraseIdx i) (us.eraseIdx i)
 | _,_,_,.nil=>.nil
 | _,_,0,.cons _ t=>t
 | _,_,i+1,.cons r t=>.cons r (ZI.eraseIdx i t)
theorem ZI.rep(h:ZI J us):∀k:Nat,ZI (List.replicate k J).flatten (List.replicate k us).flatten
 | 0=>.nil
 | k+1=>by
  rw[yV,yV,wB,wB];exact ZI.append h (ZI.rep h k)
theorem Lf{a:Type}:∀(l:List a)(i:Nat),(l.eraseIdx i).length<=l.length
 | [],_=>xF _
 | _::_,0=>mi _
 | _::r,i+1=>mv (Lf r i)
theorem Mc(b:gA):∀k a,
  List.foldl (λc d=>c++d) a.toArray (List.replicate k b.toArray)=(a++(List.replicate k b).flatten).toArray
 | 0,a=>by simp
 | k+1,a=>by
  have e:a.toArray++b.toArray=(a++b).toArray:=by simp
  have c:(a++b)++(List.replicate k b).flatten=a++(List.replicate (k+1) b).flatten:=by
   rw[yV,wB,yT]
  rw[<- c,<- Mc b k (a++b),<- e,yV,zA]
section
variable{X:Cx}{B:List (gF×Obj)}{L:St}{H:Hp}{s:gD}{l:gF}{J ys:aG}
theorem ZE.lset{a its':gA}{n:Nat}{f:Array gE->Array gE}{t':Nat}(I:ZE X B L H s)(b:H l=some (.lst J))(e:s.heap.get? l=some {cls:=.type "list", data:=.seq a.toArray n })(c:f a.toArray=its'.toArray)(d:ZI ys its')(hz:ys.length<=sizeLine) :
  ZE X B L (upd H l (.lst ys)) {s with heap:=s.heap.update l (Obj.mapSeq f),toks:=t' }:=by
 have q:=IsL.update e f;rw[c] at q;refine I.write (x:=l) (e:=l) (by rw[b];exact trivial) (.inl rfl) (λc u a b=>(yQ s.heap (Obj.mapSeq f) (Ne.symm a)).trans b) ⟨_,q⟩ ?_;exact⟨hz,its',_,d,q⟩
theorem ZE.lnew{a:gA}{t':Nat}(I:ZE X B L H s)(b:ZI ys a)(hz:ys.length<=sizeLine) :
  ZE X B L (upd H s.heap.objs.size (.lst ys)) {s with heap:=s.heap.push {cls:=.type "list", data:=.seq a.toArray },toks:=t' } :=
 I.laid (λ_ _ q=>xH _ q) (xF _) ⟨hz,a,0,b,xW _ rfl⟩
theorem ZE.fresh(I:ZE X B L H s):H s.heap.objs.size=none:=I.iD.fresh (xF _)
theorem ZE.iI(I:ZE X B L H s)(b:H l=some (.lst J)):J.length<=sizeLine/\∃(a:gA)(n:Nat),ZI J a/\J.length=a.length/\s.heap.get? l=some {cls:=.type "list", data:=.seq a.toArray n }:=by
 obtain⟨z,a,n,r,e⟩:=I.iD l _ b;exact⟨z,a,n,r,r.length,e⟩
theorem Ry(h:n<=sizeLine):Builtin.List.listTooLong n=false:=by
 unfold Builtin.List.listTooLong;exact zL (by lia)
end
inductive VH(x:V)(vs:aG)(H:Hp)(Q:VK):Prop
 |mk(l J y)(_:x=.ref l)(_:vs=[y])(_:H l=some (.lst J))(_:J.length<sizeLine)(_:Q .non (upd H l (.lst (J ++ [y]))))
inductive AE(x:V)(vs:aG)(H:Hp)(Q:VK):Prop
 |mk(l J i k y)(_:x=.ref l)(_:vs=[.int i])(_:H l=some (.lst J))(_:-(2^63)<=i)(_:i<2^63)(_:seqIndex? i J.length=some k)(_:J[k]?=some y)(_:Q y (upd H l (.lst (J.eraseIdx k))))
inductive AG(x:V)(vs:aG)(H:Hp)(Q:VK):Prop
 |mk(l J)(_:x=.ref l)(_:vs=[])(_:H l=some (.lst J))(_:Q .non (upd H l (.lst [])))
inductive A4(x y:V)(H:Hp)(Q:VK):Prop
 |mk(l b J zs)(_:x=.ref l)(_:y=.ref b)(_:H l=some (.lst J))(_:H b=some (.lst zs))(_:J.length+zs.length<=sizeLine)(_:∀p,H p=none->Q (.ref p) (upd H p (.lst (J++zs))))
inductive Fz(x y:V)(H:Hp)(Q:VK):Prop
 |mk(l k J)(_:x=.ref l)(_:y=.int k)(_:H l=some (.lst J))(_:-(2^63)<=k)(_:k<2^63)(_:J.length * k.toNat<=sizeLine)(_:∀p,H p=none->Q (.ref p) (upd H p (.lst (List.replicate k.toNat J).flatten)))
theorem Qi{a:Type}(J:List a)(k:Nat):(List.replicate k J).flatten.length=k * J.length:=by
 induction k with
 | zero=>simp
 | succ k a=>rw[yV,wB,xE,a,Nat.succ_mul,Nat.add_comm]
section
set_option maxRecDepth 100000 in
end
section
variable{κ:Type} [DecidableEq κ]
def Z1(U:List (κ×V))(k:κ):Option V:=(U.find? λa=>decide (a.1=k)).map (·.2)
def Z4(U:List (κ×V))(k:κ)(v:V):List (κ×V) :=
 if (U.any λa=>decide (a.1=k))=true then U.map (λa=>if a.1=k then (a.1,v) else a) else U ++ [(k,v)]
theorem Uv{p:κ×V}{r:List (κ×V)}{k:κ}(e:p.1=k):Z1 (p::r) k=some p.2:=by simp[Z1,zW,e]
theorem TQ{p:κ×V}{r:List (κ×V)}{k:κ}(e:¬p.1=k):Z1 (p::r) k=Z1 r k:=by simp[Z1,zW,e]
theorem Cc(k:κ):∀U:List (κ×V),(U.any λa=>decide (a.1=k))=(Z1 U k).isSome
 | []=>rfl
 | p::r=>by
  rw[mr]
  by_cases e:p.1=k
  .simp only[Uv e,yR e,Bool.true_or,Option.isSome_some]
  .rw[TQ e,zL e,Bool.false_or];exact Cc k r
theorem Lz(k j:κ)(y:V):∀U:List (κ×V),Z1 (U.map λa=>if a.1=k then (a.1,y) else a) j=(Z1 U j).map λx=>if j=k then y else x
 | []=>rfl
 | p::r=>by
  have a:=Lz k j y r;rw[yF]
  by_cases h:p.1=k
  .rw[if_pos h]
   by_cases e:p.1=j
   .rw[Uv (p:=(p.1,y)) e,Uv e,wJ,if_pos (e.symm.trans h)]
   .rw[TQ (p:=(p.1,y)) e,TQ e,a]
  .rw[if_neg h]
   by_cases e:p.1=j
   .rw[Uv (p:=p) e,Uv e,wJ,if_neg (λz=>h (e.trans z))]
   .rw[TQ (p:=p) e,TQ e,a]
theorem Lb(k j:κ)(y:V):∀U:List (κ×V),Z1 U k=none->Z1 (U ++ [(k,y)]) j=if j=k then some y else Z1 U j
 | [],_=>by
  by_cases e:k=j
  .rw[if_pos e.symm];exact Uv (p:=(k,y)) e
  .rw[if_neg (λz=>e z.symm)];exact TQ (p:=(k,y)) e
 | p::r,hn=>by
  rw[yK];have a:¬p.1=k:=λz=>by rw[Uv z] at hn;cases hn
  rw[TQ a] at hn;have b:=Lb k j y r hn
  by_cases e:p.1=j
  .rw[Uv e,Uv e,if_neg (λz=>a (e.trans z))]
  .rw[TQ e,TQ e,b]
theorem Uw(U:List (κ×V))(k j:κ)(y:V):Z1 (Z4 U k y) j=if j=k then some y else Z1 U j:=by
 unfold Z4
 by_cases a:(U.any λb=>decide (b.1=k))=true
 .rw[if_pos a,Lz];rw[Cc] at a
  by_cases e:j=k
  .obtain⟨x,b⟩:=zR.mp a;rw[if_pos e,e,b,wJ,if_pos rfl]
  .rw[if_neg e];cases Z1 U j with
   | none=>rfl
   | some x=>rw[wJ,if_neg e]
 .rw[if_neg a];refine Lb k j y U ?_;rw[Cc] at a;cases q:Z1 U k with
  | none=>rfl
  | some x=>rw[q] at a;exact(a rfl).elim
theorem Uh(U:List (κ×V))(k:κ)(v:V):(Z4 U k v).length<=U.length+1:=by
 unfold Z4;split
 .rw[xA];lia
 .rw[xE,yJ,List.length_nil];lia
theorem XU{U:List (κ×V)}{k:κ}(v:V)(h:Z1 U k=none):Z4 U k v=U ++ [(k,v)]:=by
 unfold Z4;rw[Cc,h];exact if_neg aA
theorem YN.iE(r:YN o u):o.isSome=u.isSome:=by
 cases o with
 | none=>cases u with
  | none=>rfl
  | some _=>exact(show False from r).elim
 | some _=>cases u with
  | none=>exact(show False from r).elim
  | some _=>rfl
theorem YN.getD(r:YN o u)(a:ZG d d'):ZG (o.getD d) (u.getD d'):=by
 cases o with
 | none=>cases u with
  | none=>exact a
  | some _=>exact(show False from r).elim
 | some _=>cases u with
  | none=>exact(show False from r).elim
  | some _=>exact r
theorem KV.val(r:KV U vs)(k:κ):YN (Z1 U k) (valueAt vs k):=by
 unfold KV at r
 induction r with
 | nil=>exact True.intro
 | @cons p q a c h t g =>
  obtain⟨d,f⟩:=h
  by_cases e:p.1=k
  .have a:q.1=k:=d.symm.trans e;have b:valueAt (q::c) k=some q.2:=by simp[valueAt,zW,a]
   rw[Uv e,b];exact f
  .have a:¬q.1=k:=λz=>e (d.trans z);have b:valueAt (q::c) k=valueAt c k:=by simp[valueAt,zW,a]
   rw[TQ e,b];exact g
theorem KV.any(r:KV U vs)(k:κ):(U.any λa=>decide (a.1=k))=vs.any λa=>decide (a.1=k):=by
 unfold KV at r
 induction r with
 | nil=>rfl
 | cons h t a=>rw[mr,mr,a,h.1]
theorem KV.repl(r:KV U vs)(k:κ)(c:ZG y u) :
  KV (U.map λa=>if a.1=k then (a.1,y) else a) (vs.map λa=>if a.1=k then (a.1,u) else a):=by
 unfold KV at r |-
 induction r with
 | nil=>exact .nil
 | @cons p q b d h t a =>
  rw[yF,yF];refine .cons ?_ a;obtain⟨a,b⟩:=h
  by_cases e:p.1=k
  .rw[if_pos e,if_pos (a.symm.trans e)];exact⟨a,c⟩
  .rw[if_neg e,if_neg (λz=>e (a.trans z))];exact⟨a,b⟩
theorem KV.put(r:KV U vs)(k:κ)(a:ZG y u):KV (Z4 U k y) (stored vs k u):=by
 unfold Z4 stored;rw[r.any k]
 by_cases e:(vs.any λb=>decide (b.1=k))=true
 .rw[if_pos e,if_pos e];exact r.repl k a
 .rw[if_neg e,if_neg e];exact Paired.snoc r ⟨rfl,a⟩
theorem KV.length{U:List (κ×V)}{vs:List (κ×gE)}(r:KV U vs):U.length=vs.length:=m9 r
end
theorem Bh(r:ZG (kV k) u):(Wp P w).is k u=true:=by
 cases k with
 | inl i=>obtain⟨t,e⟩:=(show ∃t,u=Value.int i t from r);subst e;exact MB P w i t
 | inr x=>obtain⟨t,e⟩:=(show ∃t,u=Value.str x t from r);subst e;exact Om P w x t
theorem Ku:∀{a:List ZT}{us:gA},ZI (a.map kV) us->ItemsAre (Wp P w) a us
 | [],_,r=>by rw[wO] at r;cases r;exact .nil
 | k::a,_,r=>by
  rw[yF] at r;cases r with
  | cons h t=>exact .cons (Bh h) (Ku t)
abbrev KT(H:Hp):List (List ZT×V)->List (List ZT×gF×gE)->Prop:=Paired λp q=>p.1=q.1/\H q.2.1=some (.tup (p.1.map kV))/\ZG p.2 q.2.2
theorem KT.val(r:KT H U J)(k:List ZT):YN (Z1 U k) ((atKey J k).map (·.2)):=by
 induction r with
 | nil=>exact True.intro
 | @cons p q a c h t g =>
  obtain⟨d,_,f⟩:=h
  by_cases e:p.1=k
  .have a:q.1=k:=d.symm.trans e;have b:atKey (q::c) k=some q.2:=by simp[atKey,zW,a]
   rw[Uv e,b];exact f
  .have a:¬q.1=k:=λz=>e (d.trans z);have b:atKey (q::c) k=atKey c k:=by simp[atKey,zW,a]
   rw[TQ e,b];exact g
theorem KT.repl(r:KT H U J)(k:List ZT)(d:ZG y u) :
  KT H (U.map λa=>if a.1=k then (a.1,y) else a) (J.map (putAt k u)):=by
 induction r with
 | nil=>exact .nil
 | @cons p q b c h t a =>
  rw[yF,yF];refine .cons ?_ a;obtain⟨a,b,c⟩:=h;unfold putAt
  by_cases e:p.1=k
  .rw[if_pos e,if_pos (a.symm.trans e)];exact⟨a,b,d⟩
  .rw[if_neg e,if_neg (λz=>e (a.trans z))];exact⟨a,b,c⟩
theorem KT.put(r:KT H U J)(k:List ZT)(c:H b=some (.tup (k.map kV)))(a:ZG y u) :
  KT H (Z4 U k y) (storedH J k b u):=by
 have e:(U.any λd=>decide (d.1=k))=(atKey J k).isSome:=by
  rw[Cc,(r.val k).iE,mw]
 unfold Z4 storedH;rw[e]
 by_cases q:(atKey J k).isSome=true
 .rw[if_pos q,if_pos q];exact r.repl k a
 .rw[if_neg q,if_neg q];exact Paired.snoc r ⟨rfl,c,a⟩
theorem KT.keeps(r:KT H U J)(a:∀b ys,H b=some (.tup ys)->Y b=some (.tup ys)):KT Y U J :=
 Paired.mapP r λ_ _ z=>⟨z.1,a _ _ z.2.1,z.2.2⟩
theorem Kl(b:YO P w H h)(e:Rd H a u):ZQ P w H h a u:=e.ok b
theorem JQ(b:YO P w H h)(e:Rd H a (.dK U)):U.length<=sizeLine/\(a==sysModules)=false/\∃vs,KV U vs/\h.DictOf (Wp P w) a vs :=
 show ZQ P w H h a (.dK U) from Kl b e
theorem Km(b:YO P w H h)(e:H a=some (.dK U)):U.length<=sizeLine/\(a==sysModules)=false/\∃vs,KV U vs/\h.DictOf (Wp P w) a vs:=JQ b (.inl e)
theorem AV(g:YO P w H h)(e:H a=some (.tup (ks.map kV))):(tupleKind (Wp P w)).is h ks a:=by
 obtain⟨_,b,r,o,c,d,n,f⟩:=(show ZQ P w H h a (.tup (ks.map kV)) from g a _ e);exact⟨o,b.toArray,n,c,d,f,by simpa using Ku r⟩
theorem AM(f:YO P w H h)(e:Rd H a (.dT U)):U.length<=sizeLine/\(a==sysModules)=false /\
  ∃J,KT H U J/\h.DictOfH (tupleKind (Wp P w)) a J:=by
 obtain⟨z,y,J,r,o,c,b,d,g,i,j,k⟩:=(show ZQ P w H h a (.dT U) from Kl f e);refine⟨z,y,J,r,o,c,b,d,g,i,j,λx b=>?_,k⟩;have c:∀{l:List (List ZT×V)}{m:List (List ZT×gF×gE)},KT H l m->∀x∈m,(tupleKind (Wp P w)).is h x.1 x.2.1:=by
  intro l m q
  induction q with
  | nil=>intro x b;exact nomatch b
  | @cons p q i j d t g =>
   intro x b;rcases xD.mp b with e | b
   .subst e;exact AV f (by rw[<- d.1];exact d.2.1)
   .exact g x b
 exact c r x b
theorem Gj(b:YO P w H h)(e:H a=some (.dT U)):U.length<=sizeLine/\(a==sysModules)=false /\
  ∃J,KT H U J/\h.DictOfH (tupleKind (Wp P w)) a J:=AM b (.inl e)
def YF(H:Hp)(a:gF)(y:V)(r:Option V):Prop :=
 (∃U k,Rd H a (.dK U)/\y=kV k/\r=Z1 U k)\/∃U k b,Rd H a (.dT U)/\y=.ref b/\H b=some (.tup (k.map kV))/\r=Z1 U k
def YV(H:Hp)(a:gF)(y v:V)(Y:Hp):Prop :=
 (∃U k,H a=some (.dK U)/\y=kV k/\U.length<sizeLine/\Y=upd H a (.dK (Z4 U k v)))\/
 ∃U k b,H a=some (.dT U)/\y=.ref b/\H b=some (.tup (k.map kV))/\U.length<sizeLine/\Y=upd H a (.dT (Z4 U k v))
theorem YF.k{H:Hp}{a:gF}{U:List (ZT×V)}{k:ZT}(e:H a=some (.dK U)):YF H a (kV k) (Z1 U k):=.inl ⟨U,k,.inl e,rfl,rfl⟩
theorem YF.t{H:Hp}{a b:gF}{U:List (List ZT×V)}{k:List ZT}(e:H a=some (.dT U))(c:H b=some (.tup (k.map kV))):YF H a (.ref b) (Z1 U k):=.inr ⟨U,k,b,.inl e,rfl,c,rfl⟩
theorem YV.k{H:Hp}{a:gF}{U:List (ZT×V)}{k:ZT}{v:V}(e:H a=some (.dK U))(b:U.length<sizeLine):YV H a (kV k) v (upd H a (.dK (Z4 U k v))):=.inl ⟨U,k,e,rfl,b,rfl⟩
theorem YV.t{H:Hp}{a b:gF}{U:List (List ZT×V)}{k:List ZT}{v:V}(e:H a=some (.dT U))(c:H b=some (.tup (k.map kV)))(d:U.length<sizeLine) :
  YV H a (.ref b) v (upd H a (.dT (Z4 U k v))):=.inr ⟨U,k,b,e,rfl,c,d,rfl⟩
section
variable{X:Cx}{B:List (gF×Obj)}{L:St}{H:Hp}{s:gD}{a:gF}{y v:V}{u r:gE}{o:Option V}{A:gI}{E:fX}
theorem ZE.big(I:ZE X B L H s):sysModules<s.heap.objs.size:=by
 have h:mainGlobals<s.heap.objs.size:=(I.mod.glob.keeps I.bk).lt;exact Nat.lt_trans aA h
theorem Pt{Q:fX}(t:A.units+1<cLine)(I:ZE X B L H s)(g:YF H a y (some v))(m:ZG y u)(h:∀f c,ZE X B L H c->ZG v f->Q f c) :
  wpAny (model X.prog X.w) A (getItem (.ref a) u) Q E s:=by
 rcases g with⟨U,k,e,i,l⟩ | ⟨U,k,b,e,i,eb,l⟩
 .subst i;obtain⟨z,n,p,c,g⟩:=JQ I.iD e;obtain⟨f,j,d⟩:=YN.some_of (v:=v) (o:=valueAt p k) (by rw[l];exact c.val k);exact wpAny_getItem_of (Bh m) g.mapOf j (h f _ (I.tok _) d)
 .subst i;cases (show u=Value.ref b from m);obtain⟨z,n,J,c,g⟩:=AM I.iD e;obtain⟨f,j,d⟩:=YN.some_of (v:=v) (o:=(atKey J k).map (·.2)) (by rw[l];exact c.val k);obtain⟨p,e,c⟩:=xL.mp j;refine wpAny_getItem_heap (tupleKind_room_in1 t) (AV I.iD eb) g e ?_;rw[c];exact h f _ (I.tok _) d
theorem RD{Q:fX}(j:A.units+1<cLine)(I:ZE X B L H s)(g:YF H a y o)(i:ZG y u)(h:∀c,ZE X B L H c->Q (.bool o.isSome) c) :
  wpAny (model X.prog X.w) A (compareOp .In u (.ref a)) Q E s:=by
 rcases g with⟨U,k,e,f,l⟩ | ⟨U,k,b,e,f,eb,l⟩
 .subst f;obtain⟨z,g,m,c,d⟩:=JQ I.iD e;refine wpAny_in_of (Bh i) g d.mapOf ?_;rw[<- (c.val k).iE,<- l];exact h _ (I.tok _)
 .subst f;cases (show u=Value.ref b from i);obtain⟨z,g,J,c,d⟩:=AM I.iD e;refine wpAny_in_heap (tupleKind_room_in1 j) (AV I.iD eb) g d ?_;have q:=(c.val k).iE;rw[mw] at q;rw[<- q,<- l];exact h _ (I.tok _)
theorem Ph{Q:fX}(j:A.units+1<cLine)(I:ZE X B L H s)(g:YF H a y o)(i:ZG y u)(h:∀c,ZE X B L H c->Q (.bool (!o.isSome)) c) :
  wpAny (model X.prog X.w) A (compareOp .NotIn u (.ref a)) Q E s:=by
 rcases g with⟨U,k,e,f,l⟩ | ⟨U,k,b,e,f,eb,l⟩
 .subst f;obtain⟨z,g,m,c,d⟩:=JQ I.iD e;refine wpAny_notIn_of (Bh i) g d.mapOf ?_;rw[<- (c.val k).iE,<- l];exact h _ (I.tok _)
 .subst f;cases (show u=Value.ref b from i);obtain⟨z,g,J,c,d⟩:=AM I.iD e;refine wpAny_notIn_heap (tupleKind_room_in1 j) (AV I.iD eb) g d ?_;have q:=(c.val k).iE;rw[mw] at q;rw[<- q,<- l];exact h _ (I.tok _)
theorem Df{h':Heap}{t':Nat}{b:HO}(I:ZE X B L H s)(d:BJ (H a))(hs:Heap.SameBut a s.heap h')(f:∃q,h'.get? a=some q)(c:ZQ X.prog X.w (upd H a b) h' a b) :
  ZE X B L (upd H a b) {s with heap:=h',toks:=t' } :=
 I.write (x:=a) (e:=a) d (.inl rfl) (λb q d z=>(hs.2 b d).trans z) f c
theorem Lr(z:U.length<=sizeLine)(c:(a==sysModules)=false)(b:KV U vs)(dd:h'.DictOf (Wp P w) a vs) :
  ZQ P w Y h' a (.dK U):=⟨z,c,vs,b,dd⟩
theorem Rv{Y:Hp}{Q:Unit->gD->Prop}(F:A.units+1<cLine)(I:ZE X B L H s)(g:YV H a y v Y)(x:ZG y u)(w:ZG v r)(h:∀c,ZE X B L Y c->Q () c) :
  wpAny (model X.prog X.w) A (setItem (.ref a) u r) Q E s:=by
 rcases g with⟨U,k,e,j,l,i⟩ | ⟨U,k,b,e,j,eb,l,i⟩
 .subst j i;obtain⟨z,l,d,c,g⟩:=Km I.iD e;have p:d.length<=sizeLine:=by rw[<- c.length];exact z
  have m:(Z4 U k v).length<=sizeLine:=by have:=Uh U k v;lia
  refine wpAny_setItem_pairs (hsz:=p) (Bh x) g λt d n=>h _ ?_;have C:∃q,t.get? a=some q:=let ⟨q,_,_,f,_⟩:=d;⟨q,f⟩
  exact Df I (by rw[e];exact True.intro) n C (Lr m l (c.put k w) d)
 .subst j i;cases (show u=Value.ref b from x);obtain⟨z,l,J,c,g⟩:=Gj I.iD e;have p:J.length<=sizeLine:=by rw[<- m9 c];exact z
  have m:(Z4 U k v).length<=sizeLine:=by have:=Uh U k v;lia
  refine wpAny_setItem_heap (hsz:=p) (tupleKind_room_in1 F) (AV I.iD eb) g λt d n=>h _ ?_;obtain⟨q,i,g,f,j,p,t,_,x⟩:=d;refine Df I (by rw[e];exact True.intro) n ⟨q,f⟩ ⟨m,l,_,(c.put k eb w).keeps λc k d=>?_,q,i,g,f,j,p,t,x⟩;rw[Zf (Il d e (λz=>nomatch z))];exact d
end
section
variable{X:Cx}{B:List (gF×Obj)}{L:St}{H:Hp}{s:gD}{a:gF}{U:List (ZT×V)}{k:ZT}{u:gE}{A:gI}{E:fX}
theorem O8{Q:fX}(I:ZE X B L H s)(e:Rd H a (.dK U))(h:∀t b,ZE X B L H b->Q (.int U.length t) b):wpAny (model X.prog X.w) A (call (.builtin "len") [.ref a]) Q E s:=by
 obtain⟨z,d,f,b,c⟩:=JQ I.iD e;refine call_len_dict d c (by rw[<- b.length];rw[sizeLine_eq] at z;lia) ?_;rw[<- b.length];exact h _ _ (I.tok _)
end
def Ek(i:Expr):Prop:=∀b a,subscripted i false b a=operate [b,a] (getItem b a)
theorem QB{prog:gG}{w:gH}{A:gI}{E:fX}{s:gD}{env:Env}{b a:Expr}{pos:Pos}{T id:String}{Q:fX}(f:typeLookup (.type T) "__getitem__"=pure (some (.builtin id)))(hs:Ek a)(h:wpAny (model prog w) A (eval b env) (λo d=>wpAny (model prog w) A (eval a env) (λi c=>c.TypeIs o T/\wpAny (model prog w) A (getItem o i) Q E c) E d) E s) :
  wpAny (model prog w) A (eval (.Subscript b a pos) env) Q E s:=by
 refine Subscript_ (wpAny_mono h (λo d e=>wpAny_mono e (λi c d=>?_) λ_ _ x=>x) λ_ _ x=>x);obtain⟨e,d⟩:=d;unfold subscriptTail;refine wpAny_bind ?_;rw[getitemInPython_of_ne e.not_modules];refine wpAny_bind (wpAny_specialOf e f ?_);have e:wpAny (model prog w) A (subscripted a false o i) (λr a=>wpAny (model prog w) A (letTemporaryGo b o r >>= λ_=>pure r) Q E a) E c:=by
  rw[hs o i];exact wpAny_operating (wpAny_mono d (λr a b=>wpAny_bind (wpAny_letTemporaryGo (wpAny_pure b))) λ_ _ x=>x)
 first
  | exact wpAny_pure (wpAny_bind e)
  | exact wpAny_bind (wpAny_pure (wpAny_bind e))
  | exact wpAny_bind e
theorem Xy{X:Cx}{B:List (gF×Obj)}{L:St}{H:Hp}{s:gD}{a:gF}{y:V}{o:Option V}(I:ZE X B L H s)(g:YF H a y o):s.TypeIs (.ref a) "dict" := by
 rcases g with⟨U,k,e,_,_⟩ | ⟨U,k,b,e,_,_,_⟩
 .obtain⟨_,_,d,_,c⟩:=JQ I.iD e;exact c.typeIs
 .obtain⟨_,_,J,_,c⟩:=AM I.iD e;exact c.typeIs
inductive A9(Q:VK)(x y:V)(b:Hp):Prop
 |mk(a v)(_:x=.ref a)(_:YF b a y (some v))(_:Q v b)
def Kt(a b:TE):TE:=λL H Q=>a L H λx a=>b L a λy a=>A9 Q x y a
inductive sDPut_(D:ZY)(L:St)(v x y:V)(b:Hp):Prop
 |mk(a H4)(_:x=.ref a)(_:YV b a y v H4)(_:D.nx L H4)
def Iy(b c a:TE):TS:=λD L H=>a L H λv a=>b L a λx a=>c L a λy a=>sDPut_ D L v x y a
theorem Xl(e:X.A.units+1<cLine)(a:PE X o td)(c:PE X i ty)(hs:Ek i):PE X (.Subscript o i pos) (Kt td ty):=by
 intro B s L H Q I h;refine QB PySem.F.slot_dict_getitem.lookup hs (thn (a B s L H _ I h) λu f ⟨x,a,b,h,d⟩=>thn (c B f L a _ b d) λk l ⟨y,c,b,j,a,v,d,g,f⟩=>?_);subst d;obtain rfl:u=Value.ref a:=h;exact⟨Xy b g,Pt e b g j λe d b a=>⟨v,c,b,a,f⟩⟩
theorem Sm(e:X.A.units+1<cLine)(d:PE X o td)(c:PE X i ty)(a:PE X value tv)(hs:swapsWith value (some (.Subscript o i pos')) pos.line X.env=pure false) :
  PS X (.Assign [.Subscript o i pos'] value pos) (Iy td ty tv):=by
 intro B s L H D I h;refine wpAny_Assign_Subscript (thn (a B s L H _ I h) λr g ⟨v,a,b,h,f⟩=>thn (d B g L a _ b f) λu f ⟨x,a,b,j,d⟩=>thn (c B f L a _ b d) λm n ⟨y,l,c,k,a,b,d,g,f⟩=>?_) hs;subst d;obtain rfl:u=Value.ref a:=j;exact Rv e c g k h λc a=>⟨L,b,a,f⟩
theorem L9(h:Heap)(a:sysModules<h.objs.size):ZQ P w H (h.push {cls:=.type "dict", data:=.dict #[] }) h.objs.size (.dK []) :=
 ⟨yP _,beq_eq_false_iff_ne.mpr (Ne.symm (yG a)),[],.nil,Heap.DictOf.new h⟩
theorem OA(h:Heap)(a:sysModules<h.objs.size):ZQ P w H (h.push {cls:=.type "dict", data:=.dict #[] }) h.objs.size (.dT []) :=
 ⟨yP _,beq_eq_false_iff_ne.mpr (Ne.symm (yG a)),[],.nil,_,#[],0,xW _ rfl,⟨rfl,rfl,rfl⟩,rfl,rfl,List.nodup_nil⟩
def Nz:TE:=λ_ H Q=>∀p,H p=none->Q (.ref p) (upd H p (.dK []))
def XA:TE:=λ_ H Q=>∀p,H p=none->Q (.ref p) (upd H p (.dT []))
def F8:List (TE×TE)->St->Hp->(List (V×V)->Hp->Prop)->Prop
 | [],_,H,Q=>Q [] H
 | (tk,tv)::r,L,H,Q=>tk L H λx a=>tv L a λy a=>F8 r L a λb a=>Q ((x,y)::b) a
abbrev VV:List (V×V)->List (gE×gE)->Prop:=Paired λp q=>ZG p.1 q.1/\ZG p.2 q.2
def CK(X:Cx)(pos:Pos)(b:List (Option Expr))(a:List Expr)(c:List (TE×TE)):Prop :=
 ∀(B:List (gF×Obj))(s:gD)(L:St)(H:Hp)(Q:List (V×V)->Hp->Prop),ZE X B L H s->F8 c L H Q ->
  wpAny (model X.prog X.w) X.A (evalPairs (pairTrees b a X.env pos)) (λc b=>∃a Y,ZE X B L Y b/\VV a c/\Q a Y) X.xe s
theorem dG:CK X pos [] [] []:=λB s L H Q I h=>pairTrees_nil_walk ⟨[],H,I,.nil,h⟩
theorem Sl(a:PE X k tk)(d:PE X v tv)(c:CK X pos ks vs trs) :
  CK X pos (some k::ks) (v::vs) ((tk,tv)::trs):=λB s L H Q I h =>
 pairTrees_cons_walk (thn (a B s L H _ I h) λu g ⟨x,a,b,f,e⟩=>thn (d B g L a _ b e) λh e ⟨y,a,b,g,d⟩=> thn (c B e L a _ b d) λi h ⟨d,b,c,a,e⟩=>⟨(x,y)::d,b,c,.cons ⟨f,g⟩ a,e⟩)
def Ar(U a:List (ZT×V)):List (ZT×V):=a.foldl (λa b=>Z4 a b.1 b.2) U
theorem KV.merge:∀{a:List (ZT×V)}{b:List (ZT×gE)}{U:List (ZT×V)}{vs:List (ZT×gE)},KV a b->KV U vs->KV (Ar U a) (merged vs b):=by
 intro a b U vs r;unfold KV at r
 induction r generalizing U vs with
 | nil=>intro q;exact q
 | @cons p q b c h t a =>
  intro b;have e:KV (Z4 U p.1 p.2) (stored vs q.1 q.2):=by
   have:=b.put p.1 h.2;rw[<- h.1];exact this
  exact a e
theorem Gs:∀a U,(Ar U a).length<=U.length+a.length
 | [],U=>by show U.length<=U.length+0;lia
 | p::r,U=>by
  have a:=Gs r (Z4 U p.1 p.2);have a:=Uh U p.1 p.2;show (Ar (Z4 U p.1 p.2) r).length<=_;rw[yJ];lia
theorem Lg:∀{U:List (ZT×V)}{b:List (gE×gE)},VV (U.map λa=>(kV a.1,a.2)) b->∃d,Carries (Wp P w) b d/\KV U d
 | [],_,r=>by rw[wO] at r;cases r;exact⟨[],True.intro,.nil⟩
 | p::U,_,r=>by
  rw[yF] at r;cases r with
  | @cons a b c e h t =>
   obtain⟨d,c,q⟩:=Lg (P:=P) (w:=w) t;obtain⟨e,a⟩:=b;exact⟨(p.1,a)::d,⟨Bh h.1,rfl,c⟩,.cons ⟨rfl,h.2⟩ q⟩
def Mr(a:List (TE×TE)):TE:=λL H Q=>∀p,H p=none->F8 a L (upd H p (.dK [])) λb a=>a p=some (.dK [])/\∃U:List (ZT×V),b=U.map (λb=>(kV b.1,b.2))/\U.length<=15/\Q (.ref p) (upd a p (.dK (Ar [] U)))
theorem Xa(h:CK X pos keys values trs)(b:keys.all (·.isSome)=true)(f:keys.length=values.length)(e:keys ≠ [])(c:keys.length<=15):PE X (.Dict keys values pos) (Mr trs):=by
 intro B s L H Q I q;have g:=I.iD.fresh (xF s.heap.objs.size);have d:=I.laid (a:=s.heap.objs.size) (o:=.dK []) (h':=s.heap.push {cls:=.type "dict", data:=.dict #[] }) (t':=s.toks) (λ_ _ q=>xH _ q) (xF _) (L9 s.heap I.big);refine wpAny_Dict_walk (knd:=Wp X.prog X.w) b f e c (thn (h B _ L _ _ d (q _ g)) λl k ⟨j,g,d,b,e,U,c,i,f⟩=>?_);subst c;obtain⟨j,c,k⟩:=Lg (P:=X.prog) (w:=X.w) b;obtain⟨z,g,l,i,b⟩:=Km d.iD e;cases i;refine⟨j,c,b,λc b i=>⟨.ref s.heap.objs.size,_,?_,rfl,f⟩⟩;have j:(Ar [] U).length<=sizeLine:=by
  have f:=Gs U [];rw[List.length_nil] at f;rw[sizeLine_eq];lia
 have f:∃q,c.get? s.heap.objs.size=some q:=let ⟨q,_,_,c,_⟩:=b;⟨q,c⟩
 exact Df d (by rw[e];exact True.intro) i f (Lr j g (k.merge .nil) b)
structure M2 (X:Cx) (o:Expr) (m:Str) (apos:Pos) (e f:Expr) (cpos:Pos):Prop where
 base:attributeBase o m X.env (eval o X.env)=eval o X.env
 few:((backTo cpos (starEach [e,f] X.env)).all (λx=>!x.1)&&(backToKw cpos (keywordEach [] X.env)).all (λx=>x.1.isSome)
  && decide (([e,f]:List Expr).length+([]:List Keyword).length+(if ([]:List Keyword).isEmpty then 0 else 1)<30))=true
 line:(apos.endLine==cpos.line)=true
 trees:backTo cpos (starEach [e,f] X.env)= [(false,eval e X.env),(false,eval f X.env)]
def Ec(H:Hp)(a:gF):Prop:=(∃U,Rd H a (.dK U))\/∃U,Rd H a (.dT U)
theorem LK{X:Cx}{B:List (gF×Obj)}{L:St}{H:Hp}{s:gD}{a:gF}(I:ZE X B L H s)(d:Ec H a) :
  s.TypeIs (.ref a) "dict" /\ (∀b,Value.ref a=.ref b->∃c,s.heap.get? b=some c/\c.dict=none)/\(a==sysModules)=false:=by
 rcases d with⟨U,e⟩ | ⟨U,e⟩
 .obtain⟨_,i,g,_,f⟩:=JQ I.iD e;refine⟨f.typeIs,λb q=>?_,i⟩;cases q;obtain⟨c,_,_,g,h,_⟩:=f;exact⟨c,g,h.2.1⟩
 .obtain⟨_,i,J,_,f⟩:=AM I.iD e;refine⟨f.typeIs,λb q=>?_,i⟩;cases q;obtain⟨c,_,_,g,h,_⟩:=f;exact⟨c,g,h.2.1⟩
section
variable{X:Cx}{B:List (gF×Obj)}{L:St}{H:Hp}{s:gD}{a:gF}{y d:V}{u r:gE}{o:Option V}{A:gI}{E:fX}
theorem XO{Q:fX}(n:A.units+1<cLine)(I:ZE X B L H s)(g:YF H a y o)(m:ZG y u)(j:ZG d r)(h:∀e c,ZE X B L H c->ZG (o.getD d) e->Q e c) :
  wpAny (model X.prog X.w) A (call (.builtin "dict.get") [.ref a,u,r]) Q E s:=by
 rcases g with⟨U,k,e,g,l⟩ | ⟨U,k,b,e,g,eb,l⟩
 .subst g;obtain⟨z,i,p,c,f⟩:=JQ I.iD e;refine call_meetsIn mB f.typeIs PySem.F.entry_dict_get (PySem.F.args_dict_get_3 _ _ _) (meets_dict_get_default (Wp X.prog X.w) a (Bh m) i r) ⟨_,f.mapOf,h _ _ (I.tok _) ?_⟩;rw[l];exact(c.val k).getD j
 .subst g;cases (show u=Value.ref b from m);obtain⟨z,i,J,c,f⟩:=AM I.iD e;refine call_meetsIn mB f.typeIs PySem.F.entry_dict_get (PySem.F.args_dict_get_3 _ _ _) (meetsH_dict_get_default (tupleKind (Wp X.prog X.w)) a b i r) ⟨tupleKind_room_in1 n,k,J,AV I.iD eb,f,h _ _ (I.tok _) ?_⟩;rw[l];exact(c.val k).getD j
end
inductive JL(d c:TE)(L:St)(Q:VK)(x:V)(b:Hp):Prop
 |mk(a)(_:x=.ref a)(_:Ec b a)(_:d L b λy b=>c L b λz b=>∃o,YF b a y o/\Q (o.getD z) b)
def LZ(a c b:TE):TE:=λL H Q=>a L H λx a=>JL c b L Q x a
theorem Re(k:X.A.units+1<cLine)(a:PE X o td)(i:PE X e ty)(j:PE X f tx)(m:M2 X o "get" apos e f cpos):PE X (.Call (.Attribute o "get" apos) [e,f] [] cpos) (LZ td ty tx):=by
 intro B s L H Q I h;refine wpAny_Call_method m.base m.few m.line PySem.F.plainAttrs_dict mB PySem.F.type_dict_get (thn (a B s L H _ I h) λu n ⟨x,c,b,l,a,g,d,h⟩=>?_);subst g;obtain rfl:u=Value.ref a:=l;obtain⟨a,g,_⟩:=LK b d;refine⟨a,g,?_⟩;rw[m.trees];refine mD rfl (mE (mF (thn (i B n L c _ b h) λg d ⟨y,a,b,h,c⟩=> mF (thn (j B d L a _ b c) λi l ⟨z,b,a,c,j,g,d⟩=>mG ?_))));exact XO k a g h c λh g c a=>⟨_,b,c,a,d⟩
section
variable{X:Cx}{B:List (gF×Obj)}{L:St}{H:Hp}{s:gD}{a:gF}{U:List (ZT×V)}{A:gI}{E:fX}
end
section
variable{X:Cx}{B:List (gF×Obj)}{L:St}{H:Hp}{s:gD}{a:gF}{y:V}{u:gE}{A:gI}{E:fX}
end
end L2
namespace Att
open PySem PySem.W PySem.Calls PyProof.Rows
theorem Nk:∀ns vs,WellAll P h vs (ns.map WData.int)->IntsAre vs ns:=by
 intro ns
 induction ns with
 | nil =>
  intro vs w;rw[wO] at w;cases w;exact .nil
 | cons n ns c =>
  intro vs w;rw[yF] at w;cases w with
  | cons a b =>
   cases a;exact .cons _ _ (c _ b)
theorem Sv{l:OpenLaw}{n:Nat}(u:l.most=some n){P:Params}{h:Heap}{b:List WData}{e:gA}(c:l.row.toRowW.claim.pre b=true)(m:WellAll P h e b) :
  ∃a vs ns,e=[Value.ref a]/\b=[WData.list (ns.map WData.int)]/\h.get? a=some {cls:=.type "list", data:=.seq vs.toArray }/\IntsAre vs ns/\ns.length<=n:=by
 have k:WShape.hasAll [] b [.list .int]=true:=(pre_splitW c).1;have o:l.pre.holds [] {args:=b }=true:=(pre_splitW c).2;obtain⟨d,r,rfl,p,s⟩:=hasAllW_cons k;obtain rfl:=hasAllW_nil s;obtain⟨J,rfl,t⟩:=hasW_list p;obtain⟨ns,rfl⟩:=items_int t;have g:ns.length<=n:=by
  unfold OpenLaw.pre at o;have i:(WTm.not (.lt (.lit (.int (n:Int))) (.len (.arg 0)))).holds [] {args:=[.list (ns.map .int)] }=true:=by
   have i:=(holds_andW o).1;rw[u] at i;exact i
  have j:=condW_of i (w_not (w_lt w_lit (w_len_list (w_arg rfl))));rw[xA] at j;refine Nat.le_of_not_lt λq=>?_;have w:(n:Int)<((ns.length:Nat):Int):=by lia
  first
   | (rw[yR w] at j;exact absurd j aA)
   | (simp at j;lia)
 cases m with
 | cons x y =>
  cases y;cases x with
  | list v f=>exact⟨_,_,ns,rfl,rfl,v,Nk ns _ f,g⟩
theorem Ni(l:OpenLaw)(a:List WData):l.row.toRowW.claim.post a (.bool true) a=true :=
 postW_of (r:=l.row.toRowW) (X:=(true==true))
  (show WShape.has [] (.bool true) .bool=true by first | rfl | decide | simp[WShape.has,WShape.arms,WShape.armsAll])
  (show (WTm.eq .res (.lit (.bool true))).value [] {args:=a,res:=some (.bool true),after:=a }=some (.bool (true==true)) from w_eq_bool (w_res rfl) w_lit) rfl
theorem attach_call{l:OpenLaw}{n:Nat}{q:gG}{loose:fZ}{XP:(fY)->Heap->Prop}{YP:gH->Heap->Prop}{d:DefRec}(C:l.most=some n)(e:d.params.defaults=[])(call:∀w c b mg u g o pm k doc a vs ns, Ground q loose [] XP w c mg u b.heap->YP w b.heap -> b.heap.get? g=some o->o.data=.func (docDef d.name d.params d.body d.scope pm k doc)->b.heap.CodeRec k d.name->mg d.name=some (.ref g)-> b.heap.get? a=some {cls:=.type "list", data:=.seq vs.toArray }->IntsAre vs ns->ns.length<=n->b.gens=#[]-> codeAny (model l.prog w) callerA (.call (.ref g) ⟨[.ref a],[]⟩) (λr m=>r=.ok (.ret (.bool true))/\OldK b.heap m.heap/\m.os=b.os/\AllBare m.gens) b) :
  WalkO q loose XP YP l.row.toRowW d [] (λf vs=>PySem.call f vs):=by
 intro w c b mg u G Y g o pm k doc y kV E z p i s A h x H j v F t B;obtain rfl:y=.none:=Dflts.none i e;obtain rfl:kV=.none:=Dflts.noKw i;obtain⟨a,vs,ns,rfl,rfl,i,e,h⟩:=Sv C j t;refine enter_call (codeAny_mono (call w c b mg u g o pm k doc a vs ns G Y E (fd_plain z) p s i e h A) λr m g=>?_);obtain⟨rfl,b,c,e⟩:=g;exact⟨.inl ⟨.bool true,.bool true,[],rfl,λ_=>rfl,.bool true,Ni l _,λ_=>⟨List.Pairwise.nil,λ_ g=>(nomatch g)⟩⟩,b,c,e⟩
section
variable{prog:gG}{w:gH}{A:gI}{E:fX}{s:gD}{K:Frag}
end
end Att
namespace L2
open PySem PySem.Spec PyProof.Rows
theorem KJ:∀{vs:gA}{ns:List Int},IntsAre vs ns->ZI (ns.map V.int) vs
 | _,_,.nil=>.nil
 | _,_,.cons n t h=>.cons ⟨t,rfl⟩ (KJ h)
def Fv(H:Hp):Prop:=∀b,H b=none\/∃o J,H b=some (.frz o (.lst J))
theorem SS{P:gG}{w:gH}{K:uFg}{mg I:fY}{CX:UR}{k:Nat}{d a:gF}{b:FuncData}{x:Str}{sp:Sp}{c:gD}{vs:gA}{ns:List Int}(M:K.In c.heap)(t:c.heap.Ns mainGlobals mg)(g:c.heap.Ns builtinsNs I)(E:∀x:Str,x ≠ "__name__" -> I x=bootBuiltins x)(p:c.heap.NoLimit)(U:c.gens=#[])(C:c.heap.get? a=some {cls:=.type "list", data:=.seq vs.toArray })(f:IntsAre vs ns)(O:ns.length<=sizeLine)(W:ZL k callerA)(F:∀Z:Heap,K.In Z->Z.Ns mainGlobals mg->YG P w K mg Z CX k d b [x] sp)(l:∀s u,BindsTo s b ⟨[u],[]⟩ [(x,u)])(G:∀H:Hp,Fv H->ZD K H a (ns.map V.int)->sp [.ref a] H (λv _=>v=.bl true) λ_ _ _=>False)(B:∀H e i,CX [] H c (λ_ _ _=>False) e i->False) :
  codeAny (model P w) callerA (.call (.ref d) ⟨[.ref a],[]⟩) (λr i=>r=.ok (.ret (.bool true))/\OldK c.heap i.heap/\i.os=c.os/\AllBare i.gens) c:=by
 have Q:=KJ f;have A:=f.length;have j:∀H:Hp,Fv H->ZD K H a (ns.map V.int)->YO P w H c.heap->(∀b,H b≠none->b=a)->(H a≠none->K.lookup a=none)->
   codeAny (model P w) callerA (.call (.ref d) ⟨[.ref a],[]⟩) (λr i=>r=.ok (.ret (.bool true))/\OldK c.heap i.heap/\i.os=c.os/\AllBare i.gens) c:=by
  intro H N T y R S;have f:∀{b:gF}{o:Obj},c.heap.get? b=some o->H b=none->(J3 c.heap H).get? b=some o:=λe n=>Rh e n;have L:∀{b:gF}{o:Obj}{z:Array DictEntry}{n:Nat},c.heap.get? b=some o->o.data=.dict z n->H b=none:=λ{b o z n} e d=>by grind
  have h:∀{b:gF}{m:fY},c.heap.Ns b m->(J3 c.heap H).Ns b m:=λ{b m} ⟨o,z,n,e,d,r⟩=>⟨o,z,n,f e (L e d),d,r⟩
  have d:K.In (J3 c.heap H):=λb o e=>f (M b o e) (by
   cases q:H b with
   | none=>rfl
   | some u =>
    have f:b=a:=R b (by rw[q];simp);subst f
    rw[S (by rw[q];simp)] at e;cases e)
  have n:Mod K mg (J3 c.heap H):=⟨d,h t,⟨I,h g,E⟩,let ⟨z,f,m⟩:=p;⟨z,h f,m⟩⟩;have f:VT P w K mg (J3 c.heap H) callerA [] c H:=⟨rfl,n,λb o e=>PX e,me (Pw _ _),trivial,λb g=>absurd (show b∈([]:gC) from g) (by simp),y,.of_eq U⟩;refine codeAny_mono ((F _ d (h t)).run callerA [] c H ⟨[.ref a],[]⟩ [.ref a] [.ref a] _ _ W f (l c (.ref a)) (.cons rfl .nil) (G H N T)) λr i h=>?_;cases r with
  | error e=>exact(B H e i h).elim
  | ok c =>
   cases c with
   | next=>exact False.elim h
   | brk=>exact False.elim h
   | cont=>exact False.elim h
   | ret u =>
    obtain⟨v,Y,os,c,f,d,i,q⟩:=h;have h:v=.bl true:=q;subst h;obtain rfl:u=Value.bool true:=i;refine⟨rfl,OldK.of_keep λb o e=>?_,os,c⟩;cases q:H b with
    | none=>exact f.keep b o e q (by intro z;exact absurd (show b∈([]:gC) from z) (by simp)) (by simp)
    | some u =>
     rcases N b with z | ⟨ob,J,z⟩
     .rw[q] at z;cases z
     .have h:=f.iz b ob _ z;obtain⟨c,_⟩:=y b _ z;obtain⟨f,_⟩:=d b _ h;rw[e] at c;cases c;exact f
 cases d:K.lookup a with
 | some o =>
  have e:=M a o d;rw[C] at e;cases e;refine j (λ_=>none) (λ_=>.inl rfl) (.inr ⟨_,vs.toArray,_,d,rfl,rfl,rfl,by rw[xQ,A];exact O,by simpa using Q⟩) (λb u z=>by have c:(none:Option HO)=some u:=z;cases c) (λb z=>absurd rfl z) λz=>absurd rfl z
 | none =>
  refine j (λb=>if b=a then some (.frz {cls:=.type "list", data:=.seq vs.toArray } (.lst (ns.map V.int))) else none) (λb=>?_) (.inl (.inr ⟨{cls:=.type "list", data:=.seq vs.toArray },if_pos rfl⟩)) (λb u z=>?_) (λb z=>?_) λ_=>d
  .by_cases g:b=a
   .exact .inr ⟨_,_,if_pos g⟩
   .exact .inl (if_neg g)
  .by_cases g:b=a
   .have c:=(if_pos g).symm.trans z;cases c;subst g;exact⟨C,by rw[xA];exact O,vs,_,Q,C⟩
   .have c:=(if_neg g).symm.trans z;cases c
  .by_cases g:b=a
   .exact g
   .exact absurd (if_neg g) z
theorem walk_of{l:PySem.W.OpenLaw}{n k:Nat}{q:gG}{loose:fZ}{XP:(fY)->Heap->Prop}{YP:gH->Heap->Prop}{d:DefRec}{K:Params->uFg}{CX:gH->UR}{sp:gH->Sp}{x:Str}(c:l.most=some n)(t:n<=sizeLine)(b:d.params.defaults=[])(J:ZL k callerA)(C:∀ (w:gH) (h:Heap),YP w h->(K w.params).In h)(F:∀ (w:gH) (mg:fY) (j:gF) (h:Heap),(K w.params).In h->h.Ns mainGlobals mg->mg d.name=some (.ref j)-> ∃m:FuncData,(∀ (s:gD) (u:gE),BindsTo s m ⟨[u],[]⟩ [(x,u)])/\ ∀Z:Heap,(K w.params).In Z->Z.Ns mainGlobals mg->YG l.prog w (K w.params) mg Z (CX w) k j m [x] (sp w))(y:∀ (w:gH) (H:Hp) (a:gF) (ns:List Int),ns.length<=n->Fv H->ZD (K w.params) H a (ns.map V.int)->sp w [.ref a] H (λv _=>v=.bl true) λ_ _ _=>False)(p:∀ (w:gH) (H:Hp) (s:gD) (e:gE) (z:gD),CX w [] H s (λ_ _ _=>False) e z->False) :
  PySem.W.WalkO q loose XP YP l.row.toRowW d [] (λf vs=>PySem.call f vs):=by
 refine Att.attach_call c b λw A i mg O j o P L B a vs ns G Y N M E r g c b I=>?_;have o:=C w _ Y;obtain⟨m,B,A⟩:=F w mg j _ o G.T.g r;exact SS o G.T.g G.T.b G.T.builtins G.T.nolimit I g c (xZ b t) J A B (λH c g=>y w H a ns b c g) λH e z=>p w H i e z
def Y1(s:Stmt)(j:Nat):Stmt:=match s with
 | .ClassDef _ _ _ a _ _ _ _ _ _ _=>a.getD j (.Pass ⟨0,0,0,0⟩)
 | _=>.Pass ⟨0,0,0,0⟩
def Vb(s:Stmt):Arguments:=match s with
 | .FunctionDef _ a _ _ _ _ _ _ _ _=>a
 | _=>{posonlyargs:=[],args:=[],vararg:=none,kwonlyargs:=[],kw_defaults:=[],kwarg:=none,defaults:=[] }
def Yt(s:Stmt):List Stmt:=match s with
 | .FunctionDef _ _ b _ _ _ _ _ _ _=>b
 | _=>[]
def Zm(s:Stmt):Scope:=match s with
 | .FunctionDef _ _ _ _ _ _ a _ _ _=>a
 | _=>{kind:=.function,names:=[],isGenerator:=false,isCoroutine:=false }
abbrev WX:UR:=λ_ _ _ _ _ _=>False
abbrev E0:XK:=λ_ _ _=>False
theorem Dj:AY WX X E0:=λ_ _ _ _ _ _ _ h=>h.elim
structure UI (K:uFg) (x qual:Str) (st:Stmt) (f:gF) (fd:FuncData):Prop where
 ex:∃(oc:gE)(od:Option gF)(kV doc pm:gE)(an:Option gF)(cdv ct:gE)(osl:Array (Option gE)),
  fd=fnOf x qual (Vb st) (Yt st) (Zm st) .none kV doc pm an cdv ct/\K.lookup f=some ⟨oc,od,.func fd,osl⟩/\codeIn K cdv qual=true
 kp:keepIn K (.ref f)=true
section
variable{P:gG}{w:gH}{K:uFg}{mg:fY}{Z:Heap}
theorem UI.ok{x qual:Str}{st:Stmt}{f:gF}{d:FuncData}{N b:fZ}{k:Nat}{sp:Sp}(F:UI K x qual st f d)(S:ZM N b (Zm st))(c:∀vs H Q E,sp vs H Q E->vs.length=b.length)(a:∀ (cdv:gE) (A:gI) (outer:List Env) (s:gD) (H:Hp) (vs:aG) (Q:VK) (E:XK),ZL k (A.deeper (envOfC qual (Zm st) s.heap.objs.size f cdv))->sp vs H Q E -> ∃t,A1 (Y8 WX P w K mg Z N qual (Zm st) f cdv A outer s H E).iO (Yt st) t/\t {nx:=λ_ Y=>Q .non Y,rt:=Q } (start N vs) H):YG P w K mg Z WX (k+1) f d b sp:=by
 obtain⟨j,od,kV,d,l,h,cdv,i,g,rfl,e,b⟩:=F.ex;refine Ll e b S c λA outer s H vs Q E c b=>?_;obtain⟨t,h,q⟩:=a cdv A outer s H vs Q E c b;exact⟨t,h.iO,q⟩
theorem UI.binds{x qual:Str}{st:Stmt}{f:gF}{b:FuncData}{a:fZ}(F:UI K x qual st f b)(h:∀ (kV doc pm:gE) (an:Option gF) (cdv ct:gE) (us:gA),us.length=a.length->bindArgs (fnOf x qual (Vb st) (Yt st) (Zm st) .none kV doc pm an cdv ct) ⟨us,[]⟩=pure (a.zip us)):YK K b a []:=by
 obtain⟨d,od,kV,doc,pm,an,cdv,ct,b,rfl,c,a⟩:=F.ex;exact .all (h kV doc pm an cdv ct)
theorem Fd{x qual:Str}{st:Stmt}{f:gF}{oc:gE}{od an:Option gF}{osl:Array (Option gE)}{kV doc pm cdv ct:gE}(l:K.lookup f=some ⟨oc,od,.func (fnOf x qual (Vb st) (Yt st) (Zm st) .none kV doc pm an cdv ct),osl⟩)(c:codeIn K cdv qual=true)(k:keepIn K (.ref f)=true):UI K x qual st f (fnOf x qual (Vb st) (Yt st) (Zm st) .none kV doc pm an cdv ct):=⟨⟨oc,od,kV,doc,pm,an,cdv,ct,osl,rfl,l,c⟩,k⟩
end
section
variable{X:Cx}
end
theorem Z5{A B:Prop}(h:B):if false=true then A else B:=by
 rw[if_neg xN];exact h
theorem Z6{A B:Prop}(h:A):if true=true then A else B:=by
 rw[if_pos rfl];exact h
def ZA(H Y:Hp):Prop:=∀b o,H b=some o->Y b=some o
theorem ZA.refl(H:Hp):ZA H H:=λ_ _ h=>h
theorem ZA.trans(a:ZA H H1)(b:ZA H1 H2):ZA H H2:=λc o h=>b c o (a c o h)
theorem ZA.free(e:ZA H Y)(h:Y l=Option.none):H l=Option.none:=by
 cases q:H l with
 | none=>rfl
 | some o =>
  rw[e l o q] at h;cases h
theorem XR:Jr X (.builtin "len") (λJ H Q=>∃a U,J=[V.ref a]/\H a=some (.dK U)/\Q (.int U.length) H):=by
 intro B s L H J b Q I r h;obtain⟨a,U,rfl,b,q⟩:=h;obtain⟨u,rfl,c⟩:=Tx r;cases c;exact O8 I (.inl b) λt c b=>⟨.int U.length,H,b,⟨t,rfl⟩,q⟩
section
variable{κ:Type} [DecidableEq κ]
theorem L8:∀{l:List κ}{k:κ},l.Nodup->¬k∈l->(l ++ [k]).Nodup
 | [],k,_,_=>by simp
 | a::r,k,h,hk=>by
  obtain⟨b,c⟩:=yM.mp h;show (a::(r ++ [k])).Nodup;refine yM.mpr ⟨λm=>?_,L8 c λm=>hk (xD.mpr (Or.inr m))⟩;rcases xJ.mp m with q | q
  .exact b q
  .exact hk (xD.mpr (Or.inl (xP.mp q).symm))
end
end L2
end
namespace L2
open PySem PySem.Spec PyProof.Rows
abbrev ccx(X:Cx)(F:Scope)(cl:List (Str×gF))(C:gF)(N':fZ)(s2:gD)(H2:Hp)(ex:gC)(pn:List (gF×Obj)):Cx where
 prog:=X.prog
 w:=X.w
 K:=X.K
 mg:=X.mg
 base:=X.base
 A:=X.A
 N:=N'
 s₀:=s2
 H₀:=H2
 env:=compEnvC F cl C X.env
 outer:=X.stack
 stack:=X.stack
 ex:=ex
 fn:=λ_=>false
 calm:=X.calm
 pn:=pn
 xe:=λ_ _=>False
theorem Ei(env:Env):∀(l:List (Str×NameKind))(cs:List (Str×gF)),(∀p∈l,p.2=.free->∃c,env.cells.lookup p.1=some c)->
  ∃cl,(forIn l cs (λ(x:Str×NameKind) (r:List (Str×gF))=>if (x.2==NameKind.free)=true then (do let a <- cellOf env x.1;pure (ForInStep.yield ((x.1,a)::r)):Sem (ForInStep (List (Str×gF)))) else pure (ForInStep.yield r)):Sem _)=pure cl /\
   (∀x c,cl.lookup x=some c->env.cells.lookup x=some c\/cs.lookup x=some c)/\(∀x,((x,NameKind.free)∈l\/∃c,cs.lookup x=some c)->∃c,cl.lookup x=some c)
 | [],cs,_=>⟨cs,rfl,λx c h=>.inr h,λx h=>h.elim (λz=>nomatch z) id⟩
 | (n,k)::r,cs,h=>by
  have hr:∀p∈r,p.2=.free->∃c,env.cells.lookup p.1=some c:=λp hp=>h p (xO _ hp)
  by_cases hk:k=.free
  .subst hk;obtain⟨c,hc⟩:=h (n,.free) yE rfl;obtain⟨cl,e,h1,h2⟩:=Ei env r ((n,c)::cs) hr;refine⟨cl,?_,λx d hx=>?_,λx hx=>?_⟩
   .rw[List.forIn_cons];have e2:cellOf env n=pure c:=by unfold cellOf;rw[hc]
    simp only[wR,if_true,e2,pure_bind];exact e
   .grind
   .apply h2;rcases hx with hx | ⟨d,hx⟩
    .grind
    .grind
  .obtain⟨cl,e,h1,h2⟩:=Ei env r cs hr;refine⟨cl,?_,h1,λx hx=>h2 x ?_⟩
   .grind
   .grind
theorem Pe(h:∀p∈F.names,p.2=.free->∃c,env.cells.lookup p.1=some c) :
  ∃cl,closureFor F env=pure cl/\(∀x c,cl.lookup x=some c->env.cells.lookup x=some c)/\(∀x,(x,NameKind.free)∈F.names->∃c,cl.lookup x=some c):=by
 obtain⟨cl,e,h1,h2⟩:=Ei env F.names [] h;refine⟨cl,?_,λx c hx=>(h1 x c hx).elim id (λz=>nomatch z),λx hx=>h2 x (.inl hx)⟩;unfold closureFor;have e':=congrArg (λm:Sem (List (Str×gF))=>m >>= λr=>pure r) e;simp only[pure_bind] at e';exact e'
theorem Hv{env:Env}{b:NameKind}(c:b ≠ .free):∀{a:List (Str×NameKind)}{x:Str},a.lookup x=some b ->
  (a.map λ(n,k)=>if (k==NameKind.free&&env.scope.kind==.function&&env.kindOf n==some .cell) then (n,NameKind.cell) else (n,k)).lookup x=some b
 | [],_,h=>by simp at h
 | (n,k)::r,x,h=>by
  have d:=@Hv env b c r x;show List.lookup x ((if (k==NameKind.free&&env.scope.kind==.function&&env.kindOf n==some .cell)=true then (n,NameKind.cell) else (n,k))::_)=_;cases a:x==n with
  | true =>
   simp only[yX,a] at h;have h:some k=some b:=h;have e:k=b:=ma h;subst e;have e:(k==NameKind.free)=false:=by simpa using c
   rw[e,wG,wG,if_neg xN,yX,a]
  | false =>
   simp only[yX,a] at h
   by_cases b:(k==NameKind.free&&env.scope.kind==.function&&env.kindOf n==some .cell)=true
   .rw[if_pos b];simp only[yX,a];exact d h
   .rw[if_neg b];simp only[yX,a];exact d h
theorem EK{env:Env}:∀{a:List (Str×NameKind)}{x:Str},a.lookup x=some .free ->
  ((a.map λ(n,k)=>if (k==NameKind.free&&env.scope.kind==.function&&env.kindOf n==some .cell) then (n,NameKind.cell) else (n,k)).lookup x=some .cell)\/
  ((a.map λ(n,k)=>if (k==NameKind.free&&env.scope.kind==.function&&env.kindOf n==some .cell) then (n,NameKind.cell) else (n,k)).lookup x=some .free)
 | [],_,h=>by simp at h
 | (n,k)::r,x,h=>by
  have c:=@EK env r x;show (List.lookup x ((if (k==NameKind.free&&env.scope.kind==.function&&env.kindOf n==some .cell)=true then (n,NameKind.cell) else (n,k))::_)=_)\/(List.lookup x ((if (k==NameKind.free&&env.scope.kind==.function&&env.kindOf n==some .cell)=true then (n,NameKind.cell) else (n,k))::_)=_);cases a:x==n with
  | true =>
   simp only[yX,a] at h;cases h
   by_cases b:(NameKind.free==NameKind.free&&env.scope.kind==.function&&env.kindOf n==some .cell)=true
   .rw[if_pos b];simp[yX,a]
   .rw[if_neg b];simp[yX,a]
  | false =>
   simp only[yX,a] at h
   by_cases b:(k==NameKind.free&&env.scope.kind==.function&&env.kindOf n==some .cell)=true
   .rw[if_pos b];simp only[yX,a];exact c h
   .rw[if_neg b];simp only[yX,a];exact c h
theorem GW(a:∀y∈F.names,y.2 ≠ .cell)(h:(relabel F env).names.lookup x=some .cell\/(relabel F env).names.lookup x=some .free):(x,NameKind.free)∈F.names:=by
 have m:∃a,(a=NameKind.cell\/a=NameKind.free)/\(x,a)∈(relabel F env).names:=by
  rcases h with h | h
  .exact⟨_,.inl rfl,mem_of_lookup h⟩
  .exact⟨_,.inr rfl,mem_of_lookup h⟩
 obtain⟨a,b,m⟩:=m;obtain⟨⟨n,k⟩,b,e⟩:=zF.mp m;have e:(if (k==NameKind.free&&env.scope.kind==.function&&env.kindOf n==some .cell)=true then (n,NameKind.cell) else (n,k))=(x,a):=e
 by_cases a:(k==NameKind.free&&env.scope.kind==.function&&env.kindOf n==some .cell)=true
 .grind
 .grind
theorem NI(I:Nat->gD->Prop)(hEX:∀e s,EX e s->notedBy (model prog w) A env (λx s'=>R (.error x) s') e s)(turn:∀n s,I n s->wpAny (model prog w) A (pyNext it) (λr s₁=>match r with
   | none=>R (.ok .next) s₁
   | some v=>wpAny (model prog w) A (letOwnedTupleGo target it v) (λ_ s1=>wpAny (model prog w) A (assign target env v) (λ_ s₂ =>
     wpAny (model prog w) A (forIn ifs true λc r=>if r=true then do let ok <- isTrue c env (eval c env);pure (ForInStep.yield ok) else pure (ForInStep.yield r)) (λok s₃ =>
      if ok=true then wpAny (model prog w) A (eval elt env) (λx s₄ =>
       wpAny (model prog w) A (call (.builtin "list.append") [acc,x]) (λ_ s₅=>∃m,m<n/\I m s₅) (λ_ _=>False) s₄) EX s₃
      else ∃m,m<n/\I m s₃) (λ_ _=>False) s₂) (λ_ _=>False) s1) (λ_ _=>False) s₁) (λ_ _=>False) s)(n:Nat)(h:I n s) :
  codeAny (model prog w) A (.compLoop (.ListComp elt [⟨target,iter,ifs,0⟩] F pos) 0 it acc env) R s:=by
 refine codeAny_loop rfl I (λn s hI=>?_) n h;show wpAny _ A ((compTurn (.ListComp elt [⟨target,iter,ifs,0⟩] F pos) 0 it acc env).onRaise (λx=>do noteFrame x env;theTreesLotGoes x)) _ _ s;refine wpAny_noted ?_;rw[compTurn_list];refine wpAny_bind (wpAny_standAt (wpAny_bind (wpAny_mono (turn n s hI) (λr s₁ h₁=>?_) λ_ _ h'=>h'.elim)));cases r with
 | none=>exact wpAny_pure h₁
 | some v =>
  refine wpAny_bind (wpAny_mono h₁ (λ_ s1 h1=>?_) λ_ _ h'=>h'.elim);refine wpAny_bind (wpAny_mono h1 (λ_ s₂ h₂=>wpAny_bind (wpAny_mono h₂ (λok s₃ h₃=>?_) λ_ _ h'=>h'.elim)) λ_ _ h'=>h'.elim);cases ok with
  | false=>exact wpAny_pure ⟨rfl,h₃⟩
  | true =>
   exact wpAny_bind (wpAny_bind (wpAny_mono h₃ (λx s₄ h₄=>wpAny_bind (wpAny_mono h₄ (λ_ s₅ h₅=>wpAny_pure (wpAny_pure ⟨rfl,h₅⟩)) λ_ _ h'=>h'.elim)) λe s h'=>hEX e s h'))
abbrev Te:=St->Hp->(Bool->Hp->Prop)->Prop
def Cn(X:Cx)(ifs:List Expr)(t:Te):Prop :=
 ∀(B:List (gF×Obj))(s:gD)(L:St)(H:Hp)(Q:Bool->Hp->Prop),ZE X B L H s->t L H Q ->
  wpAny (model X.prog X.w) X.A (forIn ifs true λc r=>if r=true then do let ok <- isTrue c X.env (eval c X.env);pure (ForInStep.yield ok) else pure (ForInStep.yield r)) (TP X B L Q) X.xe s
theorem RG(h:PT X c t):Cn X [c] t:=λB s L H Q I a=>wpAny_tests_one (h B s L H Q I a)
structure WC (X:Cx) (F:Scope) (fr:List (Str×Nat)):Prop where
 slots:∀p∈fr,X.N[p.2]?=some p.1/\(X.env.kindOf p.1=some .cell\/X.env.kindOf p.1=some .free)
 kind:∀p∈fr,F.names.lookup p.1=some .free
def inN(locs:fZ)(fr:List (Str×Nat)):List Str:=locs++fr.map (·.1)
def inS(locs:fZ)(fr:List (Str×Nat))(L:St):St:=List.replicate locs.length none++fr.map λp=>(L[p.2]?).join
def inF(fr:List (Str×Nat))(L:St):St:=fr.map λp=>(L[p.2]?).join
def V1(n:Nat)(b:St)(g:TG)(f:Te)(e:TE)(x:V)(H:Hp)(Y:V->Hp->Prop)(N:Hp->Prop):Prop :=
 ∀a:St,a.length=n->g x (a++b) H λa d=>(∃c:St,c.length=n /\ a=c++b)/\f a d λb c=>if b=true then e a c Y else N c
def Ux(J:It)(n:Nat)(c:St)(g:TG)(e:Te)(d:TE)(Q:VK)(a:Hp):Prop:=∃W:Nat->Nat->List V->Hp->Prop,(∃m,W 0 m [] a)/\∀i m a H,W i m a H ->
 (J.stop i H/\a.length<=sizeLine/\∀l,H l=none->Q (.ref l) (upd H l (.lst a)))\/
 (J.go i H/\a.length<sizeLine/\∃b,b<m/\∀x Y,J.oy i H x Y->V1 n c g e d x Y (λy c=>W (i+1) b (a ++ [y]) c) λc=>W (i+1) b a c)
def CH(n:Nat)(fr:List (Str×Nat))(a:TI)(g:TG)(c:Te)(b:TE):TE:=λL H Q=>a L H λJ a=>Ux J n (inF fr L) g c b Q a
theorem Nu(f:YO P w H h)(d:H D=none)(a:ZQ P w (upd H D o) h D o):YO P w (upd H D o) h:=λb u e=>by
 by_cases c:b=D
 .subst c;rw[Zj] at e;cases e;exact a
 .rw[Zf c] at e;exact(f b u e).iV (λ_ _ _ q=>q) (λc q=>by rw[Zf (Zo q d)];exact q) λc J q=>by rw[Zf (Zo q d)];exact q
section
variable{X:Cx}{F:Scope}{locs:fZ}{fr:List (Str×Nat)}
theorem Kk{B:List (gF×Obj)}{L:St}{H1:Hp}{s2:gD}{it:gF}{fp:gC}{tn:Nat->Heap->Prop}{Jqz:It}{cl:List (Str×gF)}{E:fX}{RR:gE->gF->Result->gD->Prop}{QQ:List V->Hp->Prop}{EE:Hp->gE->gD->Prop}(hc:X.calm=true)(hkind:F.kind=.function)(hcell:∀y∈F.names,y.2 ≠ .cell)(hlo:∀x∈locs,F.names.lookup x=some .local)(Fqz:WC X F fr)(hnd:(inN locs fr).Nodup)(cl1:∀x c,cl.lookup x=some c->X.env.cells.lookup x=some c)(cl2:∀x,(x,NameKind.free)∈F.names->∃c,cl.lookup x=some c)(inner:∀ (C:gF) (s0:gD) (H0:Hp) (ex:gC) (pn:List (gF×Obj)),PG (ccx X F cl C (inN locs fr) s0 H0 ex pn) tg g/\Cn (ccx X F cl C (inN locs fr) s0 H0 ex pn) ifs tt)(hel:∀ (C:gF) (pE:List (gF×Obj)) (s:gD) (σ':St) (H:Hp) (Yqz:VK),(∀b∈fp,∃o,(b,o)∈pE)->ZE (ccx X F cl C (inN locs fr) s2 H1 fp (X.pn++B)) pE σ' H s->te σ' H Yqz -> wpAny (model X.prog X.w) X.A (eval elt (compEnvC F cl C X.env)) (EP (ccx X F cl C (inN locs fr) s2 H1 fp (X.pn++B)) pE σ' Yqz) (λe s'=>∃pE' σ2 Y,ZE (ccx X F cl C (inN locs fr) s2 H1 fp (X.pn++B)) pE' σ2 Y s'/\EE Y e s') s)(hER:∀ (D C:gF) (Y:Hp) (e:gE) (s':gD) (m:fY),ZE X B L Y s'->Up X B Y C->s'.heap.Ns C m->EE Y e s'->notedBy (model X.prog X.w) X.A (compEnvC F cl C X.env) (λx s''=>RR (.ref D) C (.error x) s'') e s')(I:ZE X B L H1 s2)(T:VL X.prog X.w X.K tg Jqz fp it tn)(st0:tn 0 s2.heap)(hf:∀b∈fp,Up X B H1 b){W:Nat->Nat->List V->Hp->Prop}(w0:∃m,W 0 m [] H1)(turn:∀i m ys H,W i m ys H -> (Jqz.stop i H/\ys.length<=sizeLine/\QQ ys H)\/ (Jqz.go i H/\ys.length<sizeLine/\∃m',m'<m/\∀x Y,Jqz.oy i H x Y->V1 locs.length (inF fr L) g tt te x Y (λy H4=>W (i+1) m' (ys ++ [y]) H4) λH3=>W (i+1) m' ys H3))(hRR:∀ (D C:gF) (ys:aG) (Y:Hp) (s':gD) (m:fY),Y D=none->D≠C->ZE X B L (upd Y D (.lst ys)) s'->Up X B (upd Y D (.lst ys)) C->s'.heap.Ns C m->QQ ys Y->RR (.ref D) C (.ok .next) s') :
  wpAny (model X.prog X.w) X.A (newList []) (λacc s₃=>wpAny (model X.prog X.w) X.A (newFunctionEnv F X.env.globals cl [] X.env.qual none .none (some X.env)) (λcenv s₄ => codeAny (model X.prog X.w) X.A (.compStart (.ListComp elt [⟨tg,iter,ifs,0⟩] F pos) 0 (.ref it) acc {cenv with scope:=relabel F X.env }) (RR acc cenv.locals) s₄) E s₃) E s2:=by
 refine wpAny_newObj_type (wpAny_newFunctionEnv hcell (by intro y hy;simp at hy) (λh₁ hns₁ hsb₁=>?_) hkind);dsimp only at hns₁ hsb₁ |-;generalize hH2:s2.heap.push {cls:=.type "list", dict:=none,data:=.seq ([]:gA).toArray }=Hq at hns₁ hsb₁ |-;have hC:Hq.objs.size=s2.heap.objs.size+1:=by rw[<- hH2,wH]
 generalize hDe:s2.heap.objs.size=D at hC |-;generalize hCe:Hq.objs.size=C at hC hns₁ hsb₁ |-;have hDC:D≠C:=by lia
 have below:∀b,b<D->b≠C/\b≠D:=λb hb=>⟨by lia,by lia⟩;have ltD:∀{b:gF}{o:Obj},s2.heap.get? b=some o->b<D:=λe=>hDe▸xU e;have old:∀b o,s2.heap.get? b=some o->h₁.get? b=some o:=λb o e=>hsb₁.extBut b o (below b (ltD e)).1 (xH _ (hH2▸xH _ e));have hacc:h₁.PlainList D #[]:=⟨_,hsb₁.extBut _ _ hDC (xH _ (by subst hDe;exact hH2▸xW _ rfl))⟩
 let X':Cx:=ccx X F cl C (inN locs fr) s2 H1 fp (X.pn++B)
 have ltC:s2.heap.objs.size<=C:=by rw[hDe,hC];exact mi _
 have fpC:Up X B H1 C:=I.iw ltC (I.iD.fresh ltC);have fpD:Up X B H1 D:=I.iw (me hDe) (I.iD.fresh (me hDe));have stkN:∀b,b≠X.env.locals->b∉X.fs->b∉frs X.stack:=λb h1 h2 z=>(xD.mp (I.iY b z)).elim h1 h2;have ok':X'.Ok:=by
  refine⟨I.ok.mod,hkind,I.ok.glob,I.ok.blt,ltC,λx y c h1 h2=>I.ok.inj x y c (cl1 x c h1) (cl1 y c h2),λx hx=>?_,λx c h=>?_,I.ok.hd,I.ok.frames,.inl rfl,λb hb=>?_,λb o e=>I.bs b o e,xZ I.ok.ic I.sz,λb o e hb=>?_,λb hb=>?_,I.stack,I.iX⟩
  .obtain⟨c,hcc⟩:=cl2 x (GW hcell hx);exact⟨c,hcc⟩
  .cases h
  .refine⟨λz=>?_,λx c e=>(hf b hb).2.2.2.2.1 x c (cl1 x c e)⟩;obtain⟨o,ho,_⟩:=T.obj _ _ st0 b hb;have z':b=C:=z;exact(below b (ltD ho)).1 z'
  .have hb':=hf b hb;rcases hb'.2.2.2.1 with z | z
   .exact I.ok.iM b o e z
   .exact absurd (yL (xU e) (xZ I.ok.ic z)) (zT _)
  .exact stkN b (hf b hb).2.1 (hf b hb).2.2.1
 have I1:ZE X' [] (inS locs fr L) H1 {s2 with heap:=h₁,toks:=s2.toks+([]:List (Str×gE)).length }:=by
  refine⟨ok',I.os.symm▸rfl,I.bare,Un.kept old,⟨_,hns₁,λi x v h1 h2 h3=>?_⟩,λx c e=>?_,I.iD.fresh ltC,λx c e=>I.ix x c (cl1 x c e),λp hp=>?_,I.iD.kept old,?_⟩
  .-- a slot of the block that has a value is a free name's
   have hge:locs.length<=i:=by
    by_cases hi:i<locs.length
    .unfold inS at h2;rw[wF (by simpa using hi),List.getElem?_replicate,if_pos hi] at h2;cases h2
    .lia
   have h1':(fr.map (·.1))[i - locs.length]?=some x:=by
    have h1:(inN locs fr)[i]?=some x:=h1;unfold inN at h1;rw[zY hge] at h1;exact h1
   have h2':(fr.map λp=>(L[p.2]?).join)[i - locs.length]?=some (some v):=by
    unfold inS at h2;rw[zY (by simpa using hge),zX] at h2;exact h2
   rw[xC] at h1' h2';cases e:fr[i - locs.length]? with
   | none=>rw[e] at h1';cases h1'
   | some p =>
    rw[e] at h1' h2';have ex:p.1=x:=ma h1';have ev:(L[p.2]?).join=some v:=ma h2';obtain⟨f1,f2⟩:=Fqz.slots p (xG e);have ev':L[p.2]?=some (some v):=by grind
    obtain⟨m0,hn0,hl0⟩:=I.loc;have vis0:Dr X.env.scope p.1:=by
     rcases f2 with z | z
     .exact .inr (.inl z)
     .exact .inr (.inr z)
    obtain⟨u,ru,lk⟩:=hl0 p.2 p.1 v f1 ev' vis0;have hxm:x∉locs:=λz=>by
     have hnd':=hnd;unfold inN at hnd';exact(List.nodup_append.mp hnd').2.2 x z x (zF.mpr ⟨p,xG e,ex⟩) rfl
    refine⟨u,ru,?_⟩;rcases lk with⟨hk,_⟩ | ⟨hk,c,hcc,hce⟩
    .rcases f2 with z | z
     .rw[z] at hk;cases hk
     .rw[z] at hk;cases hk
    .-- in the block it is a cell or free name
     have h3:Dr (relabel F X.env) x:=h3;have hk':(compEnvC F cl C X.env).kindOf x=some .cell\/(compEnvC F cl C X.env).kindOf x=some .free:=by
      rcases h3 with z | z | z
      .exfalso;have q:=EK (env:=X.env) (Fqz.kind p (xG e));rw[ex] at q;rcases q with q | q
       .have z':some NameKind.local=some NameKind.cell:=z.symm.trans q;cases z'
       .have z':some NameKind.local=some NameKind.free:=z.symm.trans q;cases z'
      .exact .inl z
      .exact .inr z
     obtain⟨c',hc'⟩:=cl2 x (GW hcell hk');have:=cl1 x c' hc';rw[<- ex,hcc] at this;cases this;refine .inr ⟨hk',c,hc',?_⟩;obtain⟨o,ho,hd⟩:=hce;exact⟨o,old _ _ ho,hd⟩
  .obtain⟨v,o,ho,hd⟩:=I.cell x c (cl1 x c e);exact⟨v,o,old _ _ ho,hd⟩
  .have hp':p∈X.pn++B:=(xJ.mp hp).elim id λz=>nomatch z;obtain⟨e,n,ne,nf,d⟩:=I.pin p hp';exact⟨old _ _ e,n,(below _ (ltD e)).1,stkN _ ne nf,d⟩
  .show (inS locs fr L).length=(inN locs fr).length;unfold inS inN;simp
 have fpLt:∀b∈fp,b<D:=λb hb=>by
  obtain⟨o,ho,_⟩:=T.obj _ _ st0 b hb;exact ltD ho
 obtain⟨m0,w0⟩:=w0
 let oD:List gE->Nat->Obj:=λits k=>{cls:=.type "list", data:=.seq its.toArray k }
 have stat:∀{Y:Hp}{ob:Obj},(∀b∈fp,Y b=none)->∀b∈fp,Up X' [(D,ob)] Y b:=λ{Y ob} hn b hb=>by
  obtain⟨f0,f1,f2,f3,f4,f5⟩:=hf b hb;refine⟨hn b hb,(below b (fpLt b hb)).1,stkN b f1 f2,.inl hb,λx c e=>f4 x c (cl1 x c e),λp hp z=>?_⟩;rcases xJ.mp hp with q | q
  .exact f5 p q z
  .grind
 have loop:∀s₃:gD,s₃={s2 with heap:=h₁,toks:=s2.toks+([]:List (Str×gE)).length }->
   codeAny (model X.prog X.w) X.A (.compLoop (.ListComp elt [⟨tg,iter,ifs,0⟩] F pos) 0 (.ref it) (.ref D) (compEnvC F cl C X.env)) (RR (.ref D) C) s₃:=by
  rintro s₃ rfl;refine NI (λn s'=>∃(i:Nat)(ls:St)(Y:Hp)(ys:aG)(its:gA)(k:Nat),ls.length=locs.length/\ZE X' [(D,oD its k)] (ls++inF fr L) Y s'/\tn i s'.heap/\(∀b∈fp,Y b=none)/\ZI ys its/\W i n ys Y) (EX:=λe s'=>∃pE' σ2 Y,ZE X' pE' σ2 Y s'/\EE Y e s') ?_ ?_ m0 ?_
  .rintro e s4 ⟨pE',σ2,H3,I4,q⟩;obtain⟨mC,hnC,_⟩:=I4.loc;have hnC:s4.heap.Ns C mC:=hnC;have nC:H3 C=none:=I4.free;have I5:ZE X B L H3 s4:=I.ig (ch:=fp) (show s4.os=s2.os from I4.os) I4.base I4.iD I4.bare λb hb=>by
    obtain⟨f0,f1,f2,f3,f4,f5⟩:=hf b hb;exact⟨f3,f1,f4,f5⟩
   exact hER D C H3 e s4 mC I5 (I.iw ltC nC) hnC q
  .rintro n s3 ⟨i,ls,H3,ys,its,k,hls,I3,st3,fr3,rv,w3⟩;rcases turn i n ys H3 w3 with⟨stop,hz,q⟩ | ⟨go,hz,m',hm,step⟩
   .refine thn (T.done X' rfl rfl rfl hc i _ s3 _ H3 (λ_ _=>False) I3 (stat fr3) st3 stop) λr s4 ⟨hr,I4⟩=>?_;subst hr;obtain⟨pD,nD,_,_,_⟩:=I4.pin (D,oD its k) (xK _ yE);have nD:H3 D=none:=nD;obtain⟨mC,hnC,_⟩:=I4.loc;have hnC:s4.heap.Ns C mC:=hnC;have nC:H3 C=none:=I4.free;have new:ZQ X.prog X.w (upd H3 D (.lst ys)) s4.heap D (.lst ys):=⟨hz,its,k,rv,pD⟩;have hok4:YO X.prog X.w (upd H3 D (.lst ys)) s4.heap:=Nu I4.iD nD new;have u4:Un (frs X.stack) fp H1 H3 s2.heap s4.heap:=I4.base;have u5:Un (frs X.stack) fp H1 (upd H3 D (.lst ys)) s2.heap s4.heap:=by
     refine⟨u4.keep,u4.slot,λb o e n hx=>?_,u4.there,λb J e=>?_,λb o u e=>?_,λb ps e=>?_⟩
     .rw[Zf (below b (ltD e)).2];exact u4.free b o e n hx
     .rw[Zf (Zo e fpD.1)];exact u4.o9 b J e
     .rw[Zf (Zo e fpD.1)];exact u4.iz b o u e
     .rw[Zf (Zo e fpD.1)];exact u4.iZ b ps e
    have I5:ZE X B L (upd H3 D (.lst ys)) s4:=by
     refine I.ig (ch:=fp) ?_ u5 hok4 I4.bare λb hb=>?_
     .have:s4.os=s2.os:=I4.os;exact this
     .obtain⟨f0,f1,f2,f3,f4,f5⟩:=hf b hb;exact⟨f3,f1,f4,f5⟩
    have fpC':Up X B (upd H3 D (.lst ys)) C:=I.iw ltC (by rw[Zf hDC.symm];exact nC);exact hRR D C ys H3 s4 mC nD hDC I5 fpC' hnC q
   .refine thn (T.item X' rfl rfl rfl hc i _ s3 _ H3 (λ_ _=>False) I3 (stat fr3) st3 go) λr s4 ⟨u,hr,h4⟩=>?_;subst hr;refine thn h4 λ_ s5 ⟨x,H5,I5,r5,y5,st5,fr5⟩=>?_;obtain⟨hg,htt⟩:=inner C s2 H1 fp (X.pn++B);have I5':=I5.pinned (stat fr5) (T.obj _ _ st5);refine thn (hg _ s5 _ H5 x u _ I5' r5 (step x H5 y5 ls hls)) λ_ s6 ⟨σ6,H6,I6,⟨l6,hl6,e6⟩,q6⟩=>?_;subst e6;refine thn (htt _ s6 _ H6 _ I6 q6) λok s7 ⟨H7,I7,q7⟩=>?_;have again:∀{H8:Hp}{s8:gD},ZE X' ([(D,oD its k)]++Bj fp s5.heap) (l6++inF fr L) H8 s8->tn (i+1) s8.heap/\∀b∈fp,H8 b=none:=λ{H8 s8} I8=>by
     refine⟨T.keep _ _ _ st5 λb hb o e=>(I8.pin (b,o) (xK _ (xK _ (BK hb e)))).1,λb hb=>?_⟩;obtain⟨o,e,d⟩:=T.obj _ _ st5 b hb;exact(I8.pin (b,o) (xK _ (xK _ (BK hb e)))).2.1
    cases ok with
    | false =>
     rw[if_neg xN] at q7 |-;obtain⟨a1,a2⟩:=again I7;exact⟨m',hm,i+1,l6,H7,ys,its,k,hl6,I7.oh,a1,a2,rv,q7⟩
    | true =>
     rw[if_pos rfl] at q7 |-;refine thn (hel C _ s7 _ H7 _ (λb hb=>let ⟨o,ho,_⟩:=T.obj _ _ st5 b hb;⟨o,xK _ (BK hb ho)⟩) I7 q7) λyv s8 ⟨y,H8,I8,r8,q8⟩=>?_;obtain⟨a1,a2⟩:=again I8;obtain⟨pD,nD,_,nfD,_⟩:=I8.pin (D,oD its k) (xK _ (yN _ yE));have nD:H8 D=none:=nD;have hl8:s8.heap.PlainList D its.toArray:=⟨k,pD⟩;have hlen:its.toArray.size<=sizeLine:=by
      rw[xQ,<- rv.length];lia
     refine wpAny_list_append_plain (hsz:=hlen) hl8 λh9 hl9 hs9=>?_;obtain⟨k9,e9⟩:=hl9;have I9:ZE X' (Bj fp s5.heap) (l6++inF fr L) H8 s8:=I8.iS λp hp=>I8.pin p (xK _ (xK _ hp));have I10:ZE X' (Bj fp s5.heap) (l6++inF fr L) H8 {s8 with heap:=h9 }:=by
      refine I9.turned (it:=D) (t':=s8.toks) (λb o hb e=>(hs9.2 b hb).trans e) nD ?_ ?_ ?_ ?_
      .exact hDC
      .exact .inr (me hDe)
      .exact λx c e=>fpD.2.2.2.2.1 x c (cl1 x c e)
      .intro p hp z;rcases xJ.mp hp with q | q
       .exact fpD.2.2.2.2.2 p q z
       .have:=fpLt p.1 (Hf q).1;exact(below p.1 this).2 z
     have e9':h9.get? D=some (oD (its ++ [yv]) k9):=by
      rw[e9];simp[oD]
     have I11:ZE X' [(D,oD (its ++ [yv]) k9)] (l6++inF fr L) H8 {s8 with heap:=h9 }:=I10.iS λp hp=>by grind
     refine⟨m',hm,i+1,l6,H8,ys ++ [y],its ++ [yv],k9,hl6,I11,?_,a2,ZI.append rv (.cons r8 .nil),q8⟩;exact T.keep _ _ _ a1 λb hb o e=>(hs9.2 b (below b (fpLt b hb)).2).trans e
  .have e0:List.replicate locs.length none++inF fr L=inS locs fr L:=rfl;obtain⟨k0,eD⟩:=hacc;refine⟨0,List.replicate locs.length none,H1,[],[],k0,by simp,?_,T.keep _ _ _ st0 λb _ o e=>old b o e,λb hb=>(hf b hb).1,.nil,w0⟩;rw[e0];refine I1.iS λp hp=>?_;have e:p=(D,oD [] k0):=by simpa using hp
   subst e;exact⟨eD,fpD.1,hDC,stkN D fpD.2.1 fpD.2.2.1,λv z=>by cases z⟩
 exact codeAny_compStart_list (loop _ rfl) (T.self _ 0 _ _ _ (T.keep _ _ _ st0 λb _ o e=>old b o e) (loop _ rfl))
structure WG (X:Cx) (F:Scope) (locs:fZ) (fr:List (Str×Nat)):Prop where
 kind:F.kind=.function
 nocell:∀y∈F.names,y.2 ≠ .cell
 names:∀y∈F.names,y.2=.local->F.names.lookup y.1=some .local
 own:∀x∈locs,F.names.lookup x=some .local
 free:∀y∈F.names,y.2=.free->y.1∈fr.map (·.1)
 nd:(inN locs fr).Nodup
theorem WC.nil:WC X F []:=⟨(λ_ h=>nomatch h),(λ_ h=>nomatch h)⟩
theorem WC.cons(b:X.N[j]?=some x)(c:X.env.kindOf x=some .cell\/X.env.kindOf x=some .free)(d:F.names.lookup x=some .free)(t:WC X F fr):WC X F ((x,j)::fr) :=
 ⟨λp a=>(xD.mp a).elim (λe=>by subst e;exact⟨b,c⟩) (t.slots p),λp a=>(xD.mp a).elim (λe=>by subst e;exact d) (t.kind p)⟩
theorem WG.clos{B:List (gF×Obj)}{L:St}{H:Hp}{s:gD}(S:WG X F locs fr)(a:WC X F fr)(I:ZE X B L H s) :
  ∃b,closureFor F X.env=pure b/\(∀x c,b.lookup x=some c->X.env.cells.lookup x=some c)/\(∀x,(x,NameKind.free)∈F.names->∃c,b.lookup x=some c):=by
 refine Pe λp d b=>?_;obtain⟨q,f,e⟩:=zF.mp (S.free p d b);obtain⟨c,b⟩:=I.ok.has q.1 (a.slots q f).2;exact⟨c,e▸b⟩
theorem QU(S:WG X F locs fr)(a:WC X F fr)(w:X.calm=true)(l:PI X tg iter wi)(c:∀d C k f i j,PG (ccx X F d C (inN locs fr) k f i j) tg g/\Cn (ccx X F d C (inN locs fr) k f i j) ifs tt/\PE (ccx X F d C (inN locs fr) k f i j) elt te)(hs:∀x,foldedSetIterable iter X.env x=pure x:=by intro _;rfl):PE X (.ListComp elt [⟨tg,iter,ifs,0⟩] F pos) (CH locs.length fr wi g tt te):=by
 intro B s L H Q I h;obtain⟨d,e,b,n⟩:=S.clos a I;rw[eval_ListComp];refine wpAny_comprehension_free (use:=none) rfl hs e S.kind S.names (thn (l B s L H _ I h) λv l e=>thn e λe y l=>?_);obtain⟨it,v,r,J,t,e,u,T,o,p,W,A,m⟩:=l;subst e;refine Kk (QQ:=λr Y=>∀l,Y l=none->Q (.ref l) (upd Y l (.lst r))) (EE:=λ_ _ _=>False) w S.kind S.nocell S.own a S.nd b n (λC k f i j=>let ⟨a,b,_⟩:=c d C k f i j;⟨a,b⟩) (λC i s f H a _ I h=>wpAny_mono ((c d C y t v (X.pn++B)).2.2 i s f H a I h) (λ_ _ q=>q) λ_ _ z=>z.elim) (λ_ _ _ _ _ _ _ _ _ z=>z.elim) u T o p A m λD C r Y l m nD a c k d q=>?_;refine⟨m,d,λd a=>?_⟩;obtain⟨d,f,p,h,i,j⟩:=k;exact⟨.ref D,_,c.turned (it:=C) (t':=l.toks) (λb o c e=>(a.2 b c).trans e) d f h i j,rfl,q D nD⟩
theorem So(S:WG X F locs fr)(j:WC X F fr)(N:X.calm=true)(v:PI X l a wi)(c:∀f C o k m n,PG (ccx X F f C (inN locs fr) o k m n) l g/\Cn (ccx X F f C (inN locs fr) o k m n) e tt/\PE (ccx X F f C (inN locs fr) o k m n) d te)(M:X.N.Nodup)(w:X.N[i]?=some x)(E:X.env.scope.names.lookup x=some .local)(p:swapsWith (.ListComp d [⟨l,a,e,0⟩] F pos) (some (.Name x b)) spos.line X.env=pure true)(hs:∀x,foldedSetIterable a X.env x=pure x:=by intro _;rfl):PS X (.Assign [.Name x b] (.ListComp d [⟨l,a,e,0⟩] F pos) spos) (Js (CH locs.length fr wi g tt te) (Wr i)):=by
 intro B s L H y I h;obtain⟨f,r,t,u⟩:=S.clos j I;rw[exec_Assign_Name_used _ _ _ _ p];refine wpAny_bind (wpAny_standAt (wpAny_bind ?_));show wpAny _ X.A (do let _ <- comprehension (.ListComp d [⟨l,a,e,0⟩] F pos) F X.env _ (newList []) false (eval a X.env) (some (assign (.Name x b) X.env))) _ _ s;refine wpAny_bind (wpAny_mono (wpAny_comprehension_free (use:=some (assign (.Name x b) X.env)) (Q:=λ_ p=>SP X B y .next p) rfl hs r S.kind S.names (thn (v B s L H _ I h) λv b a=>thn a λb O a=>?_)) (λ_ p b=>wpAny_pure (wpAny_pure b)) λ_ _ e=>e);obtain⟨it,K,b,J,z,e,G,T,v,A,W,P,d⟩:=a;subst e;refine Kk (QQ:=λr Y=>∀l,Y l=none->Wr i (.ref l) L (upd Y l (.lst r)) y.nx) (EE:=λ_ _ _=>False) N S.kind S.nocell S.own j S.nd t u (λC o k m n=>let ⟨a,b,_⟩:=c f C o k m n;⟨a,b⟩) (λC k s j H a _ I h=>wpAny_mono ((c f C O z K (X.pn++B)).2.2 k s j H a I h) (λ_ _ q=>q) λ_ _ z=>z.elim) (λ_ _ _ _ _ _ _ _ _ z=>z.elim) G T v A P d λD C r Y p m nD d a c o q=>?_;obtain⟨d,f,A,l,n,s⟩:=c;obtain⟨h,k,j,c,d,f⟩:=id o;have c:ZE X (B ++ [(C,h)]) L (upd Y D (.lst r)) p:=a.iS λp o=>(xJ.mp o).elim (λz=>a.pin p (xK _ z)) λz=>by grind
 refine wpAny_assign_Name (CJ (v:=.ref D) c M w (.inl E) rfl (λc a=>?_) (.inr E));obtain⟨o,p,t,u,v⟩:=a.pin (C,h) (xK _ (xK _ yE));refine⟨m,⟨h,k,j,o,d,f⟩,λf d=>?_⟩;have f:ZE X B (L.set i (some (.ref D))) (upd Y D (.lst r)) c:=a.oh;exact⟨_,_,f.turned (it:=C) (t':=c.toks) (λb o a e=>(d.2 b a).trans e) p t l n s,q D nD⟩
end
section
variable{X:Cx}{F:Scope}{cl:List (Str×gF)}{C:gF}{N':fZ}{s0:gD}{H0:Hp}{ex:gC}{pn:List (gF×Obj)}
theorem pvL(i:Nat){x:Str}{pos:Pos}(b:N'[i]?=some x:=by rfl)(h:F.names.lookup x=some .local:=by rfl)(c:(x==("__debug__":Str))=false:=by decide)(a:(x==("__classdict__":Str))=false:=by decide) :
  PE (ccx X F cl C N' s0 H0 ex pn) (.Name x pos) (YJ i):=CU b (.inl (lookup_relabel_local h)) c a
theorem pvF(i:Nat){x:Str}{pos:Pos}(b:N'[i]?=some x:=by rfl)(h:F.names.lookup x=some .free:=by rfl)(c:(x==("__debug__":Str))=false:=by decide)(a:(x==("__classdict__":Str))=false:=by decide) :
  PE (ccx X F cl C N' s0 H0 ex pn) (.Name x pos) (YJ i):=CU b ((EK h).elim (λz=>.inr (.inl z)) λz=>.inr (.inr z)) c a
theorem pgL(i:Nat){x:Str}{pos:Pos}(a:N'.Nodup)(b:N'[i]?=some x:=by rfl)(h:F.names.lookup x=some .local:=by rfl):PG (ccx X F cl C N' s0 H0 ex pn) (.Name x pos) (Wr i) :=
 Ex (X:=ccx X F cl C N' s0 H0 ex pn) a b (.inl (lookup_relabel_local h)) (.inr (lookup_relabel_local h))
end
def sgn(x:Str)(i:Nat):V:=.str ⟨#[x.cps.getD i 0]⟩
def Fq(x:Str):It:=⟨λi _=>i<x.length,λi H v Y=>Y=H/\v=sgn x i,λi _=>i=x.length⟩
theorem Gy(a:A.handled=none)(I:gF)(x:Str)(t:Tok) :
  Walks P w A I [I] [I] x.cps.size (SignAt x) (λi h=>h.IsStrIter I (strIterType x) x t i):=by
 unfold strIterType;cases b:x.cps.all (· < 128)
 .exact Walks.strWide a I x t
 .exact Walks.strAscii a I x t
theorem RO{P:gG}{w:gH}{K:uFg}{a:Expr}(it:gF)(x:Str)(t:Tok):VL P w K a (Fq x) [it] it (λi h=>h.IsStrIter it (strIterType x) x t i) where
 mem:=by simp
 obj:=λi h st b a=>by
  have e:b=it:=by simpa using a
  subst e;obtain⟨o,e,c,d⟩:=st;exact⟨o,e,λv z=>by rw[d] at z;cases z⟩
 keep:=λi h g st k=>let ⟨o,f,r⟩:=st;⟨o,k it (by simp) o f,r⟩
 item:=by
  intro X y C r z i B s L H E I j st A;subst y C r;obtain⟨k,l,M,m,n,p⟩:=j it (by simp);refine(Gy (I.ok.hd z) it x t).item i s _ _ A st λv g G J f F=>?_;obtain⟨c,u,v,rfl⟩:=J;have c:ZE X B L H {s with heap:=g,toks:=G }:=I.turned (λb o a e=>F b o (by simpa using a) e) k l m n p;obtain⟨o,e,J,d⟩:=id f;have N:["enumerate","zip","dict_itemiterator","dict_reverseitemiterator","odict_iterator","itertools.zip_longest","itertools.pairwise"].contains (strIterType x)=false:=by
   unfold strIterType;split<;>decide
  refine⟨_,rfl,Bv (s:={s with heap:=g,toks:=G }) e J d N ⟨sgn x i,H,c,⟨u,?_⟩,⟨rfl,rfl⟩,f,λb a=>(j b a).1⟩⟩;rw[Array.getD_eq_getD_getElem?,v]
  all_goals rfl
 done:=by
  intro X y C r z i B s L H E I j st A;subst y C r;obtain⟨k,l,M,m,n,p⟩:=j it (by simp);have e:i=x.cps.size:=A;subst e;exact(Gy (I.ok.hd z) it x t).done s _ _ st λg G F=>⟨rfl,I.turned (λb o a e=>F b o (by simpa using a) e) k l m n p⟩
 self:=λA i s Q E st h=>by
  have st:s.heap.IsStrIter it (strIterType x) x t i:=st;unfold strIterType at st;split at st
  .exact wpAny_pyIter_striter_ascii st h
  .exact wpAny_pyIter_striter_wide st h
inductive Cw(R:It->Hp->Prop)(v:V)(a:Hp):Prop
 |mk(x)(_:v=.str x)(_:R (Fq x) a)
def MO(a:TE):TI:=λL H R=>a L H λv a=>Cw R v a
theorem Mu(h:IsPart v o):∃l:Option (Int×Tok),v=partValue l/\l.map (·.1)=o:=by
 cases h with
 | none=>exact⟨none,rfl,rfl⟩
 | int i t=>exact⟨some (i,t),rfl,rfl⟩
theorem NT:∀{us:gA},ZI (ys.map V.str) us->StrsAre us ys:=by
 induction ys with
 | nil=>intro us r;rw[wO] at r;cases r;exact .nil
 | cons n b a =>
  intro us r;rw[yF] at r;cases r with
  | cons b c =>
   obtain⟨t,e⟩:=b;subst e;exact .cons n t (a c)
section
variable{X:Cx}
theorem Kd:Jr X (.builtin "isinstance") (λJ H Q=>∃x n t b,J=[x,.ty n]/\YY X.K H x t/\kitOne X.K t (.type n)=some b/\Q (.bl b) H):=by
 intro B s L H J a Q I r h;obtain⟨x,n,t,b,rfl,d,e,q⟩:=h;obtain⟨u,f,rfl,c,a⟩:=FB r;cases a;exact Ot I c d e λa=>⟨.bl b,H,I.tok _,rfl,q⟩
def Fp(X:Cx)(f:gE)(kw:Str)(r:List V->V->Hp->VK->Prop):Prop :=
 ∀(B:List (gF×Obj))(s:gD)(L:St)(H:Hp)(J:aG)(b:gA)(k:V)(a:gE)(Q:VK),ZE X B L H s->ZI J b->ZG k a->r J k H Q ->
  wpAny (model X.prog X.w) X.A (call f b [(kw,a)]) (EP X B L Q) X.xe s
theorem PY{x:Str}{p pos s:Pos}{e g:Expr}{a:List Expr}{t:TA}{h:TE}{id:String}{kw:Str}{r:List V->V->Hp->VK->Prop}(j:Fp X (.builtin id) kw r)(m:Gl X x)(o:X.mg x=none)(v:bootBuiltins x=some (.builtin id))(i:PA X (e::a) t)(n:PE X g h)(u:x ≠ "__name__" := by decide)(d:(x==("__debug__":Str))=false:=by decide)(l:backTo pos (starEach (e::a) X.env)=(false,eval e X.env)::backTo pos (starEach a X.env):=by rfl)(f:(backTo pos (starEach (e::a) X.env)).any (·.1)=false:=by rfl) :
  PE X (.Call (.Name x p) (e::a) [⟨some kw,g,s⟩] pos) (λL H Q=>t L H λvs b=>h L b λk c=>r vs k c Q):=by
 intro B s L H Q I h;refine wpAny_Call_Name_kw (Ut I m o v ?_ u d);refine callWith_kw (thn (i pos B s L H _ I h) λi h ⟨vs,b,a,g,d⟩=>?_) l f rfl rfl;refine kws_cons (thn (n B h L b _ a d) λb h ⟨k,c,a,f,d⟩=>kws_nil ?_);exact j B h L c vs i k b Q a g f d
end
section
variable{K:uFg}
end
def YA(K:uFg)(mg:fY)(x:Str)(st:Stmt):Prop:=∃f a,UI K x x st f a/\mg x=some (.ref f)
def Fn(P:gG)(w:gH)(K:uFg)(mg:fY)(Z:Heap)(x:Str)(b:fZ)(k:Nat)(sp:Sp):Prop :=
 ∃f a,mg x=some (.ref f)/\keepIn K (.ref f)=true/\YK K a b []/\YG P w K mg Z WX k f a b sp
section
variable{P:gG}{w:gH}{K:uFg}{mg:fY}{Z:Heap}
theorem YA.fn{x:Str}{st:Stmt}{N b:fZ}{k:Nat}{sp:Sp}(h:YA K mg x st)(S:ZM N b (Zm st))(d:∀ (kV doc pm:gE) (an:Option gF) (cdv ct:gE) (us:gA),us.length=b.length->bindArgs (fnOf x x (Vb st) (Yt st) (Zm st) .none kV doc pm an cdv ct) ⟨us,[]⟩=pure (b.zip us))(c:∀vs H Q E,sp vs H Q E->vs.length=b.length)(a:∀ (f:gF) (cdv:gE) (A:gI) (outer:List Env) (s:gD) (H:Hp) (vs:aG) (Q:VK) (E:XK),ZL k (A.deeper (envOfC x (Zm st) s.heap.objs.size f cdv))->sp vs H Q E -> ∃t,A1 (Y8 WX P w K mg Z N x (Zm st) f cdv A outer s H E).iO (Yt st) t/\t {nx:=λ_ Y=>Q .non Y,rt:=Q } (start N vs) H):Fn P w K mg Z x b (k+1) sp:=by
 obtain⟨f,b,F,e⟩:=h;exact⟨f,b,e,F.kp,F.binds d,F.ok S c λcdv A outer s H vs Q E b q=>a f cdv A outer s H vs Q E b q⟩
theorem fB{h:Heap}{x:Str}{st:Stmt}{f:gF}{oc:gE}{od an:Option gF}{osl:Array (Option gE)}{kV doc pm cdv ct:gE}(b:K.In h)(G:h.Ns mainGlobals mg)(a:nsIn K mainGlobals x=some (some (.ref f)))(l:K.lookup f=some ⟨oc,od,.func (fnOf x x (Vb st) (Yt st) (Zm st) .none kV doc pm an cdv ct),osl⟩)(c:codeIn K cdv x=true)(k:keepIn K (.ref f)=true):YA K mg x st:=⟨f,_,Fd l c k,mg_of b G a⟩
theorem hQ{h:Heap}(x:Str)(st:Stmt)(f c:gF)(pm:gE)(a:K.In h)(G:h.Ns mainGlobals mg)(e:nsIn K mainGlobals x=some (some (.ref f))/\K.lookup f=some ⟨.type "function", none,.func (fnOf x x (Vb st) (Yt st) (Zm st) .none .none .none pm none (.ref c) .none),#[]⟩/\codeIn K (.ref c) x=true/\keepIn K (.ref f)=true:=by walk_at "k"):YA K mg x st:=fB a G e.1 e.2.1 e.2.2.1 e.2.2.2
end
def JI(sp:Sp)(t:TA):TE:=λL H Q=>t L H λb a=>sp b a Q E0
theorem Ob{k:Nat}{b:fZ}{sp:Sp}{x:Str}{p pos:Pos}{e:Expr}{a:List Expr}{t:TA}(F:Fn X.prog X.w X.K X.mg X.base x b k sp)(m:ZL k X.A)(i:Gl X x)(d:PA X (e::a) t)(b:(x==("__debug__":Str))=false:=by decide)(g:sEq X e a:=by rfl)(c:sFq X pos a:=by rfl) :
  PE X (.Call (.Name x p) (e::a) [] pos) (JI sp t):=by
 obtain⟨f,h,l,j,a,G⟩:=F;intro B s L H Q I h;refine QR G m i l j a .nil Dj d b g c B s L H Q I ?_;have e:EY sp [] E0 t=JI sp t:=by
  unfold EY JI;simp only[xX]
 rw[e];exact h
theorem Yh:bootBuiltins "len"=some (.builtin "len"):=aA
theorem Ce:bootBuiltins "max"=some (.builtin "max"):=aA
theorem BS:bootBuiltins "min"=some (.builtin "min"):=aA
theorem BF:bootBuiltins "sum"=some (.builtin "sum"):=aA
theorem OY:bootBuiltins "all"=some (.builtin "all"):=aA
theorem Vt:bootBuiltins "isinstance"=some (.builtin "isinstance"):=aA
theorem Uy:bootBuiltins "list"=some (.type "list"):=aA
theorem MP:bootBuiltins "str"=some (.type "str"):=aA
theorem cD:bootBuiltins "tuple"=some (.type "tuple"):=aA
def ZF(s:gF)(H Y:Hp):Prop:=∀b o,b≠s->H b=some o->Y b=some o
theorem ZF.refl:ZF s H H:=λ_ _ _ e=>e
theorem ZF.trans(a:ZF s H H1)(b:ZF s H1 H2):ZF s H H2:=λc o n e=>b c o n (a c o n e)
theorem ZF.upd:ZF s H (upd H s o):=λb _ n e=>by rw[Zf n];exact e
theorem ZF.new(h:H l=none):ZF s H (L2.upd H l o):=λb _ _ e=>by rw[Zf (Zo e h)];exact e
theorem ZA.new(h:H l=none):ZA H (L2.upd H l o):=λb _ e=>by rw[Zf (Zo e h)];exact e
theorem ZA.x(h:ZA H Y):ZF s H Y:=λb o _ e=>h b o e
def ZH(H:Hp)(s b:gF):Prop:=∃(c:List Int)(i a st cnt:Int),H s=some (.lst [.ref b,.int i,.int a,.int st,.int cnt])/\H b=some (.lst (c.map V.int))/\0<=i/\b≠s
theorem ZH.keep(h:ZH H s la)(k:ZA H Y):ZH Y s la:=by
 obtain⟨f,i,a,st,cnt,b,c,d,e⟩:=h;exact⟨f,i,a,st,cnt,k _ _ b,k _ _ c,d,e⟩
theorem ZH.iG(h:ZH H s la)(k:ZF l H Y)(f:l≠s)(g:l≠la):ZH Y s la:=by
 obtain⟨j,i,a,st,cnt,b,c,d,e⟩:=h;exact⟨j,i,a,st,cnt,k _ _ f.symm b,k _ _ g.symm c,d,e⟩
theorem ZH.ne(h:ZH H s la)(a:H l=none):l≠s/\l≠la:=by
 obtain⟨g,i,b,st,cnt,c,d,e,f⟩:=h;exact⟨(Zo c a).symm,(Zo d a).symm⟩
theorem Zv{c A B:Prop} [Decidable c] (a:c->A) (a:¬c->B):if decide c=true then A else B:=by grind
theorem Ua{c A B:Prop} [Decidable c] (a:¬c->A) (a:c->B):if (!decide c)=true then A else B:=by grind
theorem Cu{b:Bool}{A B:Prop}(a:b=true->A)(a:b=false->B):if b=true then A else B:=by grind
theorem Hr{b:Bool}{A B:Prop}(a:b=false->A)(c:b=true->B):if (!b)=true then A else B:=by
 cases b
 .exact a rfl
 .exact c rfl
theorem cB{ns:List Int}{i:Int}(a:0<=i)(b:i<(ns.map V.int).length):atI (ns.map V.int) i=some (.int (ns.getD i.toNat 0)):=by
 obtain⟨j,rfl⟩:=yC a;rw[xA] at b;refine Yl ?_;rw[xC,yH,yD,xB (by lia)];rfl
def Nm(a:Scope)(x:Str)(k:NameKind):Prop:=a.names.lookup x=some k/\(x==("__debug__":Str))=false/\(x==("__classdict__":Str))=false/\x ≠ "__name__"
instance (a:Scope) (x:Str) (k:NameKind):Decidable (Nm a x k):=by unfold Nm;exact inferInstance
section
variable{X:Cx}{x:Str}{pos:Pos}
theorem al1{b:Type _}{P:List b->Prop}(k:∀a,P [a]):∀l:List b,l.length=1->P l:=λl h=>by cases l with
 | nil=>cases h
 | cons a l=>cases l with
  | nil=>exact k a
  | cons=>cases mH h
theorem al2{c:Type _}{P:List c->Prop}(k:∀a b,P [a,b]):∀l:List c,l.length=2->P l:=λl h=>by cases l with
 | nil=>cases h
 | cons a l=>exact al1 (P:=λl=>P (a::l)) (k a) l (mH h)
theorem al3{d:Type _}{P:List d->Prop}(k:∀a b c,P [a,b,c]):∀l:List d,l.length=3->P l:=λl h=>by cases l with
 | nil=>cases h
 | cons a l=>exact al2 (P:=λl=>P (a::l)) (k a) l (mH h)
theorem al4{e:Type _}{P:List e->Prop}(k:∀a b c d,P [a,b,c,d]):∀l:List e,l.length=4->P l:=λl h=>by cases l with
 | nil=>cases h
 | cons a l=>exact al3 (P:=λl=>P (a::l)) (k a) l (mH h)
theorem al5{f:Type _}{P:List f->Prop}(k:∀a b c d e,P [a,b,c,d,e]):∀l:List f,l.length=5->P l:=λl h=>by cases l with
 | nil=>cases h
 | cons a l=>exact al4 (P:=λl=>P (a::l)) (k a) l (mH h)
theorem al6{g:Type _}{P:List g->Prop}(k:∀a b c d e f,P [a,b,c,d,e,f]):∀l:List g,l.length=6->P l:=λl h=>by cases l with
 | nil=>cases h
 | cons a l=>exact al5 (P:=λl=>P (a::l)) (k a) l (mH h)
theorem al7{h:Type _}{P:List h->Prop}(k:∀a b c d e f g,P [a,b,c,d,e,f,g]):∀l:List h,l.length=7->P l:=λl h=>by cases l with
 | nil=>cases h
 | cons a l=>exact al6 (P:=λl=>P (a::l)) (k a) l (mH h)
theorem al8{i:Type _}{P:List i->Prop}(k:∀a b c d e f g h,P [a,b,c,d,e,f,g,h]):∀l:List i,l.length=8->P l:=λl h=>by cases l with
 | nil=>cases h
 | cons a l=>exact al7 (P:=λl=>P (a::l)) (k a) l (mH h)
def nmB(X:Cx)(x:Str)(k:NameKind):Bool:=decide (Nm X.env.scope x k)
def ndB(X:Cx):Bool:=decide X.N.Nodup
abbrev nB(X:Cx)(x:Str)(k:NameKind):Prop:=nmB X x k=true
abbrev nD(X:Cx):Prop:=ndB X=true
theorem od [Decidable p] (h:decide p=true):p:=of_decide_eq_true h
theorem fsc{N P:fZ}{b:Scope}(a:b.kind=.function:=by rfl)(h:decide (b.isCoroutine=false/\b.isGenerator=false/\N.Nodup/\N.take P.length=P/\(∀x∈P,b.names.lookup x=some .local\/b.names.lookup x=some .cell)/\∀y∈b.names,y.2 ≠ .free)=true:=by kernel_rfl):ZM N P b :=
 have ⟨b,c,d,e,f,g⟩:=od h;⟨a,b,c,d,e,f,g⟩
theorem pvN(i:Nat)(n:Nm X.env.scope x .local)(a:X.N[i]?=some x:=by rfl):PE X (.Name x pos) (YJ i):=CU a (.inl n.1) n.2.1 n.2.2.1
theorem Nl(n:Nm X.env.scope x .globalImplicit)(a:X.mg x=some u)(r:ZG v u):PE X (.Name x pos) (tC v):=M1 n.1 a r n.2.1
theorem bI(n:Nm X.env.scope x .globalImplicit)(a:X.mg x=none)(b:bootBuiltins x=some u)(r:ZG v u):PE X (.Name x pos) (tC v):=bB n.1 a b r n.2.2.2 n.2.1
theorem Rb{k:Nat}{b:fZ}{sp:Sp}{p:Pos}{e:Expr}{a:List Expr}{t:TA}(F:Fn X.prog X.w X.K X.mg X.base x b k sp)(f:ZL k X.A)(n:Nm X.env.scope x .globalImplicit)(c:PA X (e::a) t)(d:sEq X e a:=by rfl)(b:sFq X pos a:=by rfl) :
  PE X (.Call (.Name x p) (e::a) [] pos) (JI sp t):=Ob F f n.1 c n.2.1 d b
theorem cT{p:Pos}{e:Expr}{a:List Expr}{t:TA}{id:String}{r:List V->Hp->VK->Prop}(d:Jr X (.builtin id) r)(n:Nm X.env.scope x .globalImplicit)(g:X.mg x=none)(h:bootBuiltins x=some (.builtin id))(c:PA X (e::a) t)(f:sEq X e a:=by rfl)(b:sFq X pos a:=by rfl):PE X (.Call (.Name x p) (e::a) [] pos) (BA r t):=cU d n.1 g h c n.2.2.2 n.2.1 f b
theorem OM{p:Pos}{e:Expr}{a:List Expr}{t:TA}{T:String}{r:List V->Hp->VK->Prop}(d:Jr X (.type T) r)(n:Nm X.env.scope x .globalImplicit)(g:X.mg x=none)(h:bootBuiltins x=some (.type T))(c:PA X (e::a) t)(f:sEq X e a:=by rfl)(b:sFq X pos a:=by rfl):PE X (.Call (.Name x p) (e::a) [] pos) (BA r t):=MW d n.1 g h c n.2.2.2 n.2.1 f b
theorem OF{p s:Pos}{e c:Expr}{a:List Expr}{t:TA}{d:TE}{id:String}{kw:Str}{r:List V->V->Hp->VK->Prop}(i:Fp X (.builtin id) kw r)(n:Nm X.env.scope x .globalImplicit)(m:X.mg x=none)(o:bootBuiltins x=some (.builtin id))(h:PA X (e::a) t)(l:PE X c d)(j:backTo pos (starEach (e::a) X.env)=(false,eval e X.env)::backTo pos (starEach a X.env):=by rfl)(b:(backTo pos (starEach (e::a) X.env)).any (·.1)=false:=by rfl) :
  PE X (.Call (.Name x p) (e::a) [⟨some kw,c,s⟩] pos) (λL H Q=>t L H λvs f=>d L f λk g=>r vs k g Q):=PY i n.1 m o h l n.2.2.2 n.2.1 j b
theorem Rn{i:Nat}{e:Expr}{b:TE}{a:Pos}(c:X.N.Nodup)(n:Nm X.env.scope x .local)(d:PE X e b)(f:X.N[i]?=some x:=by rfl)(hs:swapsWith e (some (.Name x a)) pos.line X.env=pure false:=by rfl) :
  PS X (.Assign [.Name x a] e pos) (Js b (Wr i)):=KO c f (.inl n.1) d hs (.inr n.1)
theorem Os{i:Nat}{e:Expr}{b:TE}{a:Pos}(c:X.N.Nodup)(n:Nm X.env.scope x .cell)(d:PE X e b)(f:X.fn x=true:=by rfl)(g:X.N[i]?=some x:=by rfl)(hs:swapsWith e (some (.Name x a)) pos.line X.env=pure false:=by rfl) :
  PS X (.Assign [.Name x a] e pos) (Js b (Wr i)):=KO c g (.inr n.1) d hs (.inl f)
theorem Sz(a:X.N.Nodup)(n:Nm X.env.scope x .local)(b:X.N[i]?=some x:=by rfl):PG X (.Name x pos) (Wr i):=Ex a b (.inl n.1) (.inr n.1)
end
section
variable{X:Cx}{F:Scope}{cl:List (Str×gF)}{C:gF}{N':fZ}{s0:gD}{H0:Hp}{ex:gC}{pn:List (gF×Obj)}{x:Str}{pos:Pos}
theorem Pb(n:Nm F x .globalImplicit:=by decide +kernel):Nm (ccx X F cl C N' s0 H0 ex pn).env.scope x .globalImplicit:=⟨Hv aA n.1,n.2⟩
theorem nmC(n:Nm F x .globalImplicit:=by decide +kernel):nB (ccx X F cl C N' s0 H0 ex pn) x .globalImplicit:=yR (Pb n)
theorem WC.ij{j:Nat}{fr:List (Str×Nat)}(n:Nm X.env.scope x .cell)(t:WC X F fr)(m:Nm F x .free:=by decide +kernel)(a:X.N[j]?=some x:=by rfl):WC X F ((x,j)::fr):=.cons a (.inl n.1) m.1 t
end
def cs(x:Str):List Nat:=x.cps.toList
theorem Vn(x:Str):(cs x).length=x.length:=by unfold cs;exact Array.length_toList
theorem DX(x y:Str):cs (x++y)=cs x++cs y:=by unfold cs;rw[Str.cps_append,Array.toList_append]
theorem GB(l:List Nat):cs ⟨l.toArray⟩=l:=by unfold cs;simp
theorem Me(J:List Nat)(lo:Nat):∀m,lo+m<=J.length->((List.range m).map (lo + ·)).filterMap (J[·]?)=(J.drop lo).take m:=by
 intro m
 induction m with
 | zero=>intro _;simp
 | succ m a =>
  intro h;rw[List.range_succ,xM,List.filterMap_append,a (by lia),xS,wL];have:lo+m<J.length:=by lia
  simp[xB this]
theorem Mq(a b:Nat):min (a:Int) (b:Int)=((min a b:Nat):Int):=by
 rcases Nat.le_total a b with z | z
 .rw[mK z,Int.min_eq_left (Int.ofNat_le.mpr z)]
 .rw[Nat.min_eq_right z,Int.min_eq_right (Int.ofNat_le.mpr z)]
theorem Lv(m n:Nat):(if (m:Int)<(n:Int) then ((n:Int) - (m:Int)+1 - 1) / 1 else 0).toNat=n - m:=by
 rw[Int.add_sub_cancel,Int.ediv_one];split
 .exact Int.toNat_sub n m
 .rename_i z;rw[Nat.sub_eq_zero_of_le (Nat.le_of_not_lt λy=>z (Int.ofNat_lt.mpr y))];rfl
theorem FO(x:Str)(h:0<=i):cs (Txt.slice x none (some i))=(cs x).take i.toNat:=by
 obtain⟨k,rfl⟩:=yC h;rw[yH];have b:=Vn x;have e:Builtin.Str.strSliceIndices none (some (k:Int)) 1 x.length=(List.range (min k x.length)).map (0 + ·):=by
  unfold Builtin.Str.strSliceIndices sliceRange;simp only[show (1:Int) > 0 by decide,if_true];rw[if_neg (Int.not_lt.mpr (Int.natCast_nonneg k)),Mq,Int.max_eq_right (Int.natCast_nonneg _)];have:=Lv 0 (min k x.length);rw[show ((0:Nat):Int)=0 from rfl] at this;rw[this];apply List.map_congr_left;intro j _;rw[Int.one_mul];rfl
 unfold Txt.slice;rw[e];have a:(cs x).take (min k x.length)=(cs x).take k:=by rw[<- b];exact List.take_eq_take_min.symm
 rw[<- a];generalize a:min k x.length=m;have c:m<=x.length:=a▸Nat.min_le_right k _;split
 .rename_i a;rw[xA,mI] at a;have a:m=x.length:=by simpa using a
  rw[yY (by rw[b,a];exact xF _)]
 .have:=Me (cs x) 0 m (by rw[b,Nat.zero_add];exact c);rw[mJ] at this;rw[GB,<- this];congr 1;funext k;unfold cs;simp
theorem NL(x:Str)(h:0<=i):cs (Txt.slice x (some i) none)=(cs x).drop i.toNat:=by
 obtain⟨k,rfl⟩:=yC h;rw[yH];have a:=Vn x;have e:Builtin.Str.strSliceIndices (some (k:Int)) none 1 x.length=(List.range (x.length - min k x.length)).map (min k x.length + ·):=by
  unfold Builtin.Str.strSliceIndices sliceRange;simp only[show (1:Int) > 0 by decide,if_true];rw[if_neg (Int.not_lt.mpr (Int.natCast_nonneg k)),Mq,Int.max_eq_right (Int.natCast_nonneg _),Lv];apply List.map_congr_left;intro j _;rw[Int.one_mul];rfl
 unfold Txt.slice;rw[e];have b:(cs x).drop (min k x.length)=(cs x).drop k:=by
  rcases Nat.le_total k x.length with z | z
  .rw[mK z]
  .rw[Nat.min_eq_right z,wN (me a),wN (by rw[a];exact z)]
 rw[<- b];generalize b:min k x.length=m;have c:m<=x.length:=b▸Nat.min_le_right k _;split
 .rename_i b;rw[xA,mI] at b;have b:x.length - m=x.length:=by simpa using b
  have:m=0\/x.length=0:=by
   rcases Nat.eq_zero_or_pos m with z | z
   .exact .inl z
   .exact .inr (Classical.byContradiction λy=>absurd b (yG (Nat.sub_lt (Nat.pos_of_ne_zero y) z)))
  rcases this with z | z
  .rw[z,mJ]
  .rw[List.length_eq_zero_iff.mp (a.trans z),List.drop_nil]
 .rw[GB,<- yY (l:=(cs x).drop m) (i:=x.length - m) (by rw[zG,a];exact xF _),<- Me (cs x) m (x.length - m) (by rw[a,Nat.add_sub_cancel' c];exact xF _)];congr 1;funext k;unfold cs;simp
theorem Rl:∀ys:List Str,cs (Txt.join "" ys)=(ys.map cs).flatten:=by
 have c:∀(ys:fZ)(a:Array Nat),(ys.foldl (λb p=>b++(("":Str)).cps++p.cps) a).toList=a.toList++(ys.map cs).flatten:=by
  intro ys
  induction ys with
  | nil=>intro a;simp
  | cons y r b =>
   intro a;rw[zA,b];have:(("":Str)).cps=#[]:=aA
   rw[this];simp[cs]
 intro ys;show (cs (Builtin.Str.glued "" ys))=_;unfold Builtin.Str.glued;cases ys with
 | nil=>decide +kernel
 | cons y r =>
  show (List.foldl _ y.cps r).toList=_;rw[c];rfl
def B8(x:Str):Prop:=∀c∈cs x,97<=c/\c<=122
def letters:Str:="abcdefghijklmnopqrstuvwxyz"
theorem dH:cs letters=(List.range 26).map (97 + ·):=aA
theorem FM(a:0<=d)(b:d<26):atI letters.cps.toList d=some (97+d.toNat):=by
 obtain⟨j,rfl⟩:=yC a;refine Yl ?_;show (cs letters)[j]?=_;rw[dH,xC,wI (by lia)];rfl
theorem C5{a:It}{e:Nat}{d:St}{g:TG}{h:Te}{f:TE}{Q:VK}{H:Hp}{J:aG}(Pv:Nat->List V->Hp->Prop)(o:Pv 0 [] H)(b:J.length<=1000000)(j:∀i H ys,i<J.length->Pv i ys H->a.go i H)(s:∀i H x Y ys,i<J.length->Pv i ys H->a.oy i H x Y->Y=H/\J[i]?=some x)(k:∀H ys,Pv J.length ys H->a.stop J.length H)(b:∀i ys H,Pv i ys H->ys.length<=i)(step:∀i x ys H,J[i]?=some x->Pv i ys H->V1 e d g h f x H (λy Y=>Pv (i+1) (ys ++ [y]) Y) λY=>Pv (i+1) ys Y)(r:∀ys H,Pv J.length ys H->∀l,H l=none->Q (.ref l) (upd H l (.lst ys))) :
  Ux a e d g h f Q H:=by
 have c:∀{x:V}{H:Hp}{a n:V->Hp->Prop}{N m:Hp->Prop},V1 e d g h f x H a N->a=n->N=m->V1 e d g h f x H n m:=λh a d=>by subst a;subst d;exact h
 refine⟨λi m ys H=>m=J.length - i/\i<=J.length/\Pv i ys H,⟨J.length,by simp,yP _,o⟩,?_⟩;rintro i m ys H ⟨rfl,a,p⟩;have a:=b i ys H p;have a:(1000000:Nat)<sizeLine:=by decide
 by_cases a:i<J.length
 .refine .inr ⟨j i H ys a p,by lia,J.length - (i+1),by lia,λx Y y=>?_⟩;obtain⟨e,b⟩:=s i H x Y ys a p y;subst e;refine c (step i x ys _ b p) ?_ ?_
  .funext y H4;apply propext;exact⟨λq=>⟨rfl,a,q⟩,λq=>q.2.2⟩
  .funext H3;apply propext;exact⟨λq=>⟨rfl,a,q⟩,λq=>q.2.2⟩
 .have e:i=J.length:=by lia
  subst e;exact .inl ⟨k H ys p,by lia,r ys H p⟩
def Br(lo:Int)(n:Nat):List V:=(List.range n).map λk=>V.int (lo+(k:Nat))
theorem B4(lo:Int)(n:Nat):(Br lo n).length=n:=by simp[Br]
theorem dR{lo:Int}{n i:Nat}{x:V}(h:(Br lo n)[i]?=some x):i<n/\x=.int (lo+(i:Nat)):=by
 have a:i<n:=by have:=(xI.mp h).1;rwa [B4] at this
 refine⟨a,?_⟩;unfold Br at h;rw[xC,wI a] at h;exact(ma h).symm
theorem FE{lo:Int}{n:Nat}{c:Nat}{b:St}{g:TG}{e:Te}{d:TE}{Q:VK}{H:Hp}(Pv:Nat->List V->Hp->Prop)(f:Pv 0 [] H)(j:n<=1000000)(a:∀i ys H,Pv i ys H->ys.length<=i)(step:∀i ys H,i<n->Pv i ys H->V1 c b g e d (.int (lo+(i:Nat))) H (λy Y=>Pv (i+1) (ys ++ [y]) Y) λY=>Pv (i+1) ys Y)(h:∀ys H,Pv n ys H->∀l,H l=none->Q (.ref l) (upd H l (.lst ys))) :
  Ux (Jn lo n) c b g e d Q H:=by
 refine C5 (J:=Br lo n) Pv f (by rw[B4];exact j) ?_ ?_ ?_ a ?_ ?_
 .intro i H ys a _;rw[B4] at a;exact a
 .rintro i H x Y ys a _ ⟨rfl,rfl⟩;rw[B4] at a;refine⟨rfl,?_⟩;unfold Br;rw[xC,wI a];rfl
 .intro H ys _;rw[B4];exact xF _
 .intro i x ys H b p;obtain⟨a,rfl⟩:=dR b;exact step i ys H a p
 .intro ys H p;rw[B4] at p;exact h ys H p
theorem Ui{K:uFg}{a:gF}{J:aG}{e:Nat}{d:St}{g:TG}{h:Te}{f:TE}{Q:VK}{H:Hp}(Pv:Nat->List V->Hp->Prop)(j:Pv 0 [] H)(m:J.length<=1000000)(c:∀i ys H,i<=J.length->Pv i ys H->ZD K H a J)(b:∀i ys H,Pv i ys H->ys.length<=i)(step:∀i x ys H,J[i]?=some x->Pv i ys H->V1 e d g h f x H (λy Y=>Pv (i+1) (ys ++ [y]) Y) λY=>Pv (i+1) ys Y)(k:∀ys H,Pv J.length ys H->∀l,H l=none->Q (.ref l) (upd H l (.lst ys))) :
  Ux (JC K a) e d g h f Q H:=by
 refine C5 (J:=J) Pv j m ?_ ?_ ?_ b step k
 .intro i H ys b p;exact⟨J,J[i],c i ys H (zE b) p,by simp[b]⟩
 .rintro i H x Y ys b p ⟨rfl,y⟩;exact⟨rfl,y J (c i ys _ (zE b) p)⟩
 .intro H ys p;exact⟨J,c _ ys H (xF _) p,xF _⟩
theorem M4(Pv:Nat->List V->Hp->Prop)(c:Pv 0 [] H)(e:x.length<=1000000)(a:∀i ys H,Pv i ys H->ys.length<=i)(step:∀i ys H,i<x.length->Pv i ys H->V1 nl fv g tt te (sgn x i) H (λy Y=>Pv (i+1) (ys ++ [y]) Y) λY=>Pv (i+1) ys Y)(d:∀ys H,Pv x.length ys H->∀l,H l=none->Q (.ref l) (upd H l (.lst ys))) :
  Ux (Fq x) nl fv g tt te Q H:=by
 have b:((List.range x.length).map λi=>sgn x i).length=x.length:=by simp
 refine C5 (J:=(List.range x.length).map λi=>sgn x i) Pv c (by rw[b];exact e) ?_ ?_ ?_ a ?_ ?_
 .intro i H ys a _;rw[b] at a;exact a
 .rintro i H v Y ys a _ ⟨rfl,rfl⟩;rw[b] at a;refine⟨rfl,?_⟩;rw[xC,wI a];rfl
 .intro H ys _;rw[b];exact rfl
 .intro i v ys H c p;have a:i<x.length:=by have:=(xI.mp c).1;rwa [b] at this
  rw[xC,wI a] at c;cases c;exact step i ys H a p
 .intro ys H p;rw[b] at p;exact d ys H p
theorem Uj{b:St}(h:b.length=1):∃a,b=[a]:=al1 (P:=λl=>∃a,l=[a]) (λa=>⟨a,rfl⟩) b h
theorem Dl{c:St}(h:c.length=2):∃a b,c=[a,b]:=al2 (P:=λl=>∃a b,l=[a,b]) (λa b=>⟨a,b,rfl⟩) c h
structure QE (X:Cx) (e:Expr) (t:TE):Prop where
 h:PE X e t
structure QT (X:Cx) (e:Expr) (t:TT):Prop where
 h:PT X e t
structure QW (X:Cx) (e:Expr) (t:TT):Prop where
 h:PW X e t
structure QS (X:Cx) (s:Stmt) (t:TS):Prop where
 h:PS X s t
structure WT (X:Cx) (s:List Stmt) (t:TS):Prop where
 h:A1 X s t
structure QA (X:Cx) (es:List Expr) (t:TA):Prop where
 h:PA X es t
structure QG (X:Cx) (e:Expr) (t:TG):Prop where
 h:PG X e t
structure Bz (X:Cx) (es:List Expr) (t:Jd):Prop where
 h:LD X es t
structure QI (X:Cx) (tg iter:Expr) (t:TI):Prop where
 h:PI X tg iter t
structure QO (X:Cx) (e:Option Expr) (t:TO):Prop where
 h:PO X e t
structure FW (X:Cx) (es:List Expr) (t:Te):Prop where
 h:Cn X es t
structure YT (X:Cx) (f:gE->gE->Sem gE) (r:R2):Prop where
 h:TK X f r
structure KI (X:Cx) (f:gE->Sem gE) (r:V->Hp->VK->Prop):Prop where
 h:eX X f r
structure QC (X:Cx) (f:gE) (r:List V->Hp->VK->Prop):Prop where
 h:Jr X f r
theorem QC.imp(h:QC X f r)(i:∀J H Q,r' J H Q->r J H Q):QC X f r':=⟨λp s L H x u Q I v k=>h.h p s L H x u Q I v (i x H Q k)⟩
structure Mg (X:Cx) (f:gE) (kw:Str) (r:List V->V->Hp->VK->Prop):Prop where
 h:Fp X f kw r
structure Bx (X:Cx) (r:R2):Prop where
 h:CS X r
structure DO (X:Cx) (r:V->Option Int->Option Int->Hp->VK->Prop):Prop where
 h:IZ X r
structure QM (X:Cx) (id:String) (r:V->List V->Hp->VK->Prop):Prop where
 h:Hs X id r
structure Cg (X:Cx) (t:DK):Prop where
 h:SV X t
section
variable{X:Cx}{a b c:Expr}{ta tb te:TE}{pos p pos':Pos}{st:Stmt}{rest:List Stmt}{t u:TS}{x:Str}{es:List Expr}{e:Expr}
theorem Zp:WT X [] Yy:=⟨λ_ _ L H _ I h=>wpAny_execs_nil ⟨L,H,I,h⟩⟩
theorem Zd(d:QS X st t)(g:WT X rest u):WT X (st::rest) (Ug t u):=⟨by
 have d:=d.h;have g:=g.h;intro B s L H D I h;refine wpAny_execs_cons (thn (d B s L H {D with nx:=u D } I h) λf h q=>?_);cases f with
 | next =>
  obtain⟨d,Y,f,q⟩:=q;exact g B h d Y D f q
 | ret v=>exact q
 | brk=>exact q
 | cont=>exact q⟩
theorem Zg(d:QS X st t):WT X [st] t:=⟨by
 have d:=d.h;intro B s L H D I h;refine wpAny_execs_cons (thn (d B s L H D I h) λf d q=>?_);cases f with
 | next=>exact wpAny_execs_nil q
 | ret v=>exact q
 | brk=>exact q
 | cont=>exact q⟩
theorem Zw(h:QE X e te):QS X (.Return (some e) pos) (Sn te):=⟨by
 have d:=h.h;intro B s L H D I h
 exact wpAny_Return_some (thn (d B s L H _ I h) λv j ⟨x,d,f,i,g⟩=>⟨x,L,d,f,i,g⟩)⟩
theorem fM:QS X (.Continue pos) bF:=⟨λ_ _ L H _ I h=>wpAny_Continue ⟨L,H,I,h⟩⟩
theorem Zq{c:Expr}{a b:List Stmt}{h:TT}(d:QT X c h)(f:WT X a t)(g:WT X b u):QS X (.If c a b pos) (Dn h t u):=⟨by
 have d:=d.h;have f:=f.h;have g:=g.h;intro B s L H D I h;refine wpAny_If (thn (d B s L H _ I h) λd k ⟨h,i,j⟩=>?_);cases d with
 | true=>exact f B k L h D i j
 | false=>exact g B k L h D i j⟩
theorem Zs(d:QE X e te)(hs:swapsWith e none pos.line X.env=pure false:=by rfl):QS X (.Expr e pos) (EJ te):=⟨by
 have d:=d.h;intro B s L H D I h
 exact wpAny_Expr_any (thn (d B s L H _ I h) λv i ⟨x,d,f,h,g⟩=>⟨L,d,f,g⟩) I.quiet hs⟩
theorem Zx(i:Nat)(f:QE X e te)(d:nD X:=by kernel_rfl)(n:nB X x .local:=by kernel_rfl)(g:X.N[i]?=some x:=by rfl)(hs:swapsWith e (some (.Name x pos')) pos.line X.env=pure false:=by rfl) :
  QS X (.Assign [.Name x pos'] e pos) (Js te (Wr i)):=⟨Rn (od d) (od n) f.h g hs⟩
theorem Es{i:Nat}(d:X.N.Nodup)(n:Nm X.env.scope x .cell)(f:QE X e te)(g:X.fn x=true:=by rfl)(h:X.N[i]?=some x:=by rfl)(hs:swapsWith e (some (.Name x pos')) pos.line X.env=pure false:=by rfl) :
  QS X (.Assign [.Name x pos'] e pos) (Js te (Wr i)):=⟨Os d n f.h g h hs⟩
theorem Ul{d:Expr}{g:TG}(f:QE X e te)(i:QG X d g)(hs:swapsWithSole [d] e pos.line X.env=pure false:=by rfl)(k:swappedStores [d] e X.env=pure none:=by rfl)(j:(assignEach [d] X.env).map (·.2)= [assign d X.env]:=by rfl):QS X (.Assign [d] e pos) (Js te g):=⟨by
 have f:=f.h;have i:=i.h;intro B s L H D I h;refine wpAny_Assign_stores (thn (f B s L H _ I h) λv l ⟨x,d,f,h,g⟩=>?_) hs k;rw[j]
 exact thn (i B l L d x v _ f h g) λ_ d q=>q⟩
def Bw(J:It)(g:TG)(tb:TS)(D:ZY)(L:St)(d:Hp):Prop:=∃W:Nat->Nat->St->Hp->Prop,(∃m,W 0 m L d)/\∀i m L H,W i m L H ->
 (J.stop i H/\D.nx L H)\/(J.go i H/\∃N:St->Hp->Prop,(∀ d Y,N d Y->∃f,f<m/\W (i+1) f d Y)/\∀x Y,J.oy i H x Y->g x L Y λd f=>tb {D with nx:=N,ct:=N,bk:=D.nx } d f)
def Mj(d:TI)(g:TG)(tb:TS):TS:=λD L H=>d L H λJ d=>Bw J g tb D L d
theorem Wi(k:PassesOwn (model X.prog X.w) X.A X.env X.xe)(C:X.calm=true)(d:QI X tg iter wi)(y:QG X tg g)(j:WT X body t)(hs:∀x,foldedSetIterable iter X.env x=pure x:=by intro _;rfl):QS X (.For tg iter body [] pos) (Mj wi g t):=⟨by
 have d:=d.h;have y:=y.h;have j:=j.h;intro B s L H D I h;refine wpAny_For (thn (d B s L H _ I h) λv f d=>thn d λf h d=>?_) hs;obtain⟨it,o,F,J,s,e,w,T,f,h,W,⟨z,A⟩,r⟩:=d;subst e;have d:∀{Y:Hp},(∀b∈o,Y b=none)->∀b∈o,Up X B Y b:=λi b j=>⟨i b j,(h b j).2⟩;refine codeAny_forLoop_any (λn m=>∃i l Y,ZE X B l Y m/\F i m.heap/\(∀b∈o,Y b=none)/\W i n l Y) ?_ z ⟨0,L,s,w,f,λb j=>(h b j).1,A⟩;rintro n E ⟨i,f,w,A,m,h,s⟩;rcases r i n f w s with⟨s,H⟩ | ⟨go,N,hN,step⟩
 .refine wpAny_passesOwn k (thn (T.done X rfl rfl rfl C i B E f w X.xe A (d h) m s) λr I ⟨z,G⟩=>?_);subst z;exact wpAny_execs_nil ⟨f,w,G,H⟩
 .refine wpAny_passesOwn k (thn (T.item X rfl rfl rfl C i B E f w X.xe A (d h) m go) λr I ⟨u,z,h⟩=>?_);subst z;refine wpAny_passesOwn k (thn h λ_ w ⟨x,r,z,A,C,s,m⟩=>?_);have h:=z.pinned (d m) (T.obj _ _ s);refine wpAny_passesOwn k (thn (y _ w f r x u _ h A (step x r C)) λ_ r ⟨d,f,h,m⟩=>?_);refine wpAny_passesOwn k (thn (j _ r d f _ h m) λf d r=>?_);have again:∀{h:St}{k:Hp},ZE X (B++Bj o w.heap) h k d->N h k->∃m,m<n/\∃i l Y,ZE X B l Y d/\F i d.heap/\(∀b∈o,Y b=none)/\W i m l Y:=λ{h k} l m=>by
   obtain⟨n,d,w⟩:=hN h k m;refine⟨n,d,i+1,h,k,l.oh,T.keep _ _ _ s λb j o e=>(l.pin (b,o) (xK _ (xK _ (BK j e)))).1,λb j=>?_,w⟩;obtain⟨o,e,d⟩:=T.obj _ _ s b j;exact(l.pin (b,o) (xK _ (xK _ (BK j e)))).2.1
  cases f with
  | next=>obtain⟨h,k,l,m⟩:=r;exact again l m
  | cont=>obtain⟨h,k,l,m⟩:=r;exact again l m
  | brk=>obtain⟨h,k,l,r⟩:=r;exact⟨h,k,l.oh,r⟩
  | ret v=>obtain⟨f,h,k,l,d,r⟩:=r;exact⟨f,h,k,l.oh,d,r⟩⟩
theorem Yi(i:Nat)(d:nD X:=by kernel_rfl)(n:nB X x .local:=by kernel_rfl)(f:X.N[i]?=some x:=by rfl):QG X (.Name x pos) (Wr i):=⟨Sz (od d) (od n) f⟩
theorem GS{i:Nat}(d:X.N.Nodup)(n:Nm X.env.scope x .cell)(f:X.fn x=true:=by rfl)(g:X.N[i]?=some x:=by rfl):QG X (.Name x pos) (Wr i):=⟨Ex d g (.inr n.1) (.inl f)⟩
theorem Ub:Bz X [] Gb:=⟨by
 intro B s L H f d Q I r h;obtain⟨e,h⟩:=h;subst e;cases r
 exact assignInOrder_nil ⟨L,H,I,h⟩⟩
theorem Yv{t:TG}{u:Jd}(d:QG X e t)(f:Bz X es u)(hs:(assignEach (e::es) X.env).map (·.2)=assign e X.env::(assignEach es X.env).map (·.2):=by rfl):Bz X (e::es) (VQ t u):=⟨by
 have d:=d.h;have f:=f.h;intro B s L H i g Q I r h;obtain⟨v,i,g,h⟩:=h;subst g;cases r with
 | cons r j =>
  rw[hs];refine assignInOrder_cons (thn (d B s L H _ _ _ I r h) λ_ k ⟨d,g,h,i⟩=>?_)
  exact f B k d g _ _ Q h j i⟩
theorem Bl{k:Nat}{t:Jd}{n:Nat}(f:X.calm=true)(h:Bz X es t)(g:(assignEach es X.env).length=n:=by rfl)(d:(assignEach es X.env).findIdx? (·.1)=none:=by rfl):QG X (.Tuple es k pos) (Tv X.K n t):=⟨IL f h.h g d⟩
theorem A0{o i:Expr}{k h:TE}{t:DK}(j:QE X o k)(g:QE X i h)(hs:Cg X t)(l:∀v,assign (.Subscript o i pos) X.env v=(do
   let d <- holding [v] (eval o X.env)
   let f <- holding [v,d] (eval i X.env)
   standAt pos
   holding [v,d,f] (setItem d f v)
   release [v,d,f] []):=by intro _;rfl):QG X (.Subscript o i pos) (eQ k h t):=⟨by
 have j:=j.h;have g:=g.h;have hs:=hs.h;intro B s L H v u Q I r h;rw[l];refine wpAny_bind (wpAny_holding (thn (j B s L H _ I h) λd m ⟨x,h,j,l,k⟩=>?_));refine wpAny_bind (wpAny_holding (thn (g B m L h _ j k) λf m ⟨y,g,h,k,j⟩=>?_));refine wpAny_bind (wpAny_standAt (wpAny_bind (wpAny_holding (thn (hs B m L g x y v d f u _ h l k r j) λ_ h ⟨d,f,g⟩=>?_))))
 exact wpAny_release ⟨L,d,f,g⟩⟩
theorem A5:Cg X BM:=⟨by
 intro B s L H o i v j g u Q I f d y h;obtain⟨p,J,k,j,rfl,rfl,g,l,q⟩:=h;cases f;obtain⟨t,rfl⟩:=d;obtain⟨d,n,r,i,m⟩:=I.lst g;obtain⟨f,h,o,w⟩:=HZ l;have h:=r.length;have l:=Bc;have l:ZE X B L (upd H p (.lst (J.set j v))) {s with heap:=s.heap.update p (Obj.mapSeq (·.setIfInBounds j u)) } :=
  I.lstUpd g i (Rm d n j u) (r.set y j) (by rw[wK];exact m) s.toks
 by_cases m:0<=k
 .have g:k.toNat=j:=by
   rw[seqIndex_of m w] at f;exact ma f
  exact PySem.W.ki_setAt i m (by lia) (by rw[xQ,<- h];exact w) (by rw[g];exact⟨_,l,q⟩)
 .have g:(k+(d.toArray.size:Int)).toNat=j:=by
   rw[seqIndex_neg (by lia) o] at f;rw[xQ,<- h];exact ma f
  exact PySem.W.ki_setBack i (by lia) (by rw[xQ,<- h];exact o) (by lia) (by rw[g];exact⟨_,l,q⟩)⟩
variable{tg:Expr}
theorem Yz(d:QE X l te):QI X tg l (dZ X.K te):=⟨by
 have d:=d.h;intro B s L H R I h;refine thn (d B s L H _ I h) λv f ⟨x,g,d,j,i⟩=>?_;obtain⟨a,e,⟨J,h⟩,q⟩:=i;subst e;cases j;obtain⟨i,k,p,j⟩:=d.list h;refine wpAny_pyIter_list p.isList ?_;refine⟨f.heap.objs.size,[f.heap.objs.size],_,_,g,rfl,d.kept (t':=f.toks) λb o e=>xH _ e,X8 a _,⟨_,xW _ rfl,rfl,rfl⟩,λb g=>?_,q⟩;have e:b=f.heap.objs.size:=by simpa using g
 subst e
 exact d.iw (xF _) (d.iD.fresh (xF _))⟩
theorem IW(d:QE X l te):QI X tg l (RX X.K te):=⟨by
 have d:=d.h;intro B s L H R I h;refine thn (d B s L H _ I h) λv d ⟨x,h,f,j,g⟩=>?_;obtain⟨a,e,⟨J,i⟩,q⟩:=g;subst e;cases j;obtain⟨g,k,p,j⟩:=f.tuple i;refine wpAny_pyIter_tuple (show d.heap.IsTuple a g.toArray from p) ?_;refine⟨d.heap.objs.size,[d.heap.objs.size],_,_,h,rfl,f.kept (t':=d.toks) λb o e=>xH _ e,Mw a _,⟨_,xW _ rfl,rfl,rfl⟩,λb g=>?_,q⟩;have e:b=d.heap.objs.size:=by simpa using g
 subst e
 exact f.iw (xF _) (f.iD.fresh (xF _))⟩
theorem Xb(d:QE X l te):QI X tg l (MO te):=⟨by
 have d:=d.h;intro B s L H R I h;refine thn (d B s L H _ I h) λv d ⟨y,g,f,i,h⟩=>?_;obtain⟨x,e,q⟩:=h;subst e;obtain⟨t,rfl⟩:=i;refine wpAny_pyIter_strU ?_;refine⟨d.heap.objs.size,[d.heap.objs.size],_,_,g,rfl,f.kept (t':=d.toks) λb o e=>xH _ e,RO _ x t,⟨_,xW _ rfl,rfl,rfl⟩,λb g=>?_,q⟩;have e:b=d.heap.objs.size:=by simpa using g
 subst e
 exact f.iw (xF _) (f.iD.fresh (xF _))⟩
theorem Aw{a:Expr}{ta:TA}(g:X.mg "range"=none)(d:QA X [a] ta)(f:nB X "range" .globalImplicit:=by kernel_rfl)(hs:starEach [a] X.env=[(false,eval a X.env)]:=by rfl):QI X tg (.Call (.Name "range" p) [a] [] pos) (NF ta):=⟨by
 have f:=(od f).1;have d:=d.h;intro B s L H R I h;refine Call_ (Ut I f g boot_range (callWith_type1 (thn (d pos B s L H _ I h) λj i ⟨k,g,f,h,d⟩=>?_) hs rfl));obtain⟨j,e,d,g,q⟩:=d;subst e;cases h with
 | cons r h =>
  cases h;obtain⟨t,rfl⟩:=r
  exact call_range_1 (Gd f (by lia) (by lia) d g (by simpa using q))⟩
theorem Ko{a b:Expr}{ta:TA}(i:X.mg "range"=none)(f:QA X [a,b] ta)(g:nB X "range" .globalImplicit:=by kernel_rfl)(hs:starEach [a,b] X.env=[(false,eval a X.env),(false,eval b X.env)]:=by rfl)(d:starEach [b] X.env=[(false,eval b X.env)]:=by rfl) :
  QI X tg (.Call (.Name "range" p) [a,b] [] pos) (NM ta):=⟨by
 have g:=(od g).1;have f:=f.h;intro B s L H R I h;refine Call_ (Ut I g i boot_range (callWith_type1 (thn (f pos B s L H _ I h) λj i ⟨k,h,g,m,f⟩=>?_) (by rw[hs,d]) (by rw[d];rfl)));obtain⟨i,j,e,⟨f,h,k,l⟩,q⟩:=f;subst e;cases m with
 | cons r d =>
  cases d with
  | cons i d =>
   cases d;obtain⟨t,rfl⟩:=r;obtain⟨d,rfl⟩:=i
   exact call_range_2 (Gd g f h k l q)⟩
theorem Zb:QA X [] Vw:=⟨λ_ _ _ _ H Q I h=>mG ⟨[],H,I,.nil,h⟩⟩
theorem Za{t:TA}(d:QE X e te)(f:QA X es t)(hs:sEq X e es:=by rfl):QA X (e::es) (Uu te t):=⟨by
 have d:=d.h;have f:=f.h;intro pos B s L H Q I h;rw[hs];show wpAny _ _ (spliced ((false,eval e X.env)::backTo pos (starEach es X.env))) _ _ s;refine mF (thn (d B s L H _ I h) λu j ⟨x,d,g,i,h⟩=>?_)
 exact thn (f pos B j L d _ g h) λk j ⟨J,d,f,h,g⟩=>⟨x::J,d,f,.cons i h,g⟩⟩
theorem Yj {x1} {t:TA}(h:QA X es t):QE X (.Tuple es x1 pos) (QY t):=⟨by
 have h:=h.h;intro B s L H Q I d;refine wpAny_Tuple_spliced (thn (h pos B s L H _ I d) λj d ⟨J,f,g,r,z,q⟩=>⟨by rw[<- r.length];exact z,?_⟩);have i:f d.heap.objs.size=none:=g.iD.fresh (xF _);refine⟨.ref d.heap.objs.size,upd f d.heap.objs.size (.tup J),g.laid (t':=d.toks) (λb u e=>xH _ e) (xF _) ?_,rfl,q _ i⟩
 exact⟨z,j,r,⟨_,xW _ rfl,rfl,_,rfl⟩⟩⟩
theorem Yb{t:TA}(h:QA X es t):QE X (.List es pos) (Ru t):=⟨by
 have h:=h.h;intro B s L H Q I d;refine wpAny_List_spliced (thn (h pos B s L H _ I d) λj d ⟨J,f,g,r,z,q⟩=>⟨by rw[<- r.length];exact z,?_⟩);have i:f d.heap.objs.size=none:=g.iD.fresh (xF _);refine⟨.ref d.heap.objs.size,upd f d.heap.objs.size (.lst J),g.laid (t':=d.toks) (λb u e=>xH _ e) (xF _) ?_,rfl,q _ i⟩
 exact⟨z,j,0,r,xW _ rfl⟩⟩
theorem Aa(d:QT X a tA):QT X (.UnaryOp .Not a pos) (SR tA):=⟨by
 have d:=d.h;intro B s L H Q I h
 exact isTrue_not (d B s L H (λc d=>Q (!c) d) I h)⟩
theorem QW.pt(h:QW X e tA):QT X e tA:=⟨PW.pt h.h⟩
theorem Vx(d:QT X a tA):QW X (.BoolOp .And [a] pos) tA:=⟨by
 have d:=d.h;intro f B s L H Q I h;refine isTrue_and (thn (d B s L H Q I h) λc d e=>?_);cases c with
 | true=>exact isTrue_and_nil e
 | false=>exact e⟩
theorem Bm(d:QT X a tA):QW X (.BoolOp .Or [a] pos) tA:=⟨by
 have d:=d.h;intro f B s L H Q I h;refine isTrue_or (thn (d B s L H Q I h) λc d e=>?_);cases c with
 | false=>exact isTrue_or_nil e
 | true=>exact e⟩
theorem Wz{rest:List Expr}(d:QT X a tA)(f:QW X (.BoolOp .And (b::rest) pos) tB'):QW X (.BoolOp .And (a::b::rest) pos) (fN tA tB'):=⟨by
 have d:=d.h;have f:=f.h;intro j B s L H Q I h;refine isTrue_and (thn (d B s L H _ I h) λc i ⟨d,g,h⟩=>?_);cases c with
 | true=>exact f j B i L d Q g h
 | false=>exact⟨d,g,h⟩⟩
theorem AB{rest:List Expr}(d:QT X a tA)(f:QW X (.BoolOp .Or (b::rest) pos) tB'):QW X (.BoolOp .Or (a::b::rest) pos) (Ro tA tB'):=⟨by
 have d:=d.h;have f:=f.h;intro j B s L H Q I h;refine isTrue_or (thn (d B s L H _ I h) λc i ⟨d,g,h⟩=>?_);cases c with
 | true=>exact⟨d,g,h⟩
 | false=>exact f j B i L d Q g h⟩
theorem Zk(g:YT X (compareOp op) r)(d:QE X a ta)(f:QE X b tb)(i:behindInMarks op b=false):QT X (.Compare a [op] [b] pos) (Cz (JA r ta tb)):=⟨by
 have g:=g.h;have d:=d.h;have f:=f.h;intro B s L H Q I h
 refine wpAny_isTrue_Compare1 (thn (d B s L H _ I h) λv l ⟨x,d,h,k,j⟩=>thn (f B l L d _ h j) λu l ⟨y,d,f,j,h⟩=>
  thn (g B l L d x y v u _ f k j h) λc j ⟨z,d,f,h,k,e,g⟩=>?_) i
 subst e;cases h
 exact wpAny_truthy_bool ⟨d,f,g⟩⟩
theorem JF(g:YT X (compareOp op) r)(d:QE X a ta)(f:QE X b tb)(i:behindInMarks op b=false):QE X (.Compare a [op] [b] pos) (JA r ta tb):=⟨by
 have g:=g.h;have d:=d.h;have f:=f.h;intro B s L H Q I h
 exact wpAny_Compare1 (FG d f I h λv u k x y d f h j q=>g B k L d x y v u Q f h j q) i⟩
theorem Ly(j:YT X (compareOp op) r)(f:YT X (compareOp op') r')(d:QE X a ta)(g:QE X b tb)(i:QE X c tc)(m:lastMarks [op,op'] [b,c]=false:=by with_unfolding_all rfl):QE X (.Compare a [op,op'] [b,c] pos) (Kj r r' ta tb tc):=⟨by
 have j:=j.h;have f:=f.h;have d:=d.h;have g:=g.h;have i:=i.h;intro B s L H Q I h
 refine Compare_chain (thn (d B s L H _ I h) λv l ⟨x,d,h,n,k⟩=>chain_link (thn (g B l L d _ h k) λu k ⟨y,d,g,l,h⟩=>
  thn (j B k L d x y v u _ g n l h) λd o ⟨z,g,h,n,k,e,j⟩=>?_)) m
 subst e;cases n;refine wpAny_truthy_bool ?_;cases k with
 | false=>exact ite_ff ⟨.bl false,g,h,rfl,j⟩
 | true=>exact ite_tt (chain_last (thn (i B o L g _ h j) λk j ⟨m,d,g,i,h⟩=>f B j L d y m u k Q g l i h))⟩
theorem Bn(j:YT X (compareOp op) r)(f:YT X (compareOp op') r')(d:QE X a ta)(g:QE X b tb)(i:QE X c tc)(m:lastMarks [op,op'] [b,c]=false:=by with_unfolding_all rfl):QT X (.Compare a [op,op'] [b,c] pos) (Cz (Kj r r' ta tb tc)):=⟨by
 have j:=j.h;have f:=f.h;have d:=d.h;have g:=g.h;have i:=i.h;intro B s L H Q I h
 refine isTrue_chain (thn (d B s L H _ I h) λv l ⟨x,d,h,n,k⟩=>test_link (thn (g B l L d _ h k) λu k ⟨y,d,g,l,h⟩=>
  thn (j B k L d x y v u _ g n l h) λd o ⟨z,g,h,n,k,e,j⟩=>?_)) m
 subst e;cases n;refine wpAny_truthy_bool ?_;cases k with
 | false =>
  obtain⟨m,d,k⟩:=j;cases d;exact ite_ff ⟨g,h,k⟩
 | true =>
  refine ite_tt (test_last (thn (i B o L g _ h j) λk j ⟨m,d,g,i,h⟩=>thn (f B j L d y m u k _ g l i h) λj l ⟨m,d,f,i,k,g,h⟩=>?_));subst g;cases i
  exact wpAny_truthy_bool ⟨d,f,h⟩⟩
theorem Vi(h:QE X e te)(i:∀d,isTrue e X.env d=(do let v <- d;standAt e.pos;holding [v] (truthy v)):=by intro _;rfl):QT X e (tB te):=⟨by
 have h:=h.h;intro B s L H Q I d;refine isTrue_plain (thn (h B s L H _ I d) λv d ⟨x,f,g,k,j⟩=>?_) (i _);obtain⟨d,rfl,q⟩:=j;cases k
 exact wpAny_truthy_bool ⟨f,g,q⟩⟩
theorem Zc {i j pos}:QE X (.Constant (.int i) j pos) (tC (.int i)):=⟨λ_ _ _ H _ I h=>wpAny_Constant_int ⟨.int i,H,I.tok _,⟨_,rfl⟩,h⟩⟩
theorem Jf {b j pos}:QE X (.Constant (.bool b) j pos) (tC (.bl b)):=⟨λ_ _ _ H _ I h=>Constant_bool ⟨.bl b,H,I,rfl,h⟩⟩
theorem Y3 {j pos}:QE X (.Constant .none j pos) (tC .non):=⟨λ_ _ _ H _ I h=>Constant_none ⟨.non,H,I,rfl,h⟩⟩
theorem Zt {x j pos}:QE X (.Constant (.str x) j pos) (tC (.str x)):=⟨λ_ _ _ H _ I h=>Calls.Constant_str ⟨.str x,H,I.tok _,⟨_,rfl⟩,h⟩⟩
theorem qvN(i:Nat)(n:nB X x .local:=by kernel_rfl)(d:X.N[i]?=some x:=by rfl):QE X (.Name x pos) (YJ i):=⟨pvN i (od n) d⟩
abbrev Q0{X x p}:=@qvN X x p 0
abbrev Q3{X x p}:=@qvN X x p 1
abbrev Qa{X x p}:=@qvN X x p 2
abbrev Qb{X x p}:=@qvN X x p 3
abbrev Qc{X x p}:=@qvN X x p 4
abbrev Qd{X x p}:=@qvN X x p 5
abbrev Qe{X x p}:=@qvN X x p 6
abbrev Qf{X x p}:=@qvN X x p 7
abbrev Qg{X x p}:=@qvN X x p 8
theorem qvC(i:Nat)(n:Nm X.env.scope x .cell)(d:X.N[i]?=some x:=by rfl):QE X (.Name x pos) (YJ i):=⟨CU d (.inr (.inl n.1)) n.2.1 n.2.2.1⟩
theorem Yr{v:V}{u:gE}(d:X.mg x=some u)(r:ZG v u)(n:nB X x .globalImplicit:=by kernel_rfl):QE X (.Name x pos) (tC v):=⟨Nl (od n) d r⟩
theorem C6{v:V}{u:gE}(d:X.mg x=none)(f:bootBuiltins x=some u)(r:ZG v u)(n:nB X x .globalImplicit:=by kernel_rfl):QE X (.Name x pos) (tC v):=⟨bI (od n) d f r⟩
theorem Zu(g:YT X (binaryOp op) r)(d:QE X a ta)(f:QE X b tb):QE X (.BinOp a op b pos) (JA r ta tb):=⟨by
 have g:=g.h;have d:=d.h;have f:=f.h;intro B s L H Q I h
 exact wpAny_BinOp (FG d f I h λv u j x y d f h i q=>g B j L d x y v u Q f h i q)⟩
theorem Yw(f:KI X (unaryOp op) r)(d:QE X a ta):QE X (.UnaryOp op a pos) (RQ r ta):=⟨by
 have f:=f.h;have d:=d.h;intro B s L H Q I h
 exact UnaryOp_ (thn (d B s L H _ I h) λv j ⟨x,d,g,i,h⟩=>f B j L d x v Q g i h)⟩
theorem Ep {op} (h:QE X a ta):QE X (.BoolOp op [a] pos) ta:=⟨dU h.h⟩
theorem FA{rest:List Expr}(d:QE X a ta)(f:QE X (.BoolOp .And (b::rest) pos) tb):QE X (.BoolOp .And (a::b::rest) pos) (SH ta tb):=⟨by
 have d:=d.h;have f:=f.h;intro B s L H Q I h;refine BoolOp_and (thn (d B s L H _ I h) λv j ⟨x,g,h,i,d⟩=>?_);obtain⟨c,rfl,d⟩:=d;cases i;refine wpAny_truthy_bool ?_;cases c with
 | true=>exact f B j L g Q h d
 | false=>exact⟨.bl false,g,h,rfl,d⟩⟩
theorem NR(d:QT X c tA)(f:QE X a ta)(g:QE X b tb):QE X (.IfExp c a b pos) (SF tA ta tb):=⟨by
 have d:=d.h;have f:=f.h;have g:=g.h;intro B s L H Q I h;refine wpAny_IfExp (thn (d B s L H _ I h) λd k ⟨h,i,j⟩=>?_);cases d with
 | true=>exact f B k L h Q i j
 | false=>exact g B k L h Q i j⟩
theorem Uz:QO X none Pn:=⟨by
 intro B s L H Q I h;rw[evalPart_none]
 exact wpAny_pure ⟨none,H,I,.none,h⟩⟩
theorem U0(h:QE X e te):QO X (some e) (RS te):=⟨by
 have h:=h.h;intro B s L H Q I d;rw[evalPart_some];refine thn (h B s L H _ I d) λu i ⟨x,d,f,j,g⟩=>?_;obtain⟨i,rfl,q⟩:=g;obtain⟨t,rfl⟩:=j
 exact⟨some i,d,f,.int i t,q⟩⟩
theorem Tn{lo i:Option Expr}{k h:TO}{r:V->Option Int->Option Int->Hp->VK->Prop}(j:DO X r)(d:QE X e te)(f:QO X lo k)(g:QO X i h):QE X (.Subscript e (.Slice lo i none p2) pos) (QK r te k h):=⟨by
 have j:=j.h;have d:=d.h;have f:=f.h;have g:=g.h;intro B s L H Q I h;refine Subscript_ (thn (d B s L H _ I h) λv l ⟨x,d,h,z,k⟩=>?_);refine wpAny_Slice (thn (f B l L d _ h k) λf m ⟨l,d,h,s,k⟩=>thn (g B m L d _ h k) λg d ⟨u,h,k,w,y⟩=>?_);rw[evalPart_none];refine wpAny_pure ?_;have m:ZE X B L h {d with heap:=d.heap.push {cls:=.type "slice", data:=.fields #[f,g,.none] } }:=k.kept (t':=d.toks) λb k q=>xH _ q;obtain⟨T,id,k,o,n⟩:=j B {d with heap:=d.heap.push {cls:=.type "slice", data:=.fields #[f,g,.none] } } L h x v f g l u d.heap.objs.size Q m z (Heap.IsSliceOf.new ..) s w y;show wpAny (model X.prog X.w) X.A (subscriptTail e (.Slice lo i none p2) v (.ref d.heap.objs.size)) (EP X B L Q) X.xe {d with heap:=d.heap.push {cls:=.type "slice", data:=.fields #[f,g,.none] } }
 exact tail_any (ops:=[.ref d.heap.objs.size,v]) o k n (by with_unfolding_all rfl)⟩
theorem Zh(g:Bx X r)(d:QE X a ta)(f:QE X b tb)(hs:XQ b:=by exact λ_ _=>rfl):QE X (.Subscript a b pos) (JA r ta tb):=⟨by
 have g:=g.h;have d:=d.h;have f:=f.h;intro B s L H Q I h
 exact Subscript_ (FG d f I h λv u j x y d f h i q=>g a b B j L d x y v u Q f h i q (hs _ _))⟩
theorem Zl{k:Nat}{d:fZ}{sp:Sp}{t:TA}(F:Fn X.prog X.w X.K X.mg X.base x d k sp)(f:QA X (e::es) t)(h:ZL k X.A:=by exact ZL.mono (by assumption) (by first | decide | lia))(n:nB X x .globalImplicit:=by kernel_rfl)(g:sEq X e es:=by rfl)(d:sFq X pos es:=by rfl) :
  QE X (.Call (.Name x p) (e::es) [] pos) (JI sp t):=⟨Rb F h (od n) f.h g d⟩
theorem Z0{t:TA}{id:String}{r:List V->Hp->VK->Prop}(g:QC X (.builtin id) r)(i:X.mg x=none)(j:bootBuiltins x=some (.builtin id))(f:QA X (e::es) t)(n:nB X x .globalImplicit:=by kernel_rfl)(h:sEq X e es:=by rfl)(d:sFq X pos es:=by rfl):QE X (.Call (.Name x p) (e::es) [] pos) (BA r t):=⟨cT g.h (od n) i j f.h h d⟩
theorem Jm{t:TA}{T:String}{r:List V->Hp->VK->Prop}(g:QC X (.type T) r)(i:X.mg x=none)(j:bootBuiltins x=some (.type T))(f:QA X (e::es) t)(n:nB X x .globalImplicit:=by kernel_rfl)(h:sEq X e es:=by rfl)(d:sFq X pos es:=by rfl):QE X (.Call (.Name x p) (e::es) [] pos) (BA r t):=⟨OM g.h (od n) i j f.h h d⟩
def MF(r:List V->V->Hp->VK->Prop)(t:TA)(f:TE):TE:=λL H Q=>t L H λg d=>f L d λk d=>r g k d Q
theorem PB{o:Pos}{f:Expr}{t:TA}{g:TE}{id:String}{kw:Str}{r:List V->V->Hp->VK->Prop}(i:Mg X (.builtin id) kw r)(l:X.mg x=none)(m:bootBuiltins x=some (.builtin id))(h:QA X (e::es) t)(k:QE X f g)(n:nB X x .globalImplicit:=by kernel_rfl)(j:backTo pos (starEach (e::es) X.env)=(false,eval e X.env)::backTo pos (starEach es X.env):=by rfl)(d:(backTo pos (starEach (e::es) X.env)).any (·.1)=false:=by rfl) :
  QE X (.Call (.Name x p) (e::es) [⟨some kw,f,o⟩] pos) (MF r t g):=⟨OF i.h (od n) l m h.h k.h j d⟩
theorem Y4{o:Expr}{h:TE}{t:TA}{name:Str}{g d:Pos}{T id:String}{r:V->List V->Hp->VK->Prop}(y:PlainAttrs T)(l:Slot T name id)(w:typeOf (.builtin id)=pure (.type "method_descriptor"))(n:QM X id r)(v:QE X o h)(m:QA X (e::es) t)(i:attributeBase o name X.env (eval o X.env)=eval o X.env:=by rfl)(k:((backTo d (starEach (e::es) X.env)).all (λx=>!x.1)&&(backToKw d (keywordEach [] X.env)).all (λx=>x.1.isSome)
   && decide ((e::es).length+([]:List Keyword).length+(if ([]:List Keyword).isEmpty then 0 else 1)<30))=true:=by rfl)(j:(g.endLine==d.line)=true:=by rfl)(hs:sEq X e es:=by rfl)(f:(backTo d (starEach es X.env)).any (·.1)=false:=by rfl) :
  QE X (.Call (.Attribute o name g) (e::es) [] d) (ES X.K T r h t):=⟨by
 have n:=n.h;have v:=v.h;have m:=m.h;intro B s L H Q I h;refine wpAny_Call_method_late i k j rfl (thn (v B s L H _ I h) λv z ⟨x,j,g,i,A,s⟩=>?_);obtain⟨h,k⟩:=LS g i A;refine⟨T,id,y,l,w,h,k,?_⟩;have h:=m d B z L j _ g s;rw[hs] at h |-;refine mD (by show (false || (backTo d (starEach es X.env)).any (·.1))=false;rw[f]<;>rfl) (mE ?_)
 exact thn h λk j ⟨l,d,f,h,g⟩=>n B j L d x l v k Q f i h g⟩
theorem Y9:YT X (binaryOp .Add) (JE λi j=>.int (i+j)):=⟨GC λ_ _ _ _ _ _ _ q=>add_int q⟩
theorem Vy:YT X (binaryOp .Sub) (JE λi j=>.int (i - j)):=⟨GC λ_ _ _ _ _ _ _ q=>sub_int q⟩
theorem FN:YT X (binaryOp .Mult) (rI JP λi j=>.int (i * j)):=⟨opI λ_ _ _ _ _ _ _ d q=>mul_int q d.ok⟩
theorem CF:YT X (binaryOp .FloorDiv) (rI KS λi j=>.int (i / j)):=⟨opI λi j _ _ _ _ _ d q=>by
 have f:(0:Int)<j:=d.1;have f:j<1073741824:=d.2
 exact floordiv_int (by lia) (by rw[Int.fdiv_eq_ediv_of_nonneg i (by lia)];exact q) (.inl (PyProof.noPylong_small (by lia)))⟩
theorem B0:YT X (binaryOp .Mod) (rI (λ_ j=>0<j) λi j=>.int (i % j)):=⟨opI λi j _ _ _ _ _ d q=>by
 have f:(0:Int)<j:=d
 exact mod_int' (by lia) (by rw[Int.fmod_eq_emod_of_nonneg i (by lia)];exact q)⟩
theorem Et:YT X (binaryOp .Pow) (rI Ih λi j=>.int (i^j.toNat)):=⟨opI λ_ _ _ _ _ _ _ d q=>pow_int_small d.1 d.2.1 d.2.2 q⟩
theorem Yx:KI X (unaryOp .USub) (rU λi=>.int (-i)):=⟨by
 intro B s L H x v Q I d h;obtain⟨i,rfl,q⟩:=h;obtain⟨t,rfl⟩:=d
 exact neg_int ⟨.int (-i),H,I.tok _,⟨_,rfl⟩,q⟩⟩
def Rq(g:Str->Str->V):R2:=λx y H Q=>∃i j,x=.str i/\y=.str j/\Q (g i j) H
theorem Gw:YT X (compareOp .LtE) (Rq λi j=>.bl (!decide (j.cps.toList<i.cps.toList))):=⟨by
 intro B s L H x y v u Q I d f h;obtain⟨i,j,rfl,rfl,q⟩:=h;obtain⟨t,rfl⟩:=d;obtain⟨d,rfl⟩:=f
 exact P.le_str ⟨.bl _,H,I,rfl,q⟩⟩
def XH:R2:=λx y H Q=>∃i j,x=.str i/\y=.str j/\i.length+j.length<=sizeLine/\Q (.str (i++j)) H
theorem Dz:YT X (binaryOp .Add) XH:=⟨by
 intro B s L H x y v u Q I f g h;obtain⟨i,j,rfl,rfl,d,q⟩:=h;obtain⟨t,rfl⟩:=f;obtain⟨f,rfl⟩:=g
 exact add_str (λf g=>⟨.str (i++j),H,I.tok _,⟨_,rfl⟩,q⟩) d⟩
theorem Wj:YT X (binaryOp .Add) A4:=⟨by
 intro B s L H x y v u Q I f g h;obtain⟨l,b,J,k,rfl,rfl,d,i,j,q⟩:=h;cases f;cases g;obtain⟨z,f,n,r,g,e⟩:=I.iI d;obtain⟨l,d,k,j,h,g⟩:=I.iI i;refine PySem.P.add_list e g ?_ (by rw[xQ,xQ];lia);have g:f.toArray++d.toArray=(f++d).toArray:=by simp
 rw[g]
 exact⟨.ref _,_,I.lnew (t':=s.toks) (r.append j) (by rw[xE];lia),rfl,q _ I.fresh⟩⟩
theorem IK:YT X (binaryOp .Add) (Ak X.K):=⟨Po⟩
theorem KM:YT X (binaryOp .Mult) Fz:=⟨by
 intro B s L H x y v u Q I d i h;obtain⟨l,k,J,rfl,rfl,g,f,j,v,q⟩:=h;cases d;obtain⟨t,rfl⟩:=i;obtain⟨z,d,n,r,h,e⟩:=I.iI g;have i:d.toArray.size * k.toNat<=sizeLine:=by rw[xQ,<- h];exact v
 have g:¬d.toArray.size * k.toNat > (2^63 - 1) / 8:=by
  have:(sizeLine:Nat)<=(2^63 - 1) / 8:=by decide
  lia
 have h:¬(!Builtin.List.listFitsIndex k)=true:=by
  rw[fitsIndex_both f j];exact xN
 have f:¬Builtin.List.listTooLong (d.toArray.size * k.toNat)=true:=by
  rw[Ry i];exact xN
 have i:List.foldl (λj o=>j++o) #[] (List.replicate (if d.toArray.isEmpty=true then 0 else k.toNat) d.toArray)=(List.replicate k.toNat d).flatten.toArray:=by
  have w:∀m:Nat,List.foldl (λj o=>j++o) #[] (List.replicate m d.toArray)=(List.replicate m d).flatten.toArray:=λm=>by
   have:=Mc d m [];rw[zK] at this;exact this
  rw[w];cases d with
  | nil=>simp
  | cons a j=>rw[if_neg (by simp)]
 refine wpAny_binaryOp_repeat_ref (T:="list") (U:="int") aA ⟨_,e,rfl⟩ (λj=>typeIs_int j k t) noFill_list_mul F.fills_int_mul F.slot_int_rmul repeat_list F.slot_int_index.lookup
  (call_meets F.slot_int_rmul (typeIs_int s k t) F.entry_int_rmul (F.args_int_rmul_2 _ _) (int___rmul___int_list k t l d.toArray n)
   ⟨e,rfl,⟨_,e,rfl⟩,call_meets F.slot_list_mul ⟨_,e,rfl⟩ F.entry_list_mul (F.args_list_mul_2 _ _) (AutoListH.list___mul___list_int_3 l d.toArray n k t h g f) ⟨e,?_⟩⟩)
 rw[i]
 exact⟨.ref _,_,I.lnew (t':=s.toks) (r.rep k.toNat) (by rw[Qi,Nat.mul_comm];exact v),rfl,q _ I.fresh⟩⟩
theorem Yk:YT X (compareOp .Eq) CO:=⟨by
 intro B s L H x y v u Q I k d h;obtain⟨g,q⟩:=h;cases x with
 | non =>
  cases k;cases y with
  | non=>cases d;exact PySem.EqNone.eq_none_none (Y0 I q (by simp))
  | bl j=>cases d;exact PySem.EqNone.eq_none_bool (Y0 I q (by simp))
  | int j=>obtain⟨f,rfl⟩:=d;exact PySem.EqNone.eq_none_int (Y0 I q (by simp))
  | str j=>obtain⟨f,rfl⟩:=d;exact PySem.EqNone.eq_none_str (Y0 I q (by simp))
  | _=>exact absurd (show false=true from g) xN
 | bl i =>
  cases k;cases y with
  | non=>cases d;exact PySem.EqNone.eq_bool_none (Y0 I q (by simp))
  | bl j=>cases d;exact eq_bool (Y0 I q IH)
  | str j=>obtain⟨f,rfl⟩:=d;exact PySem.EqMixed.eq_bool_str (Y0 I q (by simp))
  | _=>exact absurd (show false=true from g) xN
 | int i =>
  obtain⟨t,rfl⟩:=k;cases y with
  | non=>cases d;exact PySem.EqNone.eq_int_none (Y0 I q (by simp))
  | int j=>obtain⟨f,rfl⟩:=d;exact eq_int (Y0 I q Ge)
  | str j=>obtain⟨f,rfl⟩:=d;exact PySem.EqMixed.eq_int_str (Y0 I q (by simp))
  | _=>exact absurd (show false=true from g) xN
 | str i =>
  obtain⟨t,rfl⟩:=k;cases y with
  | non=>cases d;exact PySem.EqNone.eq_str_none (Y0 I q (by simp))
  | bl j=>cases d;exact PySem.EqMixed.eq_str_bool (Y0 I q (by simp))
  | int j=>obtain⟨f,rfl⟩:=d;exact PySem.EqMixed.eq_str_int (Y0 I q (by simp))
  | str j=>obtain⟨f,rfl⟩:=d;exact eq_str (Y0 I q Kg)
  | _=>exact absurd (show false=true from g) xN
 | byt i =>
  obtain⟨t,rfl⟩:=k;cases y with
  | byt j=>obtain⟨f,rfl⟩:=d;exact PySem.W.eq_bytes (Y0 I q LP)
  | _=>exact absurd (show false=true from g) xN
 | _=>cases y<;>exact absurd (show false=true from g) xN⟩
theorem IY:YT X (compareOp .NotEq) fG:=⟨by
 intro B s L H x y v u Q I k d h;obtain⟨g,q⟩:=h;cases x with
 | non =>
  cases k;cases y with
  | non=>cases d;exact PySem.EqNone.ne_none_none (Y0 I q (by simp))
  | bl j=>cases d;exact PySem.EqNone.ne_none_bool (Y0 I q (by simp))
  | int j=>obtain⟨f,rfl⟩:=d;exact PySem.EqNone.ne_none_int (Y0 I q (by simp))
  | str j=>obtain⟨f,rfl⟩:=d;exact PySem.EqNone.ne_none_str (Y0 I q (by simp))
  | _=>exact absurd (show false=true from g) xN
 | bl i =>
  cases k;cases y with
  | non=>cases d;exact PySem.EqNone.ne_bool_none (Y0 I q (by simp))
  | bl j=>cases d;exact ne_bool (Y0 I q (congrArg not IH))
  | str j=>obtain⟨f,rfl⟩:=d;exact PySem.EqMixed.ne_bool_str (Y0 I q (by simp))
  | _=>exact absurd (show false=true from g) xN
 | int i =>
  obtain⟨t,rfl⟩:=k;cases y with
  | non=>cases d;exact PySem.EqNone.ne_int_none (Y0 I q (by simp))
  | int j=>obtain⟨f,rfl⟩:=d;exact ne_int (Y0 I q (congrArg not Ge))
  | str j=>obtain⟨f,rfl⟩:=d;exact PySem.EqMixed.ne_int_str (Y0 I q (by simp))
  | _=>exact absurd (show false=true from g) xN
 | str i =>
  obtain⟨t,rfl⟩:=k;cases y with
  | non=>cases d;exact PySem.EqNone.ne_str_none (Y0 I q (by simp))
  | bl j=>cases d;exact PySem.EqMixed.ne_str_bool (Y0 I q (by simp))
  | int j=>obtain⟨f,rfl⟩:=d;exact PySem.EqMixed.ne_str_int (Y0 I q (by simp))
  | str j=>obtain⟨f,rfl⟩:=d;exact ne_str (Y0 I q (congrArg not Kg))
  | _=>exact absurd (show false=true from g) xN
 | byt i =>
  obtain⟨t,rfl⟩:=k;cases y with
  | byt j=>obtain⟨f,rfl⟩:=d;exact PySem.W.ne_bytes (Y0 I q (congrArg not LP))
  | _=>exact absurd (show false=true from g) xN
 | _=>cases y<;>exact absurd (show false=true from g) xN⟩
theorem Vj:YT X (compareOp .Lt) (JE λi j=>.bl (decide (i<j))):=⟨DY λ_ _ _ _ _ _ _ q=>lt_int q⟩
theorem Vk:YT X (compareOp .LtE) (JE λi j=>.bl (decide (i<=j))):=⟨DY λ_ _ _ _ _ _ _ q=>le_int q⟩
theorem Jo:YT X (compareOp .Gt) (JE λi j=>.bl (decide (j<i))):=⟨DY λ_ _ _ _ _ _ _ q=>gt_int q⟩
theorem Ji:YT X (compareOp .GtE) (JE λi j=>.bl (decide (j<=i))):=⟨DY λ_ _ _ _ _ _ _ q=>ge_int q⟩
def NV:R2:=λx y H Q=>y=.non/\Q (.bl (decide (x=.non))) H
def Ng:R2:=λx y H Q=>y=.non/\Q (.bl (!decide (x=.non))) H
theorem OL:YT X (compareOp .Is) NV:=⟨by
 intro B s L H x y v u Q I d f h;obtain⟨rfl,q⟩:=h;cases f;refine is_none_gen (Y0 I q ?_);cases x<;>first
  | (cases d;rfl)
  | (obtain⟨t,rfl⟩:=d;rfl)⟩
theorem TV:YT X (compareOp .IsNot) Ng:=⟨by
 intro B s L H x y v u Q I d f h;obtain⟨rfl,q⟩:=h;cases f;refine isnot_none_gen (Y0 I q ?_);cases x<;>first
  | (cases d;rfl)
  | (obtain⟨t,rfl⟩:=d;rfl)⟩
theorem KB:YT X (compareOp .In) (DL X.K false):=⟨OD⟩
theorem Fc:YT X (compareOp .NotIn) (DL X.K true):=⟨NH⟩
theorem Z7:Bx X (AQ X.K):=⟨HP⟩
theorem Zi:Bx X (Jz X.K):=⟨Lj⟩
theorem E9:Bx X C4:=⟨Pa⟩
theorem Bo:DO X (BI X.K):=⟨fT⟩
theorem Kq:DO X (FF X.K):=⟨by
 intro B s L H x v i k lo f d Q I g j l m h;obtain⟨a,J,rfl,d,k,q⟩:=h;cases g;obtain⟨g,r,h,i⟩:=I.tuple d;have d:g.toArray.size=J.length:=by rw[xQ];exact r.length.symm
 refine⟨"tuple", _,PyProof.Rows.slot_tuple_getitem.lookup,h.typeIs,?_⟩;refine HT.getItem_tuple_cut h j l m (by rw[d];exact k) ?_ (by rw[d];exact i);rw[d];refine⟨.ref s.heap.objs.size,_,I.laid (t':=s.toks) (o:=.tup (Va J lo f)) (λb d q=>xH _ q) (xF _) ?_,rfl,q _ (I.iD.fresh (xF _))⟩
 exact⟨xZ (K3 J lo f) i,_,(r.drop (HT.sIx J.length 0 lo)).take (HT.sIx J.length J.length f - HT.sIx J.length 0 lo),IsTup.new _ _⟩⟩
def bU:V->Option Int->Option Int->Hp->VK->Prop:=λx lo d H Q=>∃z,x=.str z/\z.length<=sizeLine/\Q (.str (Txt.slice z lo d)) H
theorem DQ:DO X bU:=⟨by
 intro B s L H x v l m lo f k Q I j d g i h;obtain⟨z,rfl,f,q⟩:=h;obtain⟨t,rfl⟩:=j;obtain⟨l,rfl,rfl⟩:=Mu g;obtain⟨u,rfl,rfl⟩:=Mu i;refine⟨"str", _,F.slot_str_getitem.lookup,typeIs_str _ _ _,?_⟩;refine wpAny_getItem_str_slice (l:=l) (u:=u) (st:=none) d rfl (post_val_or_str ⟨xZ (Txt.slice_le z _ _) f,λd k=>?_⟩)
 exact⟨.str _,H,I.tok _,⟨d,rfl⟩,q⟩⟩
inductive JH(K:uFg)(J:aG)(H:Hp)(Q:VK):Prop
 |mk(p ys)(_:J=[.ref p])(_:(ZD K H p ys\/ZJ K H p ys))(_:Q (.int ys.length) H)
theorem Ym:QC X (.builtin "len") (JH X.K):=.imp ⟨eE⟩ λ_ _ _ ⟨p,y,a,b,k⟩=>⟨p,y,a,b,k⟩
def dW:List V->Hp->VK->Prop:=λJ H Q=>∃z,J=[.str z]/\z.length<=sizeLine/\Q (.int z.length) H
theorem El:QC X (.builtin "len") dW:=⟨by
 intro B s L H J d Q I r h;obtain⟨z,rfl,d,q⟩:=h;obtain⟨u,rfl,t,rfl⟩:=Tx r;have d:=Bc
 exact len_str (by lia) ⟨.int z.length,H,I.tok _,⟨_,rfl⟩,q⟩⟩
def Pd:List V->Hp->VK->Prop:=λJ H Q=>∃i j,J=[.int i,.int j]/\Q (.int (if j > i then j else i)) H
def NJ:List V->Hp->VK->Prop:=λJ H Q=>∃i j,J=[.int i,.int j]/\Q (.int (if j<i then j else i)) H
theorem Ed(d:X.calm=true):QC X (.builtin "max") Pd:=⟨by
 intro B s L H J f Q I r h;obtain⟨i,j,rfl,q⟩:=h;obtain⟨u,g,rfl,⟨t,rfl⟩,⟨f,rfl⟩⟩:=FB r;refine max_two_ints (I.ok.hd d) λd f k=>⟨_,H,I.kept k,?_,q⟩
 by_cases d:j > i
 .rw[if_pos d,if_pos d];exact⟨_,rfl⟩
 .rw[if_neg d,if_neg d];exact⟨_,rfl⟩⟩
theorem CZ(d:X.calm=true):QC X (.builtin "min") NJ:=⟨by
 intro B s L H J f Q I r h;obtain⟨i,j,rfl,q⟩:=h;obtain⟨u,g,rfl,⟨t,rfl⟩,⟨f,rfl⟩⟩:=FB r;refine min_two_ints (I.ok.hd d) λd f k=>⟨_,H,I.kept k,?_,q⟩
 by_cases d:j<i
 .rw[if_pos d,if_pos d];exact⟨_,rfl⟩
 .rw[if_neg d,if_neg d];exact⟨_,rfl⟩⟩
def cK(K:uFg):List V->Hp->VK->Prop:=λJ H Q=>∃(a:gF)(d:List Bool),J=[.ref a]/\ZD K H a (d.map V.bl)/\Q (.bl (d.all id)) H
theorem OS(j:X.calm=true):QC X (.builtin "all") (cK X.K):=⟨by
 intro B s L H J d Q I r h;obtain⟨a,f,rfl,g,q⟩:=h;obtain⟨u,rfl,m⟩:=Tx r;cases m;obtain⟨d,r,p,_⟩:=I.list g;have g:a<s.heap.objs.size:=by obtain⟨o,n,e,_⟩:=p;exact xU e
 refine call_all_walk (wpAny_pyIter_list p.isList ?_);refine⟨s.heap.objs.size,_,_,_,_,_,λi=>f.getD i true,rfl,Walks.list (A:=X.A.in1) (I.ok.hd j) _ a (yG g) d.toArray,⟨⟨_,xW _ rfl,rfl,rfl⟩,p.isList.push _⟩,?_,λw B y=>?_⟩
 .intro i v l k j g z;have g:d.toArray[i]?=some v:=g;have k:d[i]?=some v:=by simpa using g
  have j:f.length=d.length:=by have:=r.length;simpa using this
  have g:i<d.length:=(xI.mp k).1;have l:(f.map V.bl)[i]?=some (V.bl (f.getD i true)):=by grind
  obtain⟨u,n,m⟩:=r.get l;rw[k] at n;cases n;cases m;exact wpAny_truthy_bool z
 .have j:d.toArray.size=f.length:=by have:=r.length;simp at this |-;lia
  have e:(List.range d.toArray.size).all (λi=>f.getD i true)=f.all id:=by
   rw[j,zB,zV,zV];constructor
   .intro h b l;obtain⟨i,g,e⟩:=List.mem_iff_getElem.mp l;have:=h i (wQ.mpr g);rw[yD,xB g,e] at this;exact this
   .intro h i g;have g:=wQ.mp g;rw[yD,xB g];exact h _ (zN g)
  refine⟨.bl (f.all id),H,I.kept (h':=w) (t':=B) (λb o d=>y b o ?_ (xH _ d)),by rw[e];rfl,q⟩;intro z;have:b=s.heap.objs.size:=by simpa using z
  exact absurd (xU d) (by rw[this];exact zT _)⟩
def QX(K:uFg):List V->Hp->VK->Prop:=λJ H Q=>∃(a:gF)(d:List Int),J=[.ref a]/\ZD K H a (d.map V.int)/\(∀n∈d,-1000000000<=n/\n<=1000000000)/\d.length<=1000000/\Q (.int d.sum) H
theorem CB(C:X.calm=true):QC X (.builtin "sum") (QX X.K):=⟨by
 intro B s L H J d Q I r h;obtain⟨a,d,rfl,i,g,f,q⟩:=h;obtain⟨u,rfl,z⟩:=Tx r;cases z;obtain⟨f,B,p,_⟩:=I.list i;have v:a<s.heap.objs.size:=by obtain⟨o,n,e,_⟩:=p;exact xU e
 have r:d.length=f.length:=by have:=B.length;simpa using this
 have m:∀k,k<=d.length->preSum (λi=>d.getD i 0) k=(d.take k).sum:=by
  intro k
  induction k with
  | zero=>intro _;simp[preSum]
  | succ k y =>
   intro w;have j:k<d.length:=w;rw[preSum,y (zE j),xS,List.sum_append,yD,xB j];simp
 have k:∀l:List Int,(∀n∈l,-1000000000<=n/\n<=1000000000)->-1000000000 * (l.length:Int)<=l.sum/\l.sum<=1000000000 * (l.length:Int):=by
  intro l
  induction l with
  | nil=>intro _;simp
  | cons x l y =>
   intro h;have j:=h x yE;have j:=y λn l=>h n (xO _ l);rw[List.sum_cons,yJ];lia
 refine call_sum_walk (wpAny_pyIter_list p.isList ?_);refine⟨s.heap.objs.size,_,_,_,_,_,λi=>d.getD i 0,rfl,Walks.list (A:=X.A.in1) (I.ok.hd C) _ a (yG v) f.toArray,⟨⟨_,xW _ rfl,rfl,rfl⟩,p.isList.push _⟩,?_,?_,?_,λy E C w=>?_⟩
 .intro b g;show b<(s.heap.push _).objs.size;rw[wH];rcases xD.mp g with rfl | g
  .exact mh _
  .have:b=a:=by simpa using g
   subst this;exact mL v
 .intro i v j;have j:f.toArray[i]?=some v:=j;have h:f[i]?=some v:=by simpa using j
  have j:i<f.length:=(xI.mp h).1;have g:(d.map V.int)[i]?=some (V.int (d.getD i 0)):=by grind
  obtain⟨u,j,z⟩:=B.get g;rw[h] at j;cases j;exact z
 .intro j h;have h:j<f.toArray.size:=h;rw[xQ] at h;have h:j<d.length:=by lia
  refine⟨?_,?_⟩
  .show InLong (d.getD j 0);rw[yD,xB h];have:=g _ (zN h);show -(2^63)<=d[j]/\d[j]<2^63;lia
  .rw[m (j+1) h];have:=k (d.take (j+1)) λn l=>g n (wD l);have g:(d.take (j+1)).length<=1000000:=by rw[xR];lia
   show -(2^63)<=_/\_<2^63;lia
 .have e:preSum (λi=>d.getD i 0) f.toArray.size=d.sum:=by
   rw[xQ,<- r,m _ (xF _),xT]
  refine⟨.int d.sum,H,I.kept (h':=y) (t':=E) (λb o d=>w b o ?_ (xH _ d)),⟨C,by rw[e]⟩,q⟩;intro z;have:b=s.heap.objs.size:=by simpa using z
  exact absurd (xU d) (by rw[this];exact zT _)⟩
def II(K:uFg):List V->Hp->VK->Prop:=λJ H Q=>∃x n t b,J=[x,.ty n]/\YY K H x t/\kitOne K t (.type n)=some b/\Q (.bl b) H
theorem LM:QC X (.builtin "isinstance") (II X.K):=⟨Kd⟩
inductive UX(K:uFg)(J:aG)(H:Hp)(Q:VK):Prop
 |mk(p ys)(_:J=[.ref p])(_:(ZD K H p ys\/ZJ K H p ys))(_:∀l,H l=none->Q (.ref l) (upd H l (.lst ys)))
theorem JZ:QC X (.type "list") (UX X.K):=.imp ⟨HW⟩ λ_ _ _ ⟨p,y,a,b,k⟩=>⟨p,y,a,b,k⟩
def bP(K:uFg):V->List V->Hp->VK->Prop:=λx J H Q=>∃d a f,x=.str d/\J=[.ref a]/\ZD K H a (f.map V.str)/\(f.map (·.length)).sum+f.length * d.length<=16777216/\Q (.str (Txt.join d f)) H
theorem Px:QM X "str.join" (bP X.K):=⟨by
 intro B s L H x J v d Q I i g h;obtain⟨j,a,k,rfl,rfl,d,f,q⟩:=h;obtain⟨t,rfl⟩:=i;obtain⟨u,rfl,h⟩:=Tx g;cases h;obtain⟨g,r,p,_⟩:=I.list d
 exact join_list p.isList (NT r) f λd k=>⟨.str _,H,I.tok _,⟨d,rfl⟩,q⟩⟩
theorem Wa:QM X "list.append" VH:=⟨by
 intro B s L H x i v f Q I g d h;obtain⟨l,J,y,rfl,rfl,f,i,q⟩:=h;cases g;obtain⟨u,rfl,g⟩:=d.one;obtain⟨z,d,n,r,h,e⟩:=I.iI f;refine call_meets aE ⟨_,e,rfl⟩ F.entry_list_append (F.args_list_append_2 _ _) (PySem.list_append l d.toArray n u (by rw[xQ];lia)) ⟨e,?_⟩;refine⟨.non,_,I.lset (its':=d ++ [u]) f e (by simp) (r.append (.cons g .nil)) ?_,rfl,q⟩;rw[xE,zP]
 lia⟩
theorem dD:QM X "list.pop" AE:=⟨by
 intro B s L H x i v g Q I d f h;obtain⟨l,J,i,k,y,rfl,rfl,g,j,m,o,v,q⟩:=h;cases d;obtain⟨u,rfl,d⟩:=f.one;obtain⟨t,rfl⟩:=d;obtain⟨z,d,n,r,h,e⟩:=I.iI g;obtain⟨w,s,f⟩:=r.get v;refine call_meets F.slot_list_pop ⟨_,e,rfl⟩ F.entry_list_pop (F.args_list_pop_2 _ _)
  (MeetsSeq.list_pop_at l d.toArray n i t k w (fitsIndex_both j m) (by rw[xQ,<- h];exact o) (by rw[<- Array.getElem?_toList];exact s) (by rw[xQ];lia)) ⟨e,?_⟩
 refine⟨y,_,I.lset (its':=d.eraseIdx k) g e ?_ (r.eraseIdx k) ?_,f,q⟩
 .grind
 .have:=Lf J k
  lia⟩
end
theorem Ba{lo:Int}{n:Nat}(m:Nat)(e:n=m)(Pv:Nat->St->Hp->Prop)(c:Pv 0 L H)(hs:∀i L H,i<m->Pv i L H->g (.int (lo+i)) L H λa b=>tb {D with nx:=Pv (i+1),ct:=Pv (i+1),bk:=D.nx } a b)(d:∀ L H,Pv m L H->D.nx L H):Bw (Jn lo n) g tb D L H:=by
 subst e;exact MQ Pv c hs d
theorem Vl{K:uFg}{a:gF}(J:aG)(Pv:Nat->St->Hp->Prop)(d:Pv 0 L H)(f:∀i L H,i<=J.length->Pv i L H->ZD K H a J)(hs:∀i x L H,J[i]?=some x->Pv i L H->g x L H λb c=>tb {D with nx:=Pv (i+1),ct:=Pv (i+1),bk:=D.nx } b c)(e:∀ L H,Pv J.length L H->D.nx L H):Bw (JC K a) g tb D L H:=Nq Pv d f hs e
section
variable{X:Cx}{tg elt iter:Expr}{ifs:List Expr}{F:Scope}{pos:Pos}{locs:fZ}{fr:List (Str×Nat)}{g:TG}{tt:Te}{te:TE}
theorem Uc:FW X [] (λ_ H Q=>Q true H):=⟨λ_ _ _ H _ I h=>wpAny_tests_nil ⟨H,I,h⟩⟩
theorem JO(h:QT X c t):FW X [c] t:=⟨RG h.h⟩
structure KH (X:Cx) (F:Scope) (N':fZ) (tg:Expr) (ifs:List Expr) (elt:Expr) (g:TG) (tt:Te) (te:TE):Prop where
 h:∀(cl:List (Str×gF))(C:gF)(s0:gD)(H0:Hp)(ex:gC)(pn:List (gF×Obj)),QG (ccx X F cl C N' s0 H0 ex pn) tg g/\FW (ccx X F cl C N' s0 H0 ex pn) ifs tt/\QE (ccx X F cl C N' s0 H0 ex pn) elt te
theorem Vu{b:TI}(S:WG X F locs fr)(a:WC X F fr)(c:X.calm=true)(e:QI X tg iter b)(d:KH X F (inN locs fr) tg ifs elt g tt te)(hs:∀x,foldedSetIterable iter X.env x=pure x:=by intro _;rfl):QE X (.ListComp elt [⟨tg,iter,ifs,0⟩] F pos) (CH locs.length fr b g tt te) :=
 ⟨QU S a c e.h (λf C j e h i=>let ⟨a,b,c⟩:=d.h f C j e h i;⟨a.h,b.h,c.h⟩) hs⟩
theorem Bu{h:TI}{i:Nat}{x:Str}{a b:Pos}(S:WG X F locs fr)(c:WC X F fr)(j:X.calm=true)(k:QI X tg iter h)(d:KH X F (inN locs fr) tg ifs elt g tt te)(l:X.N.Nodup)(n:Nm X.env.scope x .local)(f:swapsWith (.ListComp elt [⟨tg,iter,ifs,0⟩] F pos) (some (.Name x a)) b.line X.env=pure true)(e:X.N[i]?=some x:=by rfl)(hs:∀x,foldedSetIterable iter X.env x=pure x:=by intro _;rfl):QS X (.Assign [.Name x a] (.ListComp elt [⟨tg,iter,ifs,0⟩] F pos) b) (Js (CH locs.length fr h g tt te) (Wr i)) :=
 ⟨So S c j k.h (λj C o h k m=>let ⟨a,b,c⟩:=d.h j C o h k m;⟨a.h,b.h,c.h⟩) l e n.1 f hs⟩
end
section
variable{X:Cx}{F:Scope}{cl:List (Str×gF)}{C:gF}{N':fZ}{s0:gD}{H0:Hp}{ex:gC}{pn:List (gF×Obj)}{x:Str}{pos:Pos}
theorem Yp(i:Nat)(n:Nm F x .local:=by decide +kernel)(a:N'[i]?=some x:=by rfl):QE (ccx X F cl C N' s0 H0 ex pn) (.Name x pos) (YJ i):=⟨pvL i a n.1 n.2.1 n.2.2.1⟩
theorem Wn(i:Nat)(n:Nm F x .free:=by decide +kernel)(a:N'[i]?=some x:=by rfl):QE (ccx X F cl C N' s0 H0 ex pn) (.Name x pos) (YJ i):=⟨pvF i a n.1 n.2.1 n.2.2.1⟩
theorem Wb(i:Nat)(a:N'.Nodup)(n:Nm F x .local:=by decide +kernel)(b:N'[i]?=some x:=by rfl):QG (ccx X F cl C N' s0 H0 ex pn) (.Name x pos) (Wr i):=⟨pgL i a b n.1⟩
end
section
variable{P:gG}{w:gH}{K:uFg}{mg:fY}{Z:Heap}
theorem YA.fnQ{x:Str}{st:Stmt}{N a:fZ}{k:Nat}{sp:Sp}(h:YA K mg x st)(S:ZM N a (Zm st))(d:∀ (kV doc pm:gE) (an:Option gF) (cdv ct:gE) (us:gA),us.length=a.length->bindArgs (fnOf x x (Vb st) (Yt st) (Zm st) .none kV doc pm an cdv ct) ⟨us,[]⟩=pure (a.zip us))(b:∀vs H Q E,sp vs H Q E->vs.length=a.length)(c:∀ (f:gF) (cdv:gE) (A:gI) (outer:List Env) (s:gD) (H:Hp) (vs:aG) (Q:VK) (E:XK),ZL k (A.deeper (envOfC x (Zm st) s.heap.objs.size f cdv))->sp vs H Q E -> ∃t,WT (Y8 WX P w K mg Z N x (Zm st) f cdv A outer s H E).iO (Yt st) t/\t {nx:=λ_ Y=>Q .non Y,rt:=Q } (start N vs) H):Fn P w K mg Z x a (k+1) sp :=
 h.fn S d b λf cdv A outer s H vs Q E d q=>let ⟨t,a,b⟩:=c f cdv A outer s H vs Q E d q;⟨t,a.h,b⟩
theorem BY(h:k<=60):ZL k (({}:gI).deeper e) :=
 ZL.deeper (ZL.mono (k:=61) ⟨rfl,aA,aA⟩ (by lia)) e
theorem YA.fq{x:Str}{st:Stmt}{b:fZ}{k:Nat}{sp:Sp}(h:YA K mg x st)(N:fZ)(a:∀{f:gF}{cdv:gE}{A:gI}{outer:List Env}{s:gD}(H:Hp) (vs:aG) (Q:VK) (E:XK),ZL k (A.deeper (envOfC x (Zm st) s.heap.objs.size f cdv))->sp vs H Q E->vs.length=b.length/\∃t,WT (Y8 WX P w K mg Z N x (Zm st) f cdv A outer s H E).iO (Yt st) t/\t {nx:=λ_ Y=>Q .non Y,rt:=Q } (start N vs) H)(S:ZM N b (Zm st):=by exact fsc)(d:k<=60:=by decide)(c:∀ (kV doc pm:gE) (an:Option gF) (cdv ct:gE) (us:gA),us.length=b.length->bindArgs (fnOf x x (Vb st) (Yt st) (Zm st) .none kV doc pm an cdv ct) ⟨us,[]⟩=pure (b.zip us):=by exact λ_ _ _ _ _ _=>by first | exact al1 λ_=>rfl | exact al2 λ_ _=>rfl | exact al3 λ_ _ _=>rfl | exact al4 λ_ _ _ _=>rfl | exact al5 λ_ _ _ _ _=>rfl | exact al6 λ_ _ _ _ _ _=>rfl | exact al7 λ_ _ _ _ _ _ _=>rfl | exact al8 λ_ _ _ _ _ _ _ _=>rfl):Fn P w K mg Z x b (k+1) sp :=
 h.fnQ S c (λvs H Q E h=>(a (f:=0) (cdv:=.none) (A:={}) (outer:=[]) (s:={}) H vs Q E (BY d) h).1) λ_ _ _ _ _ H vs Q E b q=>(a H vs Q E b q).2
end
theorem Vg(R:St->Hp->Prop)(d:∀ a Y,R a Y->u D a Y)(c:∀b:ZY,(∀ a Y,R a Y->b.nx a Y)->(∀v Y,D.rt v Y->b.rt v Y)->(∀ a Y,D.bk a Y->b.bk a Y)->(∀ a Y,D.ct a Y->b.ct a Y)->t b L H):Ug t u D L H :=
 c {D with nx:=u D } d (λ_ _ h=>h) (λ_ _ h=>h) (λ_ _ h=>h)
theorem opq{t:TS}{D:ZY}{L:St}{H:Hp}(h:∀b:ZY,(∀ a Y,D.nx a Y->b.nx a Y)->(∀v Y,D.rt v Y->b.rt v Y)->(∀ a Y,D.bk a Y->b.bk a Y)->(∀ a Y,D.ct a Y->b.ct a Y)->t b L H):t D L H:=h D (λ_ _ h=>h) (λ_ _ h=>h) (λ_ _ h=>h) (λ_ _ h=>h)
theorem Kw:(([a]:List Nat)<[b])↔a<b:=by
 constructor
 .intro h;rcases List.cons_lt_cons_iff.mp h with z | ⟨_,z⟩
  .exact z
  .exact absurd z (by simp)
 .intro h;exact List.cons_lt_cons_iff.mpr (.inl h)
theorem Z9(h:Q (L.set i (some v)) H):Wr i v L H Q:=h
theorem UI.okQ{P:gG}{w:gH}{K:uFg}{mg:fY}{Z:Heap}{x qual:Str}{st:Stmt}{f:gF}{d:FuncData}{N b:fZ}{k:Nat}{sp:Sp}(F:UI K x qual st f d)(S:ZM N b (Zm st))(a:∀vs H Q E,sp vs H Q E->vs.length=b.length)(c:∀cdv A outer s H vs Q E,ZL k (A.deeper (envOfC qual (Zm st) s.heap.objs.size f cdv))->sp vs H Q E -> ∃t,WT (Y8 WX P w K mg Z N qual (Zm st) f cdv A outer s H E).iO (Yt st) t/\t {nx:=λ_ Y=>Q .non Y,rt:=Q } (start N vs) H):YG P w K mg Z WX (k+1) f d b sp :=
 F.ok S a λcdv A outer s H vs Q E d q=>let ⟨t,a,b⟩:=c cdv A outer s H vs Q E d q;⟨t,a.h,b⟩
def DG(K:uFg):Sp:=λc H Q _=>∃(a:gF)(b:List Int),c=[.ref a]/\ZD K H a (b.map V.int)/\b.length<=63/\∀Y,Q (.bl true) Y
theorem walkLaw{l:PySem.W.OpenLaw}{q:gG}{loose:fZ}{XP:(fY)->Heap->Prop}{YP:gH->Heap->Prop}{d:DefRec}{K:Params->uFg}(g:l.most=some 63)(a:d.params.defaults=[])(e:∀w h,YP w h->(K w.params).In h)(F:∀w mg b h,(K w.params).In h->h.Ns mainGlobals mg->mg d.name=some (.ref b)-> ∃c:FuncData,(∀s u,BindsTo s c ⟨[u],[]⟩ [("_law_script", u)])/\∀Z:Heap,(K w.params).In Z->Z.Ns mainGlobals mg->YG l.prog w (K w.params) mg Z WX 40 b c ["_law_script"] (DG (K w.params))) :
  PySem.W.WalkO q loose XP YP l.row.toRowW d [] (λf vs=>PySem.call f vs) :=
 L2.walk_of (n:=63) (k:=40) (x:="_law_script") (CX:=λ_=>WX) (sp:=λw=>DG (K w.params)) g aA a ⟨rfl,aA,aA⟩ e F (λ_ _ a e c _ b=>⟨a,e,rfl,b,c,λ_=>rfl⟩) λ_ _ _ _ _ z=>z
section
variable{X:Cx}{F:Scope}{cl:List (Str×gF)}{C:gF}{N':fZ}{s0:gD}{H0:Hp}{ex:gC}{pn:List (gF×Obj)}{pos:Pos}{es:List Expr}{k:Nat}{t:Jd}
theorem Cv(n:Nat)(b:X.calm=true)(h:Bz (ccx X F cl C N' s0 H0 ex pn) es t)(c:(assignEach es (ccx X F cl C N' s0 H0 ex pn).env).length=n:=by rfl)(a:(assignEach es (ccx X F cl C N' s0 H0 ex pn).env).findIdx? (·.1)=none:=by rfl) :
  QG (ccx X F cl C N' s0 H0 ex pn) (.Tuple es k pos) (Tv X.K n t):=⟨IL (X:=ccx X F cl C N' s0 H0 ex pn) b h.h c a⟩
theorem JX:Bx (ccx X F cl C N' s0 H0 ex pn) (AQ X.K):=⟨HP (X:=ccx X F cl C N' s0 H0 ex pn)⟩
theorem JN:Bx (ccx X F cl C N' s0 H0 ex pn) (Jz X.K):=⟨Lj (X:=ccx X F cl C N' s0 H0 ex pn)⟩
theorem bH:QC (ccx X F cl C N' s0 H0 ex pn) (.type "list") (UX X.K):=.imp ⟨HW (X:=ccx X F cl C N' s0 H0 ex pn)⟩ λ_ _ _ ⟨p,y,a,b,k⟩=>⟨p,y,a,b,k⟩
theorem HJ:QC (ccx X F cl C N' s0 H0 ex pn) (.builtin "isinstance") (II X.K):=⟨Kd (X:=ccx X F cl C N' s0 H0 ex pn)⟩
end
section
variable{P:gG}{w:gH}{A:gI}{E:fX}{s:gD}{z TI TO i1 i2 l1 l2:gF}{S1 S2:Nat->Heap->Prop}{H1 H2:Heap->List gE->Prop}{k:Nat}{J ys:gA}{x y a b:gE}
end
section
variable{P:gG}{w:gH}{A:gI}{E:fX}{s:gD}
end
inductive D where
 | non | bl (b:Bool) | int (i:Int) | str (x:Str) | tup (J:List D) | lst (J:List D)
mutual
def YE(H:Hp):D->V->Prop
 | .non,v=>v=.non
 | .bl b,v=>v=.bl b
 | .int i,v=>v=.int i
 | .str x,v=>v=.str x
 | .tup S,v=>∃a b,v=.ref a/\H a=some (.tup b)/\ZO H S b
 | .lst S,v=>∃a b,v=.ref a/\H a=some (.lst b)/\ZO H S b
def ZO(H:Hp):List D->List V->Prop
 | [],a=>a=[]
 | d::S,a=>∃v r,a=v::r/\YE H d v/\ZO H S r
end
mutual
theorem YE.mono(k:ZA H Y):∀d v,YE H d v->YE Y d v
 | .non,v,h=>h
 | .bl b,v,h=>h
 | .int i,v,h=>h
 | .str x,v,h=>h
 | .tup S,v,h=>by
  obtain⟨a,b,e,c,f⟩:=h;exact⟨a,b,e,k _ _ c,ZO.mono k S b f⟩
 | .lst S,v,h=>by
  obtain⟨a,b,e,c,f⟩:=h;exact⟨a,b,e,k _ _ c,ZO.mono k S b f⟩
theorem ZO.mono(k:ZA H Y):∀S vs,ZO H S vs->ZO Y S vs
 | [],vs,h=>h
 | d::S,vs,h=>by
  obtain⟨v,r,e,a,b⟩:=h;exact⟨v,r,e,YE.mono k d v a,ZO.mono k S r b⟩
end
theorem ZO.length:∀{S:List D}{vs:aG},ZO H S vs->vs.length=S.length
 | [],vs,h=>by cases h;rfl
 | d::S,vs,h=>by
  obtain⟨v,r,rfl,b,a⟩:=h;rw[yJ,yJ,ZO.length a]
theorem ZO.get:∀{S:List D}{vs:aG}{i:Nat}{v:V},ZO H S vs->vs[i]?=some v->∃d,S[i]?=some d/\YE H d v
 | [],vs,i,v,h,e=>by cases h;simp at e
 | d::S,vs,i,v,h,e=>by
  obtain⟨w,r,rfl,a,b⟩:=h;cases i with
  | zero=>simp at e;subst e;exact⟨d,rfl,a⟩
  | succ i=>simp at e;exact ZO.get (i:=i) b e
theorem ZO.snoc(a:YE H d v):∀{S:List D}{vs:aG},ZO H S vs->ZO H (S ++ [d]) (vs ++ [v])
 | [],vs,h=>by cases h;exact⟨v,[],rfl,a,rfl⟩
 | e::S,vs,h=>by
  obtain⟨w,r,rfl,b,c⟩:=h;exact⟨w,r ++ [v],rfl,b,ZO.snoc a c⟩
mutual
def Bk:D->D->Bool
 | .non,.non=>true
 | .bl a,.bl b=>a==b
 | .int a,.int b=>a==b
 | .str a,.str b=>a==b
 | .tup a,.tup b=>BP a b
 | .lst a,.lst b=>BP a b
 | _,_=>false
def BP:List D->List D->Bool
 | [],[]=>true
 | a::r,b::s=>Bk a b&&BP r s
 | _,_=>false
end
mutual
theorem Ox:∀d:D,Bk d d=true
 | .non=>rfl
 | .bl _=>by simp[Bk]
 | .int _=>by simp[Bk]
 | .str _=>by simp[Bk]
 | .tup S=>by rw[Bk];exact FR S
 | .lst S=>by rw[Bk];exact FR S
theorem FR:∀S:List D,BP S S=true
 | []=>rfl
 | d::S=>by rw[BP,Ox d,FR S];rfl
end
mutual
def D.deep:D->Nat
 | .tup S=>Fg S+1
 | .lst S=>Fg S+1
 | _=>0
def Fg:List D->Nat
 | []=>0
 | d::S=>max d.deep (Fg S)
end
def isI:D->String->Bool
 | .non,_=>false
 | .bl _,c=>c=="bool" || c=="int"
 | .int _,c=>c=="int"
 | .str _,c=>c=="str"
 | .tup _,c=>c=="tuple"
 | .lst _,c=>c=="list"
def Le:List String:=["bool","int","str","list","tuple"]
theorem isi{K:uFg}{H:Hp}{d:D}{v:V}(r:YE H d v)(c:String)(e:c∈Le):∃t,YY K H v t/\kitOne K t (.type c)=some (isI d c):=by
 unfold Le at e;simp only[xD,xV,or_false] at e;cases d with
 | non=>cases r;refine⟨_,.non,?_⟩;rcases e with rfl | rfl | rfl | rfl | rfl<;>rfl
 | bl b=>cases r;refine⟨_,.bl b,?_⟩;rcases e with rfl | rfl | rfl | rfl | rfl<;>rfl
 | int i=>cases r;refine⟨_,.int i,?_⟩;rcases e with rfl | rfl | rfl | rfl | rfl<;>rfl
 | str x=>cases r;refine⟨_,.str x,?_⟩;rcases e with rfl | rfl | rfl | rfl | rfl<;>rfl
 | tup S=>obtain⟨a,g,rfl,b,f⟩:=r;refine⟨_,.tup b,?_⟩;rcases e with rfl | rfl | rfl | rfl | rfl<;>rfl
 | lst S=>obtain⟨a,g,rfl,b,f⟩:=r;refine⟨_,.lst b,?_⟩;rcases e with rfl | rfl | rfl | rfl | rfl<;>rfl
theorem ZO.iK(h:ZO H S vs)(k:ZA H Y):ZO Y S vs:=ZO.mono k S vs h
def Co(lo:Int)(n:Nat):It:=⟨λi _=>i<n,λi H x Y=>Y=H/\x=.int (lo - i),λi _=>n<=i⟩
theorem LQ{P:gG}{w:gH}{K:uFg}{a:Expr}(it:gF)(lo:Int)(n:Nat):VL P w K a (Co lo n) [it] it (λi h=>IsRangeIter h it (lo+(i:Nat) * (-1)) ((n:Int) - (i:Nat)) (-1)) where
 mem:=by simp
 obj:=λi h st b a=>by grind
 keep:=λi h d st k=>k it (by simp) _ st
 item:=by
  intro X r y p u i B s L H E I f st x;subst r y p;obtain⟨g,j,A,k,l,m⟩:=f it (by simp);have W:=Walks.range (prog:=X.prog) (w:=X.w) (I.ok.hd u) it lo (-1) n;refine W.item i s _ _ x st λv d z e c C=>?_;obtain⟨t,rfl⟩:=e;have v:ZE X B L H {s with heap:=d,toks:=z }:=I.turned (λb o a e=>C b o (by simpa using a) e) g j k l m;refine⟨_,rfl,Bv (s:={s with heap:=d,toks:=z }) (n:="range_iterator") c rfl rfl aA ⟨.int (lo - i),H,v,⟨t,?_⟩,⟨rfl,rfl⟩,c,λb a=>(f b a).1⟩⟩;have e:lo+(i:Int) * (-1)=lo - i:=by lia
  rw[e]
 done:=by
  intro X r y p u i B s L H E I f st x;subst r y p;obtain⟨g,j,A,k,l,m⟩:=f it (by simp);exact wpAny_pyNext_range_end (I.ok.hd u) st (by have:n<=i:=x;lia) λd c=>⟨rfl,I.turned (t':=s.toks) (λb o a e=>c b o a e) g j k l m⟩
 self:=λ_ _ _ _ _ st h=>wpAny_pyIter_rangeiter st h
section
variable{X:Cx}{tg:Expr}
theorem Pu{B:List (gF×Obj)}{L:St}{H:Hp}{s:gD}{R:It->Hp->Prop}{E:fX}{lo a:Int}{t u v:Tok}{d:Nat}(I:ZE X B L H s)(b : -(2^62)<=lo)(c:lo<2^62)(e : -(2^62)<=a)(f:a<2^62)(q:R (Co lo (lo - a).toNat) H):wpAny (model X.prog X.w) X.A (pyIter (.ref s.heap.objs.size)) (FT X B L tg R) E {s with heap:=s.heap.push {cls:=.type "range", data:=.fields #[.int lo t,.int a u,.int (-1) v] },toks:=d }:=by
 refine wpAny_pyIter_range (IsRange.new ..) (PySem.W.small_down b c e f) ?_;have c:ZE X B L H {s with heap:=s.heap.push {cls:=.type "range", data:=.fields #[.int lo t,.int a u,.int (-1) v] },toks:=d }:=I.kept λb o e=>xH _ e;refine⟨(s.heap.push {cls:=.type "range", data:=.fields #[.int lo t,.int a u,.int (-1) v] }).objs.size,[(s.heap.push {cls:=.type "range", data:=.fields #[.int lo t,.int a u,.int (-1) v] }).objs.size],_,_,H,rfl, c.kept (t':=d) λb o e=>xH _ e,LQ _ lo (lo - a).toNat,?_,λb g=>?_,q⟩
 .have d:lo+((0:Nat):Int) * (-1)=lo:=by simp
  have f:(((lo - a).toNat:Nat):Int) - ((0:Nat):Int)=Builtin.Range.rangeSize lo a (-1):=by rw[PySem.W.rangeSize_downNat];lia
  show IsRangeIter _ _ (lo+((0:Nat):Int) * (-1)) ((((lo - a).toNat:Nat):Int) - ((0:Nat):Int)) (-1);rw[d,f];exact xW _ rfl
 .have e:b=(s.heap.push {cls:=.type "range", data:=.fields #[.int lo t,.int a u,.int (-1) v] }).objs.size:=by simpa using g
  subst e;exact c.iw (xF _) (c.iD.fresh (xF _))
inductive Be(R:It->Hp->Prop)(vs:aG)(a:Hp):Prop
 |mk(i j)(_:vs=[.int i,.int j,.int (-1)])(_:(-(2^62)<=i/\i<2^62 /\ -(2^62)<=j/\j<2^62))(_:R (Co i (i - j).toNat) a)
def XX(a:TA):TI:=λL H R=>a L H λb a=>Be R b a
theorem Xh{a b c:Expr}{g:TA}{p pos:Pos}(i:X.mg "range"=none)(d:QA X [a,b,c] g)(e:nB X "range" .globalImplicit:=by kernel_rfl)(hs:starEach [a,b,c] X.env=(false,eval a X.env)::starEach [b,c] X.env:=by rfl)(f:(backTo pos (starEach [b,c] X.env)).any (·.1)=false:=by rfl) :
  QI X tg (.Call (.Name "range" p) [a,b,c] [] pos) (XX g):=⟨by
 have e:=(od e).1;have d:=d.h;intro B s L H R I h;refine Call_ (Ut I e i boot_range (callWith_type1 (thn (d pos B s L H _ I h) λi h ⟨j,e,g,b,d⟩=>?_) hs f));obtain⟨i,j,e,⟨d,f,h,k⟩,q⟩:=d;subst e;cases b with
 | cons r b =>
  cases b with
  | cons i b =>
   cases b with
   | cons e b =>
    cases b;obtain⟨t,rfl⟩:=r;obtain⟨b,rfl⟩:=i;obtain⟨b,rfl⟩:=e
    exact call_range_3 aA (Pu g d f h k q) (.inl (PyProof.noPylong_small aA))⟩
end
section
variable{g:TG}{tb:TS}{D:ZY}{L:St}{H:Hp}
theorem Ke{lo:Int}{n:Nat}(m:Nat)(e:n=m)(Pv:Nat->St->Hp->Prop)(c:Pv 0 L H)(hs:∀i L H,i<m->Pv i L H->g (.int (lo - i)) L H λa b=>tb {D with nx:=Pv (i+1),ct:=Pv (i+1),bk:=D.nx } a b)(d:∀ L H,Pv m L H->D.nx L H):Bw (Co lo n) g tb D L H:=by
 subst e;refine⟨λi k L H=>k=n - i/\i<=n/\Pv i L H,⟨n,rfl,yP _,c⟩,?_⟩;rintro i k L H ⟨rfl,a,p⟩
 by_cases e:i<n
 .refine .inr ⟨e,Pv (i+1),λb Y a=>⟨n - (i+1),by lia,rfl,by lia,a⟩,?_⟩;rintro x Y ⟨rfl,rfl⟩;exact hs i L Y e p
 .have:i=n:=by lia
  subst this;exact .inl ⟨xF _,d L H p⟩
end
section
variable{o:Expr}
inductive UN(y x:V)(H:Hp)(Q:VK):Prop
 |mk(a o)(_:x=.ref a)(_:YF H a y o)(_:Q (.bl (!o.isSome)) H)
inductive CG(y x:V)(H:Hp)(Q:VK):Prop
 |mk(a o)(_:x=.ref a)(_:YF H a y o)(_:Q (.bl o.isSome) H)
theorem SM(c:X.A.units+1<cLine):TK X (compareOp .NotIn) UN:=by
 intro B s L H y x h u Q I f e ⟨a,d,b,g,q⟩;subst b;obtain rfl:u=Value.ref a:=e;exact Ph c I g f λb a=>⟨.bl (!d.isSome),H,a,rfl,q⟩
theorem SZ(c:X.A.units+1<cLine):TK X (compareOp .In) CG:=by
 intro B s L H y x h u Q I f e ⟨a,d,b,g,q⟩;subst b;obtain rfl:u=Value.ref a:=e;exact RD c I g f λb a=>⟨.bl d.isSome,H,a,rfl,q⟩
theorem Hj(a:ZL k X.A):YT X (compareOp .NotIn) UN:=⟨SM (by have:=a.units;lia)⟩
theorem BL(a:ZL k X.A):YT X (compareOp .In) CG:=⟨SZ (by have:=a.units;lia)⟩
theorem Mn:QE X (.Dict [] [] pos) XA:=⟨λB s L H Q I h => wpAny_Dict_empty ⟨.ref s.heap.objs.size,_,I.laid (a:=s.heap.objs.size) (o:=.dT []) (t':=s.toks) (λ_ _ q=>xH _ q) (xF _) (OA s.heap I.big),rfl,h _ (I.iD.fresh (xF _))⟩⟩
theorem Jy(c:ZL k X.A)(b:QE X o td)(a:QE X i ty)(d:QE X value tv)(hs:swapsWith value (some (.Subscript o i pos')) pos.line X.env=pure false:=by rfl) :
  QS X (.Assign [.Subscript o i pos'] value pos) (Iy td ty tv):=⟨Sm (by have:=c.units;lia) b.h a.h d.h hs⟩
end
def Tq(H:Hp)(c:Int)(n:Str):gE->Bool
 | .ref a=>match H a with
  | some (.tup [.int a,.str b])=>decide ((a,b)=(c,n))
  | _=>false
 | _=>false
def Jx(H:Hp):List (Int×Str)->List V->Prop
 | [],c=>c=[]
 | p::r,c=>∃a b,c=.ref a::b/\H a=some (.tup [.int p.1,.str p.2])/\Jx H r b
theorem GJ{B:List (gF×Obj)}{L:St}{H:Hp}{s:gD}{A:gI}{a b:gF}{c d:Int}{n g:Str}(I:ZE X B L H s)(p:A.units<cLine)(j:H a=some (.tup [.int c,.str n]))(f:H b=some (.tup [.int d,.str g])) :
  SeqAt.EqAt A s (.ref a) (.ref b) (decide ((c,n)=(d,g))):=by
 by_cases e:a=b
 .subst e;rw[j] at f;injection f with f
  injection f with f
  injection f with i f
  injection f with k _
  injection i with i
  injection k with k
  rw[i,k,yR rfl];exact SeqAt.EqAt.same _
 .obtain⟨J,h,r,_⟩:=I.tuple (ZJ.of j);obtain⟨l,j,t,_⟩:=I.tuple (ZJ.of f);cases h with
  | cons l h=>cases h with
   | cons m h =>
    cases h;cases j with
    | cons h j=>cases j with
     | cons u j =>
      cases j;obtain⟨f,rfl⟩:=l;obtain⟨l,rfl⟩:=m;obtain⟨m,rfl⟩:=h;obtain⟨o,rfl⟩:=u
      have h:=SeqAt.RcAt.tuples (A:=A) (e:=λj=>if j=0 then c==d else n==g) (show s.heap.IsTuple a _ from r) (show s.heap.IsTuple b _ from t) p (λj i k=>by
       have b:j<2:=by simpa using i
       match j,b with
       | 0,_=>exact ml _ _ _ _
       | 1,_=>exact mn _ _ _ _)
      have b:((List.range (min ([Value.int c f,Value.str n l]:gA).toArray.size ([Value.int d m,Value.str g o]:gA).toArray.size)).all (λj=>if j=0 then c==d else n==g)&&([Value.int c f,Value.str n l]:gA).toArray.size==([Value.int d m,Value.str g o]:gA).toArray.size)=decide ((c,n)=(d,g)):=by
       show ((List.range 2).all (λj=>if j=0 then c==d else n==g)&&true)=_;rw[Bool.and_true];show ((c==d)&&((n==g)&&true))=_;rw[Bool.and_true,zB,yO,wM,Prod.mk.injEq,beq_iff_eq,beq_iff_eq]
      rw[b] at h;exact SeqAt.EqAt.of_refs e h
theorem Kn{B:List (gF×Obj)}{L:St}{H:Hp}{s:gD}{A:gI}{b:gF}{c:Int}{n:Str}(I:ZE X B L H s)(d:A.units<cLine)(i:H b=some (.tup [.int c,.str n])) :
  ∀{g:List (Int×Str)}{vs:aG}{us:gA},Jx H g vs->ZI vs us->(∀u∈us,SeqAt.EqAt A s u (.ref b) (Tq H c n u))/\us.any (Tq H c n)=decide ((c,n)∈g)
 | [],vs,us,h,r=>by
  cases h;cases r;exact⟨(λu d=>nomatch d),(by simp)⟩
 | p::g,vs,us,⟨a,vs',e,h1,h2⟩,r=>by
  subst e;cases r with
  | cons m o =>
   rename_i t v;obtain rfl:t=Value.ref a:=m;obtain⟨k,w⟩:=Kn I d i h2 o;have e:Tq H c n (.ref a)=decide ((p.1,p.2)=(c,n)):=by
    show (match H a with | some (.tup [.int j,.str l])=>decide ((j,l)=(c,n)) | _=>false)=_;rw[h1]
   refine⟨λu f=>?_,?_⟩
   .rcases xD.mp f with rfl | f
    .rw[e];exact GJ I d h1 i
    .exact k u f
   .grind
inductive Cy(K:uFg)(x y:V)(H:Hp)(Q:VK):Prop
 |mk(b p) (c) (n) (ps) (vs)(_:x=.ref b)(_:H b=some (.tup [.int c,.str n]))(_:y=.ref p)(_:ZD K H p vs)(_:Jx H ps vs)(_:Q (.bl (decide ((c,n)∈ps))) H)
theorem eG(h:X.A.units+1<cLine):TK X (compareOp .In) (Cy X.K):=by
 intro B s L H x y v u Q I i j ⟨b,p,c,n,k,l,a,e,d,g,f,q⟩;subst a d;obtain rfl:v=Value.ref b:=i;obtain rfl:u=Value.ref p:=j;obtain⟨a,r,i,b⟩:=I.list g;obtain⟨b,d⟩:=Kn (A:=X.A.in1) I (by show X.A.units+1<cLine;exact h) e f r;refine SeqAt.in_listAt (Tq H c n) i.isList (λw e=>b w (by simpa using e)) ⟨.bl _,H,I,rfl,?_⟩;rw[show a.toArray.any (Tq H c n)=a.any (Tq H c n) by simp,d];exact q
theorem Od(a:ZL k X.A):YT X (compareOp .In) (Cy X.K):=⟨eG (by have:=a.units;lia)⟩
section
variable{prog:gG}{w:gH}{K:Type} [DecidableEq K] {knd:HeapKind prog w K}{A:gI}{E:fX}{s:gD}
theorem fE{d a:gF}{J:List (K×gF×gE)}{k:K}{v:gE}{Q:fX}(c:knd.room A)(b:knd.is s.heap k a)(e:s.heap.DictOfH knd d J)(n:∀p,atKey J k=some p->Q p.2 {s with toks:=s.toks+knd.draws k })(r:atKey J k=none->∀h',h'.DictOfH knd d (storedH J k a v)->Heap.SameBut d s.heap h'->Q v {s with heap:=h',toks:=s.toks+knd.draws k })(hsz:J.length<=sizeLine):wpAny (model prog w) A (dictSetDefault d (.ref a) v) Q E s:=by
 obtain⟨o,j,f,h,t,g,l,i,m⟩:=e;unfold dictSetDefault
 try with_reducible refine wpAny_holding ?_
 refine wpAny_bind (knd.pyHash c b ?_);refine wpAny_bind (wpAny_dictFind_heap (s:={s with toks:=s.toks+knd.draws k }) c b h g l i m ?_ ?_)
 .intro c;have j:k∉J.map (·.1):=not_mem_keys_of_get c
  refine wpAny_bind (wpAny_rule (wpAny_bind (wpAny_updateDictKeys (hz:=by have e:=size_of_entries l;lia) (s:={s with toks:=s.toks+knd.draws k }) h g (wpAny_pure (r (atKey_none_of_get c) _ ⟨_,_,f+1,zO _ h (Obj.isFreed_of_dict (Obj.data_mapDictKeys g _)),
   t.mapDictKeys _,Obj.data_mapDictKeys g _,?_,?_,?_⟩ (mO ..))))))
  .rw[storedH_new (atKey_none_of_get c)];simp[l,entryOfKey]
  .rw[storedH_new (atKey_none_of_get c)];intro x f;rcases xJ.mp f with f | f
   .exact knd.keeps (i x f) h g (mO ..)
   .simp only[xP] at f;subst f;exact knd.keeps b h g (mO ..)
  .rw[storedH_new (atKey_none_of_get c)];rw[xM,List.nodup_append];refine⟨m,by simp,?_⟩;intro x f y b;simp only[yF,wO,xP] at b;subst b;exact λe=>j (e▸f)
 .intro j p b;refine wpAny_bind (wpAny_dictEntries (s:={s with toks:=s.toks+knd.draws k }) h g ?_);rw[entry_at l j,b];exact wpAny_bind (wpAny_rule (wpAny_pure (n _ (atKey_of_get m b))))
theorem SX(knd:HeapKind prog w K)(d a:gF)(g:(d==sysModules)=false)(dflt:gE) :
  MeetsIn prog w (Builtin.«dict.setdefault» ⟨[.ref d,.ref a,dflt],[]⟩) (λA R s=>knd.room A.in1/\∃k J,knd.is s.heap k a/\s.heap.DictOfH knd d J/\J.length<=sizeLine /\ (∀p,atKey J k=some p->R (.ok (.ret p.2)) {s with toks:=s.toks+knd.draws k })/\ (atKey J k=none->∀h',h'.DictOfH knd d (storedH J k a dflt)->Heap.SameBut d s.heap h'->R (.ok (.ret dflt)) {s with heap:=h',toks:=s.toks+knd.draws k })) :=
 .of_wp λA R s ⟨h,k,J,b,c,i,e,f⟩=>by
  unfold Builtin.«dict.setdefault»;refine wpAny_bind ?_;unfold Builtin.Dict.keyAndDefault;refine wpAny_bind (wpAny_notOrdered_dict c.typeIs ?_);show wpAny _ _ (pure (d,Value.ref a,some dflt)) _ _ s;refine wpAny_pure ?_;show wpAny _ _ (if (d==sysModules)=true then _ else (dictSetDefault d (.ref a) dflt >>= _)) _ _ s;rw[if_neg (by rw[g];exact xN)];exact wpAny_bind (fE h b c (λp b=>wpAny_pure ⟨p.2,rfl,e p b⟩) (λe h' b c=>wpAny_pure ⟨dflt,rfl,f e h' b c⟩) i)
end
section
variable{X:Cx}{B:List (gF×Obj)}{L:St}{H:Hp}{s:gD}{a b:gF}{z:V}{r:gE}{U:List (List ZT×V)}{k:List ZT}{A:gI}{E:fX}
theorem Qq{Q:fX}(f:A.units+1<cLine)(I:ZE X B L H s)(e:H a=some (.dT U))(h:H b=some (.tup (k.map kV)))(g:U.length<sizeLine)(w:ZG z r)(j:∀v,Z1 U k=some v->∀d c,ZE X B L H c->ZG v d->Q d c)(l:Z1 U k=none->∀c,ZE X B L (upd H a (.dT (Z4 U k z))) c->Q r c):wpAny (model X.prog X.w) A (call (.builtin "dict.setdefault") [.ref a,.ref b,r]) Q E s:=by
 obtain⟨g,i,J,c,d⟩:=Gj I.iD e;have m:J.length<=sizeLine:=by rw[<- m9 c];exact g
 have g:(Z4 U k z).length<=sizeLine:=by have:=Uh U k z;lia
 refine call_meetsIn PySem.F.slot_dict_setdefault d.typeIs PySem.F.entry_dict_setdefault (PySem.F.args_dict_setdefault_3 _ _ _) (SX (tupleKind (Wp X.prog X.w)) a b i r) ⟨tupleKind_room_in1 f,k,J,AV I.iD h,d,m,λp d=>?_,λm n f u=>?_⟩
 .have q:=c.val k;rw[d,wJ] at q;cases d:Z1 U k with
  | none=>rw[d] at q;cases q
  | some v=>rw[d] at q;exact j v d _ _ (I.tok _) q
 .have q:=c.val k;rw[m,Option.map_none] at q;have d:Z1 U k=none:=by
   cases d:Z1 U k with
   | none=>rfl
   | some v=>rw[d] at q;exact(show False from q).elim
  refine l d _ ?_;obtain⟨q,t,p,j,l,m,n,_,o⟩:=f;refine Df I (by rw[e];exact True.intro) u ⟨q,j⟩ ⟨g,i,_,(c.put k h w).keeps λc f d=>?_,q,t,p,j,l,m,n,o⟩;rw[Zf (Il d e (λz=>nomatch z))];exact d
end
inductive Tt(d c:TE)(L:St)(Q:VK)(x:V)(b:Hp):Prop
 |mk(a)(_:x=.ref a)(_:Ec b a)(_:d L b λy b=>c L b λz c=>∃U k b,c a=some (.dT U)/\y=.ref b/\c b=some (.tup (k.map kV))/\U.length<sizeLine/\(∀v,Z1 U k=some v->Q v c)/\(Z1 U k=none->Q z (upd c a (.dT (Z4 U k z)))))
def LO(a c b:TE):TE:=λL H Q=>a L H λx a=>Tt c b L Q x a
section
variable{n:Nat}
theorem Sj(N:X.A.units+1<cLine)(M:PE X o td)(F:PE X e ty)(G:PE X f tx)(m:M2 X o "setdefault" apos e f cpos):PE X (.Call (.Attribute o "setdefault" apos) [e,f] [] cpos) (LO td ty tx):=by
 intro B s L H Q I h;refine wpAny_Call_method m.base m.few m.line PySem.F.plainAttrs_dict PySem.F.slot_dict_setdefault PySem.F.type_dict_setdefault (thn (M B s L H _ I h) λu s1 ⟨x,l,i,Y,a,C,d,R⟩=>?_);subst C;obtain rfl:u=Value.ref a:=Y;obtain⟨t1,t2,_⟩:=LK i d;refine⟨t1,t2,?_⟩;rw[m.trees];refine mD rfl (mE (mF (thn (F B s1 L l _ i R) λP s2 ⟨y,p,r,Z,S⟩=> mF (thn (G B s2 L p _ r S) λfv s3 ⟨z,H3,t,j,U,k,b,w,E,A,J,T,W⟩=>mG ?_))));subst E;obtain rfl:P=Value.ref b:=Z;exact Qq N t w A J j (λv O w' s4 c g=>⟨_,_,c,g,T v O⟩) λK s4 c=>⟨_,_,c,j,W K⟩
theorem MR(d:ZL n X.A)(c:QE X o td)(a:QE X e ty)(b:QE X f tx)(m:M2 X o "setdefault" apos e f cpos:=by exact⟨rfl,rfl,rfl,rfl⟩):QE X (.Call (.Attribute o "setdefault" apos) [e,f] [] cpos) (LO td ty tx):=⟨Sj (by have:=d.units;lia) c.h a.h b.h m⟩
theorem GO(d:ZL n X.A)(c:QE X o td)(a:QE X e ty)(b:QE X f tx)(m:M2 X o "get" apos e f cpos:=by exact⟨rfl,rfl,rfl,rfl⟩):QE X (.Call (.Attribute o "get" apos) [e,f] [] cpos) (LZ td ty tx):=⟨Re (by have:=d.units;lia) c.h a.h b.h m⟩
end
def DZ(K:uFg)(l:gF):It :=
 ⟨λi H=>∃J,ZD K H l J/\i<J.length,λi H v Y=>∃p a,v=.ref p/\H p=none/\Y=upd H p (.tup [.int i,a])/\∀J,ZD K H l J->J[i]?=some a,
  λi H=>∃J,ZD K H l J/\J.length<=i⟩
theorem SN{P:gG}{w:gH}{K:uFg}{elts:List Expr}{ek:Nat}{epos:Pos}{e it l:gF}(hei:e≠it)(hle:l≠e)(hli:l≠it) :
  VL P w K (.Tuple elts ek epos) (DZ K l) [e,it] e (λi h=>(∃old,IsEnum h e it i old)/\h.IsListIter it l i) where
 mem:=by simp
 obj:=λi h st b hb=>by
  obtain⟨⟨old,he⟩,⟨o,ho,hc,hd⟩⟩:=st;simp only[xD,xV,or_false] at hb;rcases hb with rfl | rfl
  .exact⟨_,he,λv q=>by cases q⟩
  .exact⟨o,ho,λv q=>by rw[hd] at q;cases q⟩
 keep:=λi h h' st k=>by
  obtain⟨⟨old,he⟩,hit⟩:=st;exact⟨⟨old,k e (by simp) _ he⟩,hit.at λo x=>k it (by simp) o x⟩
 item:=by
  intro X hP hw hK hc i B s L H E I hf st hg;subst hP hw hK;obtain⟨⟨old,he⟩,hit⟩:=st;obtain⟨J,q1,hx⟩:=hg;obtain⟨its,r1,w1,_⟩:=I.list q1;have gx:J[i]?=some J[i]:=xB hx;obtain⟨u1,hu1,ru1⟩:=r1.get gx;refine wpAny_pyNext_enum_item he hit w1.isList (by simpa using hu1) hei λh' ho hit' hT hsz kp=>?_;refine⟨_,rfl,?_⟩;have hp:H s.heap.objs.size=none:=I.iD.fresh (xF _);have ltp:∀c o,s.heap.get? c=some o->c≠s.heap.objs.size:=λc o e=>yG (xU e);have kp':∀c o,c ∉ [e,it]->s.heap.get? c=some o->h'.get? c=some o:=λc o hc e=>kp c o (λq=>hc (by simp[q])) (λq=>hc (by simp[q])) e;have ntr:∀c u,H c=some u->c ∉ [e,it]:=λc u e hc=>by
   have:=(hf c hc).1;rw[this] at e;cases e
  have I1:ZE X B L (upd H s.heap.objs.size (.tup [.int i,J[i]])) {s with heap:=h',toks:=s.toks+1 }:=by
   refine I.step (g':=s.gens) (d':=s.drawn) (t':=s.toks+1) (ch:=[e,it]) (λc hc=>?_) (λc o _ _ hc e _=>kp' c o hc e) (λc o _ _ hc e _=>⟨o.slots,kp' c o hc e⟩) (λc o hc e n=>by rw[Zf (ltp c o e)];exact n)
    (λc o hc e=>⟨o,kp' c o hc e⟩) (λc us e=>by rw[Zf (Zo e hp)];exact e) (λc o u e=>by rw[Zf (Zo e hp)];exact e) (λc ps e=>⟨#[],by rw[Zf (Zo e hp),e];simp⟩) (λm hm=>?_) ?_ I.bare
   .obtain⟨f0,f1,f2,f3,f4,f5⟩:=hf c hc;exact⟨f3,f1,f4,f5⟩
   .refine hm.at λo e=>kp' _ o (λhc=>?_) e;exact(hf _ hc).2.1 rfl
   .intro c u e
    by_cases hcp:c=s.heap.objs.size
    .subst hcp;rw[Zj] at e;cases e;exact⟨aB rfl,[.int i s.toks,u1],.cons ⟨s.toks,rfl⟩ (.cons ru1 .nil),⟨_,hT,rfl,_,rfl⟩⟩
    .rw[Zf hcp] at e;refine(I.iD c u e).iV (λd v hd q=>kp' d v ?_ q) (λd q=>by rw[Zf (Zo q hp)];exact q) λd us q=>by rw[Zf (Zo q hp)];exact q
     rcases hd with rfl | hd
     .exact ntr _ u e
     .exact ntr _ _ hd
  refine wpAny_letOwnedTupleGo_enum (s:={s with heap:=h',toks:=s.toks+1 }) ho λh2 z2 e2=>?_;obtain⟨f0,f1,f2,f3,f4,f5⟩:=hf e (by simp);have nz:e≠s.heap.objs.size:=ltp e _ he;have I2:ZE X B L (upd H s.heap.objs.size (.tup [.int i,J[i]])) {s with heap:=h2,toks:=s.toks+1 }:=I1.turned (s:={s with heap:=h',toks:=s.toks+1 }) (it:=e) (t':=s.toks+1) (λc o hc e=>(e2.2 c hc).trans e) (by rw[Zf nz];exact f0) f1 f3 f4 f5;have z2':IsEnum h2 e it ((i+1:Nat):Int) u1:=by grind
  refine⟨.ref s.heap.objs.size,_,I2,rfl,⟨s.heap.objs.size,J[i],rfl,hp,rfl,λxs' q1'=>?_⟩,⟨⟨_,z2'⟩,hit'.at λo x=>(e2.2 it hei.symm).trans x⟩,λc hc=>?_⟩
  .rw[I.iH q1' q1];exact gx
  .obtain⟨o,ho⟩:∃o,s.heap.get? c=some o:=by
    simp only[xD,xV,or_false] at hc;rcases hc with rfl | rfl
    .exact⟨_,he⟩
    .obtain⟨o,x,_⟩:=hit;exact⟨o,x⟩
   rw[Zf (ltp c o ho)];exact(hf c hc).1
 done:=by
  intro X hP hw hK hc i B s L H E I hf st hg;subst hP hw hK;obtain⟨⟨old,he⟩,hit⟩:=st;obtain⟨J,q1,hend⟩:=hg;obtain⟨its,r1,w1,_⟩:=I.list q1;refine wpAny_pyNext_enum_end (I.ok.hd hc) he hit w1.isList (by have e1:=r1.length;simp;lia) λh' kp=>⟨rfl,?_⟩;obtain⟨f0,f1,f2,f3,f4,f5⟩:=hf it (by simp);exact I.turned (it:=it) (t':=s.toks) (λc o hc e=>kp c o hc e) f0 f1 f3 f4 f5
 self:=λA i s Q E st h=>by
  obtain⟨⟨old,he⟩,_⟩:=st;exact wpAny_pyIter_enum he h
inductive AR(K:uFg)(R:It->Hp->Prop)(vs:aG)(a:Hp):Prop
 |mk(l J)(_:vs=[.ref l])(_:ZD K a l J)(_:R (DZ K l) a)
def bM(K:uFg)(a:TA):TI:=λL H R=>a L H λb a=>AR K R b a
theorem bL:bootBuiltins "enumerate"=some (.type "enumerate"):=aA
theorem KW{X:Cx}{a:Expr}{f:TA}{p pos:Pos}{b:List Expr}{g:Nat}{c:Pos}(i:X.mg "enumerate"=none)(d:QA X [a] f)(e:nB X "enumerate" .globalImplicit:=by kernel_rfl)(hs:starEach [a] X.env=[(false,eval a X.env)]:=by rfl) :
  QI X (.Tuple b g c) (.Call (.Name "enumerate" p) [a] [] pos) (bM X.K f):=⟨by
 have e:=(od e).1;have d:=d.h;intro B s L H R I h;refine Call_ (Ut I e i bL (callWith_type1 (thn (d pos B s L H _ I h) λe d ⟨g,i,f,c,b⟩=>?_) hs rfl));obtain⟨l,J,e,g,q⟩:=b;subst e;obtain⟨j,rfl,b⟩:=Tx c;cases b;obtain⟨j,c,b,_⟩:=f.list g;have c:l<d.heap.objs.size:=by obtain⟨o,n,e,_⟩:=b;exact xU e
 refine call_enumerate_list b.isList λj g e _ k=>?_;refine wpAny_pyIter_enum g ?_;have b : @LT.lt Nat _ l d.heap.objs.size:=c;have c:∀(a b:Nat),(a<b\/b<a)->¬(@Eq Nat a b):=λa b h q=>by lia
 refine⟨d.heap.objs.size+1,_,_,_,i,rfl,f.kept (h':=j) (t':=d.toks) k,SN (it:=d.heap.objs.size) (l:=l) (c _ _ (by lia)) (c _ _ (by lia)) (c _ _ (by lia)),⟨⟨_,g⟩,e⟩,λc b=>?_,q⟩;have b:d.heap.objs.size<=c:=by grind
 exact f.iw b (f.iD.fresh b)⟩
theorem eI{K:uFg}{l:gF}{g:TG}{b:TS}{D:ZY}{L:St}{H:Hp}(J:aG)(Pv:Nat->St->Hp->Prop)(d:Pv 0 L H)(e:∀i L H,i<=J.length->Pv i L H->ZD K H l J)(hs:∀i x p L H,J[i]?=some x->Pv i L H->H p=none->g (.ref p) L (upd H p (.tup [.int i,x])) λa c=>b {D with nx:=Pv (i+1),ct:=Pv (i+1),bk:=D.nx } a c)(f:∀ L H,Pv J.length L H->D.nx L H):Bw (DZ K l) g b D L H:=by
 refine⟨λi m L H=>m=J.length - i/\i<=J.length/\Pv i L H,⟨J.length,by simp,yP _,d⟩,?_⟩;rintro i m L H ⟨rfl,a,p⟩;have b:=e i L H a p
 by_cases a:i<J.length
 .refine .inr ⟨⟨J,b,a⟩,Pv (i+1),λd Y c=>⟨J.length - (i+1),by lia,rfl,a,c⟩,λv Y y=>?_⟩;obtain⟨e,a,rfl,c,rfl,d⟩:=y;exact hs i a e L H (d J b) p c
 .have e:i=J.length:=by lia
  subst e;exact .inl ⟨⟨J,b,xF _⟩,f L H p⟩
structure ZU (K:uFg) (C:gF) (m qual:Str) (st:Stmt):Prop where
 ex:∃(f:gF)(fd:FuncData),UI K m qual st f fd/\Tf K C m f
structure Mt (P:gG) (w:gH) (K:uFg) (mg:fY) (base:Heap) (C:gF) (m:Str) (ps:fZ) (k:Nat) (sp:Sp):Prop where
 ex:∃(f:gF)(fd:FuncData),Tf K C m f/\YG P w K mg base WX k f fd ps sp/\YK K fd ps []
section
variable{P:gG}{w:gH}{K:uFg}{mg:fY}{Z:Heap}{C:gF}{m qual:Str}{st:Stmt}{N ps:fZ}{k:Nat}{sp:Sp}
theorem ZU.mtQ(h:ZU K C m qual st)(S:ZM N ps (Zm st))(d:∀ (kV doc pm:gE) (an:Option gF) (cdv ct:gE) (us:gA),us.length=ps.length->bindArgs (fnOf m qual (Vb st) (Yt st) (Zm st) .none kV doc pm an cdv ct) ⟨us,[]⟩=pure (ps.zip us))(b:∀vs H Q E,sp vs H Q E->vs.length=ps.length)(a:∀ (f:gF) (cdv:gE) (A:gI) (outer:List Env) (s:gD) (H:Hp) (vs:aG) (Q:VK) (E:XK),ZL k (A.deeper (envOfC qual (Zm st) s.heap.objs.size f cdv))->sp vs H Q E -> ∃t,WT (Y8 WX P w K mg Z N qual (Zm st) f cdv A outer s H E).iO (Yt st) t/\t {nx:=λ_ Y=>Q .non Y,rt:=Q } (start N vs) H):Mt P w K mg Z C m ps (k+1) sp:=by
 obtain⟨f,c,F,M⟩:=h.ex;exact⟨f,c,M,F.okQ S b (a f),F.binds d⟩
theorem ZU.mq(h:ZU K C m qual st)(N:fZ)(a:∀{f:gF}{cdv:gE}{A:gI}{outer:List Env}{s:gD}(H:Hp) (vs:aG) (Q:VK) (E:XK),ZL k (A.deeper (envOfC qual (Zm st) s.heap.objs.size f cdv))->sp vs H Q E->vs.length=ps.length/\∃t,WT (Y8 WX P w K mg Z N qual (Zm st) f cdv A outer s H E).iO (Yt st) t/\t {nx:=λ_ Y=>Q .non Y,rt:=Q } (start N vs) H)(S:ZM N ps (Zm st):=by exact fsc)(c:k<=60:=by decide)(b:∀ (kV doc pm:gE) (an:Option gF) (cdv ct:gE) (us:gA),us.length=ps.length->bindArgs (fnOf m qual (Vb st) (Yt st) (Zm st) .none kV doc pm an cdv ct) ⟨us,[]⟩=pure (ps.zip us):=by exact λ_ _ _ _ _ _=>by first | exact al1 λ_=>rfl | exact al2 λ_ _=>rfl | exact al3 λ_ _ _=>rfl | exact al4 λ_ _ _ _=>rfl | exact al5 λ_ _ _ _ _=>rfl | exact al6 λ_ _ _ _ _ _=>rfl | exact al7 λ_ _ _ _ _ _ _=>rfl | exact al8 λ_ _ _ _ _ _ _ _=>rfl):Mt P w K mg Z C m ps (k+1) sp :=
 h.mtQ S b (λvs H Q E h=>(a (f:=0) (cdv:=.none) (A:={}) (outer:=[]) (s:={}) H vs Q E (BY c) h).1) λ_ _ _ _ _ H vs Q E b q=>(a H vs Q E b q).2
theorem NP{f:gF}{oc:gE}{od an:Option gF}{osl:Array (Option gE)}{kV doc pm cdv ct:gE}(a:PySem.W.findIn K (.ref C) m=some (some (.ref f)))(i:isFn K (.ref f)=true)(l:K.lookup f=some ⟨oc,od,.func (fnOf m qual (Vb st) (Yt st) (Zm st) .none kV doc pm an cdv ct),osl⟩)(c:codeIn K cdv qual=true)(b:keepIn K (.ref f)=true):ZU K C m qual st:=⟨f,_,Fd l c b,⟨a,i,b⟩⟩
theorem hMQ(C:gF)(m qual:Str)(st:Stmt)(f c:gF)(pm:gE)(e:PySem.W.findIn K (.ref C) m=some (some (.ref f))/\isFn K (.ref f)=true/\K.lookup f=some ⟨.type "function", none,.func (fnOf m qual (Vb st) (Yt st) (Zm st) .none .none .none pm none (.ref c) .none),#[]⟩/\codeIn K (.ref c) qual=true/\keepIn K (.ref f)=true:=by walk_at "k"):ZU K C m qual st:=NP e.1 e.2.1 e.2.2.1 e.2.2.2.1 e.2.2.2.2
structure DM (P:gG) (w:gH) (K:uFg) (mg:fY) (base:Heap) (C:gF) (x:Str) (k:Nat) (sp:Sp):Prop where
 ex:∃(f:gF)(fd:FuncData),Mk K C f/\YG P w K mg base WX k f fd ["self"] sp/\YK K fd ["self"] []/\mg x=some (.ref C)
theorem Mt.mks(h:Mt P w K mg Z C "__init__" ["self"] k sp)(mk:makesIn K C=true)(b:keepIn K (.ref C)=true)(g:mg x=some (.ref C)):DM P w K mg Z C x k sp:=by
 obtain⟨f,a,M,F,B⟩:=h.ex;exact⟨f,a,⟨mk,M.at_,M.fn,b⟩,F,B,g⟩
end
section
variable{X:Cx}{C:gF}{m x f:Str}{ps:fZ}{k:Nat}{sp:Sp}{o e i:Expr}{es:List Expr}{ta:TE}{t:TA}{apos pos p:Pos}
theorem Jg{pl:Sem Bool}(h:QE X o ta)(c:VX X.K C)(M:Mt X.prog X.w X.K X.mg X.base C m ps k sp)(g:QA X (e::es) t)(j:ZL k X.A:=by exact ZL.mono (by assumption) (by first | decide | lia))(b:sEq X e es:=by rfl)(a:sFq X pos es:=by rfl)(l:eval (.Call (.Attribute o m apos) (e::es) [] pos) X.env=(do
   let d <- eval o X.env
   standAt apos.atName
   let (f,first) <- holding [d] (getMethod d m pl)
   callWith pos f first (backTo pos (starEach (e::es) X.env)) (backToKw pos (keywordEach [] X.env))):=by rfl) :
  QE X (.Call (.Attribute o m apos) (e::es) [] pos) (Do C m sp [] E0 ta t):=by
 obtain⟨f,d,M,F,B⟩:=M.ex;exact⟨fK h.h c M F j B .nil Dj g.h b a l⟩
theorem Lq{pl:Sem Bool}(b:QE X o ta)(c:VX X.K C)(M:Mt X.prog X.w X.K X.mg X.base C m ps k sp)(d:ZL k X.A:=by exact ZL.mono (by assumption) (by first | decide | lia))(g:eval (.Call (.Attribute o m apos) [] [] pos) X.env=(do
   let a <- eval o X.env
   standAt apos.atName
   let (f,first) <- holding [a] (getMethod a m pl)
   callWith pos f first (backTo pos (starEach [] X.env)) (backToKw pos (keywordEach [] X.env))):=by rfl) :
  QE X (.Call (.Attribute o m apos) [] [] pos) (Do C m sp [] E0 ta Vw):=by
 obtain⟨f,a,M,F,B⟩:=M.ex;exact⟨eK b.h c M F d B .nil Dj g⟩
theorem Io(M:DM X.prog X.w X.K X.mg X.base C x k sp)(a:ZL (k+1) X.A:=by exact ZL.mono (by assumption) (by first | decide | lia))(n:nB X x .globalImplicit:=by kernel_rfl):QE X (.Call (.Name x p) [] [] pos) (HC C sp [] E0 Vw):=by
 obtain⟨f,b,M,F,B,g⟩:=M.ex;exact⟨bQ M F a (od n).1 g B .nil Dj (od n).2.1⟩
theorem Z2(b:QE X e ta)(a:attributeBase e f X.env (eval e X.env)=eval e X.env:=by rfl):QE X (.Attribute e f pos) (Fu X.K ta f):=⟨GX b.h a⟩
theorem Ud(a:QE X o ta)(b:QE X value tv)(hs:swapsWith value (some (.Attribute o f pos')) pos.line X.env=pure false:=by rfl):QS X (.Assign [.Attribute o f pos'] value pos) (eP X.K ta tv f):=⟨by
 have a:=a.h;have b:=b.h;intro B s L H D I h;refine plainObj_wpAny_Assign_Attribute (thn (b B s L H _ I h) λu d ⟨y,b,c,s,q⟩=>thn (a B d L b _ c q) λh y ⟨x,u,b,r,a,C,v,w,g,d,c,n,l,j⟩=>?_) hs;subst g;obtain rfl:h=Value.ref a:=r
 exact Xe b d c n l s λb a=>⟨L,_,a,j⟩⟩
theorem B3:QE X (.Dict [] [] pos) Nz:=⟨λB s L H Q I h => wpAny_Dict_empty ⟨.ref s.heap.objs.size,_,I.laid (a:=s.heap.objs.size) (o:=.dK []) (t':=s.toks) (λ_ _ q=>xH _ q) (xF _) (L9 s.heap I.big),rfl,h _ (I.iD.fresh (xF _))⟩⟩
theorem Cs(c:ZL k X.A)(b:QE X o td)(a:QE X i ty)(hs:Ek i):QE X (.Subscript o i pos) (Kt td ty):=⟨Xl (by have:=c.units;lia) b.h a.h hs⟩
theorem NK(a:QE X ek tk)(b:QE X ev tw):QE X (.Dict [some ek] [ev] pos) (Mr [(tk,tw)]):=⟨Xa (Sl a.h b.h dG) rfl rfl (by simp) (by show 1<=15;decide)⟩
inductive BO(J:aG)(H:Hp)(Q:VK):Prop
 |mk(a U)(_:J=[V.ref a])(_:H a=some (.dK U))(_:Q (.int U.length) H)
theorem fS:QC X (.builtin "len") BO:=.imp ⟨XR⟩ λ_ _ _ ⟨p,y,a,b,k⟩=>⟨p,y,a,b,k⟩
end
theorem Pi(b:QE (ccx X F cl C N' s0 H0 ex pn) e ta)(a:attributeBase e f (ccx X F cl C N' s0 H0 ex pn).env (eval e (ccx X F cl C N' s0 H0 ex pn).env)=eval e (ccx X F cl C N' s0 H0 ex pn).env:=by rfl):QE (ccx X F cl C N' s0 H0 ex pn) (.Attribute e f pos) (Fu X.K ta f):=⟨GX (X:=ccx X F cl C N' s0 H0 ex pn) b.h a⟩
def stS(r:fZ)(x:Str):List Str:=if r.any (· == x) then r else r ++ [x]
def fmS(val:Nat->Str):Nat->List Str
 | 0=>[]
 | i+1=>stS (fmS val i) (val i)
theorem ER(val:Nat->Str):∀i,(fmS val i).length<=i
 | 0=>xF _
 | i+1=>by
  have a:=ER val i;unfold fmS stS;split
  .lia
  .rw[xE,zP];lia
theorem Ou(r:fZ)(v k:Str):(stS r v).any (· == k)=(r.any (· == k) || decide (k=v)):=by
 unfold stS
 by_cases h:r.any (· == v)=true
 .rw[if_pos h]
  by_cases e:k=v
  .subst e;rw[h];simp
  .simp[e]
 .grind
theorem Na(r:fZ)(v:Str):(stS r v).length=if r.any (· == v) then r.length else r.length+1:=by
 unfold stS;split<;>simp
section
variable{prog:gG}{w:gH}{A:gI}{R:Result->gD->Prop}{I:gF}{fp wr:gC}{G:Array GenState->Array GenState->Prop}{n:Nat}{P:Nat->gE->Prop}{St:Nat->gD->Prop}
theorem OZ(W:WalksS prog w A.in1 I fp wr G n P St)(S:gF)(j:S∉fp)(val:Nat->Str)(u:∀i v,P i v->∃t,v=.str (val i) t)(g:n+1<scanBound) :
  ∀(k i:Nat)(s:gD),n - i=k->i<=n->St i s->s.heap.SetOf (strKind prog w) S (λe=>(fmS val i).any (· == e)) (fmS val i).length ->
   (∀a,Moved (S::wr) G s a->a.heap.SetOf (strKind prog w) S (λe=>(fmS val n).any (· == e)) (fmS val n).length->R (.ok (.ret .none)) a)->
   codeAny (model prog w) A (.builtin "set.update.loop" ⟨[.ref S,.ref I],[]⟩) R s:=by
 have l:S∉wr:=λh=>j (W.sub _ h);have d:∀b∈wr,b∈S::wr:=λb g=>xO _ g;intro k
 induction k with
 | zero =>
  intro i s r m f B z;have c:i=n:=by lia
  subst c;refine codeAny_builtin F.entry_set_update_loop ?_;rw[mP mQ _];show wpAny _ A.in1 (pyNext (.ref I) >>= _) _ _ s;refine wpAny_bind (W.done s _ _ f λa p=>?_);show wpAny _ A.in1 (ret Value.none) _ _ a
  exact wpAny_pure (z a (p.mono d) (by
   obtain⟨o,y,x,t,C,c⟩:=B
   exact⟨o,y,x,t,p.heap S _ l C,c⟩))
 | succ k E =>
  intro i s r m f B z;have m:i<n:=by lia
  refine codeAny_builtin F.entry_set_update_loop ?_;rw[mP mQ _];show wpAny _ A.in1 (pyNext (.ref I) >>= _) _ _ s;refine wpAny_bind (W.item i s _ _ m f λv a f r p=>?_);obtain⟨t,rfl⟩:=u i v f;have f:a.heap.SetOf (strKind prog w) S (λe=>(fmS val i).any (· == e)) (fmS val i).length:=by
   obtain⟨o,y,x,u,C,c⟩:=B;exact⟨o,y,x,u,p.heap S _ l C,c⟩
  show wpAny _ A.in1 (holding [Value.str (val i) t] (setAdd S (.str (val i) t)) >>= _) _ _ a;refine wpAny_bind (wpAny_holding ?_);unfold setAdd;refine wpAny_holding ?_;refine wpAny_bind ((strKind prog w).pyHash (k:=val i) (strKind_is _ _ _ _) ?_);have c:(fmS val i).length+1<scanBound:=by have:=ER val i;lia
  refine wpAny_setAddHashed_of (knd:=strKind prog w) (s:={a with toks:=a.toks+1 }) (strKind_is _ _ _ _) rfl f c λt f c=>?_;have l:t.SetOf (strKind prog w) S (λe=>(fmS val (i+1)).any (· == e)) (fmS val (i+1)).length:=SetOf_congr c (λe=>(Ou _ _ _).symm) (Na _ _).symm;refine wpAny_pure ⟨plainId_quiet mQ _,E (i+1) _ (by lia) m (W.frame _ a _ _ r (mi _) λb g o e=>?_) l λl c a=>?_⟩
  .rw[f.2 b (λh:b=S=>j (by rw[<- h];exact g))];exact e
  .refine z l (Moved.trans W.gtrans ((p.mono d).then_heap (mi _) λb o g e=>?_) c) a;rw[f.2 b (λh:b=S=>g (by rw[h];exact yE))];exact e
end
section
variable{prog:gG}{w:gH}{A:gI}{E:fX}{s:gD}
theorem MK{l:gF}{items:Array gE}{val:Nat->Str}{Q:fX}(C:A.handled=none)(x:s.heap.IsList l items)(m:∀ (i:Nat) (v:gE),items[i]?=some v->∃t,v=.str (val i) t)(p:items.size+1<scanBound)(h:∀ (h':Heap) (u:Nat),h'.SetOf (strKind prog w) s.heap.objs.size (λf=>(fmS val items.size).any (· == f)) (fmS val items.size).length -> (∀b o,b<s.heap.objs.size->s.heap.get? b=some o->h'.get? b=some o)->Q (.ref s.heap.objs.size) {s with heap:=h',toks:=u }) :
  wpAny (model prog w) A (call (.type "set") [.ref l]) Q E s:=by
 obtain⟨c,d,a⟩:=F.called_set.mro;have a:=F.called_set.made;have a:=F.called_set.sub;refine wpAny_call (codeAny_of_tree ?_);show wpAny _ _ (callAny (.type "set") _) _ _ _;refine wpAny_pure ⟨Code.quiet_builtin _ aA,codeAny_builtin F.entry_type_call ?_⟩;rw[Around.under_plain (weight_type_call_type "set" [.ref l] []) rfl];have a:=F.called_set.notType;have a:=F.called_set.canCreate;have a:=F.typeCall_set_1 (.ref l)
 repeat (any_goals (first | assumption | wp_step))
 refine codeAny_mono (code_set_new_1 (.ref l) (E:=E) (Q₁:=λd c=>∃a:Bool,d=.ref s.heap.objs.size/\c={s with heap:=s.heap.push {cls:=.type "set", dict:=none,data:=.set #[] 0 (.fresh 0 0 a) } }) λa=>⟨a,rfl,rfl⟩) λr c t=>?_;cases r with
 | error e=>exact t
 | ok c =>
  cases c with
  | ret d =>
   obtain⟨a,rfl,rfl⟩:=t;have y:(s.heap.push {cls:=.type "set", dict:=none,data:=.set #[] 0 (.fresh 0 0 a) }).get? s.heap.objs.size=some {cls:=.type "set", dict:=none,data:=.set #[] 0 (.fresh 0 0 a) }:=xW _ rfl;have c:Shared.TypeIs {s with heap:=s.heap.push {cls:=.type "set", dict:=none,data:=.set #[] 0 (.fresh 0 0 a) } } (.ref s.heap.objs.size) "set" := ⟨_,y,rfl⟩;have d:=F.called_set.init.lookup;have d:=F.called_set.init.bind (.ref s.heap.objs.size)
   repeat (any_goals (first | assumption | wp_step))
   refine codeAny_mono (codeAny_call_builtin (R:=wants (λr d=>r=.none/\∃h' u,d={s with heap:=h',toks:=u }/\h'.SetOf (strKind prog w) s.heap.objs.size (λf=>(fmS val items.size).any (· == f)) (fmS val items.size).length /\ (∀b o,b<s.heap.objs.size->s.heap.get? b=some o->h'.get? b=some o)) E) F.called_set.init.plain F.entry_set_init (check_set_init_1 c ?_)) λn d c=>?_
   .obtain⟨G,k,g,z,j⟩:=x;obtain⟨B,f,x,d⟩:=G;simp only at g j;subst g;subst j;have g:(s.heap.push {cls:=.type "set", dict:=none,data:=.set #[] 0 (.fresh 0 0 a) }).get? l=some {cls:=.type "list", dict:=f,data:=.seq items z,slots:=d }:=xH _ k;have d:=F.sub_list_set;have d:=F.sub_list_frozenset;have d:(Value.type "list"==Value.type "dict")=false:=by decide
    have d:(s.heap.push {cls:=.type "set", dict:=none,data:=.set #[] 0 (.fresh 0 0 a) }).IsList l items:=⟨_,g,rfl,z,rfl⟩;unfold Builtin.«set.__init__» noKeywords Builtin.Frozenset.updateFrom;generalize f:pyIter=PI
    wp_walk
    subst f;refine wpAny_pyIter_list d ?_;refine wpAny_bind (wpAny_runValue ?_);have f:l<s.heap.objs.size:=xU k;have k:A.in1.in1.in1.handled=none:=by simp[C]
    have g:l≠(s.heap.push {cls:=.type "set", dict:=none,data:=.set #[] 0 (.fresh 0 0 a) }).objs.size:=by
     rw[wH];exact yG (mL f)
    have j:s.heap.objs.size ∉ [(s.heap.push {cls:=.type "set", dict:=none,data:=.set #[] 0 (.fresh 0 0 a) }).objs.size,l]:=by
     rw[wH];simp only[xD,xP,xV,or_false,not_or];exact⟨yG (mh _),Nat.ne_of_gt f⟩
    refine OZ ((Walks.list k _ l g items).toS) s.heap.objs.size j val m p (items.size - 0) 0 _ (by lia) (yP _) ⟨⟨_,xW _ rfl,rfl,rfl⟩,(d.push _)⟩ ?hS0 ?hR
    case hS0 =>
     have d:((s.heap.push {cls:=.type "set", dict:=none,data:=.set #[] 0 (.fresh 0 0 a) }).push {cls:=.type "list_iterator", data:=.fields #[.ref l,.int 0 0] }).get? s.heap.objs.size
       = some {cls:=.type "set", dict:=none,data:=.set #[] 0 (.fresh 0 0 a) }:=xH _ y
     exact SetOf_congr ((setObjOf_fresh (knd:=strKind prog w) a).setOf d (by unfold scanBound;lia)) (λ_=>rfl) rfl
    case hR =>
     intro x f d;obtain⟨h',m,k,j,g⟩:=x;have x:m=s.gens:=f.gens;have m:k=s.drawn:=f.drawn;have k:g=s.os:=f.os;subst x;subst m;subst k;show wpAny _ _ _ _ _ _;refine wpAny_pure ?_;show wpAny _ _ (ret Value.none) _ _ _;refine wpAny_pure ⟨rfl,h',j,rfl,d,λb o p e=>?_⟩;have g:b≠s.heap.objs.size:=yG p;have j:b≠(s.heap.push {cls:=.type "set", dict:=none,data:=.set #[] 0 (.fresh 0 0 a) }).objs.size:=by
      rw[wH];exact yG (mL p)
     exact f.heap b o (by simp only[xD,xP,xV,or_false,not_or];exact⟨g,j⟩) (xH _ (xH _ e))
   .cases n with
    | error e=>exact c
    | ok a =>
     cases a with
     | ret r =>
      obtain⟨rfl,h',u,rfl,d,a⟩:=c
      repeat (any_goals (first | assumption | wp_step))
      exact h _ _ d a
     | _=>exact c.elim
  | _=>exact t.elim
end
def FV(J:fZ):Nat:=(J.foldl stS []).length
theorem He(J:fZ):∀n,n<=J.length->fmS (λi=>J.getD i "") n=(J.take n).foldl stS []
 | 0,_=>rfl
 | n+1,h=>by
  show stS (fmS _ n) _=_;rw[He J n (by lia),List.take_succ_eq_append_getElem (by lia),wC];show stS _ (J.getD n "")=stS _ (J[n]);rw[yD,xB (by lia)];rfl
inductive Tz(K:uFg)(Q:VK)(vs:aG)(a:Hp):Prop
 |mk(l) (J)(_:vs=[.ref l])(_:ZD K a l (J.map V.str))(_:J.length<=1000)(_:Q (.int (FV J)) a)
def cL(K:uFg)(a:TA):TE:=λL H Q=>a L H λb a=>Tz K Q b a
theorem Mm{a:Expr}{h:TA}{p q pos e:Pos}(w:X.calm=true)(g:X.mg "len"=none)(i:X.mg "set"=none)(f:QA X [a] h)(b:nB X "len" .globalImplicit:=by kernel_rfl)(c:nB X "set" .globalImplicit:=by kernel_rfl)(hs:starEach [a] X.env=[(false,eval a X.env)]:=by rfl)(d:starEach [.Call (.Name "set" p) [a] [] pos] X.env=[(false,eval (.Call (.Name "set" p) [a] [] pos) X.env)]:=by rfl) :
  QE X (.Call (.Name "len" q) [.Call (.Name "set" p) [a] [] pos] [] e) (cL X.K h):=⟨by
 have b:=(od b);have c:=(od c);have f:=f.h;intro B s L H Q I h;refine wpAny_Call_Name_kw (Ut I b.1 g (show bootBuiltins "len"=some (.builtin "len") by decide +kernel) ?_ b.2.2.2 b.2.1);refine callWith_builtin1 ?_ d rfl;rw[d];refine mF ?_;refine wpAny_Call_Name_kw (Ut I c.1 i (show bootBuiltins "set"=some (.type "set") by decide +kernel) (callWith_type1 (thn (f pos B s L H _ I h) λi k ⟨j,h,g,b,l,J,e,d,f,y⟩=>?_) hs rfl) c.2.2.2 c.2.1);subst e;cases b with
 | cons r b =>
  cases b;obtain rfl:=r;obtain⟨b,r,f,c⟩:=g.list d;have c:b.length=J.length:=by rw[<- r.length,xA]
  obtain⟨o,n,l,m,d,s⟩:=f;have f:∀(i:Nat)(v:gE),b.toArray[i]?=some v->∃t,v=.str (J.getD i "") t:=λi v d=>by
   rw[<- Array.getElem?_toList] at d;have j:i<b.length:=by have:=(xI.mp d).1;simpa using this
   obtain⟨u,j,t,z⟩:=r.get (i:=i) (x:=.str (J.getD i "")) (by rw[xC,xB (by lia),yD,xB (by lia)];rfl);have d:b[i]?=some v:=d;rw[d] at j;cases j;exact⟨t,z⟩
  have d:b.toArray.size=J.length:=by rw[xQ,c]
  refine MK (items:=b.toArray) (val:=λi=>J.getD i "") (g.ok.hd w) ⟨o,l,m,n,s⟩ f (by unfold scanBound;lia) λj l c f=>?_;rw[d] at c;have m:ZE X B L h {k with heap:=j,toks:=l }:=g.kept λb u e=>f b u (xU e) e;refine mG ?_;obtain⟨b,o,d⟩:=c.objOf;obtain⟨c,b,r,t,g,_,_,f,n⟩:=d;have d:=ER (λi=>J.getD i "") J.length;have d:(b.size:Int)<2^63:=Int.lt_of_le_of_lt (show (b.size:Int)<=1000 by lia) aA;refine call_len_set (s:={k with heap:=j,toks:=l }) o c g n d ?_;refine⟨.int b.size,h,m.tok _,⟨_,rfl⟩,?_⟩;have e:b.size=FV J:=by
   rw[f,He J J.length (xF _),xT];rfl
  rw[e]
  exact y⟩
def LG(d:Heap)(H:Hp)(h:Heap)(a:gF)(vs:Array gE):Prop:=∃T b c e,vs[1]?=some (.ref T)/\T≠a/\h.get? T=some b/\b.data=.fields c/\c[3]?=some e/\H T=none/\d.get? T=none
theorem Kz{M:Model}{A:gI}{E:fX}{s:gD}{Z:Heap}{env:Env}{outer:List Env}{L e:gF}{f:Obj}{vs:Array gE}{d c:gE}{m:Bool}{Q:Unit->gD->Prop}(fr:A.frames=some (env::outer))(i:s.heap.FunFrames Z (env::outer))(l:env.frame=some L)(j:s.heap.get? e=some f)(p:Z.StaysIn s.heap)(x:Z.get? e=none)(de:f.data=.fields vs)(w:1<vs.size)(C:vs[0]?=some c)(k:∀h',Heap.NotedW Z (env::outer) e f.cls c (rawInt L) s.heap h'->(∃g,h'.get? e=some g/\g.dict=f.dict)->Q () {s with heap:=h' }) :
  wpAny M A (do let a <- frameOf env;let pl <- entryPlaceOf L m;let b <- EntryCells.newEntry d a .none (rawInt L) .none pl;setField (.ref e) 1 b) Q E s:=by
 have m:e∉(env::outer).filterMap (·.frame):=λz=>by obtain⟨_,o,g,n⟩:=i.mem z;rw[j] at g;cases g;exact n vs de
 refine wpAny_bind (wpAny_frameOf_fun fr i l λc g=>wpAny_bind (wpAny_entryPlaceOf λpl v=>?_));unfold EntryCells.newEntry newFields;refine wpAny_bind (wpAny_newObj_type ?_ (v.sizeOk5 _ _ _ _ _));have l:c.get? e=some f:=(g.2.1 e m).trans j;have t:Z.StaysIn c:=λb o z=>(g.2.1 b λy=>by rw[(i.mem y).1] at z;cases z).trans (p b o z);generalize m:({cls:=.type "traceback", dict:=none,data:=.fields ([d,.ref L,.none,rawInt L,.none]++(if pl.isEmpty then List.replicate 6 Value.none else pl)).toArray }:Obj)=d;have u:c.objs.size≠e:=Nat.ne_of_gt (xU l);have p:=xH (h:=c) d l;have l:=mR de (·.setIfInBounds 1 (Value.ref c.objs.size));have r:=zO (Obj.mapFields (·.setIfInBounds 1 (Value.ref c.objs.size))) p (Obj.isFreed_of_fields l);have B:((c.push d).update e (Obj.mapFields (·.setIfInBounds 1 (Value.ref c.objs.size)))).get? c.objs.size=some d:=(yQ _ _ (Ne.symm u)).trans (xW c (by rw[<- m];rfl));have f:∀b o,b≠e->c.get? b=some o->((c.push d).update e (Obj.mapFields (·.setIfInBounds 1 (Value.ref c.objs.size)))).get? b=some o:=λb o n z=>(yQ _ _ (Ne.symm n)).trans (xH _ z);have c:∀b o,s.heap.get? b=some o->(∀vs,o.data ≠ .fields vs)->b≠e:=λb o z n q=>by rw[q,j] at z;cases z;exact n vs de
 refine wpAny_setField p de w (k _ ⟨λb o z=>f b o (λq=>by rw[q,x] at z;cases z) (t b o z),i.of_keeps λb o z n=>?_,⟨_,_,_,_,_,r,⟨Obj.cls_mapFields _ _,?_⟩,l,by simp[w],t.fresh,u,B,by rw[<- m],?_⟩,λb o z n=>?_⟩ ⟨_,r,?_⟩)
 .obtain⟨d,y⟩:=g.2.2 b o z;exact⟨_,f b _ (c b o z n) y,rfl⟩
 .rw[Array.getElem?_setIfInBounds_ne aA];exact C
 .first | (simp;done) | (rcases v with rfl | ⟨_,_,_,_,_,_,_,rfl⟩<;>simp)
 .obtain⟨d,y⟩:=g.2.2 b o z;exact⟨d,f b _ (c b o z n) y⟩
 .unfold Obj.mapFields;split<;>rfl
def DA(a:Obj)(C:gF):Prop:=a.cls=.ref C/\a.dict=none
def Ta(d:Heap)(H:Hp)(h:Heap)(a C:gF):Prop:=H a=none/\d.get? a=none/\∃c b e,h.get? a=some c/\DA c C/\c.data=.fields b/\b[0]?=some e/\(b[1]?=some .none\/LG d H h a b)
def Ci(d:Heap)(H:Hp)(h:Heap)(a C:gF):Prop:=H a=none/\d.get? a=none/\∃b c e,h.get? a=some b/\DA b C/\b.data=.fields c/\c[0]?=some e/\LG d H h a c
theorem Ci.at_(x:Ci h0 H h a C):Ta h0 H h a C:=let ⟨p,q,i,j,b,c,d,e,f,g⟩:=x;⟨p,q,i,j,b,c,d,e,f,.inr g⟩
def UZ(P:gG)(w:gH):UR:=λb H s E e c=>∃a C Y,e=.ref a/\c.os=s.os/\AllBare c.gens/\Un (frs b) [] H Y s.heap c.heap/\YO P w Y c.heap/\Ta s.heap Y c.heap a C/\E (.ref C) none Y
structure Xp (X:Cx) (E:St->XK):Prop where
 h:∀B L H s a C,ZE X B L H s->Ta X.s₀.heap H s.heap a C->E L (.ref C) none H->X.xe (.ref a) s
theorem ZQ.ex(x:ZQ P w H h a o):∃u,h.get? a=some u:=by
 cases o with
 | lst J=>obtain⟨_,_,_,_,e⟩:=x;exact⟨_,e⟩
 | tup J=>obtain⟨_,_,_,_,e,_⟩:=x;exact⟨_,e⟩
 | dK U=>obtain⟨_,_,_,_,o,_,_,e,_⟩:=x;exact⟨_,e⟩
 | dT U=>obtain⟨_,_,_,_,o,_,_,e,_⟩:=x;exact⟨_,e⟩
 | set S n=>obtain⟨o,_,_,_,e,_⟩:=x;exact⟨_,e⟩
 | ins C c b=>obtain⟨_,_,_,e,_⟩:=x;exact⟨_,e⟩
 | own y=>exact x
 | xd b=>obtain⟨_,⟨_,_,_,e,_⟩,_⟩:=x;exact⟨_,e⟩
 | rng lo b=>obtain⟨_,_,_,e⟩:=x;exact⟨_,e⟩
 | frz b u=>obtain⟨e,_⟩:=x;exact⟨_,e⟩
 | tbl b=>obtain⟨_,_,_,e,_⟩:=x;exact⟨_,e⟩
 | met f y=>exact⟨_,x⟩
 | ext b=>obtain⟨_,e,_⟩:=x;exact e
theorem ZE.stepN{g':Array GenState}{t':Nat}{d':Drawn}{ch:gC}(I:ZE X [] L H s)(t:X.pn=[])(d:∀b∈ch,X.s₀.heap.get? b=none/\b≠X.env.locals/\∀x c,X.env.cells.lookup x=some c->c≠b)(keep:∀b o,b≠X.env.locals->b∉X.fs->b∉ch->s.heap.get? b=some o->H b=none->h'.get? b=some o)(f:∀b o,b≠X.env.locals->b∈X.fs->b∉ch->s.heap.get? b=some o->H b=none->∃w,h'.get? b=some {o with slots:=w })(i:∀b o,b∉ch->s.heap.get? b=some o->∃u,h'.get? b=some u)(ns:∀m,s.heap.Ns X.env.locals m->h'.Ns X.env.locals m)(r:YO X.prog X.w H h')(y:AllBare g') :
  ZE X [] L H {s with heap:=h',gens:=g',drawn:=d',toks:=t' }:=by
 have l:∀b o,X.s₀.heap.get? b=some o->b≠X.env.locals:=λb o e=>yG (yL (xU e) I.ok.above);have h:∀b o,X.s₀.heap.get? b=some o->b∉ch:=λb o e g=>by
  have:=(d b g).1;rw[e] at this;cases this
 have a:∀x c,X.env.cells.lookup x=some c->∀v,s.heap.IsCell c v->h'.IsCell c v:=λx c e v ⟨o,p,n⟩=>by
  have j:c∉ch:=λz=>(d c z).2.2 x c e rfl
  by_cases d:c∈X.fs
  .obtain⟨w,q⟩:=f c o (I.cne x c e) d j p (I.ix x c e);exact⟨_,q,n⟩
  .exact⟨o,keep c o (I.cne x c e) d j p (I.ix x c e),n⟩
 refine⟨I.ok,I.os,y,⟨λb o e n g d=>?_,λb o e n g d=>?_,λb o e n d=>I.base.free b o e n d,λb o e d=>?_,I.base.o9,I.base.iz,I.base.iZ⟩,?_,λx c e=>?_,I.free,I.ix,λp y=>?_,r,I.len⟩
 .exact keep b o (l b o e) g (h b o e) (I.base.keep b o e n g d) (I.base.free b o e n d)
 .obtain⟨w,j⟩:=I.base.slot b o e n g d;obtain⟨r,p⟩:=f b _ (l b o e) g (h b o e) j (I.base.free b o e n d);exact⟨r,p⟩
 .obtain⟨u,j⟩:=I.base.there b o e d;exact i b u (h b o e) j
 .obtain⟨m,b,d⟩:=I.loc;refine⟨m,ns m b,λi x v j p b=>?_⟩;obtain⟨u,r,l⟩:=d i x v j p b;refine⟨u,r,?_⟩;rcases l with l | ⟨k,c,e,z⟩
  .exact .inl l
  .exact .inr ⟨k,c,e,a x c e _ z⟩
 .obtain⟨v,z⟩:=I.cell x c e;exact⟨v,a x c e v z⟩
 .rw[t] at y;cases y
theorem ZE.iN(I:ZE X [] L H s)(a:X.pn=[])(l:∀b∈hs,X.s₀.heap.get? b=none/\H b=none/\∃o vs,s.heap.get? b=some o/\o.data=.fields vs)(st:(hideAll s.heap (hs++frs X.stack)).StaysIn h')(p:∀b o,s.heap.get? b=some o->(∀vs,o.data ≠ .fields vs)->∃n,h'.get? b=some {o with slots:=n }):ZE X [] L H {s with heap:=h' }:=by
 obtain⟨m,⟨e,d,c,j,g,f⟩,_⟩:=id I.loc;have k:∀b o,b∉hs->b∉frs X.stack->s.heap.get? b=some o->h'.get? b=some o:=λb o c d e=>st b o (hideAll_get _ e λi=>(xJ.mp i).elim c d);have c:∀b,b∈frs X.stack->∃o,s.heap.get? b=some o/\∀vs,o.data ≠ .fields vs:=λb c=>(I.stack.mem c).2;refine I.stepN (g':=s.gens) (d':=s.drawn) (t':=s.toks) (ch:=hs) a (λb c=>?_) (λb o d h a e _=>k b o a (λz=>(xD.mp (I.iY b z)).elim d h) e) (λb o d h _ e _=>?_) (λb o a e=>?_) (λd i=>?_) (λb u e=>?_) I.bare
 .obtain⟨f,m,o,vs,e,d⟩:=l b c;refine⟨f,λz=>?_,λx c f z=>?_⟩
  .rw[z,j] at e;cases e;rw[g] at d;cases d
  .obtain⟨v,m,g,j⟩:=I.cell x c f;rw[z,e] at g;cases g;rw[d] at j;cases j
 .obtain⟨m,j,d⟩:=(I.iA.mem (show b∈X.outer.filterMap (·.frame) from h)).2;rw[e] at j;cases j;exact p b o e d
 .grind
 .obtain⟨o,j,h,g,d,r⟩:=i;obtain⟨n,q⟩:=p _ o g λvs z=>by rw[d] at z;cases z
  exact⟨_,j,h,q,d,r⟩
 .have d:∀c v,H c=some v->c∉hs/\c∉frs X.stack:=λc v f=>⟨(λz=>by rw[(l c z).2.1] at f;cases f),(λz=>by rw[I.iX c z] at f;cases f)⟩;refine(I.iD b u e).iV (λc v a q=>?_) (λ_ q=>q) λ_ _ q=>q;rcases a with rfl | a
  .exact k c v (d c _ e).1 (d c _ e).2 q
  .exact k c v (d c _ a).1 (d c _ a).2 q
section
variable{X:Cx}{L:List (Option V)}{H:Hp}{s:gD}{a C:gF}{M:Model}{E:fX}{Q:Unit->gD->Prop}
theorem Gc(I:ZE X [] L H s)(d:X.pn=[])(U:X.ex=[])(c:X.stack=X.env::X.outer)(G:X.env.frame=some X.env.locals)(x:Ta X.s₀.heap H s.heap a C)(k:∀h',ZE X [] L H {s with heap:=h' }->Ci X.s₀.heap H h' a C->(∀b o,s.heap.get? b=some o->(∀vs,o.data ≠ .fields vs)->∃e,h'.get? b=some {o with slots:=e })->Q () {s with heap:=h' }) :
  wpAny M X.A (noteFrame (.ref a) X.env) Q E s:=by
 obtain⟨B,h,O,vs,P,l,F,n,W,tr⟩:=x;have w:∀(g:gC),a∈g->(∀b∈g,X.s₀.heap.get? b=none/\H b=none/\∃o vs,s.heap.get? b=some o/\o.data=.fields vs)->
   ∀i,Heap.NotedW (hideAll s.heap (g++frs X.stack)) (X.env::X.outer) a (.ref C) P (rawInt X.env.locals) s.heap i->(∃J,i.get? a=some J/\J.dict=O.dict)->Q () {s with heap:=i }:=by
  intro g e p i N ⟨f,g2,v⟩;refine k i (I.iN d p N.1 N.2.2.2) ?_ N.2.2.2;obtain⟨e,a0,T,K,r,t,⟨R,Y⟩,S,u,d,j,m,f,y⟩:=N.2.2.1;have no:∀o,s.heap.get? T=some o->T∉g->T∉frs X.stack->False:=λo e A n2=>by
   have:=hideAll_get (g++frs X.stack) e λz=>(xJ.mp z).elim A n2;rw[this] at d;cases d
  have A:T∉frs X.stack:=λz=>by
   rw[c] at z;obtain⟨_,o,e,d⟩:=N.2.1.mem (show T∈(X.env::X.outer).filterMap (·.frame) from z);rw[m] at e;cases e;exact d r f
  rw[t] at g2;cases g2;refine⟨B,h,_,a0,P,t,⟨R,v.trans F.2⟩,S,Y,T,K,r,_,u,j,m,f,y,?_,?_⟩
  .cases q:H T with
   | none=>rfl
   | some u =>
    obtain⟨o,e⟩:=(I.iD T u q).ex;exact(no o e (λz=>by rw[(p T z).2.1] at q;cases q) A).elim
  .cases q:X.s₀.heap.get? T with
   | none=>rfl
   | some o =>
    obtain⟨J,e⟩:=I.base.there T o q (by rw[U];simp);exact(no J e (λz=>by rw[(p T z).1] at q;cases q) A).elim
 have u:X.A.frames=some (X.env::X.outer):=by rw[<- c];exact I.ok.frames
 have A:∀g:List gF,s.heap.FunFrames (hideAll s.heap (g++frs X.stack)) (X.env::X.outer):=λg=>by
  rw[<- c];exact PySem.W.funFrames_hide I.stack λenv l b c=>xK _ (List.mem_filterMap.mpr ⟨env,l,c⟩)
 have z:∀g:List gF,(hideAll s.heap (g++frs X.stack)).StaysIn s.heap:=λg b o q=>of_hideAll _ q;rcases tr with t | ⟨T,K,r,v3,t,j,m,f,y,hHT,h0T⟩
 .have p:∀b ∈ [a],X.s₀.heap.get? b=none/\H b=none/\∃o vs,s.heap.get? b=some o/\o.data=.fields vs:=λb c=>by
   rw[xP] at c;subst c;exact⟨h,B,O,vs,l,n⟩
  unfold noteFrame;simp only[G];refine wpAny_bind (wpAny_field l n t ?_);rw[if_neg aA];refine Kz (Z:=hideAll s.heap ([a]++frs X.stack)) u (A _) G l (z _) (hideAll_none _ (by simp)) n (zZ.mp t).1 W λi N v=>?_;rw[F.1] at N;exact w [a] (by simp) p i N v
 .have p:∀b ∈ [a,T],X.s₀.heap.get? b=none/\H b=none/\∃o vs,s.heap.get? b=some o/\o.data=.fields vs:=λb c=>by
   rcases xD.mp c with rfl | c
   .exact⟨h,B,O,vs,l,n⟩
   .rw[xP] at c;subst c;exact⟨h0T,hHT,K,r,m,f⟩
  unfold noteFrame;simp only[G];refine wpAny_bind (wpAny_field l n t ?_);rw[if_pos (show (Value.ref T != Value.none)=true from by simp)];refine wpAny_bind (wpAny_field m f y ?_)
  by_cases d:(v3==rawInt X.env.locals)=true
  .rw[if_pos d];exact wpAny_pure (k s.heap I ⟨B,h,O,vs,P,l,F,n,W,T,K,r,v3,t,j,m,f,y,hHT,h0T⟩ λb o e _=>⟨o.slots,e⟩)
  .rw[if_neg d];refine wpAny_bind (wpAny_setField m f (zZ.mp y).1 ?_);have d:∀b,b≠T->(s.heap.update T (Obj.mapFields (·.setIfInBounds 3 Value.none))).get? b=s.heap.get? b:=λb c=>yQ _ _ (Ne.symm c);have h:∀b o,s.heap.get? b=some o->(∀vs,o.data ≠ .fields vs)->b≠T:=λb o c g q=>by
    rw[q,m] at c;injection c with c;subst c;exact g r f
   have f:(hideAll s.heap ([a,T]++frs X.stack)).get? T=none:=hideAll_none _ (by simp);refine Kz (Z:=hideAll s.heap ([a,T]++frs X.stack)) u ((A _).of_keeps λb o c g=>⟨o,(d b (h b o c g)).trans c,rfl⟩) G ((d a (Ne.symm j)).trans l)
    (λb o e=>(d b λq=>by rw[q,f] at e;cases e).trans (z _ b o e)) (hideAll_none _ (by simp)) n (zZ.mp t).1 W
    λi ⟨f,j,e,l⟩ v=>?_
   rw[F.1] at e;exact w [a,T] (by simp) p i ⟨f,j,e,λb o c g=>l b o ((d b (h b o c g)).trans c) g⟩ v
theorem En(I:ZE X [] L H s)(n:X.pn=[])(x:Ci X.s₀.heap H s.heap a C)(k:∀h',ZE X [] L H {s with heap:=h' }->Ci X.s₀.heap H h' a C->Q () {s with heap:=h' }):wpAny M A (setFlight (.ref a) fr) Q E s:=by
 obtain⟨w,m,z,F,v,r,y,p,B,T,o,t,d,u,i,l,c,b,h,g⟩:=x;have j:=(zZ.mp b).1;unfold setFlight;refine wpAny_bind (wpAny_field r p u ?_);rw[if_pos (show (Value.ref T != Value.none)=true from by simp)];refine wpAny_setField l c j ?_;have e:∀b,b≠T->(s.heap.update T (Obj.mapFields (·.setIfInBounds 3 (fr.elim Value.none λf=>rawInt f)))).get? b=s.heap.get? b:=λb d=>yQ _ _ (Ne.symm d);refine k _ (I.iN (hs:=[T]) n (λb d=>by rw[xP] at d;subst d;exact⟨g,h,o,t,l,c⟩) (λb o q=>?_) λb o d n=>⟨o.slots,(e b λq=>by rw[q,l] at d;cases d;exact n t c).trans d⟩)
  ⟨w,m,z,F,v,(e a (Ne.symm i)).trans r,y,p,B,T,_,_,(fr.elim Value.none λf=>rawInt f),u,i,zO _ l (Obj.isFreed_of_fields (mR c _)),mR c _,by simp[j],h,g⟩
 refine(e b λz=>?_).trans (of_hideAll _ q);rw[z,hideAll_none _ (by simp)] at q;cases q
theorem Gv(I:ZE X [] L H s)(b:X.pn=[])(d:X.ex=[])(e:X.stack=X.env::X.outer)(f:X.env.frame=some X.env.locals)(x:Ta X.s₀.heap H s.heap a C)(k:∀h',ZE X [] L H {s with heap:=h' }->Ta X.s₀.heap H h' a C->Q () {s with heap:=h' }) :
  wpAny M X.A (noteFrame (.ref a) X.env) (λ_ c=>wpAny M X.A (setFlight (.ref a) none) Q E c) E s :=
 Gc I b d e f x λd c e _=>En (s:={s with heap:=d }) c b e λc b d=>k c b d.at_
end
theorem Ta.mono(x:Ta h0 H h a C)(k:∀b,h0.get? b=none->h1.get? b=none):Ta h1 H h a C:=by
 obtain⟨d,b,i,m,c,g,e,f,l,j⟩:=x;refine⟨d,k a b,i,m,c,g,e,f,l,?_⟩;rcases j with b | ⟨T,oT,ts,v3,b,hTe,hT,hdT,h3,hHT,h0T⟩
 .exact .inl b
 .exact .inr ⟨T,oT,ts,v3,b,hTe,hT,hdT,h3,hHT,k T h0T⟩
theorem Y5{P:gG}{w:gH}{K:uFg}{mg:fY}{Z:Heap}{N:fZ}{qual:Str}{F:Scope}{f:gF}{b:gE}{A:gI}{outer:List Env}{s:gD}{H:Hp}{E:XK} :
  Xp (Y8 (UZ P w) P w K mg Z N qual F f b A outer s H E) λ_=>E:=⟨λB L c d a C I x e=>by
 have d:=I.iS (pins':=[]) (λp g=>nomatch g);show wpAny _ _ (noteFrame _ _ >>= λ_=>setFlight _ none) _ _ _;refine wpAny_bind (Gv (X:=Y8 (UZ P w) P w K mg Z N qual F f b A outer s H E) d rfl rfl rfl rfl x λb J y=>?_)
 exact⟨a,C,c,rfl,J.os,J.bare,J.base,J.iD,y,e⟩⟩
section
variable{X:Cx}{E:St->XK}
theorem ZE.newer{B:List (gF×Obj)}{L:St}{H:Hp}{s:gD}(I:ZE X B L H s)(a:X.ex=[]):∀b,s.heap.get? b=none->X.s₀.heap.get? b=none:=λb e=>by
 cases q:X.s₀.heap.get? b with
 | none=>rfl
 | some o =>
  obtain⟨d,c⟩:=I.base.there b o q (by rw[a];simp);rw[e] at c;cases c
structure Xq (X:Cx) (E:St->XK):Prop where
 h:(∀ L c d H,¬E L c d H)\/(X.ex=[]/\Xp X E)
theorem Xq.never:Xq X λ_ _ _ _=>False:=⟨.inl λ_ _ _ _ h=>h⟩
theorem Xq.pass{B:List (gF×Obj)}{L:St}{H:Hp}{s j:gD}{e:gE}(f:Xq X E)(I:ZE X B L H s)(h:UZ X.prog X.w X.stack H s (E L) e j):X.xe e j:=by
 obtain⟨a,C,Y,rfl,os,b,m,c,x,k⟩:=h;rcases f.h with z | ⟨hex,f⟩
 .exact(z _ _ _ _ k).elim
 obtain⟨l,g,d,t,i⟩:=j;obtain rfl:i=s.os:=os;have J:=I.call (h':=l) (g':=g) (d':=d) (t':=t) (ch:=[]) m c b (λb z=>absurd z (by simp));exact f.h B L Y _ a C J (x.mono (I.newer hex)) k
theorem Z3{P:gG}{w:gH}{K:uFg}{mg:fY}{Z:Heap}{N:fZ}{qual:Str}{F:Scope}{f:gF}{a:gE}{A:gI}{outer:List Env}{s:gD}{H:Hp}{E:XK} :
  Xq (Y8 (UZ P w) P w K mg Z N qual F f a A outer s H E) λ_=>E:=⟨.inr ⟨rfl,Y5⟩⟩
end
structure CT (P:gG) (w:gH) (K:uFg) (mg:fY) (base:Heap) (k:Nat) (f:gF) (sp:Sp):Prop where
 run:∀(A:gI)(outer:List Env)(s:gD)(H:Hp)(us:gA)(vs:aG)(Q:VK)(E:XK),ZL k A->VT P w K mg base A outer s H->ZI vs us->sp vs H Q E->codeAny (model P w) A (.call (.ref f) ⟨us,[]⟩) (CR (UZ P w) outer P w H s Q E) s
theorem YG.runX{P:gG}{w:gH}{K:uFg}{mg:fY}{Z:Heap}{k:Nat}{f:gF}{i:FuncData}{d:fZ}{sp:Sp}(F:YG P w K mg Z (UZ P w) k f i d sp)(l:YK K i d []):CT P w K mg Z k f sp :=
 ⟨λA a s H c n Q E m g r h=>by
  have j:K.In s.heap:=g.mod.kin.keeps λb o e=>(g.bs b o e).1;have e:c.length=d.length:=by rw[<- r.length];exact F.len _ _ _ _ h
  have b:BindsTo s i ⟨c,[]⟩ (d.zip c):=by
   have:=l s c j (by rw[xX];exact e);rw[xX] at this;exact this
  exact F.run A a s H ⟨c,[]⟩ c n Q E m g b r h⟩
def YU(P:gG)(w:gH)(K:uFg)(mg:fY)(Z:Heap)(x:Str)(k:Nat)(sp:Sp):Prop :=
 ∃f,mg x=some (.ref f)/\keepIn K (.ref f)=true/\CT P w K mg Z k f sp
structure ZX (P:gG) (w:gH) (K:uFg) (mg:fY) (base:Heap) (C:gF) (m:Str) (k:Nat) (sp:Sp):Prop where
 ex:∃(f:gF),Tf K C m f/\CT P w K mg base k f sp
section
variable{P:gG}{w:gH}{K:uFg}{mg:fY}{Z:Heap}{C:gF}{x:Str}{ps:fZ}{k k':Nat}{sp sp':Sp}
def Sp.or(a b:Sp):Sp:=λc H Q E=>a c H Q E\/b c H Q E
end
def bT(sp:Sp)(E:St->XK)(t:TA):TE:=λL H Q=>t L H λb a=>sp b a Q (E L)
inductive BW(C:gF)(m:Str)(sp:Sp)(E:St->XK)(t:TA)(L:St)(Q:VK)(x:V)(b:Hp):Prop
 |mk(a dx fs)(_:x=.ref a)(_:b a=some (.ins C dx fs))(_:fs.lookup m=none)(_:t L b λc b=>sp (x::c) b Q (E L))
def Ka(C:gF)(m:Str)(sp:Sp)(E:St->XK)(a:TE)(t:TA):TE:=λL H Q=>a L H λx a=>BW C m sp E t L Q x a
section
variable{X:Cx}{E:St->XK}{k:Nat}{f C:gF}{sp:Sp}{x m:Str}{p pos apos:Pos}{e o:Expr}{es:List Expr}{ta:TE}{t:TA}
theorem FI{B:List (gF×Obj)}{L:St}{H:Hp}{s:gD}{Q:VK}{us:gA}{vs:aG}(F:CT X.prog X.w X.K X.mg X.base k f sp)(a:ZL k X.A)(b:Xq X E)(I:ZE X B L H s)(r:ZI vs us)(h:sp vs H Q (E L)):wpAny (model X.prog X.w) X.A (call (.ref f) us) (EP X B L Q) X.xe s:=by
 refine wpAny_call (codeAny_mono (F.run X.A X.stack s H us vs Q (E L) a I.env0 r h) λr c a=>?_);cases r with
 | error e=>exact b.pass I a
 | ok b =>
  cases b with
  | ret u=>exact I.after a
  | next=>exact False.elim a
  | brk=>exact False.elim a
  | cont=>exact False.elim a
theorem Ws(j:Xq X E)(F:YU X.prog X.w X.K X.mg X.base x k sp)(b:QA X (e::es) t)(i:ZL k X.A:=by exact ZL.mono (by assumption) (by first | decide | lia))(n:nB X x .globalImplicit:=by kernel_rfl)(c:sEq X e es:=by rfl)(a:sFq X pos es:=by rfl) :
  QE X (.Call (.Name x p) (e::es) [] pos) (bT sp E t):=⟨by
 obtain⟨f,g,d,G⟩:=F;intro B s L H Q I h;have n:=od n;refine wpAny_Call_Name_kw (AC I n.1 g ?_ n.2.1);refine callWith_K (h₀:=X.base) I.ok.mod.kin d (thn (b.h pos B s L H _ I h) λh g ⟨l,d,b,r,q⟩=>⟨b.iF,?_⟩) c a
 exact FI G i j b r q⟩
theorem Yn{pl:Sem Bool}(y:Xq X E)(g:QE X o ta)(c:VX X.K C)(M:ZX X.prog X.w X.K X.mg X.base C m k sp)(r:QA X (e::es) t)(v:ZL k X.A:=by exact ZL.mono (by assumption) (by first | decide | lia))(d:sEq X e es:=by rfl)(b:sFq X pos es:=by rfl)(w:eval (.Call (.Attribute o m apos) (e::es) [] pos) X.env=(do
   let a <- eval o X.env
   standAt apos.atName
   let (f,first) <- holding [a] (getMethod a m pl)
   callWith pos f first (backTo pos (starEach (e::es) X.env)) (backToKw pos (keywordEach [] X.env))):=by rfl) :
  QE X (.Call (.Attribute o m apos) (e::es) [] pos) (Ka C m sp E ta t):=⟨by
 obtain⟨f,i,F⟩:=M.ex;intro B s L H Q I h;refine methodCall_KW (pl:=pl) (thn (g.h B s L H _ I h) λu z ⟨x,h,g,s,a,A,G,n,j,l,q⟩=>?_) w;subst n;obtain rfl:u=Value.ref a:=s;refine CN g j c i l ?_;refine callWith_K (first:=[.ref a]) (h₀:=X.base) I.ok.mod.kin i.kp (thn (r.h pos B z L h _ g q) λi n ⟨j,l,g,r,h⟩=>⟨g.iF,?_⟩) d b
 exact FI (us:=.ref a::i) (vs:=.ref a::j) F v y g (.cons rfl r) h⟩
theorem Ab{pl:Sem Bool}(n:Xq X E)(b:QE X o ta)(c:VX X.K C)(M:ZX X.prog X.w X.K X.mg X.base C m k sp)(i:ZL k X.A:=by exact ZL.mono (by assumption) (by first | decide | lia))(j:eval (.Call (.Attribute o m apos) [] [] pos) X.env=(do
   let a <- eval o X.env
   standAt apos.atName
   let (f,first) <- holding [a] (getMethod a m pl)
   callWith pos f first (backTo pos (starEach [] X.env)) (backToKw pos (keywordEach [] X.env))):=by rfl) :
  QE X (.Call (.Attribute o m apos) [] [] pos) (Ka C m sp E ta Vw):=⟨by
 obtain⟨f,d,F⟩:=M.ex;intro B s L H Q I h;refine methodCall_KW (pl:=pl) (thn (b.h B s L H _ I h) λu y ⟨x,s,b,r,a,v,w,h,g,l,q⟩=>?_) j;subst h;obtain rfl:u=Value.ref a:=r;refine CN b g c d l ?_
 exact callWith_K0 (first:=[.ref a]) b.iF d.kp (FI (us:=[.ref a]) (vs:=[.ref a]) F i n b (.cons rfl .nil) q)⟩
end
section
variable{P:gG}{w:gH}{K:uFg}{mg:fY}{Z:Heap}
theorem UI.okX{x qual:Str}{st:Stmt}{f:gF}{d:FuncData}{N b:fZ}{k:Nat}{sp:Sp}(F:UI K x qual st f d)(S:ZM N b (Zm st))(c:∀vs H Q E,sp vs H Q E->vs.length=b.length)(a:∀ (cdv:gE) (A:gI) (outer:List Env) (s:gD) (H:Hp) (vs:aG) (Q:VK) (E:XK),ZL k (A.deeper (envOfC qual (Zm st) s.heap.objs.size f cdv))->sp vs H Q E -> ∃t,WT (Y8 (UZ P w) P w K mg Z N qual (Zm st) f cdv A outer s H E) (Yt st) t/\t {nx:=λ_ Y=>Q .non Y,rt:=Q } (start N vs) H):YG P w K mg Z (UZ P w) (k+1) f d b sp:=by
 obtain⟨j,od,kV,d,l,h,cdv,i,g,rfl,e,b⟩:=F.ex;refine Ll e b S c λA outer s H vs Q E c b=>?_;obtain⟨t,h,q⟩:=a cdv A outer s H vs Q E c b;exact⟨t,h.h,q⟩
theorem YA.fnX{x:Str}{st:Stmt}{N a:fZ}{k:Nat}{sp:Sp}(h:YA K mg x st)(S:ZM N a (Zm st))(c:∀ (kV doc pm:gE) (an:Option gF) (cdv ct:gE) (us:gA),us.length=a.length->bindArgs (fnOf x x (Vb st) (Yt st) (Zm st) .none kV doc pm an cdv ct) ⟨us,[]⟩=pure (a.zip us))(b:∀vs H Q E,sp vs H Q E->vs.length=a.length)(a:∀ (f:gF) (cdv:gE) (A:gI) (outer:List Env) (s:gD) (H:Hp) (vs:aG) (Q:VK) (E:XK),ZL k (A.deeper (envOfC x (Zm st) s.heap.objs.size f cdv))->sp vs H Q E -> ∃t,WT (Y8 (UZ P w) P w K mg Z N x (Zm st) f cdv A outer s H E) (Yt st) t/\t {nx:=λ_ Y=>Q .non Y,rt:=Q } (start N vs) H):YU P w K mg Z x (k+1) sp:=by
 obtain⟨f,e,F,d⟩:=h;exact⟨f,d,F.kp,(F.okX S b (a f)).runX (F.binds c)⟩
theorem YA.fx{x:Str}{st:Stmt}{k:Nat}{sp:Sp}(h:YA K mg x st)(N b:fZ)(a:∀{f:gF}{cdv:gE}{A:gI}{outer:List Env}{s:gD}(H:Hp) (vs:aG) (Q:VK) (E:XK),ZL k (A.deeper (envOfC x (Zm st) s.heap.objs.size f cdv))->sp vs H Q E->vs.length=b.length/\∃t,WT (Y8 (UZ P w) P w K mg Z N x (Zm st) f cdv A outer s H E) (Yt st) t/\t {nx:=λ_ Y=>Q .non Y,rt:=Q } (start N vs) H)(S:ZM N b (Zm st):=by exact fsc)(d:k<=60:=by decide)(c:∀ (kV doc pm:gE) (an:Option gF) (cdv ct:gE) (us:gA),us.length=b.length->bindArgs (fnOf x x (Vb st) (Yt st) (Zm st) .none kV doc pm an cdv ct) ⟨us,[]⟩=pure (b.zip us):=by exact λ_ _ _ _ _ _=>by first | exact al1 λ_=>rfl | exact al2 λ_ _=>rfl | exact al3 λ_ _ _=>rfl | exact al4 λ_ _ _ _=>rfl | exact al5 λ_ _ _ _ _=>rfl | exact al6 λ_ _ _ _ _ _=>rfl | exact al7 λ_ _ _ _ _ _ _=>rfl | exact al8 λ_ _ _ _ _ _ _ _=>rfl):YU P w K mg Z x (k+1) sp :=
 h.fnX S c (λvs H Q E h=>(a (f:=0) (cdv:=.none) (A:={}) (outer:=[]) (s:={}) H vs Q E (BY d) h).1) λ_ _ _ _ _ H vs Q E b q=>(a H vs Q E b q).2
theorem ZU.mtX{C:gF}{m qual:Str}{st:Stmt}{N a:fZ}{k:Nat}{sp:Sp}(h:ZU K C m qual st)(S:ZM N a (Zm st))(c:∀ (kV doc pm:gE) (an:Option gF) (cdv ct:gE) (us:gA),us.length=a.length->bindArgs (fnOf m qual (Vb st) (Yt st) (Zm st) .none kV doc pm an cdv ct) ⟨us,[]⟩=pure (a.zip us))(b:∀vs H Q E,sp vs H Q E->vs.length=a.length)(a:∀ (f:gF) (cdv:gE) (A:gI) (outer:List Env) (s:gD) (H:Hp) (vs:aG) (Q:VK) (E:XK),ZL k (A.deeper (envOfC qual (Zm st) s.heap.objs.size f cdv))->sp vs H Q E -> ∃t,WT (Y8 (UZ P w) P w K mg Z N qual (Zm st) f cdv A outer s H E) (Yt st) t/\t {nx:=λ_ Y=>Q .non Y,rt:=Q } (start N vs) H):ZX P w K mg Z C m (k+1) sp:=by
 obtain⟨f,d,F,M⟩:=h.ex;exact⟨f,M,(F.okX S b (a f)).runX (F.binds c)⟩
theorem ZU.mx{C:gF}{m qual:Str}{st:Stmt}{k:Nat}{sp:Sp}(h:ZU K C m qual st)(N b:fZ)(a:∀{f:gF}{cdv:gE}{A:gI}{outer:List Env}{s:gD}(H:Hp) (vs:aG) (Q:VK) (E:XK),ZL k (A.deeper (envOfC qual (Zm st) s.heap.objs.size f cdv))->sp vs H Q E->vs.length=b.length/\∃t,WT (Y8 (UZ P w) P w K mg Z N qual (Zm st) f cdv A outer s H E) (Yt st) t/\t {nx:=λ_ Y=>Q .non Y,rt:=Q } (start N vs) H)(S:ZM N b (Zm st):=by exact fsc)(d:k<=60:=by decide)(c:∀kV doc pm an cdv ct us,us.length=b.length->bindArgs (fnOf m qual (Vb st) (Yt st) (Zm st) .none kV doc pm an cdv ct) ⟨us,[]⟩=pure (b.zip us):=by exact λ_ _ _ _ _ _=>by first | exact al1 λ_=>rfl | exact al2 λ_ _=>rfl | exact al3 λ_ _ _=>rfl | exact al4 λ_ _ _ _=>rfl | exact al5 λ_ _ _ _ _=>rfl | exact al6 λ_ _ _ _ _ _=>rfl | exact al7 λ_ _ _ _ _ _ _=>rfl | exact al8 λ_ _ _ _ _ _ _ _=>rfl):ZX P w K mg Z C m (k+1) sp :=
 h.mtX S c (λvs H Q E h=>(a (f:=0) (cdv:=.none) (A:={}) (outer:=[]) (s:={}) H vs Q E (BY d) h).1) λ_ _ _ _ _ H vs Q E b q=>(a H vs Q E b q).2
end
def nsX(K:uFg)(N:gF):Bool:=match K.lookup N with
 | some ⟨_,_,.dict a _,_⟩=>(a.toList.all λe=>match e.key with | .str _ _=>true | _=>false)&&(nsFind a "__init__").isNone
 | _=>false
def vE:List gE:=[.type "ValueError", .type "Exception", .type "BaseException", .type "object"]
def Fe:List (Option gE)->Bool
 | [_,_,_,_,some v,_]=>v==.builtin "ValueError.__new__"
 | _=>false
def Ls(K:uFg):List gE->Bool
 | .ref M::r=>r==vE&&(match K.lookup M with | some ⟨_,_,.cls a,_⟩=>nsX K a.ns | _=>false)
 | _=>false
def Ao(K:uFg)(C:gF):Bool:=match K.lookup C with
 | some ⟨c,_,.cls a,b⟩=>(c==.type "type")&&(a.hasDel==false)&&nsX K a.ns&&Fe b.toList&&(match a.mro with | v::r=>(v==.ref C)&&Ls K r | _=>false)
 | _=>false
theorem Gk{K:uFg}{h:Heap}{N:gF}(X:K.In h)(e:nsX K N=true):∃mN,h.Ns N mN/\mN "__init__"=none:=by
 unfold nsX at e;split at e
 .rename_i c d a n b q;rw[yO] at e;refine⟨nsFind a,⟨_,a,n,X _ _ q,rfl,λb a=>?_,λ_=>rfl⟩,Option.isNone_iff_eq_none.mp e.2⟩;have z:=zV.mp e.1 b (Array.mem_toList_iff.mpr a);cases k:b.key with
  | str x t=>exact⟨x,t,rfl⟩
  | _=>rw[k] at z;cases z
 .cases e
theorem RZ:∀{l:List (Option gE)},Fe l=true->∃k0 k1 k2 k3 k5,l=[k0,k1,k2,k3,some (.builtin "ValueError.__new__"),k5]:=by
 intro l e;unfold Fe at e;split at e
 .exact⟨_,_,_,_,_,by rw[beq_iff_eq.mp e]⟩
 .exact Bool.noConfusion e
theorem Iz{K:uFg}{h:Heap}{C:gF}(X:K.In h)(e:Ao K C=true) :
  ∃nm q N bs bm hdct sn sub ab col dd k0 k1 k2 k3 k5 mN,h.get? C=some (excClassObj nm q C N bs bm hdct sn sub ab col dd k0 k1 k2 k3 k5 "ValueError.__new__")/\h.Ns N mN/\mN "__init__"=none/\OwnTail h vE bm:=by
 unfold Ao at e;split at e
 .rename_i c d p o q;simp only[yO] at e;obtain⟨⟨⟨⟨f,g⟩,t⟩,u⟩,b⟩:=e;have f:=beq_iff_eq.mp f;subst f;obtain⟨mN,A,z⟩:=Gk X t;obtain⟨nm,bs,n,N,E,k,sn,sub,ab,col,m⟩:=p;have g:m=false:=beq_iff_eq.mp g;subst g;cases n with
  | nil=>cases b
  | cons v r =>
   dsimp only at b;rw[yO] at b;have w:=beq_iff_eq.mp b.1;subst w;have a:=b.2;unfold Ls at a;split at a
   .rename_i M r;rw[yO] at a;have x:=beq_iff_eq.mp a.1;subst x;have i:=a.2;split at i
    .rename_i G H s F B;obtain⟨I,y,j⟩:=Gk X i;obtain⟨o⟩:=o;obtain⟨k0,k1,k2,k3,k5,rfl⟩:=RZ (l:=o) u
     .exact⟨nm,E,N,bs,.ref M::vE,k,sn,sub,ab,col,d,k0,k1,k2,k3,k5,mN,X _ _ q,A,z,.own (X _ _ B) y j .base⟩
    .cases i
   .cases a
 .cases e
def IQ(E:St->XK)(C:gF)(a:TE):TS:=λ_ L H=>a L H λ_ a=>E L (.ref C) none a
theorem Ri(hx:Xp X E)(Q:X.calm=true)(S:X.ex=[])(f:Ao X.K C=true)(n:Nm X.env.scope x .globalImplicit)(hm:X.mg x=some (.ref C))(he:QE X e te)(hs:starEach [e] X.env=[(false,eval e X.env)]:=by rfl):QS X (.Raise (some (.Call (.Name x np) [e] [] cpos)) none pos) (IQ E C te):=⟨by
 intro B s L H D I h;obtain⟨nm,q,N,Z,G,i,sn,sub,Y,p,dd,k0,k1,k2,k3,k5,mN,hC,hn,hi,T⟩:=Iz I.iF f;refine wpAny_Raise_call_subU (C:=C) (N:=N) (nm:=nm) (q:=q) (bs:=Z) (bm:=G) (bmB:=vE) (hdct:=i) (sn:=sn) (sub:=sub) (ab:=Y) (col:=p) (dd:=dd) (k0:=k0) (k1:=k1) (k2:=k2) (k3:=k3) (k5:=k5) (mN:=mN)
  F.excBase_ValueError aA F.excBase_ValueError (T.hasType aA) (I.ok.hd Q) (by rw[hs];rfl) hi (AC I n.1 hm ⟨rfl,?_⟩ n.2.1)
 rw[hs];refine mE (mF (thn (he.h B s L H _ I h) λu m ⟨v,A,j,r1,q1⟩=>mG ?_));have K1:∀b o,X.base.get? b=some o->m.heap.get? b=some o:=j.bk;obtain⟨b3,q',N',a3,J,R,b4,a1,a2,a0,a4,a7,a8,a9,b0,b1,b2,k,a6,a5,T'⟩:=Iz j.iF f;have lk:∃o,X.K.lookup C=some o:=by
  unfold Ao at f;split at f
  .rename_i z;exact⟨_,z⟩
  .cases f
 obtain⟨oC,l⟩:=lk;have z1:=(I.iF _ _ l).symm.trans hC;have z2:=(j.iF _ _ l).symm.trans k;have w:m.heap.get? C=some (excClassObj nm q C N Z G i sn sub Y p dd k0 k1 k2 k3 k5 "ValueError.__new__"):=by rw[k,<- z2,z1]
 have zz:=w.symm.trans k;have K:N=N':=by grind
 have M:G=J:=by grind
 subst K M;refine⟨rfl,aB rfl,w,?_,T',λh' a g=>?_⟩
 .-- the namespace is the same object
  have W:∃o,X.K.lookup N=some o:=by
   unfold Ao at f;rw[l] at f;obtain⟨c,d,dt,sl⟩:=oC;cases dt with
   | cls cd =>
    simp only[yO] at f;have r:=f.1.1.2;have K:cd.ns=N:=by grind
    rw[K] at r;unfold nsX at r;split at r
    .rename_i z;exact⟨_,z⟩
    .cases r
   | _=>cases f
  obtain⟨oN,y⟩:=W;obtain⟨o1,P,O,U,r1⟩:=hn;have:=(I.iF _ _ y).symm.trans U;cases this;exact⟨_,P,O,j.iF _ _ y,r1⟩
 .obtain⟨t,e1,e2,r⟩:=g.there;have I2:ZE X B L A {m with heap:=h' }:=j.kept (t':=m.toks) g.keeps;have fr:∀b,m.heap.get? b=none->A b=none:=λb z=>by
   cases q:A b with
   | none=>rfl
   | some u=>obtain⟨o,e⟩:=(j.iD b u q).ex;rw[z] at e;cases e
  refine hx.h B L A {m with heap:=h' } a C I2 ⟨fr a g.new,?_,_,_,_,e1,⟨rfl,rfl⟩,rfl,rfl,.inl rfl⟩ q1;cases q:X.s₀.heap.get? a with
  | none=>rfl
  | some o =>
   obtain⟨o',e'⟩:=j.base.there a o q (by rw[S];simp)
   rw[g.new] at e';cases e'⟩
abbrev TJ:=St->Hp->(Hp->Prop)->Prop
def PJ(X:Cx)(b:List Expr)(t:TJ):Prop:=∀(B:List (gF×Obj))(s:gD)(L:St)(H:Hp)(Q:Hp->Prop)(a:Str),ZE X B L H s->a.length+b.length * 1000000<=sizeLine->t L H Q ->
 Joins (model X.prog X.w) X.A X.xe (evalEach b X.env) a (λb a=>b.length<=sizeLine/\∃Y,ZE X B L Y a/\Q Y) s
structure QJ (X:Cx) (es:List Expr) (t:TJ):Prop where
 h:PJ X es t
def Nc(n:Nat)(t:TJ):TJ:=λL H Q=>n<=1000000/\t L H Q
def Oh(a:TE)(t:TJ):TJ:=λL H Q=>a L H λv a=>((∃x,v=.str x/\x.length<=1000000)\/(∃i,v=.int i/\i.natAbs.log2<1920))/\t L a Q
def XF(a:TE)(t:TJ):TJ:=λL H Q=>a L H λv a=>(∃x,v=.str x/\x.length<=10000/\∀c∈x.cps.toList,c<16^8)/\t L a Q
def fH:TJ:=λ_ H Q=>Q H
def bC(t:TJ):TE:=λL H Q=>t L H λa=>∀x:Str,Q (.str x) a
theorem Wl:QJ X [] fH:=⟨λB s L H Q a I b h=>⟨by simpa using b,H,I,h⟩⟩
theorem Ac(a b:Str):(a++b).length=a.length+b.length:=strLen_append a b
theorem Yu(h:QJ X es t)(c:evalEach (.Constant (.str x) j pos::es) X.env=eval (.Constant (.str x) j pos) X.env::evalEach es X.env:=by rfl):QJ X (.Constant (.str x) j pos::es) (Nc x.length t):=⟨by
 intro B s L H Q a I d b;obtain⟨e,b⟩:=b;rw[yJ] at d;rw[c];refine Calls.Constant_str ⟨x,_,rfl,?_,h.h B _ L H Q (a++x) (I.tok _) ?_ b⟩
 .rw[Ac];lia
 .rw[Ac];lia⟩
theorem Y6(b:QE X e te)(h:QJ X es t)(c:evalEach (.FormattedValue e (-1) none pos::es) X.env=eval (.FormattedValue e (-1) none pos) X.env::evalEach es X.env:=by rfl):QJ X (.FormattedValue e (-1) none pos::es) (Oh te t):=⟨by
 intro B s L H Q a I d f;rw[yJ] at d;rw[c];refine wpAny_FormattedValue_plain (thn (b.h B s L H _ I f) λu g ⟨v,b,c,d,f,q⟩=>?_);rcases f with⟨x,rfl,f⟩ | ⟨i,rfl,hi⟩
 .obtain⟨g,rfl⟩:=d;refine formatField_str (λf j=>⟨x,f,rfl,?_,h.h B _ L b Q (a++x) (c.tok _) ?_ q⟩) (by rw[sizeLine_eq];lia)
  .rw[Ac];lia
  .rw[Ac];lia
 .obtain⟨g,rfl⟩:=d;have a:(Str.ofString (toString i)).length<=1921:=by rw[PySem.ofString_length];exact int_text_length_le aA hi
  refine wpAny_formatField_int hi ⟨_,_,rfl,?_,h.h B _ L b Q _ (c.tok _) ?_ q⟩
  .rw[Ac];lia
  .rw[Ac];lia⟩
theorem MD(b:QE X e te)(h:QJ X es t)(c:evalEach (.FormattedValue e 114 none pos::es) X.env=eval (.FormattedValue e 114 none pos) X.env::evalEach es X.env:=by rfl):QJ X (.FormattedValue e 114 none pos::es) (XF te t):=⟨by
 intro B s L H Q a I d f;rw[yJ] at d;rw[c];refine wpAny_FormattedValue_repr (thn (b.h B s L H _ I f) λu a ⟨v,b,c,f,d,q⟩=>?_);obtain⟨x,rfl,g,a⟩:=d;obtain⟨d,rfl⟩:=f;have f:=StrLaws.reprText_len x a;have a:(reprText x).length<=sizeLine:=by rw[sizeLine_eq];lia
 refine wpAny_pyReprObj_gives (x:=reprText x) (typeIs_str _ _ _) F.slot_str_repr F.entry_str_repr (F.args_str_repr_1 _) (gives_str_repr x d) ?_ rfl a;refine formatField_str (λd f=>⟨_,d,rfl,?_,h.h B _ L b Q _ ((c.tok _).tok _) ?_ q⟩) a
 .rw[Ac];lia
 .rw[Ac];lia⟩
theorem IM(hQ:∀o s,Q o s->Q' o s):∀{l:List (Sem gE)}{a:Str}{s:gD},Joins M A E l a Q s->Joins M A E l a Q' s
 | [],_,_,h=>hQ _ _ h
 | _::_,_,_,h=>wpAny_mono h (λ_ _ ⟨y,t,a,b,c⟩=>⟨y,t,a,b,IM hQ c⟩) λ_ _ z=>z
theorem Wm(h:QJ X (a::e2::es) t)(b:es.length<=8:=by decide):QE X (.JoinedStr (a::e2::es) pos) (bC t):=⟨by
 intro B s L H Q I c;have d:(Str.empty).length+(a::e2::es).length * 1000000<=sizeLine:=by
  have:Str.empty.length=0:=rfl;rw[this,yJ,yJ,sizeLine_eq];lia
 refine wpAny_JoinedStr ?_;have b:=h.h B s L H _ Str.empty I d c
 refine IM (λa f ⟨e,c,d,q⟩=>⟨e,.str a,c,d.tok _,⟨_,rfl⟩,q a⟩) b⟩
open PySem.W PySem.Calls PySem.Builtin PySem.Builtin.ObjectAttr PySem.Builtin.Getset_descriptor
def Jq(K:Frag)(C:gF):Bool:=(clsIn K C).isSome&&(findIn K (.ref C) "__getattribute__"==some (some (.builtin "BaseException.__getattribute__")))&&(findIn K (.ref C) "__getattr__"==some none)&&(findIn K (.ref C) "__class__"==some (some (.builtin "object.__class__"))) &&
 (mroIn K C (.type "object")== some true)&&(mroIn K C (.type "BaseException")== some true)
section
variable{prog:gG}{w:gH}{A:gI}{E:fX}{h:Heap}{g:Array GenState}{d:Drawn}{t:Nat}{os:OsState}{a C:gF}{o:Obj}{K:Frag}
theorem Xz{c:gE}{R:Result->gD->Prop}{s:gD}(X:K.In s.heap)(e:Looks (model prog w) s.heap (typeOf (.ref a)) (.ref C))(b:mroIn K C (.type "object")=some true)(h:R (.ok (.ret (.ref C))) s):codeAny (model prog w) A (.call (.builtin "getset_descriptor.__get__") ⟨[.builtin "object.__class__", .ref a,c],[]⟩) R s:=by
 obtain⟨j,g,i,t,os⟩:=s;have f:=looks_mroIn (M:=model prog w) X b;refine codeAny_call_builtin KF.slot_gs.plain KF.entry_gs (KF.slot_gs.check _ _ _ _ _ _ _ _ KF.type_class (KF.args_gs _ _ _) ?_);unfold Builtin.«getset_descriptor.__get__» descrGet;rw[dga_obj];refine wpAny_bind (wpAny_pure ?_);unfold descrGetter descrCheckInstance descrNameAndClass isInstance;simp only[KF.owner_class]
 repeat lk
 refine⟨Code.quiet_builtin _ aA,codeAny_builtin KF.entry_class ?_⟩;unfold Builtin.«object.__class__» shownTypeOf
 repeat lk
 exact h
structure JW (h:Heap) (a:gF) (o:Obj) (C:gF):Prop where
 at_:h.get? a=some o
 cls:o.cls=.ref C
theorem JW.type(I:JW h a o C):Looks M h (typeOf (.ref a)) (.ref C):=I.cls▸(Looks.ld I.at_).andThen .now
theorem QL{b:Tok}{Q:Fin->gD->Prop}(X:K.In h)(I:JW h a o C)(k1:findIn K (.ref C) "__class__"=some (some (.builtin "object.__class__")))(k2:mroIn K C (.type "object")=some true)(c:Q (.done (.ret (.ref C))) ⟨h,g,d,t,os⟩):wpAny (model prog w) A (Builtin.«object.__getattribute__» ⟨[.ref a,.str "__class__" b],[]⟩) Q E ⟨h,g,d,t,os⟩:=by
 have b:(⟨h,g,d,t,os⟩:gD).TypeIs (.builtin "object.__class__") "getset_descriptor" := F.typeOf_object_class;have b:=F.typeOf_object_class;have b:=F.slot_gs_get.lookup;have b:=F.slot_gs_set.lookup;have e:=I.at_;have c:=I.cls;have b:=looks_findIn (M:=model prog w) X k1
 repeat (any_goals (first | assumption | (with_reducible refine wpAny_loadPart_at e ?_;rw[c]) | with_reducible refine b.at ?_ | wp_step))
 refine Xz (s:=⟨h,g,d,t,os⟩) X I.type k2 ?_
 repeat (any_goals (first | assumption | wp_step))
theorem dS{M:Model}{b:gE}{Q:Unit->gD->Prop}(X:K.In h)(I:JW h a o C)(k3:mroIn K C (.type "BaseException")=some true)(i:Q () ⟨h,g,d,t,os⟩) :
  wpAny M A (checkBuiltinCall "BaseException.__getattribute__" ⟨[.ref a,b],[]⟩) Q E ⟨h,g,d,t,os⟩:=by
 have f:builtinKind "BaseException.__getattribute__"=some .slot:=aA
 have c:splitId "BaseException.__getattribute__"=some ("BaseException","__getattribute__"):=aA
 have e:=F.args_bexc_ga (.ref a) b;have j:=I.at_;have e:=I.cls;have b:=looks_mroIn (M:=M) X k3;simp only[checkBuiltinCall,f,c];refine wpAny_bind ?_
 .unfold isInstance
  repeat (first | (with_reducible refine wpAny_loadPart_at j ?_;rw[e]) | with_reducible refine b.at ?_ | wp_step)
  exact i
theorem OR{c:Tok}{fill b:Bool}{Q:fX}(X:K.In h)(I:JW h a o C)(k:Jq K C=true)(e:Q (.ref C) ⟨h,g,d,t,os⟩) :
  wpAny (model prog w) A (getAttrBy (.ref a) (.str "__class__" c) fill b) Q E ⟨h,g,d,t,os⟩:=by
 unfold Jq at k;simp only[yO] at k;obtain⟨⟨⟨⟨⟨_,c⟩,e⟩,f⟩,i⟩,j⟩:=k;have c:=beq_iff_eq.mp c;have e:=beq_iff_eq.mp e;have f:=beq_iff_eq.mp f;have i:=beq_iff_eq.mp i;have j:=beq_iff_eq.mp j;have k:=F.attr_ValueError.ga.bind (.ref a);have m:=I.at_;have l:=I.cls;have k:(b&&onTheHeap (Value.builtin "BaseException.__getattribute__"))=false:=by cases b<;>rfl
 have b:(Value.builtin "BaseException.__getattribute__"==Value.builtin "object.__getattribute__")=false:=aA
 have k:(onTheHeap (Value.ref C)&&Value.builtin "BaseException.__getattribute__"==Value.builtin "object.__getattribute__")=false:=by rw[b];rfl
 have k:=looks_findIn (M:=model prog w) X c;have b:=looks_findIn (M:=model prog w) X e
 repeat (any_goals (first | assumption | (with_reducible refine wpAny_loadPart_at m ?_;rw[l]) | with_reducible refine k.at ?_ | with_reducible refine b.at ?_ | wp_step))
 refine codeAny_call_builtin F.attr_ValueError.ga.plain F.entry_bexc_ga (dS X I j (QL X I f i ?_))
 repeat (any_goals (first | assumption | wp_step))
theorem fF{Q:Option gE->gD->Prop}(X:K.In h)(I:JW h a o C)(c:Jq K C=true)(b:Q (some (.ref C)) ⟨h,g,d,t+1,os⟩) :
  wpAny (model prog w) A (getAttr? (.ref a) "__class__") Q E ⟨h,g,d,t,os⟩:=by
 unfold getAttr? getAttrBy?;refine wpAny_bind (wpAny_mkText (wpAny_bind (wpAny_attempt (OR X I c ?_))));exact wpAny_pure b
end
section
variable{K:Frag}{a C:gF}{o:Obj}
theorem K7(c:Jq K C=true):KitX K (.ref a) (.ref C) (λh=>JW h a o C) where
 ty:=λ_ _ _ I=>I.type
 it:=λ_ _ X _=>by
  unfold Jq at c;simp only[yO] at c;obtain⟨cdD,b⟩:=zR.mp c.1.1.1.1.1;unfold clsIn at b;split at b
  .rename_i j l d i f;intro e m g n k q;unfold isType loadHead;exact wpAny_bind (wpAny_loadPart (k _ _ (X _ _ f)) (wpAny_pure q))
  .cases b
 ne:=λh m p e n r X g=>by
  unfold Jq at c;simp only[yO] at c;obtain⟨cdD,b⟩:=zR.mp c.1.1.1.1.1;refine Bool.eq_false_iff.mpr λq=>?_;have e:C=m:=Value.ref.inj (beq_iff_eq.mp q);subst e;unfold clsIn at b;split at b
  .rename_i j l d i f;have z:=(X _ _ f).symm.trans g;cases z
  .cases b
 ca:=λ{_ _ _ _ _ s} X I k=>by
  obtain⟨h,g,d,t,os⟩:=s;exact fF X I c k
end
abbrev Cx.iC(X:Cx)(a:gF)(o:Obj):Cx:={X with A:=X.A.mark (some (.ref a)),calm:=false,pn:=[(a,o)],xe:=λ_ _=>False }
section
variable{X:Cx}{L:St}{H:Hp}{s:gD}{a C:gF}{o:Obj}
theorem ZE.iC(I:ZE X [] L H s)(f:s.heap.get? a=some o)(g:H a=none)(b:∃vs,o.data=.fields vs):ZE (X.iC a o) [] L H s:=by
 obtain⟨vs,b⟩:=b;obtain⟨m,⟨i,d,c,h,e,j⟩,_⟩:=id I.loc;refine⟨⟨I.ok.mod,I.ok.kind,I.ok.glob,I.ok.blt,I.ok.above,I.ok.inj,I.ok.has,I.ok.ie,λz=>Bool.noConfusion z,I.ok.frames,I.ok.iW,I.ok.exf,I.ok.bs,I.ok.ic,I.ok.iM,I.ok.ir,I.ok.iA,I.ok.iy⟩,I.os,I.bare,I.base,I.loc,I.cell,I.free,I.ix,λp c=>?_,I.iD,I.len⟩;have e:p=(a,o):=by simpa using c
 subst e;refine⟨f,g,λz=>?_,λz=>?_,λv z=>?_⟩
 .grind
 .obtain⟨_,e,c,d⟩:=I.iA.mem (show a∈X.outer.filterMap (·.frame) from z);rw[f] at c;cases c;exact d vs b
 .have z:o.data=.cell v:=z;rw[b] at z;cases z
theorem ZE.og(I:ZE (X.iC a o) [] L H s)(c:X.Ok)(b:X.pn=[]):ZE X [] L H s :=
 ⟨c,I.os,I.bare,I.base,I.loc,I.cell,I.free,I.ix,(λp c=>by rw[b] at c;cases c),I.iD,I.len⟩
theorem Gg{M:Model}{A:gI}{E:fX}{Q:Unit->gD->Prop}(I:ZE X [] L H s)(c:X.pn=[])(b:X.ex=[])(b:X.stack=X.env::X.outer)(x:Ta X.s₀.heap H s.heap a C)(k:∀h',ZE X [] L H {s with heap:=h' }->Ta X.s₀.heap H h' a C->Q () {s with heap:=h' }):wpAny M A (setFlight (.ref a) none) Q E s:=by
 obtain⟨h,b,j,n,g,f,i,e,l,d⟩:=id x;rcases d with m | d
 .unfold setFlight;refine wpAny_bind (wpAny_field f e m ?_);rw[if_neg aA];exact wpAny_pure (k s.heap I x)
 .exact En I c ⟨h,b,j,n,g,f,i,e,l,d⟩ λh' b c=>k h' b c.at_
end
def Jl(K:uFg)(C D:gF):Option Bool:=if ((PySem.W.clsIn K D).isSome&&(typeIn K (.ref D)== some (.type "type"))&&(subIn K (.ref D) (.type "BaseException")== some true))=true then subIn K (.ref C) (.ref D) else none
theorem IR{M:Model}{A:gI}{E:fX}{s:gD}{K:uFg}{a C D:gF}{c:Obj}{b:Bool}{Q:Bool->gD->Prop}(X:K.In s.heap)(j:s.heap.get? a=some c)(i:c.cls=.ref C)(e:Jl K C D=some b)(q:Q b s):wpAny M A (excMatches (.ref a) (.ref D)) Q E s:=by
 unfold Jl at e;split at e
 .rename_i z;simp only[yO] at z;obtain⟨⟨g,d⟩,f⟩:=z;have c:=PySem.W.looks_typeIn (M:=M) X (beq_iff_eq.mp d);have d:=looks_subIn (M:=M) X (beq_iff_eq.mp f);have f:=looks_subIn (M:=M) X e;have h:PySem.W.Looks M s.heap (isInstance (.ref D) (.type "tuple")) false:=c.andThen (PySem.W.Looks.of_pure tc_notTuple);obtain⟨cdD,c⟩:=zR.mp g;have LT:PySem.W.Looks M s.heap (isType (.ref D)) true:=by
   unfold PySem.W.clsIn at c;split at c
   .rename_i m n g k l;intro g n m o k q;unfold isType loadHead;exact wpAny_bind (wpAny_loadPart (k _ _ (X _ _ l)) (wpAny_pure q))
   .cases c
  have LE:PySem.W.Looks M s.heap (isExcClass (.ref D)) true:=LT.andThen d;have c:PySem.W.Looks M s.heap (typeOf (.ref a)) (.ref C):=i▸(PySem.W.Looks.ld j).andThen .now;obtain⟨i,g,d,t,os⟩:=s;unfold excMatches;refine wpAny_bind (h.at ?_);simp only[zH,if_false];refine wpAny_bind (wpAny_pure ?_);simp only[List.forIn_cons,List.forIn_nil];refine wpAny_bind (wpAny_bind (wpAny_bind (LE.at ?_)));simp only[Bool.not_true,zH,if_false];refine wpAny_pure (wpAny_pure ?_);refine wpAny_bind (c.at (wpAny_bind (wpAny_bind (wpAny_bind (f.at ?_)))));cases b with
  | true=>simp only[if_true];exact wpAny_pure (wpAny_pure (wpAny_pure q))
  | false=>simp only[zH,if_false];exact wpAny_pure (wpAny_pure (wpAny_pure q))
 .cases e
def PH(X:Cx)(hs:List ExceptHandler)(t:gF->TS):Prop:=∀(a C:gF)(s:gD)(L:St)(H:Hp)(D:ZY),ZE X [] L H s->Ta X.s₀.heap H s.heap a C->t C D L H->wpAny (model X.prog X.w) X.A (handleBy (.ref a) X.env hs) (SP X [] D) X.xe s
structure QH (X:Cx) (hs:List ExceptHandler) (t:gF->TS):Prop where
 h:PH X hs t
def NG:gF->TS:=λ_ _ _ _=>False
def PC(K:uFg)(a:gF)(d:TS)(c:gF->TS):gF->TS:=λC D L H=>∃b,Jl K C a=some b/\if b=true then d D L H else c C D L H
def ZY.off(D:ZY)(i:Nat):ZY:={nx:=λL H=>D.nx (L.set i none) H,rt:=D.rt,bk:=λL H=>D.bk (L.set i none) H,ct:=λL H=>D.ct (L.set i none) H }
def QF(K:uFg)(a:gF)(i:Nat)(d:gF->gF->TS)(c:gF->TS):gF->TS:=λC D L H=>∃b,Jl K C a=some b/\if b=true then ∀a,d a C (D.off i) (L.set i (some (.ref a))) H else c C D L H
structure Pl (X:Cx):Prop where
 pn:X.pn=[]
 ex:X.ex=[]
 iW:X.stack=X.env::X.outer
 fr:X.env.frame=some X.env.locals
section
variable{X:Cx}{x n:Str}{np pos:Pos}{b₀:Stmt}{suite:List Stmt}{rest:List ExceptHandler}{Dc:gF}{tr:gF->TS}
theorem HD:QH X [] NG:=⟨λ_ _ _ _ _ _ _ _ h=>h.elim⟩
theorem Kv{a:gF}{o:Obj}{D:ZY}{f:Flow}{s:gD}(c:X.Ok)(b:X.pn=[])(h:SP (X.iC a o) [] D f s):SP X [] D f s:=by
 cases f with
 | next=>obtain⟨L,H,I,q⟩:=h;exact⟨L,H,I.og c b,q⟩
 | brk=>obtain⟨L,H,I,q⟩:=h;exact⟨L,H,I.og c b,q⟩
 | cont=>obtain⟨L,H,I,q⟩:=h;exact⟨L,H,I.og c b,q⟩
 | ret u=>obtain⟨v,L,H,I,r,q⟩:=h;exact⟨v,L,H,I.og c b,r,q⟩
theorem MA{b:TS}(p:Pl X)(l:X.mg x=some (.ref Dc))(j:∀a o,WT (X.iC a o) (b₀::suite) b)(m:QH X rest tr)(nm:nB X x .globalImplicit:=by kernel_rfl) :
  QH X (.ExceptHandler (some (.Name x np)) none (b₀::suite) pos::rest) (PC X.K Dc b tr):=⟨by
 have nm:=od nm;intro a C s L H D I c h;obtain⟨b,e,h⟩:=h;obtain⟨g,f,r,t,u,d,i,k,v,_⟩:=id c;have J:=I.iC d g ⟨t,k⟩;refine wpAny_handleBy_cons (codeAny_handlers_test (AC (X:=X.iC a r) J nm.1 l ?_ nm.2.1)) (by intro q;cases q);refine IR J.iF d i.1 e ?_;cases b with
 | false=>exact m.h a C s L H D I c h
 | true =>
  refine codeAny_handlers_suite (Gg I p.pn p.ex p.iW c λb i g=>?_);obtain⟨b,_,e,f,_,d,_,c,_⟩:=g
  refine wpAny_mono ((j a e).h [] _ L H D (i.iC d b ⟨f,c⟩) h) (λf b q=>Kv I.ok p.pn q) λ_ _ z=>z.elim⟩
theorem ZE.unset{i:Nat}{L:St}{H:Hp}{s:gD}{h':Heap}{a:Nat}{m:fY}{v:Option gE}(I:ZE X [] L H s)(p:X.pn=[])(B:X.N.Nodup)(C:X.N[i]?=some n)(h:s.heap.Ns X.env.locals m)(j:h'.Ns X.env.locals (λy=>if y=n then v else m y))(hs:Heap.SameBut X.env.locals s.heap h'):ZE X [] (L.set i none) H {s with heap:=h',toks:=a }:=by
 obtain⟨b,a,z⟩:=id I.loc;have A:∀y,b y=m y:=by
  obtain⟨b,d,f,g,c,_,e⟩:=a;obtain⟨l,k,o,b,a,_,f⟩:=h;rw[g] at b;cases b;rw[c] at a;cases a;intro y;rw[<- e,<- f]
 have g:=I.cne;have a:YO X.prog X.w H h':=λb c e=>by
  refine(I.iD b c e).iV (λc u f q=>(hs.2 c ?_).trans q) (λ_ q=>q) λ_ _ q=>q;rintro rfl;rcases f with rfl | f
  .rw[I.free] at e;cases e
  .rw[I.free] at f;cases f
 have f:∀b o,X.s₀.heap.get? b=some o->b≠X.env.locals:=λb o e=>yG (yL (xU e) I.ok.above);refine⟨I.ok,I.os,I.bare,⟨λb o e r l h=>(hs.2 b (f b o e)).trans (I.base.keep b o e r l h),λb o e r l h=>?_,I.base.free,λb o e h=>?_,I.base.o9,I.base.iz,I.base.iZ⟩,⟨_,j,λj y E d k w=>?_⟩,λy c e=>?_,I.free,I.ix,(λq t=>by rw[p] at t;cases t),a,by rw[wK];exact I.len⟩
 .obtain⟨a,d⟩:=I.base.slot b o e r l h;exact⟨a,(hs.2 b (f b o e)).trans d⟩
 .obtain⟨a,d⟩:=I.base.there b o e h;exact⟨a,(hs.2 b (f b o e)).trans d⟩
 .by_cases a:j=i
  .grind
  .rw[List.getElem?_set_ne (Ne.symm a)] at k;obtain⟨b,f,q⟩:=z j y E d k w;refine⟨b,f,?_⟩;rcases q with⟨k,e⟩ | ⟨k,c,e,z⟩
   .refine .inl ⟨k,?_⟩;have f:y≠n:=λe=>a (FS B d (e▸C));show (if y=n then v else m y)=some b;rw[if_neg f,<- A];exact e
   .exact .inr ⟨k,c,e,z.sameBut hs (g y c e)⟩
 .obtain⟨u,z⟩:=I.cell y c e;exact⟨u,z.sameBut hs (g y c e)⟩
theorem Nj(i:Nat){b:gF->gF->TS}(p:Pl X)(u:X.mg x=some (.ref Dc))(t:∀a C o,DA o C->WT (X.iC a o) (b₀::suite) (b a C))(v:QH X rest tr)(nm:nB X x .globalImplicit:=by kernel_rfl)(j:nD X:=by kernel_rfl)(g:nB X n .local:=by kernel_rfl)(k:X.N[i]?=some n:=by rfl):QH X (.ExceptHandler (some (.Name x np)) (some n) (b₀::suite) pos::rest) (QF X.K Dc i b tr):=⟨by
 have nm:=od nm;have j:=od j;have g:=od g;intro a C s L H D I c h;obtain⟨b,e,h⟩:=h;obtain⟨l,f,w,y,z,d,m,r,A,_⟩:=id c;have J:=I.iC d l ⟨y,r⟩;refine wpAny_handleBy_cons (codeAny_handlers_test (AC (X:=X.iC a w) J nm.1 u ?_ nm.2.1)) (by intro q;cases q);refine IR J.iF d m.1 e ?_;cases b with
 | false=>exact v.h a C s L H D I c h
 | true =>
  refine codeAny_handlers_suite_as (Gg I p.pn p.ex p.iW c λb r m=>?_);obtain⟨c,_,b,l,_,f,d,e,_⟩:=m;refine CJ (X:=X.iC a b) (r.iC f c ⟨l,e⟩) j k (.inl g.1) (v:=.ref a) rfl (λe c=>?_) (.inr g.1);refine wpAny_mono ((t a C b d).h [] _ _ H (D.off i) c (h a)) (λf b q=>?_) λ_ _ z=>z.elim;have q:=Kv I.ok p.pn q;have l:(X.env.scope.kind==.class || (X.env.scope.kind==.module&&X.env.locals != X.env.globals))=false:=by rw[I.ok.kind];rfl
  cases f with
  | next =>
   obtain⟨h,f,d,q⟩:=q;obtain⟨m,e,_⟩:=id d.loc;exact wpAny_nameGoes_keeps g.1 e l λs v b c=>⟨_,f,d.unset p.pn j k e b c,q⟩
  | brk =>
   obtain⟨h,f,d,q⟩:=q;obtain⟨m,e,_⟩:=id d.loc;exact wpAny_nameGoes_keeps g.1 e l λs v b c=>⟨_,f,d.unset p.pn j k e b c,q⟩
  | cont =>
   obtain⟨h,f,d,q⟩:=q;obtain⟨m,e,_⟩:=id d.loc;exact wpAny_nameGoes_keeps g.1 e l λs v b c=>⟨_,f,d.unset p.pn j k e b c,q⟩
  | ret u =>
   obtain⟨v,h,f,d,r,q⟩:=q;obtain⟨m,e,_⟩:=id d.loc
   exact wpAny_nameGoes_keeps g.1 e l λs g b c=>⟨v,_,f,d.unset p.pn j k e b c,r,q⟩⟩
end
def bR(X:Cx)(st:Stmt)(t:TS):Prop:=∀(s:gD)(L:St)(H:Hp)(D:ZY),ZE X [] L H s->t D L H->wpAny (model X.prog X.w) X.A (exec st X.env) (SP X [] D) X.xe s
def Oi(X:Cx)(st:List Stmt)(t:TS):Prop:=∀(s:gD)(L:St)(H:Hp)(D:ZY),ZE X [] L H s->t D L H->wpAny (model X.prog X.w) X.A (execs st X.env) (SP X [] D) X.xe s
structure FC (X:Cx) (st:Stmt) (t:TS):Prop where
 h:bR X st t
structure Td (X:Cx) (st:List Stmt) (t:TS):Prop where
 h:Oi X st t
def Qj(a:(St->XK)->TS)(b:gF->TS):TS:=λD L H=>a (λa c _ Y=>∃C,c=.ref C/\b C D a Y) D L H
section
variable{X:Cx}{st:Stmt}{rest:List Stmt}{t u:TS}
theorem QS.q0(h:QS X st t):FC X st t:=⟨λs L H D I q=>h.h [] s L H D I q⟩
theorem WT.q0(h:WT X rest t):Td X rest t:=⟨λs L H D I q=>h.h [] s L H D I q⟩
theorem An(a:FC X st t)(d:Td X rest u):Td X (st::rest) (Ug t u):=⟨by
 intro s L H D I h;rw[execs];refine wpAny_bind (thn (a.h s L H _ I h) λf e q=>?_);cases f with
 | next =>
  obtain⟨a,b,c,q⟩:=q;exact d.h e a b D c q
 | brk=>exact wpAny_pure q
 | cont=>exact wpAny_pure q
 | ret u=>exact wpAny_pure q⟩
theorem GF(p:Pl X)(j:∀a b,Xq (X.ox a) b->WT (X.ox a) body (tb b))(k:QH X (h₀::hs) th):FC X (.Try body (h₀::hs) [] [] pos) (Qj tb th):=⟨by
 intro s L H D I h;refine wpAny_Try_except ?_;have f:∀{a} {L:St}{H:Hp}{s:gD},ZE X [] L H s->ZE (X.ox a) [] L H s:=λI=>⟨⟨I.ok.mod,I.ok.kind,I.ok.glob,I.ok.blt,I.ok.above,I.ok.inj,I.ok.has,I.ok.ie,I.ok.hd,I.ok.frames,I.ok.iW,I.ok.exf,I.ok.bs,I.ok.ic,I.ok.iM,I.ok.ir,I.ok.iA,I.ok.iy⟩,I.os,I.bare,I.base,I.loc,I.cell,I.free,I.ix,I.pin,I.iD,I.len⟩;have b:∀{a} {L:St}{H:Hp}{s:gD}{B:List (gF×Obj)},ZE (X.ox a) B L H s->ZE X B L H s:=λI=>⟨⟨I.ok.mod,I.ok.kind,I.ok.glob,I.ok.blt,I.ok.above,I.ok.inj,I.ok.has,I.ok.ie,I.ok.hd,I.ok.frames,I.ok.iW,I.ok.exf,I.ok.bs,I.ok.ic,I.ok.iM,I.ok.ir,I.ok.iA,I.ok.iy⟩,I.os,I.bare,I.base,I.loc,I.cell,I.free,I.ix,I.pin,I.iD,I.len⟩;have l:Xq (X.ox λe a=>wpAny (model X.prog X.w) X.A (noteFrame e X.env) (λ_ c=>wpAny (model X.prog X.w) X.A (setFlight e none) (λ_ d=>wpAny (model X.prog X.w) X.A (handleBy e X.env (h₀::hs)) (SP X [] D) X.xe d) X.xe c) X.xe a)
   λa c _ Y=>∃C,c=.ref C/\th C D a Y:=⟨.inr ⟨p.ex,⟨λB c e d a C g x q=>by
  obtain⟨m,i,q⟩:=q;cases i;have i:=(b g).iS (pins':=[]) (λp g=>nomatch g)
  exact Gv i p.pn p.ex p.iW p.fr x λg J y=>k.h a C _ c e D J y q⟩⟩⟩
 refine wpAny_mono ((j _ _ l).h [] s L H D (f I) h) (λf d q=>?_) λ_ _ z=>z;have a:SP X [] D f d:=by
  cases f with
  | next=>obtain⟨L,H,I,q⟩:=q;exact⟨L,H,b I,q⟩
  | brk=>obtain⟨L,H,I,q⟩:=q;exact⟨L,H,b I,q⟩
  | cont=>obtain⟨L,H,I,q⟩:=q;exact⟨L,H,b I,q⟩
  | ret u=>obtain⟨v,L,H,I,r,q⟩:=q;exact⟨v,L,H,b I,r,q⟩
 cases f with
 | next=>exact wpAny_pure a
 | brk=>exact a
 | cont=>exact a
 | ret u=>exact a⟩
end
def Rf(K:uFg)(a C:gF):List V->Hp->VK->Prop:=λJ H Q=>Jq K C=true/\∃b,((∃D,J=[.ref a,.ref D]/\kitOne K (.ref C) (.ref D)=some b)\/(∃n,J=[.ref a,.ty n]/\kitOne K (.ref C) (.type n)=some b))/\Q (.bl b) H
theorem Uq{X:Cx}{a C:gF}{o:Obj}(c:DA o C):QC (X.iC a o) (.builtin "isinstance") (Rf X.K a C):=⟨by
 intro B s L H J b Q I r h;obtain⟨g,b,e,q⟩:=h;have d:=I.pin (a,o) (yN _ (by simp));have f:JW s.heap a o C:=⟨d.1,c.1⟩;have c:∀d,EP (X.iC a o) B L Q (.bool b) {s with toks:=d }:=λd=>⟨.bl b,H,I.tok d,rfl,q⟩;rcases e with⟨D,rfl,e⟩ | ⟨n,rfl,e⟩
 .cases r with
  | cons b r=>cases r with
   | cons d r =>
    cases r;obtain rfl:=b;obtain rfl:=d;exact kia_one (K7 g) I.iF f e (by intro z;cases z) c
 .cases r with
  | cons b r=>cases r with
   | cons d r =>
    cases r;obtain rfl:=b;obtain rfl:=d
    exact kia_one (K7 g) I.iF f e (by intro z;cases z) c⟩
section
variable{P:gG}{w:gH}{K:uFg}{mg:fY}{Z:Heap}
theorem UI.ok0{x qual:Str}{st:Stmt}{f:gF}{c:FuncData}{N g:fZ}{k:Nat}{sp:Sp}(F:UI K x qual st f c)(S:ZM N g (Zm st))(b:∀vs H Q E,sp vs H Q E->vs.length=g.length)(a:∀ (cdv:gE) (A:gI) (outer:List Env) (s:gD) (H:Hp) (vs:aG) (Q:VK) (E:XK),ZL k (A.deeper (envOfC qual (Zm st) s.heap.objs.size f cdv))->sp vs H Q E -> ∃t,Td (Y8 WX P w K mg Z N qual (Zm st) f cdv A outer s H E).iO (Yt st) t/\t {nx:=λ_ Y=>Q .non Y,rt:=Q } (start N vs) H):YG P w K mg Z WX (k+1) f c g sp:=by
 obtain⟨j,od,kV,c,l,e,cdv,i,d,rfl,u,h⟩:=F.ex;refine⟨b,λA outer s H e n vs Q E i c m r d=>?_⟩;have p:=b _ _ _ _ d;have l:K.In s.heap:=c.mod.kin.keeps λb o e=>(c.bs b o e).1;have j:s.heap.NoLimit:=c.mod.nolimit.keeps λb o e=>(c.bs b o e).1;have b:∀y∈g.zip n,(Zm st).names.lookup y.1=some .local\/((Zm st).names.lookup y.1=some .cell/\((cellsFrom (s.heap.objs.size+1) (Zm st).names []).lookup y.1).isSome=true):=λ⟨n,v⟩ g=>by
  rcases S.par n (yZ g).1 with q | q
  .exact .inl q
  .exact .inr ⟨q,cellsFrom_some _ _ _ (.inl q)⟩
 refine codeAny_call_function i.depth (l _ _ u) rfl S.co S.gen rfl (codeRec_of l h) (m _ _ _ _ ?_);refine wpAny_newFunctionEnv_cells S.kind b λg h b x=>?_;subst h;refine⟨j.keeps x.toInCall.keep,codeAny_func ?_⟩;obtain⟨t,h,g⟩:=a cdv A outer s H vs Q E (i.deeper _) d;have a:ZE (Y8 WX P w K mg Z N qual (Zm st) f cdv A outer s H E) [] (start N vs) H b:=HE S i.hd c p r x;have I:ZE (Y8 WX P w K mg Z N qual (Zm st) f cdv A outer s H E).iO [] (start N vs) H b:=⟨⟨a.ok.mod,a.ok.kind,a.ok.glob,a.ok.blt,a.ok.above,a.ok.inj,a.ok.has,a.ok.ie,a.ok.hd,a.ok.frames,a.ok.iW,a.ok.exf,a.ok.bs,a.ok.ic,a.ok.iM,a.ok.ir,a.ok.iA,a.ok.iy⟩,a.os,a.bare,a.base,a.loc,a.cell,a.free,a.ix,a.pin,a.iD,a.len⟩;refine wpAny_mono (h.h b (start N vs) H _ I g) (λg d b=>?_) λe d b=>b.elim;have c:∀{a:St}{Y:Hp}{v:V}{u:gE},ZE (Y8 WX P w K mg Z N qual (Zm st) f cdv A outer s H E).iO [] a Y d->ZG v u->Q v Y->CE outer P w H s Q u d :=
  λ{a Y v u} J d q=>⟨v,Y,J.os,J.bare,J.base,J.iD,d,q⟩
 cases g with
 | ret u =>
  obtain⟨v,a,Y,J,d,q⟩:=b;exact c J d q
 | next =>
  obtain⟨a,Y,J,q⟩:=b;exact c (v:=V.non) (u:=Value.none) J rfl q
 | brk=>obtain⟨_,_,_,z⟩:=b;exact z.elim
 | cont=>obtain⟨_,_,_,z⟩:=b;exact z.elim
theorem YA.fn0{x:Str}{st:Stmt}{N b:fZ}{k:Nat}{sp:Sp}(h:YA K mg x st)(S:ZM N b (Zm st))(d:∀ (kV doc pm:gE) (an:Option gF) (cdv ct:gE) (us:gA),us.length=b.length->bindArgs (fnOf x x (Vb st) (Yt st) (Zm st) .none kV doc pm an cdv ct) ⟨us,[]⟩=pure (b.zip us))(c:∀vs H Q E,sp vs H Q E->vs.length=b.length)(a:∀ (f:gF) (cdv:gE) (A:gI) (outer:List Env) (s:gD) (H:Hp) (vs:aG) (Q:VK) (E:XK),ZL k (A.deeper (envOfC x (Zm st) s.heap.objs.size f cdv))->sp vs H Q E -> ∃t,Td (Y8 WX P w K mg Z N x (Zm st) f cdv A outer s H E).iO (Yt st) t/\t {nx:=λ_ Y=>Q .non Y,rt:=Q } (start N vs) H):Fn P w K mg Z x b (k+1) sp:=by
 obtain⟨f,b,F,e⟩:=h;exact⟨f,b,e,F.kp,F.binds d,F.ok0 S c (a f)⟩
theorem YA.f0{x:Str}{st:Stmt}{b:fZ}{k:Nat}{sp:Sp}(h:YA K mg x st)(N:fZ)(a:∀{f:gF}{cdv:gE}{A:gI}{outer:List Env}{s:gD}(H:Hp) (vs:aG) (Q:VK) (E:XK),ZL k (A.deeper (envOfC x (Zm st) s.heap.objs.size f cdv))->sp vs H Q E->vs.length=b.length/\∃t,Td (Y8 WX P w K mg Z N x (Zm st) f cdv A outer s H E).iO (Yt st) t/\t {nx:=λ_ Y=>Q .non Y,rt:=Q } (start N vs) H)(S:ZM N b (Zm st):=by exact fsc)(d:k<=60:=by decide)(c:∀ (kV doc pm:gE) (an:Option gF) (cdv ct:gE) (us:gA),us.length=b.length->bindArgs (fnOf x x (Vb st) (Yt st) (Zm st) .none kV doc pm an cdv ct) ⟨us,[]⟩=pure (b.zip us):=by exact λ_ _ _ _ _ _=>by first | exact al1 λ_=>rfl | exact al2 λ_ _=>rfl | exact al3 λ_ _ _=>rfl | exact al4 λ_ _ _ _=>rfl | exact al5 λ_ _ _ _ _=>rfl | exact al6 λ_ _ _ _ _ _=>rfl | exact al7 λ_ _ _ _ _ _ _=>rfl | exact al8 λ_ _ _ _ _ _ _ _=>rfl):Fn P w K mg Z x b (k+1) sp :=
 h.fn0 S c (λvs H Q E h=>(a (f:=0) (cdv:=.none) (A:={}) (outer:=[]) (s:={}) H vs Q E (BY d) h).1) λ_ _ _ _ _ H vs Q E b q=>(a H vs Q E b q).2
end
theorem DC{CX:UR}{P:gG}{w:gH}{K:uFg}{mg:fY}{Z:Heap}{N:fZ}{qual:Str}{F:Scope}{f:gF}{a:gE}{A:gI}{outer:List Env}{s:gD}{H:Hp}{E:XK} :
  Pl (Y8 CX P w K mg Z N qual F f a A outer s H E).iO:=⟨rfl,rfl,rfl,rfl⟩
structure Er (K:uFg) (mg:fY) (c:gB) (errs:fZ):Prop where
 g:∀x,x∈errs->mg x=some (.ref (c x))
 x:∀x,x∈errs->Ao K (c x)=true
 k:∀x,x∈errs->Jq K (c x)=true
 m:mg "MootError"=some (.ref (c "MootError"))
 e:∀x,x∈errs->Jl K (c x) (c "MootError")=some true
 s:∀x,x∈errs->∀y,y∈errs->Jl K (c x) (c y)=some (decide (x=y))
 i:∀x,x∈errs->∀y,y∈errs->kitOne K (.ref (c x)) (.ref (c y))=some (decide (x=y))
 v:∀x,x∈errs->kitOne K (.ref (c x)) (.type "ValueError")=some true
theorem Wg{X:Cx}{E:St->XK}{x:Str}{k a pos:Pos}{e:Expr}{h:TE}{c:gB}{b:fZ}(j:Xp X E)(f:Er X.K X.mg c b)(i:QE X e h)(g:decide (x∈b)=true:=by kernel_rfl)(n:nB X x .globalImplicit:=by kernel_rfl)(b:X.calm=true:=by rfl)(d:X.ex=[]:=by rfl)(hs:starEach [e] X.env=[(false,eval e X.env)]:=by rfl):QS X (.Raise (some (.Call (.Name x k) [e] [] a)) none pos) (IQ E (c x) h):=Ri j b d (f.x x (od g)) (od n) (f.g x (od g)) i hs
inductive AL(K:uFg)(x y:V)(H:Hp)(Q:VK):Prop
 |mk(a b:gF) (c:List Bool)(_:x=.ref a)(_:y=.ref b)(_:ZD K H a (c.map V.bl))(_:ZD K H b (c.map V.bl))(_:Q (.bl false) H)
theorem Eu:∀{b:List Bool}{a:gA},ZI (b.map V.bl) a->a=b.map Value.bool
 | [],_,.nil=>rfl
 | i::b,_,.cons r rr=>by
  have h:=Eu rr;obtain rfl:=r;rw[h];rfl
theorem Rp(a:ZL k X.A):YT X (compareOp .NotEq) (AL X.K):=⟨by
 have i:=a.units0;intro B s L H x y v u Q I j l ⟨a,b,c,d,f,g,h,q⟩;subst d f;obtain rfl:v=Value.ref a:=j;obtain rfl:u=Value.ref b:=l;obtain⟨b,d,a,_⟩:=I.list g;obtain⟨g,f,b,_⟩:=I.list h;obtain rfl:=Eu d;obtain rfl:=Eu f
 have h:=SeqAt.RcNeAt.lists (A:=X.A) (e:=λ_=>true) a.isList b.isList rfl i (λj a b=>by
  show SeqAt.EqAt _ _ _ _ true;have b:j<c.length:=by simpa using a
  have a:(c.map Value.bool).toArray[j]= .bool c[j]:=by simp
  rw[a];rw[<- wR c[j]]
  exact SeqAt.EqAt.bool_bool _ _)
 rw[show (!(List.range (c.map Value.bool).toArray.size).all λ_=>true)=false by simp] at h
 exact h X.prog X.w _ _ ⟨.bl false,H,I,rfl,q⟩⟩
def Da(H:Hp)(u v:V):Prop:=(∃x,u=.str x/\v=.str x)\/(∃i,u=.int i/\v=.int i)\/∃(a b:gF)(o:fZ),u=.ref a/\v=.ref b/\H a=some (.lst (o.map V.str))/\H b=some (.lst (o.map V.str))
theorem BE:∀{vs:aG}{us:gA},ZI vs us->us.length=vs.length/\∀(j:Nat)(v:V)(u:gE),vs[j]?=some v->us[j]?=some u->ZG v u
 | [],_,.nil=>⟨rfl,λj v u h=>by simp at h⟩
 | _::_,_,.cons r rr=>by
  obtain⟨a,b⟩:=BE rr;refine⟨by rw[yJ,a];rfl,λj v u h k=>?_⟩;cases j with
  | zero=>cases h;cases k;exact r
  | succ j=>exact b j v u h k
theorem DB{us:gA}{j:Nat}(h:j<us.toArray.size):us[j]?=some us.toArray[j]:=by grind
theorem fI{B:List (gF×Obj)}{L:St}{H:Hp}{s:gD}{A:gI}{a b:gF}{o:fZ}(I:ZE X B L H s)(i:A.units<cLine)(c:H a=some (.lst (o.map V.str)))(d:H b=some (.lst (o.map V.str))):SeqAt.EqAt A s (.ref a) (.ref b) true:=by
 by_cases e:a=b
 .subst e;exact SeqAt.EqAt.same _
 .obtain⟨k,g,b,_⟩:=I.list (ZD.of c);obtain⟨c,h,j,_⟩:=I.list (ZD.of d);obtain⟨c,f⟩:=BE g;obtain⟨d,g⟩:=BE h
  have h:=SeqAt.RcAt.lists (A:=A) (e:=λ_=>true) b.isList j.isList (by simp;lia) i (λj b i=>by
   have d:j<o.length:=by rw[xA] at c;simp at b;lia
   have c:(o.map V.str)[j]?=some (.str o[j]):=by rw[xC,xB d];rfl
   obtain⟨l,d⟩:=f j _ _ c (DB b);obtain⟨f,b⟩:=g j _ _ c (DB i);rw[d,b,<- wR o[j]]
   exact mn _ _ _ _)
  rw[show ((List.range k.toArray.size).all λ_=>true)=true by simp] at h;exact SeqAt.EqAt.of_refs e h
inductive Av(x y:V)(H:Hp)(Q:VK):Prop
 |mk(a b:gF) (c d:aG)(_:x=.ref a)(_:y=.ref b)(_:H a=some (.tup c))(_:H b=some (.tup d))(_:c.length=d.length)(_:∀(j:Nat)(u v:V),c[j]?=some u->d[j]?=some v->Da H u v)(_:Q (.bl false) H)
theorem XT(r:X.A.units+1<cLine):TK X (compareOp .NotEq) Av:=by
 intro B s L H x y v u Q I j k ⟨a,b,t,w,f,g,h,i,l,p,q⟩;subst f g;obtain rfl:v=Value.ref a:=j;obtain rfl:u=Value.ref b:=k;obtain⟨l,j,f,_⟩:=I.tuple (ZJ.of h);obtain⟨m,h,g,_⟩:=I.tuple (ZJ.of i);obtain⟨k,i⟩:=BE j;obtain⟨j,k⟩:=BE h
 have h:=SeqAt.RcNeAt.tuples (A:=X.A) (e:=λ_=>true) (show s.heap.IsTuple a _ from f) (show s.heap.IsTuple b _ from g) (by lia) (λj b n=>by
  have g:j<t.length:=by simp at b;lia
  have f:j<w.length:=by lia
  have a:=i j _ _ (xB g) (DB b);have b:=k j _ _ (xB f) (DB n);rcases p j _ _ (xB g) (xB f) with⟨x,f,g⟩ | ⟨x,f,g⟩ | ⟨c,d,o,f,g,k1,k2⟩
  .rw[f] at a;rw[g] at b;obtain⟨n,i⟩:=a;obtain⟨p,k⟩:=b;rw[i,k];show SeqAt.EqAt _ _ _ _ true;rw[<- wR x];exact mn _ _ _ _
  .rw[f] at a;rw[g] at b;obtain⟨n,i⟩:=a;obtain⟨p,k⟩:=b;rw[i,k];show SeqAt.EqAt _ _ _ _ true;rw[<- wR x];exact ml _ _ _ _
  .rw[f] at a;rw[g] at b;have i:l.toArray[j]=Value.ref c:=a;have k:m.toArray[j]=Value.ref d:=b;rw[i,k]
   exact fI I (by show X.A.units+1<cLine;exact r) k1 k2)
 rw[show (!((List.range (min l.toArray.size m.toArray.size)).all (λ_=>true)&&l.toArray.size==m.toArray.size))=false by simp;lia] at h;exact h X.prog X.w _ _ ⟨.bl false,H,I,rfl,q⟩
theorem Py(a:ZL k X.A):YT X (compareOp .NotEq) Av:=⟨XT (by have:=a.units;lia)⟩
abbrev lxE(X:Cx)(E:St->XK):gE->gD->Prop:=λ(e:gE) (s':gD)=>∃ L H a C,e=.ref a/\ZE X [] L H s'/\Ta X.s₀.heap H s'.heap a C/\E L (.ref C) none H
abbrev Cx.lx(X:Cx)(E:St->XK):Cx:=X.ox (lxE X E)
theorem RM{X:Cx}{st:Stmt}{t:TS}{E:St->XK}(p:Pl X)(w:Xp X E)(h:Xq (X.lx E) E->Xp (X.lx E) E->PassesOwn (model X.prog X.w) X.A X.env (lxE X E)->QS (X.lx E) st t):QS X st t:=⟨by
 intro B s L H D I q;have j:∀{a} {L:St}{H:Hp}{s:gD}{B:List (gF×Obj)},ZE X B L H s->ZE (X.ox a) B L H s:=λI=>⟨⟨I.ok.mod,I.ok.kind,I.ok.glob,I.ok.blt,I.ok.above,I.ok.inj,I.ok.has,I.ok.ie,I.ok.hd,I.ok.frames,I.ok.iW,I.ok.exf,I.ok.bs,I.ok.ic,I.ok.iM,I.ok.ir,I.ok.iA,I.ok.iy⟩,I.os,I.bare,I.base,I.loc,I.cell,I.free,I.ix,I.pin,I.iD,I.len⟩;have b:∀{a} {L:St}{H:Hp}{s:gD}{B:List (gF×Obj)},ZE (X.ox a) B L H s->ZE X B L H s:=λI=>⟨⟨I.ok.mod,I.ok.kind,I.ok.glob,I.ok.blt,I.ok.above,I.ok.inj,I.ok.has,I.ok.ie,I.ok.hd,I.ok.frames,I.ok.iW,I.ok.exf,I.ok.bs,I.ok.ic,I.ok.iM,I.ok.ir,I.ok.iA,I.ok.iy⟩,I.os,I.bare,I.base,I.loc,I.cell,I.free,I.ix,I.pin,I.iD,I.len⟩;have l:PassesOwn (model X.prog X.w) X.A X.env (lxE X E):=by
  rintro e u ⟨c,d,a,C,rfl,g,k,i⟩;refine Gc g p.pn p.ex p.iW p.fr k λo m f _=>?_;obtain⟨y,n,F,N,x,t,z,r,K,T,A,J,M,v,G⟩:=id f;show wpAny _ _ (field (.ref a) 1 >>= _) _ _ _;refine wpAny_bind (wpAny_field t r v ?_);rw[if_neg (show ¬((Value.ref T==Value.none)=true) from by simp)];exact En (s:={u with heap:=o }) m p.pn f λn f m=>⟨c,d,a,C,rfl,f,m.at_,i⟩
 have f:Xp (X.lx E) E:=⟨λB c d m a C g k i=>by exact⟨c,d,a,C,rfl,(b g).iS (λp l=>nomatch l),k,i⟩⟩;refine wpAny_mono ((h ⟨.inr ⟨p.ex,f⟩⟩ f l).h B s L H D (j I) q) (λf m q=>?_) λe m z=>?_
 .cases f with
  | next=>obtain⟨L,H,I,q⟩:=q;exact⟨L,H,b I,q⟩
  | brk=>obtain⟨L,H,I,q⟩:=q;exact⟨L,H,b I,q⟩
  | cont=>obtain⟨L,H,I,q⟩:=q;exact⟨L,H,b I,q⟩
  | ret u=>obtain⟨v,L,H,I,r,q⟩:=q;exact⟨v,L,H,b I,r,q⟩
 .obtain⟨c,d,a,C,rfl,g,k,i⟩:=z
  exact w.h [] c d m a C g k i⟩
theorem DH{X:Cx}{c a:Expr}{b:List Stmt}{d:TI}{g:TG}{t:TS}{pos:Pos}{E:St->XK}(p:Pl X)(j:Xp X E)(f:X.calm=true)(i:QI (X.lx E) c a d)(h:QG (X.lx E) c g)(e:Xq (X.lx E) E->Xp (X.lx E) E->WT (X.lx E) b t)(hs:∀x,foldedSetIterable a X.env x=pure x:=by intro _;rfl):QS X (.For c a b [] pos) (Mj d g t):=RM p j λb a c=>Wi (X:=X.lx E) c f i h (e b a) hs
section
variable{X:Cx}
end
section
variable{P:gG}{w:gH}{A:gI}{E:fX}{s:gD}
end
section
variable{X:Cx}{B:List (gF×Obj)}{L:St}{H:Hp}{s:gD}
theorem ZE.freeze{d:gF}{o:Obj}{U:List (ZT×V)}(I:ZE X B L H s)(e:H d=some (.dK U))(a:s.heap.get? d=some o):ZE X B L (upd H d (.frz o (.dK U))) s:=by
 have h:=I.write (h':=s.heap) (t':=s.toks) (x:=d) (e:=d) (o:=.frz o (.dK U)) (by rw[e];exact True.intro) (.inl rfl) (λ_ _ _ q=>q) ⟨o,a⟩ ⟨a,?_⟩
 .exact h
 .obtain⟨z,y,a,r,q⟩:=(show ZQ X.prog X.w H s.heap d (.dK U) from I.iD d _ e);exact⟨z,y,a,r,q⟩
theorem ZE.nofrz{d:gF}{U:List (ZT×V)}(I:ZE X B L H s)(e:H d=some (.dK U)):∀o u,X.H₀ d≠some (.frz o u):=λo u z=>by
 have:=I.base.iz d o u z;rw[e] at this;cases this
theorem ZE.thaw{d:gF}{o:Obj}{U:List (ZT×V)}(I:ZE X B L H s)(e:H d=some (.frz o (.dK U)))(j:∀o u,X.H₀ d≠some (.frz o u)):ZE X B L (upd H d (.dK U)) s:=by
 have a:∀b u,H b=some u->(∀x,u ≠ .frz o x)->b≠d:=λb u q n z=>by rw[z,e] at q;exact n _ (ma q).symm
 have f:∀b,H b=none->b≠d:=λb q z=>by rw[z,e] at q;cases q
 refine⟨I.ok,I.os,I.bare,⟨I.base.keep,I.base.slot,λb g q n i=>?_,I.base.there,λb J q=>?_,λb g u q=>?_,λb k q=>?_⟩,I.loc,I.cell,?_,λx c q=>?_,λp h=>?_,λb u q=>?_,I.len⟩
 .have:=I.base.free b g q n i;rw[Zf (f b this)];exact this
 .have:=I.base.o9 b J q;rw[Zf (a b _ this λ_ z=>nomatch z)];exact this
 .have:=I.base.iz b g u q;rw[Zf (λz=>j g u (by rw[<- z];exact q))];exact this
 .obtain⟨m,g⟩:=I.base.iZ b k q;exact⟨m,by rw[Zf (a b _ g λ_ z=>nomatch z)];exact g⟩
 .rw[Zf (f _ I.free)];exact I.free
 .rw[Zf (f _ (I.ix x c q))];exact I.ix x c q
 .obtain⟨i,g,j,k,l⟩:=I.pin p h;exact⟨i,by rw[Zf (f _ g)];exact g,j,k,l⟩
 .by_cases f:b=d
  .subst f;rw[Zj] at q;cases q;obtain⟨_,z,y,g,r,c⟩:=(show ZQ X.prog X.w H s.heap b (.frz o (.dK U)) from I.iD b _ e);exact⟨z,y,g,r,c⟩
  .rw[Zf f] at q;refine(I.iD b u q).iV (λ_ _ _ z=>z) (λc z=>?_) λc J z=>?_
   .rw[Zf (a c _ z λ_ y=>nomatch y)];exact z
   .rw[Zf (a c _ z λ_ y=>nomatch y)];exact z
end
section
variable{te:TE}
inductive C9(te:TE)(L:St)(H:Hp)(Q:VK):Prop
 |mk(d U)(_:H d=some (.dK U))(_:∀o,te L (upd H d (.frz o (.dK U))) λv Y=>Y d=some (.frz o (.dK U))/\Q v (upd Y d (.dK U)))
theorem cF(h:QE X e te):QE X e (C9 te):=⟨by
 intro B s L H Q I q;obtain⟨d,U,a,q⟩:=q;obtain⟨z,y,i,r,o,g,f,b,c⟩:=(show ZQ X.prog X.w H s.heap d (.dK U) from I.iD d _ a);have c:=I.nofrz a
 exact thn (h.h B s L _ _ (I.freeze a b) (q o)) λu i ⟨x,g,a,f,b,d⟩=>⟨x,_,a.thaw b c,f,d⟩⟩
end
def FK(d:gF)(o:Obj)(U:List (ZT×V)):It :=
 ⟨λi H=>H d=some (.frz o (.dK U))/\i<U.length,λi H v Y=>Y=H/\∃p,U[i]?=some p/\v=kV p.1,λi H=>H d=some (.frz o (.dK U))/\U.length<=i⟩
theorem Rc(h:(Wp P w).is k v=true):ZG (kV k) v:=by
 cases k with
 | inl i =>
  cases v<;>first
   | exact absurd (show false=true from h) xN
   | skip
  rename_i j t;have e:j=i:=by
   have h:(j==i)=true:=h;exact eq_of_beq h
  exact⟨t,by rw[e]⟩
 | inr x =>
  cases v<;>first
   | exact absurd (show false=true from h) xN
   | skip
  rename_i j t;have e:j=x:=by
   have h:(j==x)=true:=h;exact eq_of_beq h
  exact⟨t,by rw[e]⟩
theorem KV.get{a:Type}:∀{U:List (a×V)}{vs:List (a×gE)}{i:Nat}{p:a×V}{q:a×gE},KV U vs->U[i]?=some p->vs[i]?=some q->p.1=q.1/\ZG p.2 q.2:=by
 intro U vs i p q r;unfold KV at r
 induction r generalizing i with
 | nil=>intro h;simp at h
 | cons h t c =>
  intro a b;cases i with
  | zero =>
   have a:some _=some p:=a;have b:some _=some q:=b;cases a;cases b;exact h
  | succ i=>exact c (i:=i) a b
theorem Nf{P:gG}{w:gH}{K:uFg}{a:Expr}(it d:gF)(o:Obj)(U:List (ZT×V))(vs:List (ZT×gE))(j:Nat)(p:d≠it)(g:KV U vs)(S:∀h:Heap,h.get? d=some o->h.DictAt (Wp P w) d vs j) :
  VL P w K a (FK d o U) [it] it (λi h=>h.IsKeyIter it d i vs.length j) where
 mem:=by simp
 obj:=λi h st b c=>by
  have e:b=it:=by simpa using c
  subst e;obtain⟨a,O,m,f⟩:=st;exact⟨a,O,λv q=>by rw[f] at q;cases q⟩
 keep:=λi h l st k=>st.at λa q=>k it (by simp) a q
 item:=by
  intro X M R J m i B s L H E I r st N;subst M R J;obtain⟨y,z,f2,C,F,G⟩:=r it (by simp);obtain⟨u,t⟩:=N;obtain⟨f,_⟩:=(show ZQ X.prog X.w H s.heap d (.frz o (.dK U)) from I.iD d _ u);have W:=Walks.dictKeys (prog:=X.prog) (w:=X.w) (A:=X.A) (knd:=Wp X.prog X.w) (I.ok.hd m) it d p vs j;refine W.item i s _ _ (by rw[<- g.length];exact t) ⟨st,S _ f⟩ λv l Y p j Q=>?_;obtain⟨k,x,hx,hk⟩:=p;have Z:ZE X B L H {s with heap:=l,toks:=Y }:=I.turned (λb a c e=>Q b a (by simpa using c) e) y z C F G;obtain⟨a,O,v,x⟩:=id j.1;obtain⟨p,T⟩:∃p,U[i]?=some p:=⟨_,xB t⟩;have Q:p.1=k:=(KV.get g T hx).1;refine⟨_,rfl,Bv (s:={s with heap:=l,toks:=Y }) (n:="dict_keyiterator") O v x aA ⟨kV p.1,H,Z,by rw[Q];exact Rc hk,⟨rfl,p,T,rfl⟩,j.1,λb c=>(r b c).1⟩⟩
 done:=by
  intro X M R J m i B s L H E I r st N;subst M R J;obtain⟨y,z,f2,C,F,G⟩:=r it (by simp);obtain⟨u,t⟩:=N;obtain⟨f,_⟩:=(show ZQ X.prog X.w H s.heap d (.frz o (.dK U)) from I.iD d _ u);exact wpAny_pyNext_dict_end (I.ok.hd m) st (S _ f) (wP (by rw[<- g.length];exact t)) λl f=>⟨rfl,I.turned (t':=s.toks) (λb a c e=>f b a c e) y z C F G⟩
 self:=λ_ _ _ _ _ st h=>wpAny_pyIter_keyiter st h
section
variable{te:TE}
inductive A7(R:It->Hp->Prop)(x:V)(a:Hp):Prop
 |mk(d o U)(_:x=.ref d)(_:a d=some (.frz o (.dK U)))(_:R (FK d o U) a)
def RE(te:TE):TI:=λL H R=>te L H λx a=>A7 R x a
theorem fQ(a:QE X l te):QI X tg l (RE te):=⟨by
 intro B s L H R I h;refine thn (a.h B s L H _ I h) λu f ⟨x,k,i,b,d,o,U,a,e,q⟩=>?_;subst a;obtain rfl:u=Value.ref d:=b;obtain⟨a,z,g,p,j,n,r,m,b,c⟩:=(show ZQ X.prog X.w k f.heap d (.frz o (.dK U)) from i.iD d _ e);rw[a] at b;cases b;have n:∀h:Heap,h.get? d=some o->h.DictAt (Wp X.prog X.w) d p m:=λh e=>⟨o,r,e,c⟩;refine wpAny_pyIter_dict g (n _ a) ?_;have c:d<f.heap.objs.size:=xU a;refine⟨f.heap.objs.size,[f.heap.objs.size],_,_,k,rfl,i.kept (t':=f.toks) λb a e=>xH _ e,Nf f.heap.objs.size d o U p m (yG c) j n,⟨_,xW _ rfl,rfl,rfl⟩,λb a=>?_,q⟩;have e:b=f.heap.objs.size:=by simpa using a
 subst e
 exact i.iw (xF _) (i.iD.fresh (xF _))⟩
end
theorem cQ(Pv:Nat->List V->Hp->Prop)(e:Pv 0 [] H)(h:U.length<=1000000)(c:∀i ys H,i<=U.length->Pv i ys H->H d=some (.frz o (.dK U)))(b:∀i ys H,Pv i ys H->ys.length<=i)(step:∀i p ys H,U[i]?=some p->Pv i ys H->V1 nl fv g tt te (kV p.1) H (λy Y=>Pv (i+1) (ys ++ [y]) Y) λY=>Pv (i+1) ys Y)(f:∀ys H,Pv U.length ys H->∀l,H l=none->Q (.ref l) (upd H l (.lst ys))) :
  Ux (FK d o U) nl fv g tt te Q H:=by
 have a:(U.map λp=>kV p.1).length=U.length:=xA ..;refine C5 (J:=U.map λp=>kV p.1) Pv e (by rw[a];exact h) ?_ ?_ ?_ b ?_ ?_
 .intro i H ys b p;rw[a] at b;exact⟨c i ys H (zE b) p,b⟩
 .rintro i H x Y ys b p ⟨rfl,q,e,rfl⟩;exact⟨rfl,by rw[xC,e];rfl⟩
 .intro H ys p;rw[a] at p |-;exact⟨c _ ys H (xF _) p,xF _⟩
 .grind
 .intro ys H p;rw[a] at p;exact f ys H p
inductive BV(K:uFg)(J:aG)(H:Hp)(Q:VK):Prop
 |mk(a) (ns)(_:J=[.ref a])(_:ZD K H a (ns.map V.int))(_:ns ≠ [])(_:∀m,m∈ns->(∀x∈ns,x<=m)->Q (.int m) H)
theorem HF:∀{us:gA},ZI (ns.map V.int) us->∃J:List (Int×Tok),J.map (·.1)=ns/\us=J.map λp=>Value.int p.1 p.2:=by
 induction ns with
 | nil=>intro us r;cases r;exact⟨[],rfl,rfl⟩
 | cons n ns c =>
  intro us r;cases r with
  | cons a d =>
   obtain⟨t,rfl⟩:=a;obtain⟨J,a,b⟩:=c d;exact⟨(n,t)::J,by rw[yF,a],by rw[yF,b]⟩
theorem cH(g:X.calm=true):QC X (.builtin "max") (BV X.K):=⟨by
 intro B s L H J a Q I r h;obtain⟨a,f,rfl,b,c,q⟩:=h;obtain⟨u,rfl,c⟩:=Tx r;cases c;obtain⟨c,e,p,_⟩:=I.list b;obtain⟨b,c,d⟩:=HF e;subst d;have d:s.heap.IsList a (intItems b.toArray):=by
  have:=p.isList;have e:intItems b.toArray=(b.map λp=>Value.int p.1 p.2).toArray:=by unfold intItems;simp
  rw[e];exact this
 have a:0<b.toArray.size:=by grind
 refine max_intList (I.ok.hd g) d a λv d e a k=>?_;obtain⟨e,d⟩:=argBest_gt (numAt b.toArray) (b.toArray.size - 1);generalize argBest (λi j=>decide (numAt b.toArray i > numAt b.toArray j)) (b.toArray.size - 1)=j at a e d;obtain⟨t,rfl⟩:=intItems_at a;have num:∀i:Nat,i<b.length->f[i]?=some (numAt b.toArray i):=λi a=>by
  rw[<- c,xC];unfold numAt;rw[List.getElem?_toArray,xB a];rfl
 have e:b.toArray.size=b.length:=xQ ..;have e:f.length=b.length:=by rw[<- c,xA]
 refine⟨.int (numAt b.toArray j),H,I.kept k,⟨t,rfl⟩,q _ (xG (num j (by lia))) λx c=>?_⟩;obtain⟨i,a⟩:=wE c;have c:i<b.length:=by have:=(xI.mp a).1;lia
 rw[num i c] at a;cases a
 exact d i (by lia)⟩
section
variable{prog:gG}{w:gH}{A:gI}{R:Result->gD->Prop}{I:gF}{fp wr:gC}{n:Nat}{P:Nat->gE->Prop}{St:Nat->Heap->Prop}
abbrev Ms(vs:Array gE)(c:Nat):Obj:={cls:=.type "list", dict:=none,data:=.seq vs c,slots:=#[] }
theorem mxn:(toString "max" ++ toString ".loop":String)= "max.loop" := by decide
theorem dM(W:Walks prog w A.in1 I fp wr n P St){p:Nat->Nat->Bool}(E:CmpOf prog w A.in1 .Gt P p){S:gF}(y:S∉fp)(kw:List (Str×gE))(k:Nat) :
  ∀(j:Nat)(s:gD)(g:gE)(c:Nat),n - (j+1)=k->j<n->St (j+1) s.heap->P (argBest p j) g->s.heap.get? S=some (Ms #[g,g] c)->
   (∀v h' l,P (argBest p (n - 1)) v->(∀b o,b∉wr->b≠S->s.heap.get? b=some o->h'.get? b=some o)->R (.ok (.ret v)) {s with heap:=h',toks:=l })->
   codeAny (model prog w) A (.builtin "max.loop" ⟨[.ref I,.none,.ref S],kw⟩) R s:=by
 have z:S∉wr:=λh=>y (W.sub _ h)
 induction k with
 | zero =>
  intro j s g c m f d u t x;obtain rfl:j+1=n:=by lia
  refine codeAny_builtin F.entry_max_loop ?_;rw[mP mS _];refine wpAny_bind (wpAny_seqItems t rfl ?_);refine wpAny_bind (wpAny_tryCatch (W.done s _ _ d λh' l a=>wpAny_bind (wpAny_updateSeq (a S _ z t) rfl (wpAny_bind (wpAny_letGo (wpAny_pure ?_))))));exact x g _ l u λb o i r e=>(yQ _ _ (Ne.symm r)).trans (a b o i e)
 | succ k C =>
  intro j s g c m f d u t x;have m:j+1<n:=by lia
  refine codeAny_builtin F.entry_max_loop ?_;rw[mP mS _];refine wpAny_bind (wpAny_seqItems t rfl ?_);refine wpAny_bind (wpAny_tryCatch (W.item (j+1) s _ _ m d λv h' l B f a=>?_));have l:=a S _ z t;refine wpAny_bind (wpAny_pure (wpAny_bind (wpAny_tryCatch (wpAny_holding (wpAny_bind (E (j+1) (argBest p j) v g _ _ _ B u (wpAny_bind (wpAny_holding (wpAny_truthy_bool (wpAny_bind (wpAny_letGo (wpAny_pure ?_))))))))))));cases z:p (j+1) (argBest p j) with
  | true =>
   simp only[if_true];refine wpAny_bind (wpAny_updateSeq l rfl (wpAny_bind (wpAny_letGo ?_)));rw[mxn]
   exact wpAny_pure ⟨plainId_quiet mS _,C (j+1) _ v _ (by lia) m (W.frame _ _ _ f λb d o e=>(yQ _ _ (λh:S=b=>y (h▸d))).trans e) (by simp only[argBest,z,if_true];exact B) (zO _ l rfl)
    λy r t p h=>x y r t p λb o i d e=>h b o i d ((yQ _ _ (Ne.symm d)).trans (a b o i e))⟩
  | false =>
   simp only[zH,if_false];refine wpAny_bind (wpAny_letGo ?_);rw[mxn];exact wpAny_pure ⟨plainId_quiet mS _,C (j+1) _ g c (by lia) m f (by simp only[argBest,z,zH,if_false];exact u) l λy r t p h=>x y r t p λb o i d e=>h b o i d (a b o i e)⟩
theorem OQ(W:Walks prog w A.in1 I fp wr n P St){a:Nat->Nat->Bool}(r:CmpOf prog w A.in1 .Gt P a){S:gF}(k:S∉fp){e:Str}{d:gE}{s:gD}{c:Nat}(f:St 0 s.heap)(m:s.heap.get? S=some (Ms #[] c))(l:∀v h' j,(if n=0 then v=d else P (argBest a (n - 1)) v)->(∀b o,b∉wr->b≠S->s.heap.get? b=some o->h'.get? b=some o)->R (.ok (.ret v)) {s with heap:=h',toks:=j }) :
  codeAny (model prog w) A (.builtin "max.loop" ⟨[.ref I,.none,.ref S],[(e,d)]⟩) R s:=by
 have u:S∉wr:=λh=>k (W.sub _ h);refine codeAny_builtin F.entry_max_loop ?_;rw[mP mS _];refine wpAny_bind (wpAny_seqItems m rfl ?_)
 by_cases p:n=0
 .subst p;exact wpAny_bind (wpAny_tryCatch (W.done s _ _ f λh' j a=>wpAny_bind (wpAny_rule (wpAny_pure (l d h' j rfl λb o i _ e=>a b o i e)))))
 .refine wpAny_bind (wpAny_tryCatch (W.item 0 s _ _ (by lia) f λv h' j t g a=>?_));have f:=a S _ u m;refine wpAny_bind (wpAny_pure (wpAny_bind (wpAny_updateSeq f rfl ?_)));rw[mxn];refine wpAny_pure ⟨plainId_quiet mS _,dM W r k _ _ 0 _ v _ rfl (by lia) (W.frame _ _ _ g λb g o e=>(yQ _ _ (λh:S=b=>k (h▸g))).trans e) t (zO _ f rfl) λk h j f g=>?_⟩;exact l k h j (by rw[if_neg p];exact f) λb o i f e=>g b o i f ((yQ _ _ (Ne.symm f)).trans (a b o i e))
theorem Ra(a d:gE):argsOk "max" ⟨[a],[(Str.ofString "default", d)]⟩:=by unfold argsOk;kernel_rfl
end
inductive BQ(K:uFg)(J:aG)(k:V)(H:Hp)(Q:VK):Prop
 |mk(a) (ns) (d)(_:J=[.ref a])(_:k=.int d)(_:ZD K H a (ns.map V.int))(_:∀m,(if ns=[] then m=d else m∈ns/\∀x∈ns,x<=m)->Q (.int m) H)
theorem bD(l:X.calm=true):Mg X (.builtin "max") "default" (BQ X.K):=⟨by
 intro B s L H J b k a Q I r c h;obtain⟨a,k,d,rfl,rfl,b,q⟩:=h;obtain⟨u,rfl,e⟩:=Tx r;cases e;obtain⟨h,rfl⟩:=c;obtain⟨c,e,p,_⟩:=I.list b;obtain⟨c,j,b⟩:=HF e;subst b;have b:s.heap.IsList a (intItems c.toArray):=by
  have e:intItems c.toArray=(c.map λp=>Value.int p.1 p.2).toArray:=by unfold intItems;simp
  rw[e];exact p.isList
 have m:(intItems c.toArray).size=c.length:=by simp[intItems]
 have f:k.length=c.length:=by rw[<- j,xA]
 refine kmk_tree F.kind_max F.plain_max F.entry_max (Ra _ _) ?_;refine wpAny_bind (wpAny_of_eq (show Builtin.Builtins.bindParams "max" ["key","default"] 0 ⟨[],[(Str.ofString "default", .int d h)]⟩=pure [none,some (.int d h)] from rfl) (wpAny_bind (wpAny_pure (wpAny_bind (iter_intList b λi e st b g=>?_)))));subst e;refine wpAny_bind (wpAny_newObj_type ?_);rw[mxn];have W:=Walks.list (prog:=X.prog) (w:=X.w) (A:=X.A.in1) (I.ok.hd l) _ a g (intItems c.toArray);refine wpAny_pure ⟨plainId_quiet mS _,OQ W (CmpOf.ints_gt (numAt c.toArray) (λ_ _=>intItems_at)) (λa=>zT _ (b _ a)) (W.frame _ _ _ st λb _ o e=>xH _ e) (xW _ rfl) λv i g a l=>?_⟩;have g:∀b o,s.heap.get? b=some o->i.get? b=some o:=old_kept λb o i e=>l b o i (yG (xU e)) (xH _ e);rw[m] at a;have num:∀i:Nat,i<c.length->k[i]?=some (numAt c.toArray i):=λi b=>by
  rw[<- j,xC];unfold numAt;rw[List.getElem?_toArray,xB b];rfl
 by_cases e:c.length=0
 .rw[if_pos e] at a;subst a;exact⟨.int d,H,I.kept g,⟨h,rfl⟩,q d (by rw[if_pos (mT (f.trans e))])⟩
 .rw[if_neg e] at a;obtain⟨h,d⟩:=argBest_gt (numAt c.toArray) (c.length - 1);generalize argBest (λi j=>decide (numAt c.toArray i > numAt c.toArray j)) (c.length - 1)=j at a h d;obtain⟨t,rfl⟩:=intItems_at a
  refine⟨.int (numAt c.toArray j),H,I.kept g,⟨t,rfl⟩,q _ (by
   rw[if_neg (λz=>e (by rw[<- f,z];rfl))];refine⟨xG (num j (by lia)),λx a=>?_⟩;obtain⟨i,b⟩:=wE a;have a:i<c.length:=by have:=(xI.mp b).1;lia
   rw[num i a] at b;cases b
   exact d i (by lia))⟩⟩
section
variable{o:Expr}{te:TE}
end
theorem Rz(n:Nat)(f:Nat->Option (List V))(Pv:Nat->List V->Hp->Prop)(j:Pv 0 [] H)(a:n<=1000000)(d:∀i H ys,i<n->Pv i ys H->J.go i H)(k:∀i H x Y ys,i<n->Pv i ys H->J.oy i H x Y->∃p us,f i=some us/\x=.ref p/\H p=none/\Y=upd H p (.tup us))(a:∀H ys,Pv n ys H->J.stop n H)(b:∀i ys H,Pv i ys H->ys.length<=i)(step:∀i us p ys H,i<n->f i=some us->Pv i ys H->H p=none->V1 nl fv g tt te (.ref p) (upd H p (.tup us)) (λy Y=>Pv (i+1) (ys ++ [y]) Y) λY=>Pv (i+1) ys Y)(a:∀ys H,Pv n ys H->∀l,H l=none->Q (.ref l) (upd H l (.lst ys))) :
  Ux J nl fv g tt te Q H:=by
 have c:∀{x:V}{H:Hp}{a h:V->Hp->Prop}{N e:Hp->Prop},V1 nl fv g tt te x H a N->a=h->N=e->V1 nl fv g tt te x H h e:=λh a e=>by subst a;subst e;exact h
 refine⟨λi m ys H=>m=n - i/\i<=n/\Pv i ys H,⟨n,by simp,yP _,j⟩,?_⟩;rintro i m ys H ⟨rfl,a,p⟩;have a:=b i ys H p;have a:(1000000:Nat)<sizeLine:=by decide
 by_cases a:i<n
 .refine .inr ⟨d i H ys a p,by lia,n - (i+1),by lia,λx Y y=>?_⟩;obtain⟨q,us,b,rfl,d,rfl⟩:=k i H x Y ys a p y;refine c (step i us q ys H a b p d) ?_ ?_
  .funext y H4;apply propext;exact⟨λq=>⟨rfl,a,q⟩,λq=>q.2.2⟩
  .funext H3;apply propext;exact⟨λq=>⟨rfl,a,q⟩,λq=>q.2.2⟩
 .grind
theorem QD{K:uFg}{l:gF}{d:Nat}{b:St}{g:TG}{f:Te}{e:TE}{Q:VK}{H:Hp}(J:aG)(Pv:Nat->List V->Hp->Prop)(h:Pv 0 [] H)(k:J.length<=1000000)(c:∀i ys H,i<=J.length->Pv i ys H->ZD K H l J)(a:∀i ys H,Pv i ys H->ys.length<=i)(step:∀i x p ys H,J[i]?=some x->Pv i ys H->H p=none->V1 d b g f e (.ref p) (upd H p (.tup [.int i,x])) (λy Y=>Pv (i+1) (ys ++ [y]) Y) λY=>Pv (i+1) ys Y)(j:∀ys H,Pv J.length ys H->∀l,H l=none->Q (.ref l) (upd H l (.lst ys))) :
  Ux (DZ K l) d b g f e Q H:=by
 refine Rz J.length (λi=>(J[i]?).map λx=>[.int i,x]) Pv h k (λi H ys b p=>⟨J,c i ys H (zE b) p,b⟩) ?_ (λH ys p=>⟨J,c _ ys H (xF _) p,xF _⟩) a ?_ j
 .rintro i H x Y ys b p ⟨q,a,rfl,e,rfl,d⟩;exact⟨q,_,by rw[d J (c i ys H (zE b) p)];rfl,rfl,e,rfl⟩
 .grind
theorem Ir{K:uFg}{a:gF}{J:aG}{e:Nat}{d:St}{g:TG}{h:Te}{f:TE}{Q:VK}{H:Hp}(Pv:Nat->List V->Hp->Prop)(j:Pv 0 [] H)(m:J.length<=1000000)(c:∀i ys H,i<=J.length->Pv i ys H->ZJ K H a J)(b:∀i ys H,Pv i ys H->ys.length<=i)(step:∀i x ys H,J[i]?=some x->Pv i ys H->V1 e d g h f x H (λy Y=>Pv (i+1) (ys ++ [y]) Y) λY=>Pv (i+1) ys Y)(k:∀ys H,Pv J.length ys H->∀l,H l=none->Q (.ref l) (upd H l (.lst ys))) :
  Ux (Eh K a) e d g h f Q H:=by
 refine C5 (J:=J) Pv j m ?_ ?_ ?_ b step k
 .intro i H ys b p;exact⟨J,J[i],c i ys H (zE b) p,by simp[b]⟩
 .rintro i H x Y ys b p ⟨rfl,y⟩;exact⟨rfl,y J (c i ys _ (zE b) p)⟩
 .intro H ys p;exact⟨J,c _ ys H (xF _) p,xF _⟩
section
variable{X:Cx}
inductive AS(K:uFg)(J:aG)(H:Hp)(Q:VK):Prop
 |mk(p ys)(_:J=[.ref p])(_:((ZD K H p ys/\∀l,H l=none->Q (.ref l) (upd H l (.tup ys)))\/(ZJ K H p ys/\Q (.ref p) H)))
theorem Xk:QC X (.type "tuple") (AS X.K):=.imp ⟨PN⟩ λ_ _ _ ⟨p,y,a,b⟩=>⟨p,y,a,b⟩
end
section
variable{X:Cx}{tg iter e:Expr}{es ifs:List Expr}{F:Scope}{pos cpos np:Pos}{locs:fZ}{fr:List (Str×Nat)}{g:TG}{tt:Te}{t:TA}{x:Str}
end
theorem Dp{P:gG}{w:gH}{K:uFg}{mg:fY}{Z:Heap}{N:fZ}{qual:Str}{F:Scope}{f:gF}{a:gE}{A:gI}{outer:List Env}{s:gD}{H:Hp}{E:XK} :
  Pl (Y8 (UZ P w) P w K mg Z N qual F f a A outer s H E):=⟨rfl,rfl,rfl,rfl⟩
inductive JG(K:uFg)(x y:V)(H:Hp)(Q:VK):Prop
 |mk(b p) (c) (n) (vs)(_:x=.ref b)(_:H b=some (.tup [.int c,.str n]))(_:y=.ref p)(_:ZD K H p vs)(_:∀v∈vs,v=.non\/∃a d e,v=.ref a/\H a=some (.tup [.int d,.str e]))(_:∀z:Bool,(z=true↔∃a,V.ref a∈vs/\H a=some (.tup [.int c,.str n]))->Q (.bl (!z)) H)
theorem Hy{B:List (gF×Obj)}{L:St}{H:Hp}{s:gD}{A:gI}{b:gF}{c:Int}{n:Str}(I:ZE X B L H s)(g:A.units<cLine)(j:H b=some (.tup [.int c,.str n])) :
  ∀{vs:aG}{us:gA},(∀v∈vs,v=.non\/∃a f i,v=.ref a/\H a=some (.tup [.int f,.str i]))->ZI vs us->(∀u∈us,SeqAt.EqAt A s u (.ref b) (Tq H c n u))/\(us.any (Tq H c n)=true↔∃a,V.ref a∈vs/\H a=some (.tup [.int c,.str n]))
 | [],us,h,r=>by
  cases r;exact⟨(λu g=>nomatch g),(by simp)⟩
 | v::vs,us,h,r=>by
  cases r with
  | cons l e =>
   rename_i o d;obtain⟨k,m⟩:=Hy I g j (λx d=>h x (xO _ d)) e;rcases h v yE with rfl | ⟨a,f,i,rfl,h1⟩
   .cases l;obtain⟨e,h,p,d⟩:=I.tuple (ZJ.of j);refine⟨λu d=>?_,?_⟩
    .rcases xD.mp d with rfl | d
     .exact SeqAt.EqAt.none_tuple (show s.heap.IsTuple b e.toArray from p) g
     .exact k u d
    .rw[mr];show (false || _)=true↔_;rw[Bool.false_or,m];exact⟨λ⟨a,m,e⟩=>⟨a,xO _ m,e⟩,λ⟨a,m,e⟩=>⟨a,(xD.mp m).elim (λz=>nomatch z) id,e⟩⟩
   .obtain rfl:o=Value.ref a:=l;have e:Tq H c n (.ref a)=decide ((f,i)=(c,n)):=by
     show (match H a with | some (.tup [.int f,.str i])=>decide ((f,i)=(c,n)) | _=>false)=_;rw[h1]
    refine⟨λu d=>?_,?_⟩
    .rcases xD.mp d with rfl | d
     .rw[e];exact GJ I g h1 j
     .exact k u d
    .grind
theorem HX(h:ZL k X.A):YT X (compareOp .NotIn) (JG X.K):=⟨by
 intro B s L H x y v u Q I j l ⟨b,p,c,n,i,a,e,d,g,f,q⟩;have i:X.A.units+1<cLine:=by have:=h.units;lia
 subst a d;obtain rfl:v=Value.ref b:=j;obtain rfl:u=Value.ref p:=l;obtain⟨a,r,h,b⟩:=I.list g;obtain⟨b,d⟩:=Hy (A:=X.A.in1) I (by show X.A.units+1<cLine;exact i) e f r;refine SeqAt.notIn_listAt (Tq H c n) h.isList (λw e=>b w (by simpa using e)) ⟨.bl _,H,I,rfl,?_⟩;rw[show a.toArray.any (Tq H c n)=a.any (Tq H c n) by simp]
 exact q _ d⟩
section
variable{s:gD}{r:Nat->Nat}{N:Nat}{p:Array Nat}
end
section
variable{prog:gG}{w:gH}{A:gI}{s:gD}
end
section
variable{X:Cx}{B:List (gF×Obj)}{L:St}{H:Hp}{s:gD}
end
section
variable{te:TE}
end
end L2
namespace PySem.F
theorem sub_rgi_reversed:isSubtype (.type "range_iterator") (.type "reversed")=pure false:=by rw[isSubtype_type];kernel_rfl
end PySem.F
namespace L2
open PySem PySem.Spec PyProof.Rows PySem.W
theorem NS:bootBuiltins "reversed"=some (.type "reversed"):=aA
def rgi(a n c:Int):Obj:={cls:=.type "range_iterator", data:=.fields #[rawInt a,rawInt n,rawInt c] }
theorem Mv(c:IsRange s.heap r a b 1 t u v)(d : -(2^62)<=a)(d:a<2^62)(d : -(2^62)<=b)(d:b<2^62)(h:Q (.ref s.heap.objs.size) {s with heap:=s.heap.push (rgi (a+(Builtin.Range.rangeSize a b 1 - 1) * 1) (Builtin.Range.rangeSize a b 1) (-1)) }):wpAny (model prog w) A (call (.builtin "range.__reversed__") [.ref r]) Q E s:=by
 have d:s.TypeIs (.ref r) "range" := ⟨_,c,rfl⟩;refine wpAny_call_entry PySem.F.slot_range_reversed d PySem.F.entry_range_reversed ?_ (PySem.F.args_range_reversed_1 _);unfold Builtin.«range.__reversed__»;refine wpAny_bind (wpAny_of_eq (a:=Value.ref r) rfl ?_);unfold Builtin.Range.rangeFields;refine wpAny_bind (wpAny_bind (wpAny_field c rfl (x:=.int a t) rfl (wpAny_bind (wpAny_of_eq (a:=some a) rfl (wpAny_bind (wpAny_field c rfl (x:=.int b u) rfl (wpAny_bind (wpAny_of_eq (a:=some b) rfl (wpAny_bind (wpAny_field c rfl (x:=.int 1 v) rfl (wpAny_bind (wpAny_of_eq (a:=some 1) rfl (wpAny_pure ?_)))))))))))));dsimp only;have e:(Builtin.Range.rangeFitsLong a&&Builtin.Range.rangeFitsLong b&&Builtin.Range.rangeFitsLong 1&&Builtin.Range.rangeFitsLong (-1)&&Builtin.Range.rangeFitsLong (a - 1)&&Builtin.Range.rangeFitsLong (Builtin.Range.rangeSize a b 1))=true:=by
  rw[rangeSize_one];simp only[Builtin.Range.rangeFitsLong,yO,decide_eq_true_eq];split<;>lia
 rw[e];simp only[Bool.not_true,zH,if_false,if_true];exact wpAny_bind (wpAny_newObj_type (wpAny_pure ⟨_,rfl,h⟩))
theorem cO(c:IsRange s.heap r a b 1 t u v)(d : -(2^62)<=a)(e:a<2^62)(f : -(2^62)<=b)(g:b<2^62)(h:Q₁ (.ref s.heap.objs.size) {s with heap:=s.heap.push (rgi (a+(Builtin.Range.rangeSize a b 1 - 1) * 1) (Builtin.Range.rangeSize a b 1) (-1)) }) :
  codeAny (model prog w) A (.call (.builtin "reversed.__new__") ⟨[.type "reversed", .ref r],[]⟩) (wants Q₁ E) s:=by
 have b:s.TypeIs (.ref r) "range" := ⟨_,c,rfl⟩;refine codeAny_of_tree ?_;show wpAny _ A.in1 (do checkBuiltinCall "reversed.__new__" ⟨[.type "reversed", .ref r],[]⟩;again (.builtin "reversed.__new__" ⟨[.type "reversed", .ref r],[]⟩)) _ _ s;refine wpAny_bind (wpAny_of_eq (PySem.F.newCall_reversed_1 _) (wpAny_pure ⟨plainId_quiet PySem.F.plain_reversed_new _,codeAny_builtin PySem.F.entry_reversed_new ?_⟩));rw[mP PySem.F.plain_reversed_new _];unfold Builtin.«reversed.__new__»;refine wpAny_bind (wpAny_of_eq (newClass_reversed _) ?_)
 try dsimp only
 refine wpAny_bind (wpAny_of_eq (a:=()) (by first | rfl | kernel_rfl) ?_);refine wpAny_bind (wpAny_of_eq (a:=()) (by first | rfl | kernel_rfl) ?_)
 try dsimp only
 refine wpAny_bind (wpAny_specialOf b PySem.F.slot_range_reversed.lookup ?_)
 try dsimp only
 refine wpAny_bind (wpAny_of_eq (PySem.F.slot_range_reversed.bind _) ?_)
 try dsimp only
 have b:¬((Value.builtin "range.__reversed__"==Value.none)=true):=xN
 first
 | rw[if_neg b]
 | (show wpAny _ _ (if (Value.builtin "range.__reversed__"==Value.none)=true then _ else _) _ _ _;rw[if_neg b])
 refine wpAny_bind (wpAny_rule ?_);refine wpAny_bind (m:=runValue (.call (.builtin "range.__reversed__") ⟨[.ref r],[]⟩)) (show wpAny _ _ (call (.builtin "range.__reversed__") [.ref r]) _ _ _ from Mv c d e f g ?_)
 first
 | exact wpAny_pure h
 | exact wpAny_bind (wpAny_pure (wpAny_pure h))
theorem eA(j:IsRange s.heap r a b 1 t u v)(e : -(2^62)<=a)(f:a<2^62)(g : -(2^62)<=b)(i:b<2^62)(h:Q (.ref s.heap.objs.size) {s with heap:=s.heap.push (rgi (a+(Builtin.Range.rangeSize a b 1 - 1) * 1) (Builtin.Range.rangeSize a b 1) (-1)) }):wpAny (model prog w) A (call (.type "reversed") [.ref r]) Q E s:=by
 refine callType_other (U:="range_iterator") (Q₁:=λd c=>d=.ref s.heap.objs.size/\c={s with heap:=s.heap.push (rgi (a+(Builtin.Range.rangeSize a b 1 - 1) * 1) (Builtin.Range.rangeSize a b 1) (-1)) }) aA PySem.F.create_reversed ⟨_,_,PySem.F.mro_reversed⟩ PySem.F.made_reversed PySem.F.sub_rgi_reversed (PySem.F.typeCall_reversed_1 _) (cO j e f g i ⟨rfl,rfl⟩) ?_;rintro d c ⟨rfl,rfl⟩;exact⟨⟨_,xW _ rfl,rfl⟩,h⟩
section
variable{X:Cx}{tg:Expr}
end
section
variable{X:Cx}{tg:Expr}
inductive JD(R:It->Hp->Prop)(vs:aG)(a:Hp):Prop
 |mk(n:Nat)(_:vs=[.int n])(_:n<1000000)(_:R (Co ((n:Int) - 1) n) a)
def cA(a:TA):TI:=λL H R=>a L H λb a=>JD R b a
theorem cI{a:Expr}{g:TA}{p q pos c:Pos}(e:Gl X "reversed")(f:X.mg "reversed"=none)(i:Gl X "range")(j:X.mg "range"=none)(d:QA X [a] g)(hs:starEach [a] X.env=[(false,eval a X.env)]:=by rfl)(b:starEach [.Call (.Name "range" p) [a] [] pos] X.env=[(false,eval (.Call (.Name "range" p) [a] [] pos) X.env)]:=by rfl) :
  QI X tg (.Call (.Name "reversed" q) [.Call (.Name "range" p) [a] [] pos] [] c) (cA g):=⟨by
 have d:=d.h;intro B s L H R I h;refine Call_ (Ut I e f NS (callWith_type1 ?_ b rfl));rw[b];refine mF ?_;refine Call_ (Ut I i j boot_range (callWith_type1 (thn (d pos B s L H _ I h) λe c ⟨h,d,f,g,b⟩=>?_) hs rfl));obtain⟨n,e,b,q⟩:=b;subst e;cases g with
 | cons r b =>
  cases b;obtain⟨t,rfl⟩:=r;refine call_range_1 (mG ?_);have b:(n:Int)<1000000:=by lia
  refine eA (IsRange.new ..) (by lia) (by lia) (by lia) (by lia) ?_;refine wpAny_pyIter_rangeiter (xW _ rfl) ?_;have g:Builtin.Range.rangeSize 0 (n:Int) 1=(n:Int):=by rw[rangeSize_one];split<;>lia
  refine⟨_,[_],_,_,d,rfl,?_,LQ _ ((n:Int) - 1) n,?_,λb j=>?_,q⟩
  .exact(f.kept λb o e=>xH _ e).kept λb o e=>xH _ e
  .show IsRangeIter _ _ ((n:Int) - 1+((0:Nat):Int) * (-1)) ((n:Int) - ((0:Nat):Int)) (-1);have h:(n:Int) - 1+((0:Nat):Int) * (-1)=0+(Builtin.Range.rangeSize 0 (n:Int) 1 - 1) * 1:=by rw[g];lia
   have i:(n:Int) - ((0:Nat):Int)=Builtin.Range.rangeSize 0 (n:Int) 1:=by rw[g];simp
   rw[h,i];exact xW _ rfl
  .have e:=xP.mp j;subst e;have g:ZE X B L d {c with heap:=c.heap.push {cls:=.type "range", data:=.fields #[.int 0 c.toks,.int n t,.int 1 (c.toks+1)] },toks:=c.toks+1+1 }:=f.kept λb o e=>xH _ e
   exact g.iw (xF _) (g.iD.fresh (xF _))⟩
end
section
variable{s:gD}{r:Nat->Nat}{N:Nat}{p:Array Nat}
end
section
variable{P:gG}{w:gH}{K:Frag}{mg:fY}{Z:Heap}
end
section
variable{X:Cx}{B:List (gF×Obj)}{L:St}{H:Hp}{s:gD}{c P:gF}{nm:Str}{params:Arguments}{body:Expr}{F:Scope}{lpos:Pos}
end
section
variable{X:Cx}{B:List (gF×Obj)}{L:St}{H:Hp}{s:gD}
variable{a kS:gF}{keys:Array gE}{b:Bool}{e e1:Nat}{Pf:PySem.Fin->gD->Prop}{E:fX}
end
section
variable{X:Cx}{c P:gF}{nm x:Str}{params:Arguments}{body:Expr}{F:Scope}{lpos p kp kp2 pos:Pos}{e:Expr}{te:TE}{k:Nat}
end
section
variable{P:gG}{w:gH}{K:uFg}{mg:fY}{Z:Heap}
end
section
variable{P:gG}{w:gH}{K:uFg}{mg:fY}{Z:Heap}{x nm:Str}{F:Scope}{f:gF}{cv:gE}{A:gI}{outer:List Env}{s:gD}{H:Hp}{E:XK}{pos:Pos}
end
section
variable{ta:TE}
def eW(K:Frag)(ta:TE):TT:=λL H Q=>ta L H λx Y=>∃k,GG K x Y k/\Q k Y
theorem QV(c:QE X a ta)(d:∀b,isTrue a X.env b=(do let v <- b;standAt a.pos;holding [v] (truthy v))):QT X a (eW X.K ta):=⟨by
 have c:=c.h;intro B s L H Q I h
 exact isTrue_plain (thn (c B s L H _ I h) λv g ⟨x,b,c,f,e⟩=>Sh B g L b x v Q c f e) (d _)⟩
end
section
variable{X:Cx}{o:Expr}{to:TE}{name:Str}{apos cpos:Pos}{T id:String}{r:V->List V->Hp->VK->Prop}
theorem R0:QM X "list.clear" AG:=⟨by
 intro B s L H x d v b Q I a c h;obtain⟨l,J,rfl,rfl,b,q⟩:=h;cases a;have a:=c.zero;subst a;obtain⟨z,a,n,r,c,e⟩:=I.iI b;refine call_meets F.slot_list_clear ⟨_,e,rfl⟩ F.entry_list_clear (F.args_list_clear_1 _) (AutoSeq1.list_clear_list_0 l a.toArray n (by rw[xQ];lia)) ⟨e,?_⟩
 exact⟨.non,_,I.lset (its':=[]) (ys:=[]) b e rfl .nil (yP _),rfl,q⟩⟩
theorem OU(i:PlainAttrs T)(c:Slot T name id)(f:typeOf (.builtin id)=pure (.type "method_descriptor"))(d:QM X id r)(e:QE X o to)(a:attributeBase o name X.env (eval o X.env)=eval o X.env:=by rfl)(b:(apos.endLine==cpos.line)=true:=by rfl):QE X (.Call (.Attribute o name apos) [] [] cpos) (Qy X.K T r to):=⟨by
 have d:=d.h;have e:=e.h;intro B s L H Q I h;refine wpAny_Call_method0_late a b (thn (e B s L H _ I h) λv k ⟨x,e,a,b,l,j⟩=>?_);obtain⟨g,h⟩:=LS a b l
 exact⟨T,id,i,c,f,g,h,mD rfl (PySem.evalArgs_none (d B k L e x [] v [] Q a b .nil j))⟩⟩
end
theorem Lp(c:l≠it):∀n i s Q,s.heap.IsListIter it l i->s.heap.IsList l items->i+n<=items.size ->
  (∀h',h'.IsListIter it l (i+n)->Heap.SameBut it s.heap h'->Q ((items.toList.drop i).take n) {s with heap:=h' })->wpAny (model prog w) A (draw (.ref it) n) Q E s
 | 0,i,s,Q,a,_,_,hQ=>by
  show wpAny _ _ (pure []) Q E s;exact wpAny_pure (by simpa using hQ s.heap a (Heap.SameBut.refl ..))
 | n+1,i,s,Q,a,e,b,hQ=>by
  have d:i<items.size:=by lia
  show wpAny _ _ (pyNext (.ref it) >>= _) Q E s;refine wpAny_bind (wpAny_pyNext_list_item a e (x:=items[i]) (by simp[d]) λf b a=>?_);refine wpAny_bind (wpAny_holding (Lp c n (i+1) _ _ b (e.extBut a.extBut c) (by lia) λe b c=>wpAny_pure ?_));have f:items.toList.drop i=items[i]::items.toList.drop (i+1):=by simp[zQ,d]
  have:=hQ e (by rw[show i+(n+1)=i+1+n by lia];exact b) (a.trans c);rw[f,List.take_succ_cons] at this;exact this
theorem Xd {x1} (g:A.handled=none) (e:s.heap.IsList l items) (b:(assignEach elts env).length=items.size) (a:(assignEach elts env).findIdx? (·.1)=none) (h:∀h',Heap.ExtBut s.heap.objs.size s.heap h'->wpAny (model prog w) A (assignInOrder ((assignEach elts env).map (·.2)) items.toList) Q E {s with heap:=h' }) :
  wpAny (model prog w) A (assign (.Tuple elts x1 pos) env (.ref l)) Q E s:=by
 have d:l≠s.heap.objs.size:=by obtain⟨o,c,_⟩:=e;exact yG (xU c)
 rw[assign_Tuple];refine wpAny_bind (wpAny_standAt ?_);unfold unpack;rw[b,a];refine wpAny_bind (wpAny_holding ?_);unfold unpackItems;refine wpAny_bind ?_
 .unfold notIterableAtAll;refine wpAny_bind (wpAny_specialOf e.typeIs slot_list_iter.lookup ?_);refine wpAny_pure ?_;simp only[zH,if_false];refine wpAny_bind (wpAny_holding (wpAny_pyIter_list e ?_));refine wpAny_bind (wpAny_holding (Lp d items.size 0 _ _ ⟨_,xW _ rfl,rfl,rfl⟩ (e.push _) (by lia) λf b a=>?_));have c:List.take items.size (List.drop 0 items.toList)=items.toList:=by
   rw[mJ];exact yY (by simp)
  rw[c];rw[if_neg (by simp)];have c:f.IsList l items:=(e.push _).extBut a.extBut d;refine wpAny_bind (wpAny_holding (wpAny_pyNext_list_end g b c (by simp) λb c=>?_));simp only[Option.isSome_none,zH,if_false];refine wpAny_pure (h b λb o d e=>c b o d (a.extBut b o d (xH _ e)))
section
variable{X:Cx}{pos:Pos}
inductive Eo(K:uFg)(n:Nat)(t:Jd)(v:V)(L:St)(H:Hp)(Q:St->Hp->Prop):Prop
 |mk(a J)(_:v=.ref a)(_:ZD K H a J)(_:J.length=n)(_:t J L H Q)
theorem EA{a:List Expr}{k:Nat}{t:Jd}{n:Nat}(e:X.calm=true)(h:Bz X a t)(i:(assignEach a X.env).length=n:=by rfl)(b:(assignEach a X.env).findIdx? (·.1)=none:=by rfl):QG X (.Tuple a k pos) (Eo X.K n t):=⟨by
 intro B s L H v u Q I r c;obtain⟨a,J,d,l,g,c⟩:=c;subst d;cases r;obtain⟨p,d,⟨o,m,j,a,_,f⟩,r⟩:=I.list l;refine Xd (I.ok.hd e) ⟨o,j,a,m,f⟩ (by simp[i,<- g,d.length]) b λb f=>?_;have a:ZE X B L H {s with heap:=b }:=I.kept (t':=s.toks) λb o e=>f b o (yG (xU e)) e
 exact h.h B _ L H J _ Q a (by simpa using d) c⟩
end
inductive BU(J:aG)(H:Hp)(Q:VK):Prop
 |mk(i j l)(_:J=[.int i,.int j,.int l])(_:∀m,(m=i\/m=j\/m=l)->m<=i->m<=j->m<=l->Q (.int m) H)
theorem XZ(b:X.calm=true):QC X (.builtin "min") BU:=⟨by
 intro B s L H J a Q I r h;obtain⟨i,j,l,rfl,q⟩:=h;cases r with
 | cons c a=>cases a with
  | cons d a=>cases a with
   | cons e a =>
    cases a;obtain⟨a,rfl⟩:=c;obtain⟨a,rfl⟩:=d;obtain⟨a,rfl⟩:=e;refine min_three_ints (I.ok.hd b) λa b k=>?_
    by_cases b:j<i
    .rw[if_pos b]
     by_cases a:l<j
     .rw[if_pos a];exact⟨.int l,H,I.kept k,⟨_,rfl⟩,q l (.inr (.inr rfl)) (by lia) (by lia) (by lia)⟩
     .rw[if_neg a];exact⟨.int j,H,I.kept k,⟨_,rfl⟩,q j (.inr (.inl rfl)) (by lia) (by lia) (by lia)⟩
    .rw[if_neg b]
     by_cases a:l<i
     .rw[if_pos a];exact⟨.int l,H,I.kept k,⟨_,rfl⟩,q l (.inr (.inr rfl)) (by lia) (by lia) (by lia)⟩
     .rw[if_neg a];exact⟨.int i,H,I.kept k,⟨_,rfl⟩,q i (.inl rfl) (by lia) (by lia) (by lia)⟩⟩
def erB(K:uFg)(c:gB)(errs:fZ):Bool :=
 decide (nsIn K mainGlobals "MootError"=some (some (.ref (c "MootError"))))&&errs.all λx=>decide (nsIn K mainGlobals x=some (some (.ref (c x))))&&Ao K (c x)&&Jq K (c x)&&decide (Jl K (c x) (c "MootError")=some true)&&decide (kitOne K (.ref (c x)) (.type "ValueError")=some true) &&
  errs.all λy=>decide (Jl K (c x) (c y)=some (decide (x=y)))&&decide (kitOne K (.ref (c x)) (.ref (c y))=some (decide (x=y)))
theorem Qp{K:uFg}{h:Heap}{mg:fY}{c:gB}{errs:fZ}(X:K.In h)(G:h.Ns mainGlobals mg)(e:erB K c errs=true):Er K mg c errs:=by
 unfold erB at e;rw[yO,zV] at e;obtain⟨d,e⟩:=e;have b:∀x,x∈errs->(((((nsIn K mainGlobals x=some (some (.ref (c x)))/\Ao K (c x)=true)/\Jq K (c x)=true)/\Jl K (c x) (c "MootError")=some true)/\kitOne K (.ref (c x)) (.type "ValueError")=some true)/\∀y,y∈errs->Jl K (c x) (c y)=some (decide (x=y))/\kitOne K (.ref (c x)) (.ref (c y))=some (decide (x=y))):=λx a=>by grind
 exact⟨λx a=>mg_of X G (b x a).1.1.1.1.1,λx a=>(b x a).1.1.1.1.2,λx a=>(b x a).1.1.1.2,mg_of X G (of_decide_eq_true d),λx a=>(b x a).1.1.2,λx a y d=>((b x a).2 y d).1,λx a y d=>((b x a).2 y d).2,λx a=>(b x a).1.2⟩
end L2
namespace Law
open PySem L2
abbrev lg:List Str:=["self","name","day","weight"]
abbrev lj:List Str:=["_law_src_here","_law_base"]
abbrev lp:List Str:=["_law_deed_here"]
abbrev lr:List Str:=["_law_suits","_law_told","_law_case","_law_ones","_law_others","_law_need","_law_named","_law_lost_here","_law_found","_law_name","_law_weight"]
abbrev lu:List Str:=["_law_world","_law_deed_here"]
abbrev lz:List Str:=["_law_src_here","_law_world","_law_names_here","_law_day"]
abbrev lA:List Str:=["self","name","day"]
abbrev lB:List Str:=["_law_deeds","_law_name","_law_day"]
abbrev lC:List Str:=["_law_world","_law_deed_here","_law_deeds","_law_suits","_law_trials","_law_name","_law_things","_law_starts"]
abbrev lD:List Str:=["self","day","need","ones","others","oath"]
abbrev lE:List Str:=["_law_world","_law_deed_here","_law_deeds","_law_suits","_law_trials","_law_ones","_law_others","_law_named"]
abbrev lF:List Str:=["self","name","day","heir"]
abbrev lG:List Str:=["_law_name"]
abbrev lH:List Str:=["_law_moot","_law_deed_here"]
abbrev lI:List Str:=["_law_src_here","_law_names_here"]
abbrev lJ:List Str:=["NoMeasure","Unknown","NoThing","NoCase"]
abbrev lK:List Str:=["_law_src_here","_law_many"]
abbrev lL:List Str:=["NoOath","NotYet","Dead","TooMany"]
abbrev lM:List Str:=["_law_src_here","_law_world","_law_suits","_law_case","_law_swearers"]
abbrev lN:List Str:=["_law_src_here","_law_moot","_law_world","_law_names_here"]
abbrev lO:List Str:=["suits","case","name"]
abbrev lP:List Str:=["self"]
abbrev lQ:List Str:=["SwornTwice","Forsworn","TooLight"]
abbrev lR:List Str:=["_law_deeds","_law_name"]
abbrev lS:List Str:=["_law_src_here","_law_names_here","_law_deed_here"]
abbrev lT:List Str:=["self","case","name","day","need","ones","others"]
abbrev lU:List Str:=["_law_suits"]
abbrev lV:List Str:=["_law_src_here","_law_world","_law_names_here"]
abbrev lW:List Str:=["_law_src_here","_law_names_here","_law_row"]
abbrev lX:List Str:=["self","name"]
abbrev lY:List Str:=["_law_src_here","_law_world"]
abbrev lZ:List Str:=["_law_src_here","_law_many","_law_letters"]
abbrev i3:List Str:=["self","names","day"]
abbrev i4:List Str:=["_law_src_here","_law_things","_law_many"]
abbrev i5:List Str:=["_law_deeds","_law_name","_law_deed_here"]
abbrev i7:List Str:=["name","weight"]
abbrev i8:List Str:=["_law_one_here"]
abbrev i9:List Str:=["case","side","gone"]
abbrev ia:List Str:=["suits"]
local macro_rules | `(tactic| walk_at "hp")=>`(tactic| first | exact Zj | assumption | (rw[Zf (by first | assumption | (apply Ne.symm;assumption))];walk_at "hp"))
local macro_rules | `(tactic| walk_at "sq")=>`(tactic| first | assumption | exact ZD.of (by walk_at "hp"))
local macro_rules | `(tactic| walk_at "dc")=>`(tactic| first | decide | assumption | lia)
local macro_rules | `(tactic| walk_at "rd1")=>`(tactic| first | refine Z6 ?_ | refine Z5 ?_ | refine Zv (fun _=>?_) (fun _=>?_) | refine Ua (fun _=>?_) (fun _=>?_) | refine Cu (fun _=>?_) (fun _=>?_) | refine⟨_,rfl,?_⟩ | refine⟨_,_,rfl,rfl,?_⟩ | refine⟨_,_,rfl,rfl,(.inr ⟨by decide,by decide⟩:JP _ _),?_⟩ | refine⟨_,_,rfl,rfl,(⟨by walk_at "dc", by walk_at "dc"⟩:KS _ _),?_⟩ | refine⟨_,_,rfl,rfl,(⟨by decide,by decide,by decide⟩:Ih _ _),?_⟩ | refine⟨_,_,rfl,rfl,(show (0:Int)<_ by walk_at "dc"),?_⟩ | refine⟨_,_,_,_,rfl,rfl,(by walk_at "sq"),(by rfl),?_⟩ | refine⟨_,_,_,_,rfl,rfl,(by walk_at "sq"),cB (by lia) (by lia),?_⟩ | refine⟨_,_,_,_,rfl,rfl,(by walk_at "hp"),(by rfl),?_⟩ | refine⟨_,_,rfl,.inl (by walk_at "sq"),?_⟩ | fail "rd")
local macro_rules | `(tactic| walk_at "rd")=>`(tactic| repeat' walk_at "rd1")
def top(i:Nat):Stmt:=PySem.Challenge.pw_forsworn_k32_whole_cases_refused.main.body.getD i (.Pass ⟨0,0,0,0⟩)
structure Txt (mg:fY):Prop where
 len:mg "len"=none
 list:mg "list"=none
 range:mg "range"=none
 isinstance:mg "isinstance"=none
 bool:mg "bool"=none
 int:mg "int"=none
 str:mg "str"=none
 tuple:mg "tuple"=none
 zip:mg "zip"=none
 all:mg "all"=none
 max:mg "max"=none
 enumerate:mg "enumerate"=none
 sum:mg "sum"=none
 set:mg "set"=none
 min:mg "min"=none
 reversed:mg "reversed"=none
 ValueError:mg "ValueError"=none
@[elab_as_elim] theorem nw {a:gF}{o:HO}{H:Hp}{b:Hp->Prop}(c:H a=none) (h:∀Y,ZA H Y->Y a=some o->b Y):b (upd H a o):=h _ (ZA.new c) Zj
section
variable{K:uFg}
inductive JV(K:uFg)(vs:aG)(H:Hp)(Q:VK)(a:XK):Prop
 |mk(a:gF) (b:List Int)(_:vs=[.ref a])(_:ZD K H a (b.map V.int))(_:∀(s a:gF)(Y:Hp),H s=none->H a=none->ZH Y s a->ZA H Y->Q (.ref s) Y)
abbrev HS:Stmt:=top 59
theorem PD(a:YA K mg "_law_src" HS)(T:Txt mg):Fn P w K mg Z "_law_src" ["_law_script"] 1 (JV K):=by
 refine a.fq ["_law_script"] λH b Q E a h=>?_;obtain⟨a,e,rfl,b,k⟩:=h;refine⟨rfl,_,(Zg (Zw (Yb (Za (Jm JZ T.list Uy (Za (Tn Bo Q0 Uz (U0 Zc)) Zb)) (Za Zc (Za Zc (Za Zc (Za Zc Zb)))))))),?_⟩;refine⟨_,rfl,_,rfl,a,_,rfl,b,λl g=>?_⟩;have a:∃d:List Int,Va (e.map V.int) none (some 63)=d.map V.int:=by
  unfold Va;rw[<- List.map_drop,<- mU];exact⟨_,rfl⟩
 obtain⟨d,h⟩:=a;refine⟨l,_,rfl,.inl (ZD.of Zj),λc a=>⟨aB rfl,λs b=>?_⟩⟩;have f:c≠l:=λz=>by rw[z,Zj] at a;cases a
 have f:ZA H (upd H l (.lst (Va (e.map V.int) none (some 63)))):=ZA.new g;have g:=f.trans (ZA.new (o:=.lst (Va (e.map V.int) none (some 63))) a);have e:c≠s:=λz=>by rw[<- z,Zj] at b;cases b
 refine k s c _ (g.free b) (f.free a) ⟨d,0,0,1,0,Zj,by rw[Zf e,Zj,h],aA,e⟩ (g.trans (ZA.new b))
inductive YC(vs:aG)(H:Hp)(Q:VK)(a:XK):Prop
 |mk(s la) (b)(_:vs=[.ref s,.int b])(_:ZH H s la)(_:0<b)(_:b<1073741824)(_:∀d Y,0<=d->d<b->ZH Y s la->ZF s H Y->Q (.int d) Y)
abbrev LU:Stmt:=top 60
theorem eR(a:YA K mg "_law_next" LU)(T:Txt mg):Fn P w K mg Z "_law_next" lj 1 YC:=by
 refine a.fq ["_law_src_here","_law_base","_law_cell","_law_digit"] λH b Q E a h=>?_;obtain⟨s,m,b,rfl,⟨o,i,a,st,cnt,f,l,d,e⟩,j,c,k⟩:=h;refine⟨rfl,_,(Zd (Ul (Zu Y9 (Zh Z7 Q0 Zc) Zc) (A0 Q0 Zc A5)) (Zd (Zq (Zk Vk (Zh Z7 Q0 Zc) Zc (Zn _)) (Zd (Zx 2 Zc) (Zd (Zq (Zk Vj (Zh Z7 Q0 Zc) (Z0 Ym T.len Yh (Za (Zh Z7 Q0 Zc) Zb)) (Zn _)) (Zd (Zx 2 (Zh Z7 (Zh Z7 Q0 Zc) (Zh Z7 Q0 Zc))) (Zg (Ul (Zu Y9 (Zh Z7 Q0 Zc) Zc) (A0 Q0 Zc A5)))) Zp) (Zd (Ul (Zu B0 (Zu Y9 (Zu Y9 (Zu FN (Zh Z7 Q0 Zc) Zc) (Zu B0 Qa Zc)) (Zh Z7 Q0 Zc)) Zc) (A0 Q0 Zc A5)) (Zg (Zq (Zk Ji Qa (Zu Et Zc Zc) (Zn _)) (Zg (Ul Qa (A0 Q0 Zc A5))) Zp))))) Zp) (Zd (Zq (Zk Jo (Zh Z7 Q0 Zc) Zc (Zn _)) (Zd (Zx 3 (Zu B0 (Zh Z7 Q0 Zc) Q3)) (Zd (Ul (Zu CF (Zh Z7 Q0 Zc) Q3) (A0 Q0 Zc A5)) (Zg (Zw Qb)))) Zp) (Zg (Zw (Zu B0 (Zu CF (Zu B0 (Zu FN (Zh Z7 Q0 Zc) Zc) Zc) Zc) Q3)))))),?_⟩;have g:∀(c:Hp)(f a st cnt d:Int),0<=d->d<b->ZF s H c->c s=some (.lst [.ref m,.int f,.int a,.int st,.int cnt])->0<=f->Q (.int d) c:=λc f a st cnt d m n i h b =>
  k d c m n ⟨o,f,a,st,cnt,h,i _ _ e l,b,e⟩ i
 walk_at "rd"
 all_goals refine g _ _ _ _ _ _ (Int.emod_nonneg _ (by lia)) (Int.emod_lt_of_pos _ j) ?_ Zj (by lia)
 all_goals repeat (first | exact ZF.refl | refine ZF.trans ?_ ZF.upd)
end
inductive UB(vs:aG)(H:Hp)(Q:VK)(a:XK):Prop
 |mk(s la) (n)(_:vs=[.ref s,.int n])(_:ZH H s la)(_:0<=n)(_:n<=100)(_:∀x Y,(x.length:Int)=n->B8 x->ZH Y s la->ZF s H Y->Q (.str x) Y)
theorem Xj(a:List Nat):(List.map cs (a.map λc=>(⟨#[c]⟩:Str))).flatten=a:=by
 induction a with
 | nil=>rfl
 | cons c r a=>rw[yF,yF,wB,a];rfl
abbrev CA:Stmt:=top 62
theorem Xg:ZM lZ lK (Zm CA):=fsc
theorem L6:Nm (Zm CA) "_law_letters" .cell:=aA
theorem NU:Nm (Zm CA) "_law_src_here" .cell:=aA
theorem PR(a:YA K mg "_law_word" CA)(T:Txt mg)(c:Fn P w K mg Z "_law_next" lj 1 YC):Fn P w K mg Z "_law_word" lK 2 UB:=by
 refine a.fq lZ λH b Q E a h=>?_;obtain⟨s,l,n,rfl,a,b,d,k⟩:=h
 refine⟨rfl,_,(Zd (Es (i:=2) Xg.nd L6 Zt) (Zg (Zw (Y4 F.plainAttrs_str F.slot_str_join F.type_str_join Px Zt (Za (Vu (locs:=["_law_k"]) (fr:=[("_law_src_here", 0),("_law_letters", 2)]) ⟨rfl,aA,aA,aA,aA,aA⟩ (.ij NU (.ij L6 .nil)) rfl (Aw T.range (Za Q3 Zb)) ⟨λ_ _ _ _ _ _=>by
  have b:(inN ["_law_k"] [("_law_src_here", 0),("_law_letters", 2)]).Nodup:=aA
  exact⟨(Wb 0 b),Uc,(Zh E9 (Wn 2) (Zl c (Za (Wn 1) (Za Zc Zb)) (n:=nmC)))⟩⟩) Zb))))),?_⟩
 refine⟨rfl,_,rfl,n,rfl,by lia,by lia,?_⟩;refine FE (n:=n.toNat) (λi j e=>ZH e s l/\ZF s H e/\∃b:List Nat,b.length=i/\j=b.map (λc=>V.str ⟨#[c]⟩)/\∀c∈b,97<=c/\c<=122) ⟨a,ZF.refl,[],rfl,rfl,(λ_ z=>nomatch z)⟩ (by lia) ?_ ?_ ?_
 .rintro i j e ⟨_,_,b,h,rfl,_⟩;rw[xA];lia
 .rintro i j e a ⟨f,g,b,h,rfl,m⟩ n d;obtain⟨a,rfl⟩:=Uj d;refine⟨⟨[_],rfl,rfl⟩,?_⟩;walk_at "rd";refine⟨s,l,26,rfl,f,aA,aA,λd o l n a i=>?_⟩;refine⟨letters,d,_,rfl,rfl,aA,FM l n,a,g.trans i,b ++ [97+d.toNat],by rw[xE,h];rfl,by rw[xM];rfl,λc a=>?_⟩;rcases xJ.mp a with z | z
  .exact m c z
  .have:c=97+d.toNat:=by simpa using z
   lia
 .rintro j e ⟨f,g,b,h,rfl,m⟩ l i;have e:(b.map λc=>V.str ⟨#[c]⟩)=(b.map λc=>(⟨#[c]⟩:Str)).map V.str:=by rw[mV];rfl
  have d:∀l:List Nat,((l.map λc=>(⟨#[c]⟩:Str)).map (·.length)).sum=l.length:=by
   intro l
   induction l with
   | nil=>rfl
   | cons c r j=>rw[yF,yF,List.sum_cons,j,yJ];show 1+r.length=_;lia
  refine⟨_,l,b.map λc=>(⟨#[c]⟩:Str),rfl,rfl,ZD.of (by rw[Zj,e]),?_,?_⟩
  .rw[d,xA];show b.length+b.length * 0<=16777216;lia
  .have d:cs (Txt.join "" (b.map λc=>(⟨#[c]⟩:Str)))=b:=by rw[Rl,Xj]
   refine k _ _ ?_ (λc a=>m c (by rw[d] at a;exact a)) (f.keep (ZA.new i)) (g.trans (ZF.new i));rw[<- Vn,d,h];lia
theorem ph{b:Type} [DecidableEq b]:∀(L M:List b),L.Nodup->(∀a∈L,a∈M)->L.length<=M.length
 | [],_,_,_=>yP _
 | a::L,M,nd,h=>by
  obtain⟨f,b⟩:=yM.mp nd;have c:=h a yE;have:=ph L (M.erase a) b λb d=>(List.mem_erase_of_ne (λ(e:b=a)=>f (by rw[<- e];exact d))).mpr (h b (xO _ d));rw[List.length_erase_of_mem c] at this;have b:0<M.length:=List.length_pos_of_mem c;rw[yJ];lia
def V4(a:Str)(j:Nat):Str:=a++⟨#[97+j % 26]⟩++⟨#[97+j / 26]⟩
theorem Dv(a:Str)(j:Nat):cs (V4 a j)=cs a ++ [97+j % 26,97+j / 26]:=by
 unfold V4;rw[DX,DX];simp[cs]
theorem OT(h:V4 stem i=V4 stem j):i=j:=by
 have e:cs (V4 stem i)=cs (V4 stem j):=by rw[h]
 rw[Dv,Dv] at e;have a:=List.append_cancel_left e;injection a with b a
 injection a with a _
 lia
theorem Lm(a:Str)(j:Nat):(V4 a j).length=a.length+2:=by
 rw[<- Vn,Dv,xE,Vn];rfl
theorem SG(h:B8 stem)(a:j<676):B8 (V4 stem j):=by
 intro c a;rw[Dv] at a;rcases xJ.mp a with z | z
 .exact h c z
 .simp at z;lia
theorem Mz{a:fZ}{b:Str}(h:∀j,j<a.length->V4 b j∈a):V4 b a.length∉a:=by
 intro c;have c:((List.range (a.length+1)).map (V4 b)).Nodup:=by
  rw[List.nodup_iff_pairwise_ne,List.pairwise_map];exact List.Pairwise.imp (λh e=>h (OT e)) (List.nodup_iff_pairwise_ne.mp List.nodup_range)
 have:=ph _ a c λa b=>by grind
 rw[xA,mI] at this;lia
theorem EM(x:Str)(a:fZ):inV (.str x) (a.map V.str)=decide (x∈a):=by
 unfold inV;rw[List.any_map,zB,List.any_eq_true,wM];constructor
 .rintro⟨y,a,e⟩;have:y=x:=by simpa [eqV] using e
  rw[<- this];exact a
 .intro h;exact⟨x,h,by simp[eqV]⟩
theorem FH(a:fZ):(a.map V.str).all J9=true:=by
 rw[List.all_map,zV];intro x _;rfl
def Vm(x:Str):Prop:=B8 x/\1<=x.length/\x.length<=12
section
variable{K:uFg}
inductive WA(K:uFg)(vs:aG)(H:Hp)(Q:VK)(a:XK):Prop
 |mk(a:gF) (b:fZ) (x:Str)(_:vs=[.ref a,.str x])(_:ZD K H a (b.map V.str))(_:b.length<=600)(_:Vm x)(_:∀y:Str,Vm y->y∉b->Q (.str y) H)
abbrev HQ:Stmt:=top 61
theorem MS(a:YA K mg "_law_unlike" HQ)(T:Txt mg):Fn P w K mg Z "_law_unlike" ["_law_names_here","_law_name"] 1 (WA K):=by
 refine a.fq ["_law_names_here","_law_name","_law_letters","_law_stem","_law_tries"] λH b Q E a h=>?_;obtain⟨a,d,x,rfl,o,b,⟨l,m,n⟩,k⟩:=h;refine⟨rfl,_,(Zd (Zx 2 Zt) (Zd (Zx 3 (Tn DQ Q3 Uz (U0 Zc))) (Zd (Wi mW rfl (Aw T.range (Za (Zu Y9 (Z0 Ym T.len Yh (Za Q0 Zb)) Zc) Zb)) (Yi 4) (Zd (Zq (Zk Fc Q3 Q0 rfl) (Zg (Zw Q3)) Zp) (Zg (Zx 1 (Zu Dz (Zu Dz Qb (Zh E9 Qa (Zu B0 Qc Zc))) (Zh E9 Qa (Zu CF Qc Zc))))))) (Zg (Zw Q3))))),?_⟩;have b:(13:Nat)<=sizeLine:=by decide
 refine⟨_,rfl,10,rfl,x,rfl,by lia,?_⟩;have b:cs (Txt.slice x none (some 10))=(cs x).take 10:=FO x aA;have g:(Txt.slice x none (some 10)).length<=10:=by rw[<- Vn,b,xR];lia
 have e:B8 (Txt.slice x none (some 10)):=λc f=>l c (by rw[b] at f;exact wD f);show Ug _ _ _ [some (.ref a),some (.str x),some (.str letters),some (.str (Txt.slice x none (some 10))),none] H;generalize Txt.slice x none (some 10)=b at g e;refine⟨_,rfl,a,_,rfl,.inl o,_,_,rfl,rfl,_,rfl,by lia,by rw[xA];lia,?_⟩;refine Ba (d.length+1) (by rw[xA];lia) (λi L Y=>Y=H/\∃(c:Str)(v:Option V),L=[some (.ref a),some (.str c),some (.str letters),some (.str b),v]/\Vm c/\(i=0\/c=V4 b (i - 1))/\∀j,j+1<i->V4 b j∈d)
  ⟨rfl,x,none,rfl,⟨l,m,n⟩,.inl rfl,λj l=>by lia⟩ ?_ ?_
 .rintro i L Y m ⟨rfl,c,v,rfl,f,h,g⟩;refine⟨_,rfl,_,rfl,a,_,rfl,.inl o,rfl,FH d,_,rfl,?_⟩;rw[EM];refine Ua (λd=>?_) (λm=>?_)
  .exact⟨_,rfl,k c f d⟩
  .have d:i<=600:=by lia
   refine⟨_,rfl,_,rfl,_,rfl,_,_,rfl,rfl,by show (0:Int)<26;decide,letters,_,_,rfl,rfl,aA,FM (Int.emod_nonneg _ aA) (Int.emod_lt_of_pos _ aA),b,_,rfl,rfl,?_,?_⟩
   .show b.length+1<=sizeLine;lia
   refine⟨_,rfl,_,rfl,_,_,rfl,rfl,⟨aA,aA⟩,letters,_,_,rfl,rfl,aA,FM (Int.ediv_nonneg (by lia) aA) (by lia),_,_,rfl,rfl,?_,?_⟩
   .show (b++_).length+1<=sizeLine;rw[mX];show b.length+1+1<=sizeLine;lia
   have d:((0:Int)+(i:Nat)) % 26=((i % 26:Nat):Int):=by lia
   have m:((0:Int)+(i:Nat)) / 26=((i / 26:Nat):Int):=by lia
   refine⟨rfl,V4 b i,some (.int (0+(i:Nat))),?_,⟨SG e (by lia),by rw[Lm];lia,by rw[Lm];lia⟩,.inr rfl,λj l=>?_⟩
   .show [some (V.ref a),some (V.str _),some (V.str letters),some (V.str b),some (V.int _)]=_;unfold V4;rw[d,m];rfl
   .grind
 .rintro L Y ⟨rfl,c,v,rfl,f,h,g⟩;refine⟨_,rfl,k c f ?_⟩;rcases h with z | z
  .lia
  .rw[z];exact Mz λj l=>g j (by lia)
inductive UM(vs:aG)(H:Hp)(Q:VK)(a:XK):Prop
 |mk(s b:gF) (n:Int)(_:vs=[.ref s,.int n])(_:ZH H s b)(_:0<=n)(_:n<=100)(_:∀(l:gF)(a:fZ)(Y:Hp),(a.length:Int)=n->a.Nodup->(∀x∈a,Vm x)->H l=none->Y l=some (.lst (a.map V.str))->ZH Y s b->ZF s H Y->Q (.ref l) Y)
abbrev La:Stmt:=top 63
theorem XC(c:YA K mg "_law_names" La)(T:Txt mg)(b:Fn P w K mg Z "_law_next" lj 1 YC)(a:Fn P w K mg Z "_law_word" lK 2 UB)(d:Fn P w K mg Z "_law_unlike" ["_law_names_here","_law_name"] 1 (WA K)):Fn P w K mg Z "_law_names" lK 3 UM:=by
 refine c.fq ["_law_src_here","_law_many","_law_style","_law_stem","_law_at","_law_names_here","_law_k","_law_name"] λH e Q E c h=>?_;obtain⟨s,A,n,rfl,c,e,f,k⟩:=h;refine⟨rfl,_,(Zd (Zx 2 (Zl b (Za Q0 (Za Zc Zb)))) (Zd (Zx 3 (Zl a (Za Q0 (Za (Zu Y9 Zc (Zl b (Za Q0 (Za Zc Zb)))) Zb)))) (Zd (Zx 4 (Zl b (Za Q0 (Za (Z0 El T.len Yh (Za Qb Zb)) Zb)))) (Zd (Zx 5 (Yb Zb)) (Zd (Wi mW rfl (Aw T.range (Za Q3 Zb)) (Yi 6) (Zd (Zx 7 (Zu Dz (Zu Dz (Tn DQ Qb Uz (U0 Qc)) (Zl a (Za Q0 (Za Zc Zb)))) (Tn DQ Qb (U0 (Zu Y9 Qc Zc)) Uz))) (Zd (Zq (Zk Yk Qa Zc (Zn _)) (Zg (Zx 7 (Tn DQ Qb Uz (U0 (Zu Y9 Zc (Zl b (Za Q0 (Za (Z0 El T.len Yh (Za Qb Zb)) Zb)))))))) Zp) (Zd (Zq (Zk Yk Qa Zc (Zn _)) (Zg (Zx 7 (Zl a (Za Q0 (Za (Zu Y9 Zc (Zl b (Za Q0 (Za Zc Zb)))) Zb))))) Zp) (Zg (Zs (Y4 aD aE aF Wa Qd (Za (Zl d (Za Qd (Za Qf Zb))) Zb)))))))) (Zg (Zw Qd))))))),?_⟩;have hz:(200:Nat)<=sizeLine:=by decide
 refine⟨_,rfl,s,A,3,rfl,c,aA,aA,λg e c d a b=>?_⟩;refine⟨_,rfl,_,rfl,s,A,11,rfl,a,aA,aA,λd1 f d e a c=>?_⟩;refine⟨_,_,rfl,rfl,s,A,_,rfl,a,by lia,by lia,λf i d t a e=>?_⟩;refine⟨_,rfl,_,rfl,f,rfl,by lia,s,A,_,rfl,a,by lia,by lia,λd i p j m a=>?_⟩;refine⟨aB rfl,λl j=>?_⟩;have r:ZF s H i:=((b.trans c).trans e).trans a;obtain⟨B,S⟩:=m.ne j;have R:H l=none:=by
  cases e:H l with
  | none=>rfl
  | some o=>exact absurd (r l o B e) (by rw[j];simp)
 refine⟨_,rfl,n,rfl,by lia,by lia,?_⟩;show Bw _ _ _ _ [some (.ref s),some (.int n),some (.int g),some (.str f),some (.int d),some (.ref l),none,none] (upd i l (.lst []));have U:∀x:Str,B8 x->1<=x.length->x.length<=12->Vm x:=λx a b c=>⟨a,b,c⟩;refine Ba n.toNat rfl (λi L Y=>∃(a:fZ)(N O:Option V),L=[some (.ref s),some (.int n),some (.int g),some (.str f),some (.int d),some (.ref l),N,O]/\a.length=i/\a.Nodup/\(∀x∈a,Vm x)/\Y l=some (.lst (a.map V.str))/\ZH Y s A/\ZF s H Y)
  ⟨[],none,none,rfl,rfl,List.nodup_nil,(λ_ z=>nomatch z),Zj,m.keep (ZA.new j),r.trans (ZF.new j)⟩ ?_ ?_
 .rintro i L H5 j ⟨a,N,O,rfl,G,J,F,I,M,E⟩;have y:cs (Txt.slice f none (some d))=(cs f).take d.toNat:=FO f p;have X:cs (Txt.slice f (some (d+1)) none)=(cs f).drop (d+1).toNat:=NL f (by lia);have j:(Txt.slice f none (some d)).length<=11:=by rw[<- Vn,y,xR,Vn];lia
  have j:(Txt.slice f (some (d+1)) none).length+(d+1).toNat=f.length:=by rw[<- Vn,X,zG,Vn];lia
  have v:(Txt.slice f none (some d)).length=d.toNat:=by rw[<- Vn,y,xR,Vn];lia
  refine⟨_,rfl,_,rfl,d,rfl,f,rfl,by lia,_,rfl,s,A,1,rfl,M,aA,aA,λW r m j u p=>?_⟩;have m:r l=some (.lst (a.map V.str)):=p l _ B I;refine⟨_,_,rfl,rfl,by lia,?_⟩;refine⟨_,rfl,_,rfl,_,_,rfl,rfl,_,rfl,f,rfl,by lia,?_⟩;have Q:(Txt.slice f none (some d)++W).length=d.toNat+1:=by rw[mX,v];lia
  refine⟨_,_,rfl,rfl,by rw[Q];lia,?_⟩;have C:Vm (Txt.slice f none (some d)++W++Txt.slice f (some (d+1)) none):=by
   refine U _ (λc v=>?_) ?_ ?_
   .rw[DX,DX,y,X] at v;rcases xJ.mp v with v | v
    .rcases xJ.mp v with v | v
     .exact t c (wD v)
     .exact j c v
    .exact t c (List.mem_of_mem_drop v)
   .rw[mX,Q];lia
   .rw[mX,Q];lia
  generalize Txt.slice f none (some d)++W++Txt.slice f (some (d+1)) none=U at C;show Ug _ _ _ [some (.ref s),some (.int n),some (.int g),some (.str f),some (.int d),some (.ref l),some (.int (0+(i:Nat))),some (.str U)] r;have Q:∀(D:ZY),(∀ L Y,(∃(a:fZ)(N O:Option V),L=[some (.ref s),some (.int n),some (.int g),some (.str f),some (.int d),some (.ref l),N,O]/\a.length=i+1/\a.Nodup/\(∀x∈a,Vm x)/\Y l=some (.lst (a.map V.str))/\ZH Y s A/\ZF s H Y)->D.nx L Y)->
    ∀(x:Str)(r:Hp),Vm x->r l=some (.lst (a.map V.str))->ZH r s A->ZF s H r ->
    EJ (ES K "list" VH (YJ 5) (Uu (JI (WA K) (Uu (YJ 5) (Uu (YJ 7) Vw))) Vw)) D
     [some (.ref s),some (.int n),some (.int g),some (.str f),some (.int d),some (.ref l),some (.int (0+(i:Nat))),some (.str x)] r:=by
   intro D W x r X m u p;refine⟨_,rfl,.inl ⟨rfl,_,ZD.of m⟩,_,rfl,_,rfl,l,a,x,rfl,ZD.of m,by lia,X,λy hy j=>?_⟩;refine⟨l,_,_,rfl,rfl,m,by rw[xA];lia,W _ _ ⟨a ++ [y],_,_,rfl,by rw[xE,G];rfl,L8 J j,λz hz=>?_,?_,?_,?_⟩⟩
   .grind
   .rw[Zj,xM];rfl
   .exact u.iG ZF.upd B S
   .intro b o j e;have:b≠l:=λz=>by rw[z,R] at e;cases e
    rw[Zf this];exact p b o j e
  have b:∀(D:ZY),(∀ L Y,(∃(a:fZ)(N O:Option V),L=[some (.ref s),some (.int n),some (.int g),some (.str f),some (.int d),some (.ref l),N,O]/\a.length=i+1/\a.Nodup/\(∀x∈a,Vm x)/\Y l=some (.lst (a.map V.str))/\ZH Y s A/\ZF s H Y)->D.nx L Y)->
    ∀(x:Str)(r:Hp),Vm x->r l=some (.lst (a.map V.str))->ZH r s A->ZF s H r ->
    Ug (Dn (Cz (JA CO (YJ 2) (tC (.int 2)))) (Js (JI UB (Uu (YJ 0) (Uu (JA (JE λi j=>.int (i+j)) (tC (.int 1)) (JI YC (Uu (YJ 0) (Uu (tC (.int 12)) Vw)))) Vw))) (Wr 7)) Yy)
     (EJ (ES K "list" VH (YJ 5) (Uu (JI (WA K) (Uu (YJ 5) (Uu (YJ 7) Vw))) Vw))) D
     [some (.ref s),some (.int n),some (.int g),some (.str f),some (.int d),some (.ref l),some (.int (0+(i:Nat))),some (.str x)] r:=by
   intro D W x r X m u p;refine⟨_,rfl,rfl,_,rfl,Zv (λ_=>?_) (λ_=>?_)⟩
   .refine⟨_,rfl,_,rfl,s,A,12,rfl,u,aA,aA,λd o H d1 g e=>?_⟩;refine⟨_,_,rfl,rfl,s,A,_,rfl,g,by lia,by lia,λy z S n j i=>?_⟩;exact Q D W y z ⟨n,by lia,by lia⟩ (i l _ B (e l _ B m)) j ((p.trans e).trans i)
   .exact Q D W x r X m u p
  refine⟨_,rfl,rfl,_,rfl,Zv (λ_=>?_) (λ_=>?_)⟩
  .refine⟨_,rfl,_,rfl,_,rfl,f,rfl,by lia,s,A,_,rfl,u,by lia,by lia,λd o H d1 g e=>?_⟩;refine⟨_,_,rfl,rfl,_,rfl,f,rfl,by lia,?_⟩;have i:cs (Txt.slice f none (some (1+d)))=(cs f).take (1+d).toNat:=FO f (by lia);refine b _ (λL Y h=>h) _ o ⟨λc v=>t c (by rw[i] at v;exact wD v),?_,?_⟩ (e l _ B m) g ((E.trans p).trans e)
   .rw[<- Vn,i,xR,Vn];lia
   .rw[<- Vn,i,xR,Vn];lia
  .exact b _ (λL Y h=>h) U r C m u (E.trans p)
 .rintro L H5 ⟨a,N,O,rfl,G,J,F,I,M,E⟩;exact⟨_,rfl,k l a H5 (by lia) J F R I M E⟩
end
def okc(c:Nat):Bool:=decide (97<=c)&&decide (c<=122)
def Ue(x:Str):Bool:=(decide (1<=x.length)&&decide (x.length<=12))&&(cs x).all okc
theorem Qw(h:Vm x):Ue x=true:=by
 obtain⟨d,a,b⟩:=h;unfold Ue;rw[yR a,yR b,Bool.true_and,Bool.true_and,zV];intro c e;obtain⟨a,b⟩:=d c e;unfold okc;rw[yR a,yR b];rfl
inductive VM(vs:aG)(H:Hp)(Q:VK)(a:XK):Prop
 |mk(x)(_:vs=[.str x])(_:x.length<=1000)(_:∀Y,ZA H Y->Q (.bl (Ue x)) Y)
theorem GN(a:i<x.length):(cs x)[i]?=some (x.cps.getD i 0):=by
 unfold cs;have:i<x.cps.size:=a;rw[Array.getD_eq_getD_getElem?,Array.getElem?_eq_getElem this,Array.getElem?_toList,Array.getElem?_eq_getElem this];rfl
theorem leA(c:Nat):(!decide ((⟨#[c]⟩:Str).cps.toList<("a":Str).cps.toList))=decide (97<=c):=by
 have e:("a":Str).cps.toList=[97]:=aA
 rw[e];show (!decide (([c]:List Nat)<[97]))=_;rw[zB,Bool.not_eq_true',decide_eq_false_iff_not,wM,Kw];lia
theorem leZ(c:Nat):(!decide (("z":Str).cps.toList<(⟨#[c]⟩:Str).cps.toList))=decide (c<=122):=by
 have e:("z":Str).cps.toList=[122]:=aA
 rw[e];show (!decide (([122]:List Nat)<[c]))=_;rw[zB,Bool.not_eq_true',decide_eq_false_iff_not,wM,Kw];lia
theorem Ln{b c:Type}{l:List b}{i:Nat}{a:b}(f:b->c)(h:l[i]?=some a):(l.take (i+1)).map f=(l.take i).map f ++ [f a]:=by
 rw[xS,h,xM];rfl
abbrev Ld:Stmt:=top 32
theorem cV(c:YA K mg "is_name" Ld)(T:Txt mg)(b:∃t,mg "LONGEST_NAME"=some (.int 12 t)):Fn P w K mg Z "is_name" ["text"] 1 VM:=by
 obtain⟨d,a⟩:=b;have b:ZG (.int 12) (.int 12 d):=⟨d,rfl⟩;refine c.fq ["text"] λH d Q E c h=>?_;obtain⟨x,rfl,c,k⟩:=h
 refine⟨rfl,_,(Zg (Zw (FA (Ly Vk Vk Zc (Z0 El T.len Yh (Za Q0 Zb)) (Yr a b)) (Ep (Z0 (OS (by rfl)) T.all OY (Za (Vu (locs:=["sign"]) (fr:=[]) ⟨rfl,aA,aA,aA,aA,aA⟩ .nil rfl (Xb Q0) ⟨λ_ _ _ _ _ _=>by
  have a:(inN ["sign"] []).Nodup:=aA
  exact⟨(Wb 0 a),Uc,(Ly Gw Gw Zt (Yp 0) Zt)⟩⟩) Zb)))))),?_⟩
 have a:(1000:Nat)<=sizeLine:=by decide
 refine⟨_,rfl,x,rfl,by lia,_,_,rfl,rfl,_,rfl,Zv (λa=>?_) (λa=>?_)⟩
 .refine⟨_,_,rfl,rfl,_,rfl,Zv (λa=>?_) (λa=>?_)⟩
  .refine⟨_,rfl,x,rfl,?_⟩;refine M4 (λi b Y=>Y=H/\b=((cs x).take i).map λc=>V.bl (okc c)) ⟨rfl,rfl⟩ (by lia) ?_ ?_ ?_
   .rintro i b Y ⟨_,rfl⟩;rw[xA,xR];lia
   .rintro i b Y d ⟨rfl,rfl⟩ a c;obtain⟨a,rfl⟩:=Uj c;refine⟨⟨[_],rfl,rfl⟩,Z6 ?_⟩;refine⟨_,rfl,_,_,rfl,rfl,_,rfl,?_⟩;rw[leA];refine Zv (λa=>?_) (λa=>?_)
    .refine⟨_,_,rfl,rfl,rfl,?_⟩;dsimp only;rw[leZ,Ln _ (GN d)];unfold okc;rw[yR a,Bool.true_and]
    .refine⟨rfl,?_⟩;rw[Ln _ (GN d)];unfold okc;rw[zL a,wG]
   .rintro b Y ⟨rfl,rfl⟩ l a;refine⟨l,(cs x).map okc,rfl,ZD.of (by rw[Zj,<- Vn,xT,mV];rfl),?_⟩;have e:((cs x).map okc).all id=Ue x:=by
     unfold Ue;rw[List.all_map,yR (show 1<=x.length by lia),yR (show x.length<=12 by lia)];rfl
    rw[e];exact k _ (ZA.new a)
  .refine(?_:Q (.bl false) H);have e:Ue x=false:=by
    unfold Ue;rw[zL (show ¬x.length<=12 by lia),Bool.and_false,wG]
   rw[<- e];exact k H (ZA.refl _)
 .refine⟨_,rfl,Z5 ?_⟩;have e:Ue x=false:=by
   unfold Ue;rw[zL (show ¬ 1<=x.length by lia),wG,wG]
  rw[<- e];exact k H (ZA.refl _)
section
variable{w:gH}{K:uFg}
inductive ZK where
 | come (n:Str) (d w:Int) | rise (n:Str) (d w:Int) | die (n:Str) (d:Int) (h:Str)
def Zr:List ZK->Str->Option Int
 | [],_=>none
 | .come m d _::r,n=>if m=n then some d else Zr r n
 | .rise _ _ _::r,n=>Zr r n
 | .die _ _ _::r,n=>Zr r n
def Yc:List ZK->Str->Option (Int×Str)
 | [],_=>none
 | .die m d h::r,n=>if m=n then some (d,h) else Yc r n
 | .come _ _ _::r,n=>Yc r n
 | .rise _ _ _::r,n=>Yc r n
theorem BB(a b:List ZK)(n:Str):Zr (a++b) n=(Zr a n).or (Zr b n):=by
 induction a with
 | nil=>rfl
 | cons x r b =>
  cases x with
  | come m d w =>
   rw[yK,Zr,Zr]
   by_cases e:m=n
   .rw[if_pos e,if_pos e];rfl
   .rw[if_neg e,if_neg e,b]
  | rise m d w=>rw[yK,Zr,Zr,b]
  | die m d h=>rw[yK,Zr,Zr,b]
theorem BG(a b:List ZK)(n:Str):Yc (a++b) n=(Yc a n).or (Yc b n):=by
 induction a with
 | nil=>rfl
 | cons x r b =>
  cases x with
  | come m d w=>rw[yK,Yc,Yc,b]
  | rise m d w=>rw[yK,Yc,Yc,b]
  | die m d h =>
   rw[yK,Yc,Yc]
   by_cases e:m=n
   .rw[if_pos e,if_pos e];rfl
   .rw[if_neg e,if_neg e,b]
theorem DU{S:List ZK}{n:Str}{d w:Int}(h:Zr S n=none)(x:Str):Zr (S ++ [.come n d w]) x=if x=n then some d else Zr S x:=by
 rw[BB,Zr,Zr]
 by_cases e:x=n
 .subst e;rw[if_pos rfl,if_pos rfl,h];rfl
 .rw[if_neg (Ne.symm e),if_neg e];cases Zr S x<;>rfl
theorem Dx(x:Str):Zr (S ++ [.die n d h]) x=Zr S x:=by
 rw[BB,Zr,Zr];cases Zr S x<;>rfl
theorem EB{S:List ZK}{n:Str}{d w:Int}(x:Str):Yc (S ++ [.come n d w]) x=Yc S x:=by
 rw[BG,Yc,Yc];cases Yc S x<;>rfl
theorem Kb(a:Yc S n=none)(x:Str):Yc (S ++ [.die n d h]) x=if x=n then some (d,h) else Yc S x:=by
 rw[BG,Yc,Yc]
 by_cases e:x=n
 .subst e;rw[if_pos rfl,if_pos rfl,a];rfl
 .rw[if_neg (Ne.symm e),if_neg e];cases Yc S x<;>rfl
def Ju(S:List ZK)(n:Str)(day:Int):Bool:=match Yc S n with
 | some x=>decide (x.1<=day)
 | none=>false
def Ti(a c dd b:gF):List (Str×V):=Zy "heirs" (.ref b) (Zy "deaths" (.ref dd) (Zy "weights" (.ref c) (Zy "comings" (.ref a) [])))
theorem Cd(a c dd b:gF):(Ti a c dd b).lookup ("comings":Str)=some (.ref a):=by
 unfold Ti;rw[Wc,if_neg aA,Wc,if_neg aA,Wc,if_neg aA,Wc,if_pos rfl]
theorem F7(b a dd c:gF):(Ti b a dd c).lookup ("weights":Str)=some (.ref a):=by
 unfold Ti;rw[Wc,if_neg aA,Wc,if_neg aA,Wc,if_pos rfl]
theorem BR(a c dd b:gF):(Ti a c dd b).lookup ("deaths":Str)=some (.ref dd):=by
 unfold Ti;rw[Wc,if_neg aA,Wc,if_pos rfl]
theorem Og(b c dd a:gF):(Ti b c dd a).lookup ("heirs":Str)=some (.ref a):=by
 unfold Ti;rw[Wc,if_pos rfl]
def Fm(m:Str):Prop:=¬m="heirs" /\ ¬m="deaths" /\ ¬m="weights" /\ ¬m="comings"
instance (m:Str):Decidable (Fm m):=by unfold Fm;exact inferInstance
theorem Wh(a c dd b:gF)(h:Fm m:=by decide +kernel):(Ti a c dd b).lookup m=none:=by
 obtain⟨a,b,c,d⟩:=h;unfold Ti;rw[Wc,if_neg a,Wc,if_neg b,Wc,if_neg c,Wc,if_neg d];rfl
structure FL where
 p:gF
 dc:gF
 dw:gF
 dd:gF
 dh:gF
structure YB (C:gF) (H:Hp) (L:FL) (S:List ZK):Prop where
 ob:∃dx,H L.p=some (.ins C dx (Ti L.dc L.dw L.dd L.dh))
 c:∃U:List (ZT×V),H L.dc=some (.dK U)/\U.length<=S.length/\∀n:Str,Z1 U (.inr n)=(Zr S n).map V.int
 w:∃U:List (ZT×V),H L.dw=some (.dK U)/\U.length<=S.length
 d:∃U:List (ZT×V),H L.dd=some (.dK U)/\U.length<=S.length/\∀n:Str,Z1 U (.inr n)=(Yc S n).map λx=>V.int x.1
 h:∃U:List (ZT×V),H L.dh=some (.dK U)/\U.length<=S.length/\∀n:Str,Z1 U (.inr n)=(Yc S n).map λx=>V.str x.2
 a1:L.dc≠L.dw
 a2:L.dc≠L.dd
 a3:L.dc≠L.dh
 a4:L.dw≠L.dd
 a5:L.dw≠L.dh
 a6:L.dd≠L.dh
def Eb(H Y:Hp):Prop:=∀b o,(∀J,o ≠ .lst J)->H b=some o->Y b=some o
theorem ZA.n(h:ZA H Y):Eb H Y:=λb o _ e=>h b o e
theorem YB.keep(h:YB C H L S)(k:Eb H Y):YB C Y L S:=by
 obtain⟨⟨o,y⟩,⟨t,g,i,j⟩,⟨u,A,B⟩,⟨v,l,m,n⟩,⟨x,p,r,s⟩,a,b,c,d,e,f⟩:=h;exact⟨⟨o,k _ _ (λ_ z=>nomatch z) y⟩,⟨t,k _ _ (λ_ z=>nomatch z) g,i,j⟩,⟨u,k _ _ (λ_ z=>nomatch z) A,B⟩,⟨v,k _ _ (λ_ z=>nomatch z) l,m,n⟩,⟨x,k _ _ (λ_ z=>nomatch z) p,r,s⟩,a,b,c,d,e,f⟩
def YS(H Y:Hp):Prop:=(∀b J,H b=some (.lst J)->Y b=some (.lst J))/\∀b J,H b=some (.tup J)->Y b=some (.tup J)
theorem YS.ou(h:H l=some (.dK U)):YS H (upd H l (.dK kvs')) :=
 ⟨λb J e=>by rw[Zf (λz=>by rw[z,h] at e;cases e)];exact e,λb J e=>by rw[Zf (λz=>by rw[z,h] at e;cases e)];exact e⟩
structure VD (K:uFg) (C:gF):Prop where
 cl:VX K C
 nc:ZV K C "comings"
 nw:ZV K C "weights"
 nd:ZV K C "deaths"
 nh:ZV K C "heirs"
variable{C:gF}
inductive VO(C:gF)(vs:aG)(H:Hp)(Q:VK)(a:XK):Prop
 |mk(L) (S) (n) (day)(_:vs=[.ref L.p,.str n,.int day])(_:YB C H L S)(_:Q (.bl (Ju S n day)) H)
abbrev LN:Stmt:=Y1 (top 36) 11
theorem Xx(b:ZU K C "died_by" "Folk.died_by" LN)(a:VD K C):Mt P w K mg Z C "died_by" lA 1 (VO C):=by
 refine b.mq lA λH c Q E b h=>?_;obtain⟨L,S,n,c,rfl,F,k⟩:=h;refine⟨rfl,_,(Zg (Zw (FA (JF (BL b) Q3 (Z2 Q0) rfl) (Ep (JF Vk (Cs b (Z2 Q0) Q3 (λ_ _=>rfl)) Qa (Zn _)))))),?_⟩;obtain⟨b,c⟩:=F.ob;obtain⟨U,d,f,e⟩:=F.d;have g:=YF.k (k:=Sum.inr n) d;rw[e] at g;unfold Ju at k;refine⟨_,rfl,_,rfl,L.p,C,b,_,_,rfl,c,a.cl,a.nd,BR _ _ _ _,L.dd,_,rfl,g,_,rfl,?_⟩;cases e:Yc S n with
 | none =>
  rw[e] at k;exact Z5 k
 | some x =>
  rw[e] at k g;refine Z6 ?_;exact⟨_,rfl,L.p,C,b,_,_,rfl,c,a.cl,a.nd,BR _ _ _ _,_,rfl,L.dd,.int x.1,rfl,g,_,rfl,_,_,rfl,rfl,k⟩
end
section
variable{C:gF}
inductive TF(C:gF)(vs:aG)(H:Hp)(Q:VK)(a:XK):Prop
 |mk(p dx)(_:vs=[.ref p])(_:H p=some (.ins C dx []))(_:∀L Y,L.p=p->YB C Y L []->(∀b o,H b=some o->b≠p->Y b=some o)->(∀b,b=L.dc\/b=L.dw\/b=L.dd\/b=L.dh->H b=none)->Q .non Y)
abbrev Kx:Stmt:=Y1 (top 36) 0
theorem Qz(a:ZU K C "__init__" "Folk.__init__" Kx)(l:VD K C):Mt P w K mg Z C "__init__" lP 1 (TF C):=by
 refine a.mq lP λH b Q E a h=>?_;obtain⟨p,d,rfl,b,k⟩:=h;refine⟨rfl,_,(Zd (Ud Q0 B3) (Zd (Ud Q0 B3) (Zd (Ud Q0 B3) (Zg (Ud Q0 B3))))),?_⟩;intro a m;have r:p≠a:=Zo b m;refine⟨_,rfl,p,C,d,[],rfl,(by rw[Zf r];exact b),l.cl,l.nc,(by show 0<1000;decide),?_⟩;have h:(upd (upd H a (.dK [])) p (.ins C d (Zy "comings" (.ref a) []))) p=some (.ins C d (Zy "comings" (.ref a) [])):=Zj;have g:(upd (upd H a (.dK [])) p (.ins C d (Zy "comings" (.ref a) []))) a=some (.dK []):=by rw[Zf r.symm,Zj]
 have v:∀b o,H b=some o->b≠p->(upd (upd H a (.dK [])) p (.ins C d (Zy "comings" (.ref a) []))) b=some o:=λb o e n=>by rw[Zf n,Zf (Zo e m)];exact e
 generalize (upd (upd H a (.dK [])) p (.ins C d (Zy "comings" (.ref a) [])))=f at h g v |-;intro c j;have s:p≠c:=Zo h j;have G:a≠c:=Zo g j;refine⟨_,rfl,p,C,d,_,rfl,(by rw[Zf s];exact h),l.cl,l.nw,(by show 1<1000;decide),?_⟩;have t:(upd (upd f c (.dK [])) p (.ins C d (Zy "weights" (.ref c) (Zy "comings" (.ref a) [])))) p=some (.ins C d (Zy "weights" (.ref c) (Zy "comings" (.ref a) []))):=Zj;have i:(upd (upd f c (.dK [])) p (.ins C d (Zy "weights" (.ref c) (Zy "comings" (.ref a) [])))) a=some (.dK []):=by rw[Zf r.symm,Zf G];exact g
 have y:(upd (upd f c (.dK [])) p (.ins C d (Zy "weights" (.ref c) (Zy "comings" (.ref a) [])))) c=some (.dK []):=by rw[Zf s.symm,Zj]
 have x:∀b o,H b=some o->b≠p->(upd (upd f c (.dK [])) p (.ins C d (Zy "weights" (.ref c) (Zy "comings" (.ref a) [])))) b=some o:=λb o e n=>by rw[Zf n,Zf (Zo (v b o e n) j)];exact v b o e n
 generalize (upd (upd f c (.dK [])) p (.ins C d (Zy "weights" (.ref c) (Zy "comings" (.ref a) []))))=g at t i y x |-;intro f h;have u:p≠f:=Zo t h;have I:a≠f:=Zo i h;have J:c≠f:=Zo y h;have z:(Zy "comings" (V.ref a) []).length<=0+1:=A3 "comings" (V.ref a) [];have z:=A3 "weights" (V.ref c) (Zy "comings" (V.ref a) []);have z:=A3 "deaths" (V.ref f) (Zy "weights" (V.ref c) (Zy "comings" (V.ref a) []));refine⟨_,rfl,p,C,d,_,rfl,(by rw[Zf u];exact t),l.cl,l.nd,(by lia),?_⟩;have B:(upd (upd g f (.dK [])) p (.ins C d (Zy "deaths" (.ref f) (Zy "weights" (.ref c) (Zy "comings" (.ref a) []))))) p=some (.ins C d (Zy "deaths" (.ref f) (Zy "weights" (.ref c) (Zy "comings" (.ref a) [])))):=Zj;have z:(upd (upd g f (.dK [])) p (.ins C d (Zy "deaths" (.ref f) (Zy "weights" (.ref c) (Zy "comings" (.ref a) []))))) a=some (.dK []):=by rw[Zf r.symm,Zf I];exact i
 have F:(upd (upd g f (.dK [])) p (.ins C d (Zy "deaths" (.ref f) (Zy "weights" (.ref c) (Zy "comings" (.ref a) []))))) c=some (.dK []):=by rw[Zf s.symm,Zf J];exact y
 have A:(upd (upd g f (.dK [])) p (.ins C d (Zy "deaths" (.ref f) (Zy "weights" (.ref c) (Zy "comings" (.ref a) []))))) f=some (.dK []):=by rw[Zf u.symm,Zj]
 have y:∀b o,H b=some o->b≠p->(upd (upd g f (.dK [])) p (.ins C d (Zy "deaths" (.ref f) (Zy "weights" (.ref c) (Zy "comings" (.ref a) []))))) b=some o:=λb o e n=>by rw[Zf n,Zf (Zo (x b o e n) h)];exact x b o e n
 generalize (upd (upd g f (.dK [])) p (.ins C d (Zy "deaths" (.ref f) (Zy "weights" (.ref c) (Zy "comings" (.ref a) [])))))=t at B z F A y |-;intro i g;have E:p≠i:=Zo B g;have L:a≠i:=Zo z g;have M:c≠i:=Zo F g;have N:f≠i:=Zo A g;refine⟨_,rfl,p,C,d,_,rfl,(by rw[Zf E];exact B),l.cl,l.nh,(by lia),?_⟩;refine k ⟨p,a,c,f,i⟩ _ rfl ⟨⟨d,Zj⟩,⟨[],?_,xF _,λn=>rfl⟩,⟨[],?_,xF _⟩,⟨[],?_,xF _,λn=>rfl⟩,⟨[],?_,xF _,λn=>rfl⟩,G,I,L,J,M,N⟩ (λb o e n=>?_) λb d=>?_
 .show (upd (upd t i _) p _) a=_;rw[Zf r.symm,Zf L];exact z
 .show (upd (upd t i _) p _) c=_;rw[Zf s.symm,Zf M];exact F
 .show (upd (upd t i _) p _) f=_;rw[Zf u.symm,Zf N];exact A
 .show (upd (upd t i _) p _) i=_;rw[Zf E.symm,Zj]
 .rw[Zf n,Zf (Zo (y b o e n) g)];exact y b o e n
 .cases a:H b with
  | none=>rfl
  | some o =>
   rcases d with z | z | z | z<;>subst z
   .rw[m] at a;cases a
   .have:=v _ _ a s.symm;rw[j] at this;cases this
   .have:=x _ _ a u.symm;rw[h] at this;cases this
   .have:=y _ _ a E.symm;rw[g] at this;cases this
end
section
variable{w:gH}{C:gF}
def Wd(f:Str->Option (List (ZT×V))):ZK->Str->Option (List (ZT×V))
 | .come n d w,m=>if m=n then some [(.inl d,.int w)] else f m
 | .rise n d w,m=>if m=n then (f m).map λl=>Z4 l (.inl d) (.int w) else f m
 | .die _ _ _,m=>f m
def kw(S:List ZK):Str->Option (List (ZT×V)):=S.foldl Wd λ_=>none
theorem Um(S:List ZK)(x:ZK):kw (S ++ [x])=Wd (kw S) x:=by
 unfold kw;rw[wC];rfl
def V2:List ZK->List Str
 | []=>[]
 | .come n _ _::r=>n::V2 r
 | .rise _ _ _::r=>V2 r
 | .die _ _ _::r=>V2 r
theorem CL(a b:List ZK):V2 (a++b)=V2 a++V2 b:=by
 induction a with
 | nil=>rfl
 | cons x r b=>cases x<;>simp[V2,b]
theorem Dk{S:List ZK}{n:Str}{d w:Int}(x:Str):Zr (S ++ [.rise n d w]) x=Zr S x:=by
 rw[BB,Zr,Zr];cases Zr S x<;>rfl
theorem Em{S:List ZK}{n:Str}{d w:Int}(x:Str):Yc (S ++ [.rise n d w]) x=Yc S x:=by
 rw[BG,Yc,Yc];cases Yc S x<;>rfl
theorem Gz{l:List (ZT×V)}{k:ZT}{v:V}{p:ZT×V}(h:p∈Z4 l k v):p=(k,v)\/p∈l:=by
 unfold Z4 at h;split at h
 .grind
 .grind
def FP(l:List (ZT×V)):Prop:=∀p∈l,∃d w,p=(.inl d,.int w)
theorem Ij:∀(S:List ZK)(f:Str->Option (List (ZT×V))),(∀n l,f n=some l->FP l)->∀n l,S.foldl Wd f n=some l->FP l
 | [],f,h,n,l,e=>h n l e
 | x::r,f,h,n,l,e=>by
  refine Ij r (Wd f x) (λm g a=>?_) n l e;cases x with
  | come j d i =>
   rw[Wd] at a;split at a
   .cases a;intro p b;exact⟨d,i,xP.mp b⟩
   .exact h m g a
  | rise j d i =>
   rw[Wd] at a;split at a
   .cases c:f m with
    | none=>rw[c] at a;cases a
    | some k =>
     rw[c] at a;cases a;intro p b;rcases Gz b with rfl | b
     .exact⟨d,i,rfl⟩
     .exact h m k c p b
   .exact h m g a
  | die j d o=>exact h m g a
theorem PQ(h:kw S n=some l):FP l:=Ij S _ (λ_ _ z=>by cases z) n l h
def A6(a:Option (List (ZT×V)))(day wt:Int):Prop:=∃l m,a=some l/\Z1 l (.inl m)=some (.int wt)/\m<=day/\∀d v,Z1 l (.inl d)=some v->d<=day->d<=m
def Jv(c:Option (List (ZT×V)))(day a b:Int):Prop:=(c=none/\a = -1/\b=0)\/∃l,c=some l/\((a = -1/\b=0/\∀d v,Z1 l (.inl d)=some v->¬d<=day)\/
 (0<=a/\a<=day/\Z1 l (.inl a)=some (.int b)/\∀d v,Z1 l (.inl d)=some v->d<=day->d<=a))
theorem De:Z1 [((.inl d:ZT),v)] (.inl j)=if j=d then some v else none:=by
 by_cases e:j=d
 .subst e;rw[if_pos rfl];exact Uv rfl
 .rw[if_neg e];simp[Z1,zW,Ne.symm e]
theorem AJ{l:List (ZT×V)}{d j:Int}{v:V}:Z1 (Z4 l (.inl d) v) (.inl j)=if j=d then some v else Z1 l (.inl j):=by
 rw[Uw]
 by_cases e:j=d
 .rw[if_pos e,if_pos (by rw[e])]
 .rw[if_neg e,if_neg (λz=>e (Sum.inl.inj z))]
theorem Oz{f:Str->Option (List (ZT×V))}{n:Str}{d w day a b:Int}(h:Jv (f n) day a b)(j:f n=none)(i:0<=d) :
  (a<=d->d<=day->Jv (Wd f (.come n d w) n) day d w)/\(¬(a<=d/\d<=day)->Jv (Wd f (.come n d w) n) day a b):=by
 rw[Wd,if_pos rfl];rcases h with⟨_,c,g⟩ | ⟨l,e,_⟩
 .refine⟨λ_ a=>.inr ⟨_,rfl,.inr ⟨i,a,by rw[De,if_pos rfl],λb v e _=>?_⟩⟩,λa=>.inr ⟨_,rfl,.inl ⟨c,g,λb v e k=>?_⟩⟩⟩
  .rw[De] at e
   by_cases z:b=d
   .lia
   .rw[if_neg z] at e;cases e
  .rw[De] at e
   by_cases z:b=d
   .exact a ⟨by lia,by lia⟩
   .rw[if_neg z] at e;cases e
 .rw[j] at e;cases e
theorem Nw{f:Str->Option (List (ZT×V))}{n:Str}{c:List (ZT×V)}{d w day g a:Int}(h:Jv (f n) day g a)(b:f n=some c)(c:0<=d) :
  (g<=d->d<=day->Jv (Wd f (.rise n d w) n) day d w)/\(¬(g<=d/\d<=day)->Jv (Wd f (.rise n d w) n) day g a):=by
 rw[Wd,if_pos rfl,b];rw[b] at h;rcases h with⟨e,_⟩ | ⟨l,e,h⟩
 .cases e
 cases e;refine⟨λa b=>.inr ⟨_,rfl,.inr ⟨c,b,by rw[AJ,if_pos rfl],λb v e c=>?_⟩⟩,λa=>.inr ⟨_,rfl,?_⟩⟩
 .rw[AJ] at e
  by_cases z:b=d
  .lia
  .grind
 .rcases h with⟨i,j,k⟩ | ⟨i,j,k,h4⟩
  .refine .inl ⟨i,j,λb v e c=>?_⟩;rw[AJ] at e
   by_cases z:b=d
   .exact a ⟨by lia,by lia⟩
   .rw[if_neg z] at e;exact k b v e c
  .refine .inr ⟨i,j,?_,λb v e c=>?_⟩
   .rw[AJ,if_neg (λz=>a ⟨by lia,by lia⟩)];exact k
   .rw[AJ] at e
    by_cases z:b=d
    .rcases Int.lt_or_le d g with y | y
     .lia
     .exact absurd ⟨y,by lia⟩ a
    .rw[if_neg z] at e;exact h4 b v e c
theorem XM(h:Jv kv day last found)(e:kv=some l)(b:Z1 l (.inl d0)=some v)(a:d0<=day):A6 kv day found:=by
 rcases h with⟨z,_⟩ | ⟨l',e',h⟩
 .rw[e] at z;cases z
 .rw[e] at e';cases e';rcases h with⟨_,_,h⟩ | ⟨_,h2,h3,h4⟩
  .exact absurd a (h d0 v b)
  .exact⟨l,last,e,h3,h2,h4⟩
theorem KY:∀(S:List ZK)(f:Str->Option (List (ZT×V)))(g:Str->Option Int),(∀m,(f m).isSome=(g m).isSome)->∀m,(S.foldl Wd f m).isSome=((g m).or (Zr S m)).isSome
 | [],f,g,h,m=>by rw[Zr];show (f m).isSome=_;rw[h m];cases g m<;>rfl
 | x::r,f,g,h,m=>by
  have e:Zr (x::r) m=(Zr [x] m).or (Zr r m):=BB [x] r m;have a:=KY r (Wd f x) (λm=>(g m).or (Zr [x] m)) (λm=>?_) m
  .rw[zA,a,e];cases g m<;>rfl
  .cases x with
   | come n d w =>
    rw[Wd,Zr,Zr]
    by_cases z:m=n
    .rw[if_pos z,if_pos z.symm];cases g m<;>rfl
    .rw[if_neg z,if_neg (Ne.symm z),h m];cases g m<;>rfl
   | rise n d w =>
    rw[Wd,Zr,Zr];have a:=h m
    by_cases z:m=n
    .grind
    .grind
   | die n d w=>rw[Wd,Zr,Zr,h m];cases g m<;>rfl
theorem Fi(S:List ZK)(n:Str):(kw S n).isSome=(Zr S n).isSome:=by
 have:=KY S (λ_=>none) (λ_=>none) (λ_=>rfl) n;exact this
structure WR (H:Hp) (L:FL) (S:List ZK) (wa:gB):Prop where
 w:∃U:List (ZT×V),H L.dw=some (.dK U)/\U.length<=S.length/\∀n l,kw S n=some l->Z1 U (.inr n)=some (.ref (wa n))/\H (wa n)=some (.dK l)/\l.length<=S.length
 ord:∃U:List (ZT×V),H L.dc=some (.dK U)/\(U.map λp=>kV p.1)=(V2 S).map V.str
 ap:∀n l,kw S n=some l->wa n≠L.dc/\wa n≠L.dw/\wa n≠L.dd/\wa n≠L.dh
 inj:∀n m l l',kw S n=some l->kw S m=some l'->wa n=wa m->n=m
theorem WR.keep(h:WR H L S wa)(k:Eb H Y):WR Y L S wa:=by
 obtain⟨⟨a,b,c,m⟩,⟨g,i,j⟩,f,d⟩:=h;exact⟨⟨a,k _ _ (λ_ z=>nomatch z) b,c,λn l e=>let ⟨a,b,c⟩:=m n l e;⟨a,k _ _ (λ_ z=>nomatch z) b,c⟩⟩,⟨g,k _ _ (λ_ z=>nomatch z) i,j⟩,f,d⟩
theorem WR.start(h:YB C H L []):WR H L [] wa:=by
 obtain⟨k,d,e⟩:=h.w;obtain⟨c,a,b,_⟩:=h.c;exact⟨⟨k,d,e,(λn l e=>by cases e)⟩,⟨c,a,by rw[mT (Nat.le_zero.mp b)];rfl⟩,(λn l e=>by cases e),(λn m l a e=>by cases e)⟩
def cY(H:Hp)(L:FL)(S:List ZK)(a:gB):Prop:=∃U:List (ZT×V),H L.dw=some (.dK U)/\∀p∈U,∃n l,kw S n=some l/\p=(Sum.inr n,V.ref (a n))
def own(L:FL)(S:List ZK)(a:gB)(b:gF):Prop:=b=L.p\/b=L.dc\/b=L.dw\/b=L.dd\/b=L.dh\/∃n l,kw S n=some l/\b=a n
structure Fk (C:gF) (H:Hp) (L:FL) (S:List ZK) (wa:gB):Prop where
 f:YB C H L S
 w:WR H L S wa
 all:cY H L S wa
def WQ(L:FL)(S:List ZK)(a:gB)(H Y:Hp):Prop:=∀b o,H b=some o->¬own L S a b->Y b=some o
def Bp(L:FL)(S:List ZK)(d:gB)(a:List ZK)(c:gB)(H:Hp):Prop:=∀b,own L a c b->own L S d b\/H b=none
theorem Fk.at(h:Fk C H L S wa)(k:∀b o,own L S wa b->H b=some o->Y b=some o):Fk C Y L S wa:=by
 obtain⟨⟨⟨v,d⟩,⟨A,n,p,r⟩,⟨B,O,P⟩,⟨E,s,t,u⟩,⟨F,x,y,z⟩,a,c,e,i,j,l⟩,⟨⟨G,Q,R,T⟩,⟨I,M,N⟩,m,f⟩,⟨J,U,W⟩⟩:=h;have K:=k L.p _ (.inl rfl) d;have g:=λo=>k L.dc o (.inr (.inl rfl));have d:=λo=>k L.dw o (.inr (.inr (.inl rfl)));exact⟨⟨⟨v,K⟩,⟨A,g _ n,p,r⟩,⟨B,d _ O,P⟩,⟨E,k L.dd _ (.inr (.inr (.inr (.inl rfl)))) s,t,u⟩,⟨F,k L.dh _ (.inr (.inr (.inr (.inr (.inl rfl))))) x,y,z⟩,a,c,e,i,j,l⟩, ⟨⟨G,d _ Q,R,λn l e=>let ⟨a,b,c⟩:=T n l e;⟨a,k _ _ (.inr (.inr (.inr (.inr (.inr ⟨n,l,e,rfl⟩))))) b,c⟩⟩,⟨I,g _ M,N⟩,m,f⟩,⟨J,d _ U,W⟩⟩
theorem Fk.there(h:Fk C H L S wa)(f:own L S wa b):∃o,H b=some o/\(∀J,o ≠ .lst J)/\∀J,o ≠ .tup J:=by
 obtain⟨⟨⟨p,g⟩,⟨s,a,k⟩,⟨t,i,y⟩,⟨u,c,m⟩,⟨v,d,r⟩,_⟩,⟨⟨x,z,A,j⟩,_⟩,_⟩:=h;rcases f with rfl | rfl | rfl | rfl | rfl | ⟨n,l,e,rfl⟩
 .exact⟨_,g,(λ_ z=>nomatch z),(λ_ z=>nomatch z)⟩
 .exact⟨_,a,(λ_ z=>nomatch z),(λ_ z=>nomatch z)⟩
 .exact⟨_,i,(λ_ z=>nomatch z),(λ_ z=>nomatch z)⟩
 .exact⟨_,c,(λ_ z=>nomatch z),(λ_ z=>nomatch z)⟩
 .exact⟨_,d,(λ_ z=>nomatch z),(λ_ z=>nomatch z)⟩
 .exact⟨_,(j n l e).2.1,(λ_ z=>nomatch z),(λ_ z=>nomatch z)⟩
theorem WQ.lt(h:Fk C H L S wa)(k:WQ L S wa H Y):YS H Y :=
 ⟨λb J e=>k b _ e λc=>by obtain⟨f,a,d,_⟩:=h.there c;rw[e] at a;cases a;exact d J rfl,λb J e=>k b _ e λc=>by obtain⟨f,a,_,b⟩:=h.there c;rw[e] at a;cases a;exact b J rfl⟩
theorem Fk.cnt(h:Fk C H L S wa):∃U,H L.dc=some (.dK U)/\U.length=(V2 S).length:=by
 obtain⟨U,a,b⟩:=h.w.ord;exact⟨U,a,by have:=congrArg List.length b;rwa [xA,xA] at this⟩
end
section
variable{C:gF}{c:gB}
abbrev errs:List Str:=["NoName","NoMeasure","Unknown","Taken","NoThing","NoCase","NoOath","NotYet","Dead","NoHeir","TooMany","SwornTwice","Forsworn","TooLight","Broken","NoDeed"]
theorem Vc{d:Int}(h:d.natAbs<=1000000000000000000):d.natAbs.log2<1920:=by
 by_cases z:d.natAbs=0
 .rw[z];decide +kernel
 .rw[Nat.log2_lt z];exact yW h aA
def okI(d:Int):Prop:=d.natAbs<=1000000000000000000
def due(E:XK)(c:gB)(H:Hp)(k:Prop):Option Str->Prop
 | none=>k
 | some x=>E (.ref (c x)) none H
theorem due.cut(k:due E c H Q (a.or b))(f:a=none->due E c H Q b->R):due E c H R a:=by cases a with
 | none=>exact f rfl k
 | some x=>exact k
theorem due.of(h:a=none)(k:Q):due E c H Q a:=by rw[h];exact k
def eM(lo a d:Int):Option Str:=if lo<=d/\d<=a then none else some "NoMeasure"
inductive VC(lo a:Int)(c:gB)(vs:aG)(H:Hp)(Q:VK)(E:XK):Prop
 |mk(d)(_:vs=[.int d])(_:okI d)(_:due E c H (Q .non H) (eM lo a d))
abbrev IJ:Stmt:=top 26
theorem XJ(d:YA K mg "check_day" IJ)(b:∃t,mg "LAST_DAY"=some (.int 9999 t))(f:Er K mg c errs):YU P w K mg Z "check_day" 1 (VC 0 9999 c):=by
 obtain⟨e,a⟩:=b;have b:ZG (.int 9999) (.int 9999 e):=⟨e,rfl⟩;refine d.fx ["day"] ["day"] λH e Q E d h=>?_;obtain⟨d,rfl,e,k⟩:=h;refine⟨rfl,_,(Zg (Zq (Aa (Bn Vk Vk Zc Q0 (Yr a b))) (Zg (Wg Y5 f (Wm (Y6 Q0 (Yu Wl))))) Zp)),?_⟩;unfold eM at k;refine⟨_,rfl,_,_,rfl,rfl,_,rfl,Zv (λa=>?_) (λz=>?_)⟩
 .refine⟨_,_,rfl,rfl,_,rfl,Ua (λz=>?_) (λb=>?_)⟩
  .rw[if_neg (λy=>z y.2)] at k;exact⟨_,rfl,.inr ⟨d,rfl,Vc e⟩,aA,λ_=>k⟩
  .rw[if_pos ⟨a,b⟩] at k;exact k
 .rw[if_neg (λy=>z y.1)] at k;exact⟨false,rfl,Z6 ⟨_,rfl,.inr ⟨d,rfl,Vc e⟩,aA,λ_=>k⟩⟩
abbrev L5:Stmt:=top 27
theorem NA(d:YA K mg "check_weight" L5)(b:∃t,mg "MOST_WEIGHT"=some (.int 1000 t))(f:Er K mg c errs):YU P w K mg Z "check_weight" 1 (VC 1 1000 c):=by
 obtain⟨e,a⟩:=b;have b:ZG (.int 1000) (.int 1000 e):=⟨e,rfl⟩;refine d.fx ["weight"] ["weight"] λH e Q E d h=>?_;obtain⟨d,rfl,e,k⟩:=h;refine⟨rfl,_,(Zg (Zq (Aa (Bn Vk Vk Zc Q0 (Yr a b))) (Zg (Wg Y5 f (Wm (Y6 Q0 (Yu Wl))))) Zp)),?_⟩;unfold eM at k;refine⟨_,rfl,_,_,rfl,rfl,_,rfl,Zv (λa=>?_) (λz=>?_)⟩
 .refine⟨_,_,rfl,rfl,_,rfl,Ua (λz=>?_) (λb=>?_)⟩
  .rw[if_neg (λy=>z y.2)] at k;exact⟨_,rfl,.inr ⟨d,rfl,Vc e⟩,aA,λ_=>k⟩
  .rw[if_pos ⟨a,b⟩] at k;exact k
 .rw[if_neg (λy=>z y.1)] at k;exact⟨false,rfl,Z6 ⟨_,rfl,.inr ⟨d,rfl,Vc e⟩,aA,λ_=>k⟩⟩
abbrev Mb:Stmt:=top 28
theorem dF(d:YA K mg "check_need" Mb)(b:∃t,mg "MOST_NEED"=some (.int 12000 t))(f:Er K mg c errs):YU P w K mg Z "check_need" 1 (VC 1 12000 c):=by
 obtain⟨e,a⟩:=b;have b:ZG (.int 12000) (.int 12000 e):=⟨e,rfl⟩;refine d.fx ["need"] ["need"] λH e Q E d h=>?_;obtain⟨d,rfl,e,k⟩:=h;refine⟨rfl,_,(Zg (Zq (Aa (Bn Vk Vk Zc Q0 (Yr a b))) (Zg (Wg Y5 f (Wm (Y6 Q0 (Yu Wl))))) Zp)),?_⟩;unfold eM at k;refine⟨_,rfl,_,_,rfl,rfl,_,rfl,Zv (λa=>?_) (λz=>?_)⟩
 .refine⟨_,_,rfl,rfl,_,rfl,Ua (λz=>?_) (λb=>?_)⟩
  .rw[if_neg (λy=>z y.2)] at k;exact⟨_,rfl,.inr ⟨d,rfl,Vc e⟩,aA,λ_=>k⟩
  .rw[if_pos ⟨a,b⟩] at k;exact k
 .rw[if_neg (λy=>z y.1)] at k;exact⟨false,rfl,Z6 ⟨_,rfl,.inr ⟨d,rfl,Vc e⟩,aA,λ_=>k⟩⟩
abbrev GK:Stmt:=top 29
theorem Ql(d:YA K mg "check_money" GK)(b:∃t,mg "MOST_MONEY"=some (.int 1000000 t))(f:Er K mg c errs):YU P w K mg Z "check_money" 1 (VC 1 1000000 c):=by
 obtain⟨e,a⟩:=b;have b:ZG (.int 1000000) (.int 1000000 e):=⟨e,rfl⟩;refine d.fx ["many"] ["many"] λH e Q E d h=>?_;obtain⟨d,rfl,e,k⟩:=h;refine⟨rfl,_,(Zg (Zq (Aa (Bn Vk Vk Zc Q0 (Yr a b))) (Zg (Wg Y5 f (Wm (Y6 Q0 (Yu Wl))))) Zp)),?_⟩;unfold eM at k;refine⟨_,rfl,_,_,rfl,rfl,_,rfl,Zv (λa=>?_) (λz=>?_)⟩
 .refine⟨_,_,rfl,rfl,_,rfl,Ua (λz=>?_) (λb=>?_)⟩
  .rw[if_neg (λy=>z y.2)] at k;exact⟨_,rfl,.inr ⟨d,rfl,Vc e⟩,aA,λ_=>k⟩
  .rw[if_pos ⟨a,b⟩] at k;exact k
 .rw[if_neg (λy=>z y.1)] at k;exact⟨false,rfl,Z6 ⟨_,rfl,.inr ⟨d,rfl,Vc e⟩,aA,λ_=>k⟩⟩
def Wt(S:List ZK)(n:Str):Option Str:=if Zr S n=none then some "Unknown" else none
inductive YL(C:gF)(c:gB)(vs:aG)(H:Hp)(Q:VK)(E:XK):Prop
 |mk(L) (S) (n)(_:vs=[.ref L.p,.str n])(_:YB C H L S)(_:(Zr S n=none->n.length<=100))(_:due E c H (Q .non H) (Wt S n))
abbrev Im:Stmt:=Y1 (top 36) 17
theorem XY(a:ZU K C "check_known" "Folk.check_known" Im)(b:VD K C)(e:Er K mg c errs):ZX P w K mg Z C "check_known" 1 (YL C c):=by
 refine a.mx lX lX λH d Q E a h=>?_;obtain⟨L,S,n,rfl,F,d,k⟩:=h;refine⟨rfl,_,(Zg (Zq (Zk (Hj a) Q3 (Z2 Q0) rfl) (Zg (Wg Y5 e (Wm (Yu (Y6 Q3 Wl))))) Zp)),?_⟩;obtain⟨f,g⟩:=F.ob;obtain⟨U,a,h,e⟩:=F.c;refine⟨_,rfl,_,rfl,L.p,C,f,_,_,rfl,g,b.cl,b.nc,Cd _ _ _ _,L.dc,_,rfl,YF.k (k:=Sum.inr n) a,_,rfl,?_⟩;unfold Wt at k;rw[e];cases a:Zr S n with
 | none =>
  rw[if_pos a] at k;have d:=d a;exact Z6 ⟨aA,_,rfl,.inl ⟨n,rfl,by lia⟩,λ_=>k⟩
 | some d =>
  rw[if_neg (by rw[a];intro z;cases z)] at k;exact Z5 k
def Wo(d day:Int):Option Str:=if day<d then some "NotYet" else none
inductive YR(C:gF)(c:gB)(vs:aG)(H:Hp)(Q:VK)(E:XK):Prop
 |mk(L) (S) (n) (d day)(_:vs=[.ref L.p,.str n,.int day])(_:YB C H L S)(_:Zr S n=some d)(_:(day<d->n.length<=100/\okI day))(_:due E c H (Q .non H) (Wo d day))
abbrev Li:Stmt:=Y1 (top 36) 18
theorem OV(a:ZU K C "check_there" "Folk.check_there" Li)(b:VD K C)(f:Er K mg c errs):ZX P w K mg Z C "check_there" 1 (YR C c):=by
 refine a.mx lA lA λH a Q E g h=>?_;obtain⟨L,S,n,d,a,rfl,F,j,e,k⟩:=h;refine⟨rfl,_,(Zg (Zq (Zk Vj Qa (Cs g (Z2 Q0) Q3 (λ_ _=>rfl)) (Zn _)) (Zg (Wg Y5 f (Wm (Y6 Q3 (Yu (Y6 Qa Wl)))))) Zp)),?_⟩;obtain⟨i,l⟩:=F.ob;obtain⟨U,f,g,h⟩:=F.c;have g:=YF.k (k:=Sum.inr n) f;rw[h,j] at g;refine⟨_,rfl,_,rfl,L.p,C,i,_,_,rfl,l,b.cl,b.nc,Cd _ _ _ _,_,rfl,L.dc,.int d,rfl,g,?_⟩;unfold Wo at k;refine⟨_,_,rfl,rfl,_,rfl,Zv (λz=>?_) (λz=>?_)⟩
 .rw[if_pos z] at k;have ⟨e,b⟩:=e z;exact⟨_,rfl,.inl ⟨n,rfl,by lia⟩,aA,_,rfl,.inr ⟨a,rfl,Vc b⟩,λ_=>k⟩
 .rw[if_neg z] at k;exact k
def V5(S:List ZK)(n:Str)(day:Int):Option Str:=if Ju S n day=true then some "Dead" else none
inductive WE(C:gF)(c:gB)(vs:aG)(H:Hp)(Q:VK)(E:XK):Prop
 |mk(L) (S) (n) (day)(_:vs=[.ref L.p,.str n,.int day])(_:YB C H L S)(_:n.length<=100)(_:okI day)(_:due E c H (Q .non H) (V5 S n day))
abbrev HY:Stmt:=Y1 (top 36) 19
theorem OO(b:ZU K C "check_living" "Folk.check_living" HY)(d:VD K C)(e:Er K mg c errs)(a:Mt P w K mg Z C "died_by" lA 1 (VO C)):ZX P w K mg Z C "check_living" 2 (WE C c):=by
 refine b.mx lA lA λH f Q E b h=>?_;obtain⟨L,S,n,b,rfl,F,g,f,k⟩:=h;refine⟨rfl,_,(Zg (Zq (Vi (Jg Q0 d.cl a (Za Q3 (Za Qa Zb)))) (Zg (Wg Y5 e (Wm (Y6 Q3 (Yu (Y6 Qa Wl)))))) Zp)),?_⟩;obtain⟨a,d⟩:=F.ob;refine⟨_,rfl,L.p,a,_,rfl,d,Wh _ _ _ _ aA,_,rfl,_,rfl,L,S,n,b,rfl,F,_,rfl,?_⟩;unfold V5 at k;cases a:Ju S n b with
 | true =>
  rw[if_pos a] at k;exact Z6 ⟨_,rfl,.inl ⟨n,rfl,by lia⟩,aA,_,rfl,.inr ⟨b,rfl,Vc f⟩,λ_=>k⟩
 | false =>
  rw[if_neg (by rw[a];decide)] at k;exact Z5 k
def AO(S:List ZK)(n:Str):Option Str:=if Yc S n=none then none else some "Dead"
inductive WI(C:gF)(c:gB)(vs:aG)(H:Hp)(Q:VK)(E:XK):Prop
 |mk(L) (S) (n)(_:vs=[.ref L.p,.str n])(_:YB C H L S)(_:n.length<=100)(_:due E c H (Q .non H) (AO S n))
abbrev Iv:Stmt:=Y1 (top 36) 20
theorem Nd(a:ZU K C "check_untold" "Folk.check_untold" Iv)(b:VD K C)(d:Er K mg c errs):ZX P w K mg Z C "check_untold" 1 (WI C c):=by
 refine a.mx lX lX λH e Q E a h=>?_;obtain⟨L,S,n,rfl,F,e,k⟩:=h;refine⟨rfl,_,(Zg (Zq (Zk (BL a) Q3 (Z2 Q0) rfl) (Zg (Wg Y5 d (Wm (Yu (Y6 Q3 (Yu Wl)))))) Zp)),?_⟩;obtain⟨e,f⟩:=F.ob;obtain⟨U,a,g,d⟩:=F.d;refine⟨_,rfl,_,rfl,L.p,C,e,_,_,rfl,f,b.cl,b.nd,BR _ _ _ _,L.dd,_,rfl,YF.k (k:=Sum.inr n) a,_,rfl,?_⟩;unfold AO at k;rw[d];cases a:Yc S n with
 | none =>
  rw[if_pos a] at k;exact Z5 k
 | some x =>
  rw[if_neg (by rw[a];intro z;cases z)] at k;exact Z6 ⟨aA,_,rfl,.inl ⟨n,rfl,by lia⟩,aA,λ_=>k⟩
def okN(n:Str):Prop:=n.length<=100/\∀x∈n.cps.toList,x<16^8
def Tr(S:List ZK)(n:Str)(day wt:Int):Option Str:=if Ue n=false then some "NoName" else (eM 0 9999 day).or ((eM 1 1000 wt).or ((if Zr S n=none then none else some ("Taken":Str)).or (if (V2 S).length<40 then none else some ("TooMany":Str))))
inductive WH(C:gF)(c:gB)(vs:aG)(H:Hp)(Q:VK)(E:XK):Prop
 |mk(L) (S) (wa) (n) (day wt)(_:vs=[.ref L.p,.str n,.int day,.int wt])(_:Fk C H L S wa)(_:S.length<=1000)(_:okN n)(_:okI day)(_:okI wt)(_:∀Y,ZA H Y->due E c Y (Q .non Y) (Tr S n day wt))
abbrev KR:Stmt:=Y1 (top 36) 14
theorem Nn(f:ZU K C "check_coming" "Folk.check_coming" KR)(T:Txt mg)(d:VD K C)(b:∃t,mg "MOST_FOLK"=some (.int 40 t))(i:Er K mg c errs)(e:Fn P w K mg Z "is_name" ["text"] 1 VM)(m:YU P w K mg Z "check_day" 1 (VC 0 9999 c))(g:YU P w K mg Z "check_weight" 1 (VC 1 1000 c)):ZX P w K mg Z C "check_coming" 2 (WH C c):=by
 obtain⟨h,a⟩:=b;have b:ZG (.int 40) (.int 40 h):=⟨h,rfl⟩;refine f.mx lg lg λH f Q E p h=>?_;obtain⟨L,S,u,n,f,s,rfl,j,t,l,o,r,k⟩:=h;have h:=j.f;refine⟨rfl,_,(Zd (Zq (Aa (Vi (Zl e (Za Q3 Zb)))) (Zg (Wg Y5 i (Wm (MD Q3 (Yu Wl))))) Zp) (Zd (Zs (Ws Z3 m (Za Qa Zb))) (Zd (Zs (Ws Z3 g (Za Qb Zb))) (Zd (Zq (Zk (BL p) Q3 (Z2 Q0) rfl) (Zg (Wg Y5 i (Wm (Yu (Y6 Q3 (Yu Wl)))))) Zp) (Zg (Zq (Zk Ji (Z0 fS T.len Yh (Za (Z2 Q0) Zb)) (Yr a b) (Zn _)) (Zg (Wg Y5 i (Wm (Yu (Y6 (Yr a b) (Yu Wl)))))) Zp)))))),?_⟩;have a:=l.1;refine⟨_,rfl,n,rfl,by lia,λa g=>⟨_,rfl,?_⟩⟩;replace k:=k a g;unfold Tr at k;cases e:Ue n with
 | false =>
  rw[if_pos e] at k;exact Z6 ⟨_,rfl,⟨n,rfl,by lia,l.2⟩,aA,λ_=>k⟩
 | true =>
  rw[if_neg (by rw[e];decide)] at k;refine Z5 ?_;have F:=h.keep (ZA.n g);obtain⟨e,h⟩:=F.ob;obtain⟨U,a,b,i⟩:=F.c;obtain⟨b,l,m⟩:=j.cnt;obtain rfl:U=b:=by have:=g _ _ l;rw[a] at this;cases this;rfl
  have g:=YF.k (k:=Sum.inr n) a;rw[i] at g;refine⟨_,rfl,f,rfl,o,due.cut k λb k=>?_⟩;refine⟨_,rfl,s,rfl,r,due.cut k λb k=>?_⟩;refine⟨_,rfl,_,rfl,L.p,C,e,_,_,rfl,h,d.cl,d.nc,Cd _ _ _ _,L.dc,_,rfl,g,_,rfl,?_⟩;cases b:Zr S n with
  | some f =>
   rw[if_neg (by rw[b];intro z;cases z)] at k;exact Z6 ⟨aA,_,rfl,.inl ⟨n,rfl,by lia⟩,aA,λ_=>k⟩
  | none =>
   rw[if_pos b,yI] at k;refine Z5 ⟨_,rfl,L.p,C,e,_,_,rfl,h,d.cl,d.nc,Cd _ _ _ _,L.dc,U,rfl,a,_,_,rfl,rfl,_,rfl,Zv (λz=>?_) (λz=>?_)⟩
   .rw[if_neg (by lia)] at k;exact⟨aA,.inr ⟨40,rfl,aA⟩,aA,λ_=>k⟩
   .rw[if_pos (by lia)] at k;exact k
def JS(S:List ZK)(n:Str)(day wt:Int):Option Str:=(eM 0 9999 day).or ((eM 1 1000 wt).or ((Wt S n).or ((Wo ((Zr S n).getD 0) day).or (V5 S n day))))
inductive UD(C:gF)(c:gB)(vs:aG)(H:Hp)(Q:VK)(E:XK):Prop
 |mk(L) (S) (n) (day wt)(_:vs=[.ref L.p,.str n,.int day,.int wt])(_:YB C H L S)(_:n.length<=100)(_:okI day)(_:okI wt)(_:due E c H (Q .non H) (JS S n day wt))
theorem B7(h:Wt S n=none):∃d,Zr S n=some d:=by
 unfold Wt at h;cases e:Zr S n with
 | none=>rw[if_pos e] at h;cases h
 | some d=>exact⟨d,rfl⟩
abbrev Hx:Stmt:=Y1 (top 36) 15
theorem Ss(e:ZU K C "check_rise" "Folk.check_rise" Hx)(f:VD K C)(l:YU P w K mg Z "check_day" 1 (VC 0 9999 c))(g:YU P w K mg Z "check_weight" 1 (VC 1 1000 c))(b:ZX P w K mg Z C "check_known" 1 (YL C c))(d:ZX P w K mg Z C "check_there" 1 (YR C c))(a:ZX P w K mg Z C "check_living" 2 (WE C c)):ZX P w K mg Z C "check_rise" 3 (UD C c):=by
 refine e.mx lg lg λH i Q E e h=>?_;obtain⟨L,S,n,e,o,rfl,F,j,i,m,k⟩:=h;refine⟨rfl,_,(Zd (Zs (Ws Z3 l (Za Qa Zb))) (Zd (Zs (Ws Z3 g (Za Qb Zb))) (Zd (Zs (Yn Z3 Q0 f.cl b (Za Q3 Zb))) (Zd (Zs (Yn Z3 Q0 f.cl d (Za Q3 (Za Qa Zb)))) (Zg (Zs (Yn Z3 Q0 f.cl a (Za Q3 (Za Qa Zb))))))))),?_⟩;obtain⟨a,b⟩:=F.ob;unfold JS at k;refine⟨_,rfl,e,rfl,i,due.cut k λd k=>?_⟩;refine⟨_,rfl,o,rfl,m,due.cut k λd k=>?_⟩;refine⟨_,rfl,L.p,a,_,rfl,b,Wh _ _ _ _ aA,_,rfl,L,S,n,rfl,F,λ_=>j,due.cut k λg k=>?_⟩;obtain⟨d,f⟩:=B7 g;rw[f,mY] at k;refine⟨_,rfl,L.p,a,_,rfl,b,Wh _ _ _ _ aA,_,rfl,_,rfl,L,S,n,d,e,rfl,F,f,λ_=>⟨j,i⟩,due.cut k λd k=>?_⟩;exact⟨_,rfl,L.p,a,_,rfl,b,Wh _ _ _ _ aA,_,rfl,_,rfl,L,S,n,e,rfl,F,j,i,k⟩
def Bd(S:List ZK)(n a:Str)(day:Int):Option Str:=(eM 0 9999 day).or ((Wt S n).or ((Wt S a).or ((Wo ((Zr S n).getD 0) day).or ((Wo ((Zr S a).getD 0) day).or ((AO S n).or (if a=n\/Yc S a≠none then some ("NoHeir":Str) else none))))))
inductive TB(C:gF)(c:gB)(vs:aG)(H:Hp)(Q:VK)(E:XK):Prop
 |mk(L) (S) (n he) (day)(_:vs=[.ref L.p,.str n,.int day,.str he])(_:YB C H L S)(_:n.length<=100)(_:he.length<=100)(_:okI day)(_:due E c H (Q .non H) (Bd S n he day))
abbrev HR:Stmt:=Y1 (top 36) 16
theorem N9(e:ZU K C "check_death" "Folk.check_death" HR)(f:VD K C)(o:Er K mg c errs)(m:YU P w K mg Z "check_day" 1 (VC 0 9999 c))(a:ZX P w K mg Z C "check_known" 1 (YL C c))(b:ZX P w K mg Z C "check_there" 1 (YR C c))(d:ZX P w K mg Z C "check_untold" 1 (WI C c)):ZX P w K mg Z C "check_death" 2 (TB C c):=by
 refine e.mx lF lF λH e Q E p h=>?_;obtain⟨L,S,n,e,g,rfl,F,l,i,j,k⟩:=h;refine⟨rfl,_,(Zd (Zs (Ws Z3 m (Za Qa Zb))) (Zd (Zs (Yn Z3 Q0 f.cl a (Za Q3 Zb))) (Zd (Zs (Yn Z3 Q0 f.cl a (Za Qb Zb))) (Zd (Zs (Yn Z3 Q0 f.cl b (Za Q3 (Za Qa Zb)))) (Zd (Zs (Yn Z3 Q0 f.cl b (Za Qb (Za Qa Zb)))) (Zd (Zs (Yn Z3 Q0 f.cl d (Za Q3 Zb))) (Zg (Zq (QW.pt (AB (Zk Yk Qb Q3 (Zn _)) (Bm (Zk (BL p) Qb (Z2 Q0) rfl)))) (Zg (Wg Y5 o (Wm (Y6 Qb (Yu (Y6 Q3 Wl)))))) Zp)))))))),?_⟩;obtain⟨a,b⟩:=F.ob;unfold Bd at k;refine⟨_,rfl,g,rfl,j,due.cut k λd k=>?_⟩;refine⟨_,rfl,L.p,a,_,rfl,b,Wh _ _ _ _ aA,_,rfl,L,S,n,rfl,F,λ_=>l,due.cut k λh k=>?_⟩;obtain⟨d,m⟩:=B7 h;refine⟨_,rfl,L.p,a,_,rfl,b,Wh _ _ _ _ aA,_,rfl,L,S,e,rfl,F,λ_=>i,due.cut k λp k=>?_⟩;obtain⟨o,h⟩:=B7 p;rw[m,h,mY,mY] at k;refine⟨_,rfl,L.p,a,_,rfl,b,Wh _ _ _ _ aA,_,rfl,_,rfl,L,S,n,d,g,rfl,F,m,λ_=>⟨l,j⟩,due.cut k λd k=>?_⟩;refine⟨_,rfl,L.p,a,_,rfl,b,Wh _ _ _ _ aA,_,rfl,_,rfl,L,S,e,o,g,rfl,F,h,λ_=>⟨i,j⟩,due.cut k λd k=>?_⟩;refine⟨_,rfl,L.p,a,_,rfl,b,Wh _ _ _ _ aA,_,rfl,L,S,n,rfl,F,l,due.cut k λd k=>?_⟩;obtain⟨U,d,g,h⟩:=F.d;have g:=YF.k (k:=Sum.inr e) d;rw[h] at g;refine⟨_,rfl,_,rfl,rfl,_,rfl,Zv (λz=>?_) (λz=>?_)⟩
 .have d:e=n:=by injection z
  rw[if_pos (.inl d)] at k;exact Z6 ⟨_,rfl,.inl ⟨e,rfl,by lia⟩,aA,_,rfl,.inl ⟨n,rfl,by lia⟩,λ_=>k⟩
 .have d:e≠n:=λy=>z (by rw[y]);refine⟨_,rfl,_,rfl,L.p,C,a,_,_,rfl,b,f.cl,f.nd,BR _ _ _ _,L.dd,_,rfl,g,_,rfl,?_⟩;cases a:Yc S e with
  | none =>
   rw[if_neg (by rw[a];exact λy=>y.elim d λw=>w rfl)] at k;exact Z5 k
  | some x =>
   rw[if_pos (.inr (by rw[a];intro w;cases w))] at k;exact Z6 ⟨_,rfl,.inl ⟨e,rfl,by lia⟩,aA,_,rfl,.inl ⟨n,rfl,by lia⟩,λ_=>k⟩
theorem Vo(h:eM lo hi d=none):lo<=d/\d<=hi:=by
 unfold eM at h
 by_cases z:lo<=d/\d<=hi
 .exact z
 .rw[if_neg z] at h;cases h
theorem Xv(h:Ue x=true):Vm x:=by
 unfold Ue at h;simp only[yO,decide_eq_true_eq,zV] at h;exact⟨λc a=>by have:=h.2 c a;unfold okc at this;simpa using this,h.1.1,h.1.2⟩
theorem Ee(h:Tr S n day wt=none):Vm n/\(0<=day/\day<=9999)/\(1<=wt/\wt<=1000)/\Zr S n=none/\(V2 S).length<40:=by
 unfold Tr at h
 by_cases z:Ue n=false
 .rw[if_pos z] at h;cases h
 .rw[if_neg z] at h;simp only[xY] at h;refine⟨Xv (by simpa using z),Vo h.1,Vo h.2.1,?_⟩;obtain⟨a,b⟩:=h.2.2;refine⟨Classical.byContradiction λy=>?_,Classical.byContradiction λy=>?_⟩
  .rw[if_neg y] at a;cases a
  .rw[if_neg y] at b;cases b
theorem EZ(h:Wo d day=none):d<=day:=by
 unfold Wo at h
 by_cases z:day<d
 .rw[if_pos z] at h;cases h
 .lia
theorem HU(h:JS S n day wt=none):(0<=day/\day<=9999)/\(1<=wt/\wt<=1000)/\(∃d,Zr S n=some d/\d<=day)/\Ju S n day=false:=by
 unfold JS at h;simp only[xY] at h;obtain⟨f,g,i,b,a⟩:=h;obtain⟨d,e⟩:=B7 i;rw[e] at b;refine⟨Vo f,Vo g,⟨d,e,EZ b⟩,?_⟩;unfold V5 at a;cases z:Ju S n day with
 | false=>rfl
 | true=>rw[if_pos z] at a;cases a
theorem eJ(h:Bd S n he day=none):(0<=day/\day<=9999)/\(∃d,Zr S n=some d/\d<=day)/\(∃d,Zr S he=some d/\d<=day)/\Yc S n=none/\Yc S he=none/\he≠n:=by
 unfold Bd at h;simp only[xY] at h;obtain⟨l,a,f,g,i,b,j⟩:=h;obtain⟨d,k⟩:=B7 a;obtain⟨e,a⟩:=B7 f;rw[k] at g;rw[a] at i;have f:Yc S n=none:=by
  unfold AO at b
  by_cases z:Yc S n=none
  .exact z
  .rw[if_neg z] at b;cases b
 by_cases z:he=n\/Yc S he≠none
 .rw[if_pos z] at j;cases j
 .refine⟨Vo l,⟨d,k,EZ g⟩,⟨e,a,EZ i⟩,f,?_,λy=>z (.inl y)⟩
  by_cases y:Yc S he=none
  .exact y
  .exact absurd (.inr y) z
end
section
variable{C:gF}
def Ur(l:List (ZT×V))(day:Int):List Int:=l.filterMap λp=>match p.1 with
 | .inl d=>if d<=day then some d else none
 | .inr _=>none
theorem MT{l:List (ZT×V)}{i:Nat}{d wt day:Int}(h:l[i]?=some (.inl d,.int wt)):Ur (l.take (i+1)) day=Ur (l.take i) day++(if d<=day then [d] else []):=by
 unfold Ur;rw[xS,h,List.filterMap_append];congr 1
 by_cases e:d<=day
 .simp[e]
 .simp[e]
theorem upTo_mem:x∈Ur l day↔(∃v,(.inl x,v)∈l)/\x<=day:=by
 unfold Ur;rw[List.mem_filterMap];constructor
 .grind
 .grind
theorem Sr{l:List (ZT×V)}{k:ZT}{v:V}(h:Z1 l k=some v):(k,v)∈l:=by
 unfold Z1 at h;cases e:l.find? λa=>decide (a.1=k) with
 | none=>rw[e] at h;cases h
 | some p =>
  rw[e] at h;cases h;have b:=List.mem_of_find?_eq_some e;have a:=List.find?_some e;have a:p.1=k:=by simpa using a
  rw[<- a];exact b
theorem Of{l:List (ZT×V)}{k:ZT}{v:V}(h:(k,v)∈l):∃u,Z1 l k=some u:=by
 unfold Z1;cases e:l.find? λa=>decide (a.1=k) with
 | none =>
  have:=List.find?_eq_none.mp e (k,v) h;exact absurd (yR rfl) this
 | some p=>exact⟨p.2,rfl⟩
inductive UO(C:gF)(vs:aG)(H:Hp)(Q:VK)(a:XK):Prop
 |mk(L) (S) (wa) (n) (day d0 wt)(_:vs=[.ref L.p,.str n,.int day])(_:YB C H L S)(_:WR H L S wa)(_:S.length<=1000)(_:0<=day)(_:day<=9999)(_:Zr S n=some d0)(_:d0<=day)(_:A6 (kw S n) day wt)(_:∀Y,ZA H Y->Q (.int wt) Y)
abbrev Ez:Stmt:=Y1 (top 36) 6
theorem Ft:Nm (Zm Ez) "day" .cell:=aA
theorem dQ(e:ZU K C "weight" "Folk.weight" Ez)(T:Txt mg)(d:VD K C)(i:YU P w K mg Z "check_day" 1 (VC 0 9999 c))(a:ZX P w K mg Z C "check_known" 1 (YL C c))(b:ZX P w K mg Z C "check_there" 1 (YR C c)) :
  Mt P w K mg Z C "weight" lA 2 (UO C):=by
 refine e.mq ["self","name","day","told"] λH e Q E g h=>?_;obtain⟨L,S,j,n,f,p,y,rfl,F,W,r,l,o,e,m,u,k⟩:=h
 refine⟨rfl,_,(Zd (Zs (Ws Xq.never i (Za (qvC 2 Ft) Zb))) (Zd (Zs (Yn Xq.never Q0 d.cl a (Za Q3 Zb))) (Zd (Zs (Yn Xq.never Q0 d.cl b (Za Q3 (Za (qvC 2 Ft) Zb)))) (Zd (Zx 3 (Cs g (Z2 Q0) Q3 (λ_ _=>rfl))) (Zg (Zw (Cs g Qb (Z0 (cH (by rfl)) T.max Ce (Za (cF (Vu (locs:=["since"]) (fr:=[("day", 2)]) ⟨rfl,aA,aA,aA,aA,aA⟩ (.ij Ft .nil) rfl (fQ Qb) ⟨λ_ _ _ _ _ _=>by
  have a:(inN ["since"] [("day", 2)]).Nodup:=aA
  exact⟨(Wb 0 a),(JO (Zk Vk (Yp 0) (Wn 1) (Zn _))),(Yp 0)⟩⟩)) Zb)) (λ_ _=>rfl)))))))),?_⟩
 have a:=aC
 obtain⟨b,m⟩:=F.ob;refine⟨_,rfl,f,rfl,(by unfold okI;lia),due.of (if_pos ⟨l,o⟩) ?_⟩;refine⟨_,rfl,L.p,b,_,rfl,m,Wh _ _ _ _ aA,_,rfl,L,S,n,rfl,F,λz=>(by rw[e] at z;cases z),due.of (if_neg (by rw[e];intro z;cases z)) ?_⟩;refine⟨_,rfl,L.p,b,_,rfl,m,Wh _ _ _ _ aA,_,rfl,_,rfl,L,S,n,p,f,rfl,F,e,λz=>absurd z (by lia),due.of (if_neg (by lia)) ?_⟩;obtain⟨l,t,a,h,r,s⟩:=u;obtain⟨i,e,o,g⟩:=W.w;obtain⟨i,x,o⟩:=g n l a;have hint:=PQ a;have g:=YF.k (k:=Sum.inr n) e;rw[i] at g;refine⟨_,rfl,L.p,C,b,_,_,rfl,m,d.cl,d.nw,F7 _ _ _ _,_,rfl,L.dw,.ref (j n),rfl,g,?_⟩;refine⟨_,rfl,j n,l,x,λo=>?_⟩;refine⟨_,rfl,j n,o,l,rfl,Zj,?_⟩;refine cQ (λi a Y=>Y=upd H (j n) (.frz o (.dK l))/\a=(Ur (l.take i) f).map V.int) ⟨rfl,rfl⟩ (by lia) (λi a Y _ ⟨e,_⟩=>by rw[e];exact Zj) ?_ ?_ ?_
 .rintro i a Y ⟨_,rfl⟩;rw[xA];unfold Ur;refine xZ (List.length_filterMap_le _ _) ?_;rw[xR];lia
 .rintro i p a Y g ⟨rfl,rfl⟩ d b;obtain⟨d,rfl⟩:=Uj b;obtain⟨d,b,rfl⟩:=hint p (xG g);refine⟨⟨[_],rfl,rfl⟩,?_⟩;refine⟨_,rfl,_,rfl,d,f,rfl,rfl,_,rfl,?_⟩;rw[MT g];refine Zv (λe=>?_) (λe=>?_)
  .refine⟨_,rfl,rfl,?_⟩;rw[if_pos e,xM];rfl
  .exact⟨rfl,by rw[if_neg e,xX]⟩
 .rintro a Y ⟨rfl,rfl⟩ q b;rw[xT];have g:q≠j n:=λz=>by rw[z,Zj] at b;cases b
  refine⟨by rw[Zf g.symm];exact Zj,?_⟩;have d:H q=none:=by rw[Zf g] at b;exact b
  have a:ZA H (upd (upd (upd H (j n) (.frz o (.dK l))) q (.lst ((Ur l f).map V.int))) (j n) (.dK l)):=λb m e=>by
   by_cases z:b=j n
   .rw[z,Zj];rw[z,x] at e;exact e
   .rw[Zf z,Zf (Zo e d),Zf z];exact e
  have d:(upd (upd (upd H (j n) (.frz o (.dK l))) q (.lst ((Ur l f).map V.int))) (j n) (.dK l)) q=some (.lst ((Ur l f).map V.int)):=by rw[Zf g,Zj]
  generalize (upd (upd (upd H (j n) (.frz o (.dK l))) q (.lst ((Ur l f).map V.int))) (j n) (.dK l))=g at a d |-;have b:t∈Ur l f:=upTo_mem.mpr ⟨⟨_,Sr h⟩,r⟩;refine⟨q,Ur l f,rfl,ZD.of d,(λz=>by rw[z] at b;cases b),λm f e=>?_⟩;obtain⟨⟨v,i⟩,d⟩:=upTo_mem.mp f;obtain⟨u,f⟩:=Of i;have i:=s m u f d;have d:=e t b;have b:m=t:=by lia
  subst b;have b:=YF.k (k:=Sum.inl m) (a _ _ x);rw[h] at b;exact⟨j n,.int y,rfl,b,k g a⟩
inductive UY(C:gF)(vs:aG)(H:Hp)(Q:VK)(a:XK):Prop
 |mk(L) (S) (wa) (n) (day wt)(_:vs=[.ref L.p,.str n,.int day,.int wt])(_:Fk C H L S wa)(_:S.length<=1000)(_:okN n)(_:okI day)(_:okI wt)(_:Tr S n day wt=none)(_:∀a Y,Fk C Y L (S ++ [.come n day wt]) a->WQ L S wa H Y->Bp L S wa (S ++ [.come n day wt]) a H->Q .non Y)
abbrev Ik:Stmt:=Y1 (top 36) 1
theorem fL(Zie:ZU K C "come" "Folk.come" Ik)(Tc:VD K C)(M_check_coming:ZX P w K mg Z C "check_coming" 2 (WH C c)) :
  Mt P w K mg Z C "come" lg 3 (UY C):=by
 refine Zie.mq lg λH vs Q E hr h=>?_;obtain⟨L,S,wa,n,day,wt,rfl,K0,hl,ho,hi,hw,ec,k⟩:=h;obtain⟨hnm,⟨d0,d1⟩,⟨w0,w1⟩,hc,hcm⟩:=Ee ec;refine⟨rfl,_,(Zd (Zs (Yn Xq.never Q0 Tc.cl M_check_coming (Za Q3 (Za Qa (Za Qb Zb))))) (Zd (Jy hr (Z2 Q0) Q3 Qa) (Zg (Jy hr (Z2 Q0) Q3 (NK Qa Qb))))),?_⟩;have F0:=K0.f;have W0:=K0.w;have hz:=aC
 obtain⟨dx0,ob0⟩:=F0.ob;refine⟨_,rfl,L.p,dx0,_,rfl,ob0,Wh _ _ _ _ aA,_,rfl,_,rfl,_,rfl,L,S,wa,n,day,wt,rfl,K0,hl,ho,hi,hw,λH1 s1=>due.of ec ?_⟩;have F:=F0.keep (ZA.n s1);have W:=W0.keep (ZA.n s1);obtain⟨k9,y8,y9⟩:=K0.all;have y7:=s1 _ _ y8;have hkn:kw S n=none:=by
  have:=Fi S n;rw[hc] at this;cases e:kw S n with
  | none=>rfl
  | some l=>rw[e] at this;cases this
 obtain⟨⟨dx,ob⟩,⟨k1,c1,c2,c3⟩,_,⟨k3,e1,e2,e3⟩,⟨k4,h1,h2,h3⟩,a1,a2,a3,a4,a5,a6⟩:=F;obtain⟨⟨k2,w2,w3,w4⟩,⟨k1',o1,o2⟩,wap,winj⟩:=W;rw[c1] at o1;cases o1;have np:L.p≠L.dc:=λz=>by rw[z,c1] at ob;cases ob
 have np2:L.p≠L.dw:=λz=>by rw[z,w2] at ob;cases ob
 refine⟨_,rfl,_,rfl,L.p,C,dx,_,_,rfl,ob,Tc.cl,Tc.nc,Cd _ _ _ _,_,rfl,L.dc,_,rfl,YV.k (k:=Sum.inr n) c1 (by lia),?_⟩;have T1:=YS.ou (kvs':=Z4 k1 (Sum.inr n) (.int day)) c1;have g0:∀b o,b≠L.dc->H1 b=some o->(upd H1 L.dc (.dK (Z4 k1 (Sum.inr n) (.int day)))) b=some o:=λb o nb e=>by rw[Zf nb];exact e
 have g2:(upd H1 L.dc (.dK (Z4 k1 (Sum.inr n) (.int day)))) L.dc=some (.dK (Z4 k1 (Sum.inr n) (.int day))):=Zj;generalize (upd H1 L.dc (.dK (Z4 k1 (Sum.inr n) (.int day))))=H2 at T1 g0 g2 |-;have g1:=g0 _ _ np ob;have g3:=g0 _ _ a1.symm w2;have g4:=g0 _ _ a2.symm e1;have g5:=g0 _ _ a3.symm h1;intro q hq;refine⟨_,rfl,_,rfl,Zj,[(Sum.inl day,.int wt)],rfl,by show 1<=15;decide,?_⟩;have S3:ZA H2 (upd (upd H2 q (.dK [])) q (.dK (Ar [] [(Sum.inl day,.int wt)]))):=λb o e=>by rw[Zf (Zo e hq),Zf (Zo e hq)];exact e
 have kq:(upd (upd H2 q (.dK [])) q (.dK (Ar [] [(Sum.inl day,.int wt)]))) q=some (.dK [(Sum.inl day,.int wt)]):=Zj;generalize (upd (upd H2 q (.dK [])) q (.dK (Ar [] [(Sum.inl day,.int wt)])))=H3 at S3 kq |-;refine⟨_,rfl,L.p,C,dx,_,_,rfl,S3 _ _ g1,Tc.cl,Tc.nw,F7 _ _ _ _,_,rfl,L.dw,_,rfl,YV.k (k:=Sum.inr n) (S3 _ _ g3) (by lia),?_⟩;have T4:=YS.ou (kvs':=Z4 k2 (Sum.inr n) (.ref q)) (S3 _ _ g3);have ll:=Uh k1 (Sum.inr n:ZT) (V.int day);have ll2:=Uh k2 (Sum.inr n:ZT) (V.ref q);have lapp:(S ++ [ZK.come n day wt]).length=S.length+1:=by rw[xE];rfl
 have q1:q≠L.dc:=λz=>by rw[z,g2] at hq;cases hq
 have q2:q≠L.dw:=λz=>by rw[z,g3] at hq;cases hq
 have q3:q≠L.dd:=λz=>by rw[z,g4] at hq;cases hq
 have q4:q≠L.dh:=λz=>by rw[z,g5] at hq;cases hq
 have old:∀m l,kw S m=some l->H3 (wa m)=some (.dK l)/\wa m≠q:=λm l e=>by
  have hh:=g0 _ _ (wap m l e).1 (w4 m l e).2.1;exact⟨S3 _ _ hh,Zo hh hq⟩
 have hkw:∀m l,kw (S ++ [.come n day wt]) m=some l->(m=n/\l=[(Sum.inl day,.int wt)])\/(m≠n/\kw S m=some l):=λm l e=>by
  rw[Um,Wd] at e;split at e
  .rename_i z;cases e;exact .inl ⟨z,rfl⟩
  .rename_i z;exact .inr ⟨z,e⟩
 refine k (λm=>if m=n then q else wa m) _ ⟨⟨⟨dx,by rw[Zf np2];exact S3 _ _ g1⟩,⟨_,by rw[Zf a1];exact S3 _ _ g2,by lia,λx=>?_⟩,⟨_,Zj,by lia⟩,⟨k3,by rw[Zf a4.symm];exact S3 _ _ g4,by lia,λx=>?_⟩,⟨k4,by rw[Zf a5.symm];exact S3 _ _ g5,by lia,λx=>?_⟩,a1,a2,a3,a4,a5,a6⟩,
  ⟨⟨_,Zj,by lia,λm l e=>?_⟩,⟨_,by rw[Zf a1];exact S3 _ _ g2,?_⟩,λm l e=>?_,λm m' l l' e e' z=>?_⟩,⟨_,Zj,λp hp=>?_⟩⟩ (λb o e hn=>?_) (λb hb=>?_)
 .rw[Uw,DU hc]
  by_cases e:x=n
  .subst e;rw[if_pos rfl,if_pos rfl];rfl
  .rw[if_neg (λz=>e (Sum.inr.inj z)),if_neg e];exact c3 x
 .rw[EB];exact e3 x
 .rw[EB];exact h3 x
 ·(try dsimp only)
  rcases hkw m l e with⟨rfl,rfl⟩ | ⟨hm,e'⟩
  .rw[if_pos rfl];exact⟨by rw[Uw,if_pos rfl],by rw[Zf q2];exact kq,by rw[lapp];show 1<=_;lia⟩
  .rw[if_neg hm];obtain⟨y1,y2,y3⟩:=w4 m l e';exact⟨by rw[Uw,if_neg (λz=>hm (Sum.inr.inj z))];exact y1,by rw[Zf (wap m l e').2.1];exact(old m l e').1,by lia⟩
 .have hv:Z1 k1 (Sum.inr n:ZT)=none:=by rw[c3,hc];rfl
  rw[XU _ hv,xM,CL,xM,o2];rfl
 .grind
 .grind
 .rw[w2] at y7;cases y7;rcases Gz hp with rfl | hp
  .exact⟨n,[(Sum.inl day,.int wt)],by rw[Um,Wd,if_pos rfl],by (try dsimp only);rw[if_pos rfl]⟩
  .obtain⟨m,l,e,rfl⟩:=y9 p hp;have hm:m≠n:=λz=>by rw[z,hkn] at e;cases e
   exact⟨m,l,by rw[Um,Wd,if_neg hm];exact e,by (try dsimp only);rw[if_neg hm]⟩
 .rw[Zf (λz=>hn (.inr (.inr (.inl z))))];exact S3 _ _ (g0 b o (λz=>hn (.inr (.inl z))) (s1 _ _ e))
 .rcases hb with z | z | z | z | z | ⟨m,l,e,z⟩
  .exact .inl (.inl z)
  .exact .inl (.inr (.inl z))
  .exact .inl (.inr (.inr (.inl z)))
  .exact .inl (.inr (.inr (.inr (.inl z))))
  .exact .inl (.inr (.inr (.inr (.inr (.inl z)))))
  ·(try dsimp only at z)
   rcases hkw m l e with⟨rfl,rfl⟩ | ⟨hm,y⟩
   .rw[if_pos rfl] at z;refine .inr ?_;cases eq:H b with
    | none=>rfl
    | some o =>
     have:=g0 _ _ (by rw[z];exact q1) (s1 _ _ eq);rw[z,hq] at this;cases this
   .rw[if_neg hm] at z;exact .inl (.inr (.inr (.inr (.inr (.inr ⟨m,l,y,z⟩)))))
inductive Je(C:gF)(vs:aG)(H:Hp)(Q:VK)(a:XK):Prop
 |mk(L) (S) (wa) (n) (day wt)(_:vs=[.ref L.p,.str n,.int day,.int wt])(_:Fk C H L S wa)(_:S.length<=1000)(_:n.length<=100)(_:okI day)(_:okI wt)(_:JS S n day wt=none)(_:∀Y,Fk C Y L (S ++ [.rise n day wt]) wa->WQ L S wa H Y->Bp L S wa (S ++ [.rise n day wt]) wa H->Q .non Y)
abbrev IX:Stmt:=Y1 (top 36) 2
theorem bE(J:ZU K C "rise" "Folk.rise" IX)(I:VD K C)(a:ZX P w K mg Z C "check_rise" 3 (UD C c)):Mt P w K mg Z C "rise" lg 4 (Je C):=by
 refine J.mq lg λH vs Q E hr h=>?_;obtain⟨L,S,T,n,d,r,rfl,G,hl,ho,hi,hw,ec,k⟩:=h;obtain⟨⟨d0,d1⟩,⟨w0,w1⟩,⟨e0,hc,hd⟩,hv⟩:=HU ec;refine⟨rfl,_,(Zd (Zs (Yn Xq.never Q0 I.cl a (Za Q3 (Za Qa (Za Qb Zb))))) (Zg (Jy hr (Cs hr (Z2 Q0) Q3 (λ_ _=>rfl)) Qa Qb))),?_⟩;have F:=G.f;have W:=G.w;obtain⟨k9,y8,y9⟩:=G.all;have hz:=aC
 obtain⟨N,O⟩:=F.ob;refine⟨_,rfl,L.p,N,_,rfl,O,Wh _ _ _ _ aA,_,rfl,_,rfl,_,rfl,L,S,n,d,r,rfl,F,ho,hi,hw,due.of ec ?_⟩;obtain⟨l,i⟩:∃l,kw S n=some l:=by
  have:=Fi S n;rw[hc] at this;cases e:kw S n with
  | none=>rw[e] at this;cases this
  | some l=>exact⟨l,rfl⟩
 obtain⟨⟨Y,B⟩,⟨k1,M,c2,c3⟩,_,⟨k3,e1,e2,e3⟩,⟨k4,h1,h2,h3⟩,a1,a2,a3,a4,a5,a6⟩:=F;obtain⟨⟨k2,R,w3,w4⟩,⟨a7,o1,o2⟩,u,v⟩:=W;rw[M] at o1;cases o1;obtain⟨y1,U,y3⟩:=w4 n l i;obtain⟨z1,X,z3,z4⟩:=u n l i;have zp:L.p≠T n:=λz=>by rw[z,U] at B;cases B
 have g:=YF.k (k:=Sum.inr n) R;rw[y1] at g;refine⟨_,rfl,_,rfl,L.p,C,Y,_,_,rfl,B,I.cl,I.nw,F7 _ _ _ _,_,rfl,L.dw,.ref (T n),rfl,g,_,rfl,T n,_,rfl,YV.k (k:=Sum.inl d) U (by lia),?_⟩;have T1:=YS.ou (kvs':=Z4 l (Sum.inl d) (.int r)) U;have ll:=Uh l (Sum.inl d:ZT) (V.int r);have a0:(S ++ [ZK.rise n d r]).length=S.length+1:=by rw[xE];rfl
 have s:∀m f,kw (S ++ [.rise n d r]) m=some f->(m=n/\f=Z4 l (Sum.inl d) (.int r))\/(m≠n/\kw S m=some f):=λm f e=>by
  rw[Um,Wd] at e;split at e
  .rename_i z;subst z;rw[i] at e;cases e;exact .inl ⟨rfl,rfl⟩
  .rename_i z;exact .inr ⟨z,e⟩
 have t:∀m f,kw (S ++ [.rise n d r]) m=some f->∃j,kw S m=some j:=λm f e=>by
  rcases s m f e with⟨rfl,_⟩ | ⟨_,y⟩
  .exact⟨l,i⟩
  .exact⟨f,y⟩
 refine k _ ⟨⟨⟨Y,by rw[Zf zp];exact B⟩,⟨k1,by rw[Zf z1.symm];exact M,by lia,λx=>by rw[Dk];exact c3 x⟩,⟨k2,by rw[Zf X.symm];exact R,by lia⟩,⟨k3,by rw[Zf z3.symm];exact e1,by lia,λx=>by rw[Em];exact e3 x⟩,⟨k4,by rw[Zf z4.symm];exact h1,by lia,λx=>by rw[Em];exact h3 x⟩,a1,a2,a3,a4,a5,a6⟩,
  ⟨⟨k2,by rw[Zf X.symm];exact R,by lia,λm f e=>?_⟩,⟨k1,by rw[Zf z1.symm];exact M,?_⟩,λm f e=>?_,λm m' l1 l2 e e' z=>?_⟩,⟨k9,by rw[Zf X.symm];exact y8,λp hp=>?_⟩⟩ (λb o e hn=>?_) (λb hb=>?_)
 .rcases s m f e with⟨rfl,rfl⟩ | ⟨A,y⟩
  .exact⟨y1,Zj,by lia⟩
  .obtain⟨x1,x2,x3⟩:=w4 m f y;exact⟨x1,by rw[Zf (λz=>A (v m n f l y i z))];exact x2,by lia⟩
 .rw[CL,o2];show _=((V2 S)++[]).map V.str;rw[xX]
 .obtain⟨j,y⟩:=t m f e;exact u m j y
 .grind
 .obtain⟨m,f,e,rfl⟩:=y9 p hp
  by_cases A:m=n
  .subst A;exact⟨m,Z4 l (Sum.inl d) (.int r),by rw[Um,Wd,if_pos rfl,i];rfl,rfl⟩
  .exact⟨m,f,by rw[Um,Wd,if_neg A];exact e,rfl⟩
 .rw[Zf (λz=>hn (.inr (.inr (.inr (.inr (.inr ⟨n,l,i,z⟩))))))];exact e
 .rcases hb with z | z | z | z | z | ⟨m,f,e,z⟩
  .exact .inl (.inl z)
  .exact .inl (.inr (.inl z))
  .exact .inl (.inr (.inr (.inl z)))
  .exact .inl (.inr (.inr (.inr (.inl z))))
  .exact .inl (.inr (.inr (.inr (.inr (.inl z)))))
  .obtain⟨j,y⟩:=t m f e;exact .inl (.inr (.inr (.inr (.inr (.inr ⟨m,j,y,z⟩)))))
inductive Ay(C:gF)(vs:aG)(H:Hp)(Q:VK)(a:XK):Prop
 |mk(L) (S) (wa) (n hr) (day)(_:vs=[.ref L.p,.str n,.int day,.str hr])(_:Fk C H L S wa)(_:S.length<=1000)(_:n.length<=100)(_:hr.length<=100)(_:okI day)(_:Bd S n hr day=none)(_:∀Y,Fk C Y L (S ++ [.die n day hr]) wa->WQ L S wa H Y->Bp L S wa (S ++ [.die n day hr]) wa H->Q .non Y)
abbrev KU:Stmt:=Y1 (top 36) 3
theorem dA(a:ZU K C "die" "Folk.die" KU)(i:VD K C)(b:ZX P w K mg Z C "check_death" 2 (TB C c)) :
  Mt P w K mg Z C "die" lF 3 (Ay C):=by
 refine a.mq lF λH a Q E f h=>?_;obtain⟨L,S,p,n,j,a,rfl,d,o,m,e,l,g,k⟩:=h;obtain⟨_,_,_,B,h,o⟩:=eJ g;refine⟨rfl,_,(Zd (Zs (Yn Xq.never Q0 i.cl b (Za Q3 (Za Qa (Za Qb Zb))))) (Zd (Jy f (Z2 Q0) Q3 Qa) (Zg (Jy f (Z2 Q0) Q3 Qb)))),?_⟩;have F:=d.f;obtain⟨⟨W,x1,b,x3⟩,⟨X,o1,o2⟩,h,p⟩:=d.w;obtain⟨Y,y8,y9⟩:=d.all;have d:kw (S ++ [.die n a j])=kw S:=by rw[Um];rfl
 have b:=aC
 obtain⟨b,f⟩:=F.ob;refine⟨_,rfl,L.p,b,_,rfl,f,Wh _ _ _ _ aA,_,rfl,_,rfl,_,rfl,L,S,n,j,a,rfl,F,m,e,l,due.of g ?_⟩;obtain⟨⟨l,b⟩,⟨M,x,g,R⟩,⟨N,I,z⟩,⟨f,e,o,T⟩,⟨y,J,v,U⟩,Q,t,u,r,s,m⟩:=F;have g:L.p≠L.dd:=λz=>by rw[z,e] at b;cases b
 have A:L.p≠L.dh:=λz=>by rw[z,J] at b;cases b
 refine⟨_,rfl,_,rfl,L.p,C,l,_,_,rfl,b,i.cl,i.nd,BR _ _ _ _,_,rfl,L.dd,_,rfl,YV.k (k:=Sum.inr n) e (by lia),?_⟩;have O:=YS.ou (kvs':=Z4 f (Sum.inr n) (.int a)) e;have v:(upd H L.dd (.dK (Z4 f (Sum.inr n) (.int a)))) L.p=some (.ins C l (Ti L.dc L.dw L.dd L.dh)):=by rw[Zf g];exact b
 have g:∀b o,b≠L.dd->H b=some o->(upd H L.dd (.dK (Z4 f (Sum.inr n) (.int a)))) b=some o:=λb o E e=>by rw[Zf E];exact e
 have E:(upd H L.dd (.dK (Z4 f (Sum.inr n) (.int a)))) L.dd=some (.dK (Z4 f (Sum.inr n) (.int a))):=Zj;have G:(upd H L.dd (.dK (Z4 f (Sum.inr n) (.int a)))) L.dw=some (.dK N):=by rw[Zf r];exact I
 have I:(upd H L.dd (.dK (Z4 f (Sum.inr n) (.int a)))) L.dc=some (.dK M):=by rw[Zf t];exact x
 have x:(upd H L.dd (.dK (Z4 f (Sum.inr n) (.int a)))) L.dh=some (.dK y):=by rw[Zf m.symm];exact J
 generalize (upd H L.dd (.dK (Z4 f (Sum.inr n) (.int a))))=H at O g v E G I x |-;refine⟨_,rfl,_,rfl,L.p,C,l,_,_,rfl,v,i.cl,i.nh,Og _ _ _ _,_,rfl,L.dh,_,rfl,YV.k (k:=Sum.inr n) x (by lia),?_⟩;have i:=YS.ou (kvs':=Z4 y (Sum.inr n) (.str j)) x;have i:=Uh f (Sum.inr n:ZT) (V.int a);have f:=Uh y (Sum.inr n:ZT) (V.str j);have f:(S ++ [ZK.die n a j]).length=S.length+1:=by rw[xE];rfl
 refine k _ ⟨⟨⟨l,by rw[Zf A];exact v⟩,⟨M,by rw[Zf u];exact I,by lia,λx=>?_⟩,⟨N,by rw[Zf s];exact G,by lia⟩,⟨_,by rw[Zf m];exact E,by lia,λx=>?_⟩,⟨_,Zj,by lia,λx=>?_⟩,Q,t,u,r,s,m⟩,
  ⟨⟨W,by rw[Zf s];exact g _ _ r x1,by lia,λm l e=>?_⟩,⟨X,by rw[Zf u];exact g _ _ t o1,?_⟩,λm l e=>h m l (by rw[<- d];exact e),λm i l f e a z=>p m i l f (by rw[<- d];exact e) (by rw[<- d];exact a) z⟩,⟨Y,by rw[Zf s];exact g _ _ r y8,λp i=>?_⟩⟩ (λb o e f=>?_) (λb a=>?_)
 .rw[Dx];exact R x
 .rw[Uw,Kb B]
  by_cases e:x=n
  .subst e;rw[if_pos rfl,if_pos rfl];rfl
  .rw[if_neg (λz=>e (Sum.inr.inj z)),if_neg e];exact T x
 .rw[Uw,Kb B]
  by_cases e:x=n
  .subst e;rw[if_pos rfl,if_pos rfl];rfl
  .rw[if_neg (λz=>e (Sum.inr.inj z)),if_neg e];exact U x
 .rw[d] at e;obtain⟨j,k,n⟩:=x3 m l e;obtain⟨_,_,n,r⟩:=h m l e;exact⟨j,by rw[Zf r];exact g _ _ n k,by lia⟩
 .rw[CL,o2];show _=((V2 S)++[]).map V.str;rw[xX]
 .obtain⟨m,l,e,q⟩:=y9 p i;exact⟨m,l,by rw[d];exact e,q⟩
 .rw[Zf (λz=>f (.inr (.inr (.inr (.inr (.inl z))))))];exact g b o (λz=>f (.inr (.inr (.inr (.inl z))))) e
 .refine .inl ?_;unfold own at a |-;rw[d] at a;exact a
end
def To(H Y:Hp):Prop:=∀b J,H b=some (.tup J)->Y b=some (.tup J)
theorem Gu(a:H l=some (.lst J)):To H (upd H l o):=λb c e=>by
 rw[Zf (λz=>by rw[z,a] at e;cases e)];exact e
abbrev Vd:=List (Str×Int)
def DI(p:Str×Int):D:=.tup [.str p.1,.int p.2]
def EL(a:Vd):D:=.lst (a.map DI)
def ZP(H:Hp):Vd->List V->Prop
 | [],c=>c=[]
 | p::r,c=>∃a b,c=.ref a::b/\H a=some (.tup [.str p.1,.int p.2])/\ZP H r b
theorem ZP.mono(k:To H Y):∀{b:Vd}{vs:aG},ZP H b vs->ZP Y b vs
 | [],_,h=>h
 | _::_,_,⟨a,vs',e,h1,h2⟩=>⟨a,vs',e,k _ _ h1,ZP.mono k h2⟩
theorem ZP.rep:∀{b:Vd}{vs:aG},ZP H b vs->ZO H (b.map DI) vs
 | [],_,h=>h
 | p::_,_,⟨a,vs',e,h1,h2⟩=>⟨.ref a,vs',e,⟨a,_,rfl,h1,⟨.str p.1,_,rfl,rfl,⟨.int p.2,[],rfl,rfl,rfl⟩⟩⟩,ZP.rep h2⟩
theorem ZP.of:∀{b:Vd}{vs:aG},ZO H (b.map DI) vs->ZP H b vs
 | [],_,h=>h
 | p::_,_,⟨v,vs',e,⟨a,us,e2,h1,⟨x,r1,e3,e4,⟨y,r2,e5,e6,e7⟩⟩⟩,h2⟩=>by
  subst e2 e7 e5 e3;cases e4;cases e6;exact⟨a,vs',e,h1,ZP.of h2⟩
theorem ZP.len(h:ZP H sd vs):vs.length=sd.length:=by
 have:=(ZP.rep h).length;rw[xA] at this;exact this
theorem ZP.get:∀{b:Vd}{vs:aG}{i:Nat}{v:V},ZP H b vs->vs[i]?=some v->∃p a,b[i]?=some p/\v=.ref a/\H a=some (.tup [.str p.1,.int p.2])
 | [],vs,i,v,h,e=>by cases h;simp at e
 | p::b,vs,i,v,⟨a,vs',e1,h1,h2⟩,e=>by
  subst e1;cases i with
  | zero=>simp at e;subst e;exact⟨p,a,rfl,rfl,h1⟩
  | succ i=>simp at e;exact ZP.get (i:=i) h2 e
theorem ZP.snoc(d:H a=some (.tup [.str p.1,.int p.2])):∀{c:Vd}{vs:aG},ZP H c vs->ZP H (c ++ [p]) (vs ++ [.ref a])
 | [],vs,h=>by cases h;exact⟨a,[],rfl,d,rfl⟩
 | q::c,vs,⟨b,vs',e,h1,h2⟩=>by subst e;exact⟨b,vs' ++ [.ref a],rfl,h1,ZP.snoc d h2⟩
def wts(a:Vd):List Int:=a.map (·.2)
def YQ(a:Vd):Prop:=(∀p∈a,1<=p.2/\p.2<=1000)/\a.length<=60
theorem YQ.bnd(h:YQ sd):∀n∈wts sd,-1000000000<=n/\n<=1000000000:=λn a=>by
 obtain⟨p,b,rfl⟩:=zF.mp a;have:=h.1 p b;show -1000000000<=p.2/\p.2<=1000000000;lia
theorem Nh{a:Vd}{i:Nat}{p:Str×Int}(h:a[i]?=some p):(wts a)[i]?=some p.2:=by unfold wts;rw[xC,h];rfl
def YI(H:Hp)(c:Vd)(v:V):Prop:=∃a b,v=.ref a/\H a=some (.lst b)/\ZP H c b
theorem ZA.t(h:ZA H Y):To H Y:=λb J e=>h b _ e
theorem YI.mono(h:YI H sd v)(k:ZA H Y):YI Y sd v:=let ⟨a,d,e,b,c⟩:=h;⟨a,d,e,k _ _ b,c.mono λb J e=>k b _ e⟩
inductive UF(vs:aG)(H:Hp)(Q:VK)(a:XK):Prop
 |mk(v) (sd)(_:vs=[v])(_:YI H sd v)(_:YQ sd)(_:∀Y,ZA H Y->Q (.int (wts sd).sum) Y)
theorem NB(f:H a=some (.lst vs))(d:ZP H sd vs)(b:sd.length<=60)(g:∀l,H l=none->Q (.ref l) (upd H l (.lst ((wts sd).map V.int)))) :
  Ux (JC K a) 2 fv (Tv K 2 (VQ (Wr 0) (VQ (Wr 1) Gb))) (λ_ H Q=>Q true H) (YJ 1) Q H:=by
 have b:=d.len;refine Ui (J:=vs) (λi c Y=>Y=H/\c=((wts sd).take i).map V.int) ⟨rfl,rfl⟩ (by lia) (λi c Y _ ⟨e,_⟩=>by rw[e];exact ZD.of f) ?_ ?_ ?_
 .rintro i c Y ⟨_,rfl⟩;rw[xA,xR];lia
 .rintro i x c Y j ⟨rfl,rfl⟩ f b;obtain⟨u,v,rfl⟩:=Dl b;obtain⟨p,b,h,rfl,f⟩:=d.get j;refine⟨b,_,rfl,ZJ.of f,rfl,_,_,rfl,_,_,rfl,rfl,⟨[_,_],rfl,rfl⟩,Z6 ?_⟩;refine⟨_,rfl,rfl,?_⟩;rw[xS,Nh h,xM];rfl
 .rintro c Y ⟨rfl,rfl⟩ l b;have e:(wts sd).take vs.length=wts sd:=yY (by unfold wts;rw[xA];lia);rw[e];exact g l b
abbrev LW:Stmt:=top 33
theorem bS(a:YA K mg "total" LW)(T:Txt mg):Fn P w K mg Z "total" ["side"] 1 UF:=by
 refine a.fq ["side"] λH b Q E e h=>?_;obtain⟨v,f,rfl,⟨a,b,rfl,d,e⟩,c,k⟩:=h
 refine⟨rfl,_,(Zg (Zw (Z0 (CB (by rfl)) T.sum BF (Za (Vu (locs:=i7) (fr:=[]) ⟨rfl,aA,aA,aA,aA,aA⟩ .nil rfl (Yz Q0) ⟨λ_ _ _ _ _ _=>by
  have b:(inN i7 []).Nodup:=aA
  exact⟨(Cv 2 (by rfl) (Yv (Wb 0 b) (Yv (Wb 1 b) Ub))),Uc,(Yp 1)⟩⟩) Zb)))),?_⟩
 refine⟨_,rfl,a,rfl,⟨_,ZD.of d⟩,?_⟩;refine NB d e c.2 λl a=>?_;exact⟨l,wts f,rfl,ZD.of Zj,c.bnd,by unfold wts;rw[xA];have:=c.2;lia,k _ (ZA.new a)⟩
structure ZS where
 ones:Vd
 others:Vd
 need:Int
 named:Option (Int×Str)
def AX:Option (Int×Str)->D
 | none=>.non
 | some (c,n)=>.tup [.int c,.str n]
def Wq(t:ZS):D:=.tup [EL t.ones,EL t.others,.int t.need,AX t.named]
theorem YI.of(h:YE H (EL sd) v):YI H sd v:=by
 obtain⟨a,d,e,b,c⟩:=h;exact⟨a,d,e,b,ZP.of c⟩
theorem GE(h:YE H (Wq t) v):∃a b c d,v=.ref a/\H a=some (.tup [b,c,.int t.need,d])/\YI H t.ones b/\YI H t.others c/\YE H (AX t.named) d:=by
 obtain⟨a,s,e,l,⟨b,m,rfl,f,⟨c,n,rfl,g,⟨r,o,rfl,i,⟨d,p,rfl,j,k⟩⟩⟩⟩⟩:=h;cases i;cases k;exact⟨a,b,c,d,e,l,.of f,.of g,j⟩
theorem ZP.app(d:ZP H b ws):∀{a:Vd}{vs:aG},ZP H a vs->ZP H (a++b) (vs++ws)
 | [],vs,h=>by cases h;exact d
 | p::a,vs,⟨c,vs',e,h1,h2⟩=>by subst e;exact⟨c,vs'++ws,rfl,h1,ZP.app d h2⟩
theorem GV(f:H a=some (.lst vs))(d:ZP H sd vs)(b:sd.length<=1000)(g:∀l,H l=none->Q (.ref l) (upd H l (.lst ((sd.map (·.1)).map V.str)))) :
  Ux (JC K a) 2 fv (Tv K 2 (VQ (Wr 0) (VQ (Wr 1) Gb))) (λ_ H Q=>Q true H) (YJ 0) Q H:=by
 have b:=d.len;refine Ui (J:=vs) (λi c Y=>Y=H/\c=((sd.map (·.1)).take i).map V.str) ⟨rfl,rfl⟩ (by lia) (λi c Y _ ⟨e,_⟩=>by rw[e];exact ZD.of f) ?_ ?_ ?_
 .rintro i c Y ⟨_,rfl⟩;rw[xA,xR];lia
 .rintro i x c Y j ⟨rfl,rfl⟩ f b;obtain⟨u,v,rfl⟩:=Dl b;obtain⟨p,b,h,rfl,f⟩:=d.get j;refine⟨b,_,rfl,ZJ.of f,rfl,_,_,rfl,_,_,rfl,rfl,⟨[_,_],rfl,rfl⟩,Z6 ?_⟩;refine⟨_,rfl,rfl,?_⟩;have e:(sd.map (·.1))[i]?=some p.1:=by rw[xC,h];rfl
  rw[xS,e,xM];rfl
 .rintro c Y ⟨rfl,rfl⟩ l b;have e:(sd.map (·.1)).take vs.length=sd.map (·.1):=yY (by rw[xA];lia);rw[e];exact g l b
def Tp(t:ZS):Prop:=YQ t.ones/\YQ t.others/\1<=t.need/\t.need<=12000
theorem Hg(J:aG)(c:Nat):Va J none (some (c:Int))=J.take c:=by
 unfold Va;rw[HT.sIx_none,HT.sIx_nat,mJ,Nat.sub_zero]
 by_cases h:c<=J.length
 .rw[mK h]
 .grind
theorem GI(J:aG)(c:Nat):Va J (some (c:Int)) none=J.drop c:=by
 unfold Va;rw[HT.sIx_none,HT.sIx_nat]
 by_cases h:c<=J.length
 .rw[mK h];exact yY (by rw[zG];lia)
 .rw[Nat.min_eq_right (by lia),wN (xF _),wN (by lia)];exact List.take_nil
abbrev J6:=List (List ZT×V)
def Yq(c:Int)(n:Str):List ZT:=[.inl c,.inr n]
def brk(U:J6)(c:Int)(n:Str):Bool:=(Z1 U (Yq c n)).isSome
def keep(br:Int->Str->Bool)(c:Int)(a:Vd):Vd:=a.filter λp=>!br c p.1
def Uo(br:Int->Str->Bool)(c:Int)(a:Vd):Int:=(wts (keep br c a)).sum
inductive TM(vs:aG)(H:Hp)(Q:VK)(a:XK):Prop
 |mk(c) (v) (g) (sd) (U)(_:vs=[.int c,v,.ref g])(_:YI H sd v)(_:YQ sd)(_:H g=some (.dT U))(_:∀Y,ZA H Y->Q (.int (Uo (brk U) c sd)) Y)
theorem Gh{br:Int->Str->Bool}{c:Int}{a:Vd}{i:Nat}{p:Str×Int}(h:a[i]?=some p):keep br c (a.take (i+1))=keep br c (a.take i)++(if br c p.1 then [] else [p]):=by
 unfold keep;rw[xS,h,zI];cases e:br c p.1<;>simp[e]
abbrev DD:Stmt:=top 51
theorem OC:Nm (Zm DD) "case" .cell:=aA
theorem PL:Nm (Zm DD) "gone" .cell:=aA
theorem eS(a:YA K mg "kept_weight" DD)(T:Txt mg):Fn P w K mg Z "kept_weight" i9 1 TM:=by
 refine a.fq i9 λH e Q E f h=>?_;obtain⟨c,v,g,n,U,rfl,⟨a,e,rfl,l,d⟩,m,r,k⟩:=h
 refine⟨rfl,_,(Zg (Zw (Z0 (CB (by rfl)) T.sum BF (Za (Vu (locs:=i7) (fr:=[("case", 0),("gone", 2)]) ⟨rfl,aA,aA,aA,aA,aA⟩ (.ij OC (.ij PL .nil)) rfl (Yz Q3) ⟨λ_ _ _ _ _ _=>by
  have b:(inN i7 [("case", 0),("gone", 2)]).Nodup:=aA
  exact⟨(Cv 2 (by rfl) (Yv (Wb 0 b) (Yv (Wb 1 b) Ub))),(JO (Zk (Hj f) (Yj (Za (Wn 2) (Za (Yp 0) Zb))) (Wn 3) rfl)),(Yp 1)⟩⟩) Zb)))),?_⟩
 have b:(2000:Nat)<=sizeLine:=by decide
 have j:=d.len;have b:=m.2;refine⟨_,rfl,a,rfl,⟨_,ZD.of l⟩,?_⟩;refine Ui (J:=e) (λi f Y=>ZA H Y/\f=(wts (keep (brk U) c (n.take i))).map V.int) ⟨λ_ _ e=>e,rfl⟩ (by lia) (λi f Y _ ⟨e,_⟩=>ZD.of (e _ _ l)) ?_ ?_ ?_
 .rintro i f Y ⟨_,rfl⟩;unfold wts keep;rw[xA,xA];refine xZ (yS _ _) ?_;rw[xR];lia
 .rintro i x f Y l ⟨a,rfl⟩ h b;obtain⟨h,i,rfl⟩:=Dl b;obtain⟨p,b,h,rfl,i⟩:=d.get l;refine⟨b,_,rfl,ZJ.of (a _ _ i),rfl,_,_,rfl,_,_,rfl,rfl,⟨[_,_],rfl,rfl⟩,?_⟩;refine⟨_,rfl,_,rfl,aB rfl,λq b=>?_⟩;refine nw (o:=.tup [.int c,.str p.1]) b λi d b=>?_;refine⟨_,rfl,g,_,rfl,YF.t (d _ _ (a _ _ r)) (k:=Yq c p.1) b,_,rfl,?_⟩;have e:=Gh (br:=brk U) (c:=c) h;show if (!brk U c p.1)=true then _ else _
  cases b:brk U c p.1 with
  | true =>
   rw[b,if_pos rfl,xX] at e;refine Z5 ?_;exact⟨a.trans d,by rw[e]⟩
  | false =>
   rw[b,if_neg xN] at e;refine Z6 ?_;refine⟨_,rfl,a.trans d,?_⟩;rw[e];unfold wts;rw[xM,xM];rfl
 .rintro f Y ⟨a,rfl⟩ l b;rw[j,xT];refine⟨l,wts (keep (brk U) c n),rfl,ZD.of Zj,λn c=>?_,?_,k _ (a.trans (ZA.new b))⟩
  .obtain⟨p,h,rfl⟩:=zF.mp c;exact m.bnd _ (zF.mpr ⟨p,(zM.mp h).1,rfl⟩)
  .unfold wts keep;rw[xA];exact xZ (yS _ _) (by lia)
def Th(br:Int->Str->Bool)(c:Int)(t:ZS):Int:=Uo br c t.ones - Uo br c t.others - t.need
def ZN(H:Hp)(b:List ZS)(l:gF):Prop:=∃a,H l=some (.lst a)/\ZO H (b.map Wq) a
theorem ZN.mono(h:ZN H ss l)(k:ZA H Y):ZN Y ss l:=let ⟨c,a,b⟩:=h;⟨c,k _ _ a,b.iK k⟩
theorem ZN.get{H:Hp}{d:List ZS}{l:gF}{us:aG}{i:Nat}{t:ZS}(b:ZO H (d.map Wq) us)(h:d[i]?=some t) :
  ∃a c f g,us[i]?=some (.ref a)/\H a=some (.tup [c,f,.int t.need,g])/\YI H t.ones c/\YI H t.others f/\YE H (AX t.named) g:=by
 have d:=b.length;rw[xA] at d;have e:i<us.length:=by rw[d];exact(xI.mp h).1
 have j:us[i]?=some us[i]:=xB e;obtain⟨d,e,m⟩:=b.get j;rw[xC,h] at e;cases e;obtain⟨a,c,f,g,e,b,d,h,k⟩:=GE m;exact⟨a,c,f,g,by rw[j,e],b,d,h,k⟩
inductive VW(vs:aG)(H:Hp)(Q:VK)(a:XK):Prop
 |mk(l g:gF) (c:Nat) (a:List ZS) (t:ZS) (U:J6)(_:vs=[.ref l,.int c,.ref g])(_:ZN H a l)(_:a[c]?=some t)(_:Tp t)(_:H g=some (.dT U))(_:∀Y,ZA H Y->Q (.int (Th (brk U) c t)) Y)
abbrev IA:Stmt:=top 50
theorem RJ(c:YA K mg "margin_without" IA)(T:Txt mg)(a:∃t,mg "ONES"=some (.int 0 t))(d:∃t,mg "OTHERS"=some (.int 1 t))(h:∃t,mg "NEED"=some (.int 2 t))(j:Fn P w K mg Z "kept_weight" i9 1 TM):Fn P w K mg Z "margin_without" ["suits","case","gone"] 2 VW:=by
 obtain⟨b,e⟩:=a;obtain⟨f,a⟩:=d;obtain⟨g,d⟩:=h;have i:ZG (.int 0) (.int 0 b):=⟨b,rfl⟩;have b:ZG (.int 1) (.int 1 f):=⟨f,rfl⟩;have f:ZG (.int 2) (.int 2 g):=⟨g,rfl⟩;refine c.fq ["suits","case","gone","suit"] λH g Q E c h=>?_;obtain⟨l,g,c,v,t,U,rfl,⟨u,r,m⟩,s,⟨p,n,_,_⟩,o,k⟩:=h;refine⟨rfl,_,(Zd (Zx 3 (Zh Z7 Q0 Q3)) (Zg (Zw (Zu Vy (Zu Vy (Zl j (Za Q3 (Za (Zh Zi Qb (Yr e i)) (Za Qa Zb)))) (Zl j (Za Q3 (Za (Zh Zi Qb (Yr a b)) (Za Qa Zb))))) (Zh Zi Qb (Yr d f)))))),?_⟩;obtain⟨d,b,e,v,i,a,f,h,j⟩:=ZN.get (l:=l) m s;refine⟨_,rfl,_,rfl,l,u,c,.ref d,rfl,rfl,ZD.of r,Yl i,?_⟩;refine⟨_,rfl,_,rfl,d,_,0,b,rfl,rfl,ZJ.of a,rfl,_,rfl,c,b,g,t.ones,U,rfl,f,p,o,λf b=>?_⟩;refine⟨_,rfl,_,rfl,d,_,1,e,rfl,rfl,ZJ.of (b _ _ a),rfl,_,rfl,c,e,g,t.others,U,rfl,h.mono b,n,b _ _ o,λe c=>?_⟩;refine⟨_,_,rfl,rfl,_,rfl,d,_,2,_,rfl,rfl,ZJ.of (c _ _ (b _ _ a)),rfl,_,_,rfl,rfl,k e (b.trans c)⟩
abbrev AU:=Int×Str
def Yd(a:List AU):Nat->List ZS->List Bool×List AU
 | _,[]=>([],a)
 | i,t::r =>
  (decide (0<=Th (λc n=>decide ((c,n)∈(Yd a (i+1) r).2)) i t)::(Yd a (i+1) r).1,
   if decide (0<=Th (λc n=>decide ((c,n)∈(Yd a (i+1) r).2)) i t)=true then (Yd a (i+1) r).2++t.named.toList else (Yd a (i+1) r).2)
theorem Cf(a:List AU):∀b i,(Yd a i b).1.length=b.length
 | [],_=>rfl
 | t::r,i=>by rw[Yd,yJ,Cf a r (i+1),yJ]
def WO(U:J6)(a:List AU):Prop:=∀c n,brk U c n=decide ((c,n)∈a)
theorem WO.put(h:WO U gn):WO (Z4 U (Yq c n) v) (gn ++ [(c,n)]):=by
 intro a b;unfold brk;rw[Uw]
 by_cases e:Yq a b=Yq c n
 .rw[if_pos e];have d:(a,b)=(c,n):=by
   unfold Yq at e;injection e with g f
   injection f with f _
   cases g;cases f;rfl
  rw[d];exact(yR (xK _ (xP.mpr rfl))).symm
 .rw[if_neg e];refine(h a b).trans ?_;have d:¬(a,b)=(c,n):=λz=>e (by injection z with e f;rw[e,f]);have:((a,b)∈gn ++ [(c,n)])↔((a,b)∈gn):=by rw[xJ,xP];exact⟨λz=>z.elim id (λz=>absurd z d),.inl⟩
  rw[decide_eq_decide];exact this.symm
theorem IV(r:List Bool)(b:Bool):∀c:Nat,((List.replicate (c+1) false++r).map V.bl).set c (.bl b)=(List.replicate c false++(b::r)).map V.bl
 | 0=>rfl
 | c+1=>by
  rw[yV,yK,yF,List.set_cons_succ,IV r b c,yV,yK,yF]
theorem K8(r:List Bool)(b:Bool):∀c:Nat,((List.replicate c false++(b::r)).map V.bl)[c]?=some (.bl b)
 | 0=>rfl
 | c+1=>by
  rw[yV,yK,yF,List.getElem?_cons_succ];exact K8 r b c
theorem Qm(h:c<n):ixN n (c:Int)=some c:=by
 unfold ixN;rw[if_pos (by lia),if_pos (by lia),yH]
inductive UL(vs:aG)(H:Hp)(Q:VK)(a:XK):Prop
 |mk(l m) (ss) (ms) (more)(_:vs=[.ref l,.ref m])(_:ZN H ss l)(_:(∀t∈ss,Tp t))(_:ss.length<=1000)(_:H m=some (.lst ms))(_:ZO H (more.map λx=>AX (some x)) ms)(_:more.length<=1000)(_:∀a Y,H a=none->Y a=some (.lst ((Yd more 0 ss).1.map V.bl))->ZA H Y->Q (.ref a) Y)
abbrev KN:Stmt:=top 43
theorem SA(b4:YA K mg "settled_with" KN)(T:Txt mg)(C3:∃t,mg "NAMED"=some (.int 3 t))(b3:Fn P w K mg Z "margin_without" ["suits","case","gone"] 2 VW):Fn P w K mg Z "settled_with" ["suits","more"] 3 UL:=by
 obtain⟨t3,s⟩:=C3;have u:ZG (.int 3) (.int 3 t3):=⟨t3,rfl⟩;refine b4.fq ["suits","more","gone","oath","standing","case"] λH vs Q E hr h=>?_;obtain⟨l,m,j,ms,f,rfl,G,b7,c1,hm,a6,c3,k⟩:=h;refine⟨rfl,_,(Zd (Zx 2 Mn) (Zd (Wi mW rfl (Yz Q3) (Yi 3) (Zg (Jy hr Qa Qb Jf))) (Zd (Zx 4 (Zu KM (Yb (Za Jf Zb)) (Z0 Ym T.len Yh (Za Q0 Zb)))) (Zd (Wi mW rfl (Xh T.range (Za (Zu Vy (Z0 Ym T.len Yh (Za Q0 Zb)) Zc) (Za (Yw Yx Zc) (Za (Yw Yx Zc) Zb)))) (Yi 5) (Zd (Ul (JF Ji (Zl b3 (Za Q0 (Za Qd (Za Qa Zb)))) Zc (Zn _)) (A0 Qc Qd A5)) (Zg (Zq (QW.pt (Wz (Vi (Zh Z7 Qc Qd)) (Vx (Zk TV (Zh Zi (Zh Z7 Q0 Qd) (Yr s u)) Y3 (Zn _))))) (Zg (Jy hr Qa (Zh Zi (Zh Z7 Q0 Qd) (Yr s u)) Jf)) Zp)))) (Zg (Zw Qc)))))),?_⟩;have hz:=aC
 refine λg hg=>?_;have S0:ZA H (upd H g (.dT [])):=ZA.new hg;have a5:ms.length=f.length:=by have:=a6.length;rw[xA] at this;exact this
 refine⟨_,rfl,m,rfl,⟨_,ZD.of (S0 _ _ hm)⟩,?_⟩;refine Vl ms (λi L Y=>∃(U:J6)(v3:Option V),L=[some (.ref l),some (.ref m),some (.ref g),v3,none,none]/\Y g=some (.dT U)/\WO U (f.take i)/\U.length<=i/\ZA H Y) ⟨[],none,rfl,Zj,λc n=>rfl,xF _,S0⟩ (λi L Y _ ⟨_,_,_,_,_,_,e⟩=>ZD.of (e _ _ hm)) ?_ ?_
 .rintro i x L Y hx ⟨U,v3,rfl,v,C,b6,sm⟩;obtain⟨d,hd,b8⟩:=a6.get hx;rw[xC] at hd;obtain⟨⟨c,n⟩,ho⟩:∃o,f[i]?=some o:=by cases e:f[i]? with | none=>rw[e] at hd;cases hd | some t=>exact⟨t,rfl⟩
  rw[ho] at hd;cases hd;obtain⟨b,bs,rfl,hb,⟨y1,r1,rfl,e1,⟨y2,r2,rfl,e2,e3⟩⟩⟩:=b8;cases e1;cases e2;cases e3;have hi:i<ms.length:=(xI.mp hx).1;refine⟨_,rfl,_,rfl,g,_,rfl,YV.t v (k:=Yq c n) (sm _ _ hb) (by lia),?_⟩;refine⟨_,_,rfl,Zj,?_,xZ (Uh _ _ _) (by lia),?_⟩
  .rw[xS,ho];exact C.put
  .intro b' o e;rw[Zf (λz=>by rw[z,hg] at e;cases e)];exact sm b' o e
 .rintro L H1 ⟨U,v3,rfl,a1,C,b6,W⟩;rw[a5,xT] at C;obtain⟨X,a3,O⟩:=G.mono W;have b1:X.length=j.length:=by have:=O.length;rw[xA] at this;exact this
  refine⟨aB rfl,λq hq=>?_⟩;refine nw (o:=.lst [.bl false]) hq λH2 S2 k2=>?_;refine⟨_,rfl,l,X,rfl,.inl (ZD.of (S2 _ _ a3)),q,_,_,rfl,rfl,k2,by lia,by lia,?_,λst F=>?_⟩
  .rw[yH,b1];show 1 * j.length<=sizeLine;lia
  have J:H st=none:=(W.trans S2).free F;have I:g≠st:=λz=>by rw[<- z,S2 _ _ a1] at F;cases F
  have S3:=ZA.new (o:=.lst (List.replicate (X.length:Int).toNat [V.bl false]).flatten) F;have k3:(upd H2 st (.lst (List.replicate (X.length:Int).toNat [V.bl false]).flatten)) st=some (.lst ((List.replicate j.length false).map V.bl)):=by
   rw[Zj,yH,b1];have:∀n:Nat,(List.replicate n [V.bl false]).flatten=(List.replicate n false).map V.bl:=by
    intro n
    induction n with
    | zero=>rfl
    | succ n ih=>rw[yV,wB,ih,yV,yF];rfl
   rw[this]
  generalize (upd H2 st (.lst (List.replicate (X.length:Int).toNat [V.bl false]).flatten))=H3 at S3 k3 |-;have M:=S2.trans S3;have c0:=W.trans M;refine⟨_,rfl,l,X,rfl,.inl (ZD.of (M _ _ a3)),_,_,rfl,rfl,_,rfl,_,rfl,_,_,rfl,⟨by lia,by lia,aA,aA⟩,?_⟩
  refine Ke j.length (by lia) (λi L Y=>∃(U:J6)(v3 v5:Option V),L=[some (.ref l),some (.ref m),some (.ref g),v3,some (.ref st),v5]/\
    Y st=some (.lst ((List.replicate (j.length - i) false++(Yd f (j.length - i) (j.drop (j.length - i))).1).map V.bl))/\Y g=some (.dT U)/\WO U (Yd f (j.length - i) (j.drop (j.length - i))).2/\U.length<=1000+i/\ZA H Y)
   ⟨U,_,none,rfl,?_,M _ _ a1,?_,by lia,c0⟩ ?_ ?_
  .rw[Nat.sub_zero,List.drop_length,Yd,xX];exact k3
  .rw[Nat.sub_zero,List.drop_length,Yd];exact C
  .rintro i L Y hi ⟨U,v3,v5,rfl,r,v,p,a2,y⟩;obtain⟨c,hc⟩:∃c,j.length - i=c+1:=⟨j.length - i - 1,by lia⟩;have b5:j.length - (i+1)=c:=by lia
   have N:c<j.length:=by lia
   have ec:((X.length:Int) - 1 - (i:Nat))=((c:Nat):Int):=by lia
   rw[hc] at r p;rw[ec,b5];have ht:j[c]?=some j[c]:=xB N;have b0:j[c]∈j:=zN N;have ed:j.drop c=j[c]::j.drop (c+1):=zQ N;rw[ed];generalize j[c]=t at ht b0 ed |-;obtain⟨c4,c2,b9⟩:=G.mono y;have a0:brk U=λ(a:Int) (n:Str)=>decide ((a,n)∈(Yd f (c+1) (j.drop (c+1))).2):=funext λa=>funext λb=>p a b;have a7:Yd f c (t::j.drop (c+1))=(decide (0<=Th (brk U) c t)::(Yd f (c+1) (j.drop (c+1))).1,if decide (0<=Th (brk U) c t)=true then (Yd f (c+1) (j.drop (c+1))).2++t.named.toList else (Yd f (c+1) (j.drop (c+1))).2):=by rw[a0,Yd]
   rw[a7];generalize Yd f (c+1) (j.drop (c+1))=R at r p |-;refine⟨_,rfl,_,rfl,_,rfl,l,g,c,j,t,U,rfl,G.mono y,ht,b7 t b0,v,λH4 s4=>?_⟩;have a8:=s4 _ _ r;refine⟨Th (brk U) c t,0,rfl,rfl,_,rfl,_,rfl,st,_,c,c,rfl,rfl,a8,?_,?_⟩
   .exact Qm (by rw[xA,xE,zX];lia)
   dsimp only;generalize decide (0<=Th (brk U) c t)=b;rw[IV];have A:ZA H (upd H4 st (.lst ((List.replicate c false++(b::R.1)).map V.bl))):=λx o e=>by
    rw[Zf (λz=>by rw[z,J] at e;cases e)];exact s4 _ _ (y _ _ e)
   have k5:(upd H4 st (.lst ((List.replicate c false++(b::R.1)).map V.bl))) st=some (.lst ((List.replicate c false++(b::R.1)).map V.bl)):=Zj;have B:(upd H4 st (.lst ((List.replicate c false++(b::R.1)).map V.bl))) g=some (.dT U):=by rw[Zf I];exact s4 _ _ v
   generalize (upd H4 st (.lst ((List.replicate c false++(b::R.1)).map V.bl)))=H5 at A k5 B |-;obtain⟨b2,a4,S⟩:=G.mono A;obtain⟨ta,u1,u2,u4,hu,a9,h1,h2,h4⟩:=ZN.get (l:=l) S ht;refine⟨_,rfl,_,rfl,st,_,c,.bl b,rfl,rfl,ZD.of k5,Yl (K8 ..),b,rfl,?_⟩;cases b with
   | false =>
    refine Z5 (Z5 ?_);exact⟨U,_,_,rfl,k5,B,p,by lia,A⟩
   | true =>
    refine Z6 ?_;refine⟨_,rfl,_,rfl,l,b2,c,.ref ta,rfl,rfl,ZD.of a4,Yl hu,ta,_,3,u4,rfl,rfl,ZJ.of a9,rfl,rfl,_,rfl,?_⟩;cases hn:t.named with
    | none =>
     rw[hn] at h4;cases h4;refine Z5 ?_;exact⟨U,_,_,rfl,k5,B,by show WO U (R.2 ++ []);rw[xX];exact p,by lia,A⟩
    | some o =>
     rw[hn] at h4;obtain⟨oc,on⟩:=o;obtain⟨d,bs,rfl,hb,⟨y1,r1,rfl,e1,⟨y2,r2,rfl,e2,e3⟩⟩⟩:=h4;cases e1;cases e2;cases e3;refine Z6 ?_;refine⟨_,rfl,_,rfl,_,rfl,l,b2,c,.ref ta,rfl,rfl,ZD.of a4,Yl hu,ta,_,3,.ref d,rfl,rfl,ZJ.of a9,rfl,?_⟩;refine⟨g,_,rfl,YV.t B (k:=Yq oc on) hb (by lia),?_⟩;refine⟨_,_,_,rfl,by rw[Zf I.symm];exact k5,Zj,p.put,xZ (Uh _ _ _) (by lia),?_⟩;intro b' o e;rw[Zf (λz=>by rw[z,hg] at e;cases e)];exact A b' o e
  .rintro L Y ⟨U,v3,v5,rfl,r,v,p,a2,y⟩;rw[Nat.sub_self] at r;exact⟨_,rfl,k st Y J r y⟩
inductive VY(vs:aG)(H:Hp)(Q:VK)(a:XK):Prop
 |mk(l) (ss)(_:vs=[.ref l])(_:ZN H ss l)(_:(∀t∈ss,Tp t))(_:ss.length<=1000)(_:∀a Y,H a=none->Y a=some (.lst ((Yd [] 0 ss).1.map V.bl))->ZA H Y->Q (.ref a) Y)
abbrev KA:Stmt:=top 42
theorem Oo(a:YA K mg "settled" KA)(T:Txt mg)(b:Fn P w K mg Z "settled_with" ["suits","more"] 3 UL):Fn P w K mg Z "settled" ia 4 VY:=by
 refine a.fq ia λH c Q E a h=>?_;obtain⟨l,e,rfl,d,c,a,k⟩:=h;refine⟨rfl,_,(Zg (Zw (Zl b (Za Q0 (Za (Yb Zb) Zb))))),?_⟩;refine⟨_,rfl,aB rfl,λq b=>?_⟩;have S:=ZA.new (o:=.lst []) b;exact⟨l,q,e,[],[],rfl,d.mono S,c,a,Zj,rfl,yP _,λd Y a b c=>k d Y (S.free a) b (S.trans c)⟩
def LH(bs:List Bool)(a:List ZS)(c:Nat)(n:Str):Prop:=∃j t,c<j/\a[j]?=some t/\bs[j]?=some true/\t.named=some ((c:Int),n)
def Vp(cs:List Nat):List V:=cs.map λ(c:Nat)=>V.int (c:Int)
def nmd(a:List ZS)(c:Int)(n:Str)(j:Nat):Bool:=match a[j]? with
 | some u=>decide (u.named=some (c,n))
 | none=>false
theorem nmd_iff:nmd ss c n j=true↔∃u,ss[j]?=some u/\u.named=some (c,n):=by
 unfold nmd;cases e:ss[j]? with
 | none=>exact⟨(λz=>nomatch z),(λ⟨u,z,_⟩=>nomatch z)⟩
 | some u=>exact⟨λz=>⟨u,rfl,of_decide_eq_true z⟩,λ⟨v,z,q⟩=>by cases z;exact yR q⟩
def Wu(a:List ZS)(c:Int)(n:Str)(cs:List Nat):List Nat:=cs.filter (nmd a c n)
theorem DP{a:List ZS}{c:Int}{n:Str}{cs:List Nat}{i j:Nat}(h:cs[i]?=some j):Wu a c n (cs.take (i+1))=Wu a c n (cs.take i)++(if nmd a c n j then [j] else []):=by
 unfold Wu;rw[xS,h,zI];cases e:nmd a c n j<;>simp[e]
theorem ND(a:List ZS)(c:Int)(n:Str)(cs:List Nat):(Wu a c n cs).length<=cs.length:=yS _ _
def Ii(H:Hp)(g:gF)(b:List ZS)(cs:List Nat):Prop:=∃U:J6,H g=some (.dT U)/\U.length<=cs.length/\(∀p∈U,∃c n,p.1=Yq c n/\Wu b c n cs ≠ [])/\∀c n,(Z1 U (Yq c n)=none/\Wu b c n cs=[])\/∃a,Z1 U (Yq c n)=some (.ref a)/\H a=some (.lst (Vp (Wu b c n cs)))
structure BZ (H Y:Hp) (g:gF) (ss:List ZS) (cs:List Nat) (U:J6):Prop where
 at_:Y g=some (.dT U)
 len:U.length<=cs.length
 keys:∀p∈U,∃c n,p.1=Yq c n/\Wu ss c n cs ≠ []
 no:∀c n,Z1 U (Yq c n)=none->Wu ss c n cs=[]
 yes:∀c n v,Z1 U (Yq c n)=some v->∃a,v=.ref a/\H a=none/\a≠g/\Y a=some (.lst (Vp (Wu ss c n cs)))
 one:∀c n c' n' a,Z1 U (Yq c n)=some (.ref a)->Z1 U (Yq c' n')=some (.ref a)->(c,n)=(c',n')
inductive VR(vs:aG)(H:Hp)(Q:VK)(a:XK):Prop
 |mk(l lc) (ss) (cs)(_:vs=[.ref l,.ref lc])(_:ZN H ss l)(_:cs.length<=1000)(_:(∀j∈cs,j<ss.length))(_:H lc=some (.lst (Vp cs)))(_:∀g Y,H g=none->Ii Y g ss cs->(∀U c n a,Y g=some (.dT U)->Z1 U (Yq c n)=some (.ref a)->H a=none)->ZA H Y->Q (.ref g) Y)
theorem Ga(e:Yq c n=Yq c' n'):(c,n)=(c',n'):=by
 unfold Yq at e;injection e with b a
 injection a with a _
 cases b;cases a;rfl
theorem bZ{l:J6}{k:List ZT}{v:V}{p:List ZT×V}(h:p∈Z4 l k v):p=(k,v)\/p∈l:=by
 unfold Z4 at h;split at h
 .grind
 .grind
abbrev Lw:Stmt:=top 47
theorem SU(a6:YA K mg "naming" Lw)(T:Txt mg)(C3:∃t,mg "NAMED"=some (.int 3 t)):Fn P w K mg Z "naming" ["suits","cases"] 1 VR:=by
 obtain⟨t3,y⟩:=C3;have F:ZG (.int 3) (.int 3 t3):=⟨t3,rfl⟩;refine a6.fq ["suits","cases","named_by","case","oath"] λH vs Q E hr h=>?_;obtain⟨l,lc,m,cs,rfl,b2,b5,a9,a2,k⟩:=h;refine⟨rfl,_,(Zd (Zx 2 Mn) (Zd (Wi mW rfl (Yz Q3) (Yi 3) (Zd (Zx 4 (Zh Zi (Zh Z7 Q0 Qb) (Yr y F))) (Zg (Zq (Zk TV Qc Y3 (Zn _)) (Zg (Zs (Y4 aD aE aF Wa (MR hr Qa Qc (Yb Zb)) (Za Qb Zb)))) Zp)))) (Zg (Zw Qa)))),?_⟩;have hz:=aC
 refine λg hg=>?_;have S0:ZA H (upd H g (.dT [])):=ZA.new hg;refine⟨_,rfl,lc,rfl,⟨_,ZD.of (S0 _ _ a2)⟩,?_⟩;refine Vl (Vp cs) (λi L Y=>∃(U:J6)(v3 v4:Option V),L=[some (.ref l),some (.ref lc),some (.ref g),v3,v4]/\BZ H Y g m (cs.take i) U/\ZA H Y) ⟨[],none,none,rfl,⟨Zj,xF _,(λp J=>nomatch J),λc n _=>rfl,(λc n v e=>nomatch e),(λc n c' n' a e=>nomatch e)⟩,S0⟩ (λi L Y _ ⟨_,_,_,_,_,e⟩=>ZD.of (e _ _ a2)) ?_ ?_
 .rintro i x L Y hx ⟨U,v3,v4,rfl,I,sm⟩;have hi:i<cs.length:=by
   have:=(xI.mp hx).1;unfold Vp at this;rw[xA] at this;exact this
  obtain⟨j,A,ex⟩:∃j,cs[i]?=some j/\x=.int (j:Int):=by
   unfold Vp at hx;rw[xC] at hx;obtain⟨j,h1,W⟩:=xL.mp hx;exact⟨j,h1,W.symm⟩
  subst ex;have tl:(cs.take i).length=i:=by rw[xR];lia
  have b7:(cs.take (i+1)).length=i+1:=by rw[xR];lia
  have C:∀c n,Wu m c n (cs.take i)≠ []->Wu m c n (cs.take (i+1))≠ []:=λc n h z=>by
   rw[DP A] at z;exact h (List.append_eq_nil_iff.mp z).1
  have O:=I.len;rw[tl] at O;obtain⟨t,ht⟩:∃t,m[j]?=some t:=⟨_,xB (a9 j (xG A))⟩;obtain⟨us,b0,a4⟩:=b2.mono sm;obtain⟨ta,u1,u2,u4,hu,b3,_,_,h4⟩:=ZN.get (l:=l) a4 ht;refine⟨_,rfl,_,rfl,l,us,j,.ref ta,rfl,rfl,ZD.of b0,Yl hu,ta,_,3,u4,rfl,rfl,ZJ.of b3,rfl,?_⟩;cases hn:t.named with
  | none =>
   rw[hn] at h4;cases h4;refine⟨_,rfl,rfl,_,rfl,Ua (λz=>absurd rfl z) (λ_=>?_)⟩;have same:∀c n,Wu m c n (cs.take (i+1))=Wu m c n (cs.take i):=λc n=>by
    rw[DP A];have:nmd m c n j=false:=by
     cases e:nmd m c n j with
     | false=>rfl
     | true=>obtain⟨u,q1,q2⟩:=nmd_iff.mp e;rw[ht] at q1;cases q1;rw[hn] at q2;cases q2
    rw[this,if_neg xN,xX]
   exact⟨U,_,_,rfl,⟨I.at_,by lia,λp J=>let ⟨c,n,e,h⟩:=I.keys p J;⟨c,n,e,C c n h⟩,λc n e=>by rw[same];exact I.no c n e,λc n v e=>by rw[same];exact I.yes c n v e,I.one⟩,sm⟩
  | some o =>
   rw[hn] at h4;obtain⟨d,f⟩:=o;obtain⟨b,bs,rfl,hb,⟨y1,r1,rfl,e1,⟨y2,r2,rfl,e2,e3⟩⟩⟩:=h4;cases e1;cases e2;cases e3;have B:Wu m d f (cs.take (i+1))=Wu m d f (cs.take i)++[j]:=by rw[DP A,nmd_iff.mpr ⟨t,ht,hn⟩,if_pos rfl]
   have same:∀c n,(c,n)≠(d,f)->Wu m c n (cs.take (i+1))=Wu m c n (cs.take i):=λc n b1=>by
    rw[DP A];have:nmd m c n j=false:=by
     cases e:nmd m c n j with
     | false=>rfl
     | true=>obtain⟨u,q1,q2⟩:=nmd_iff.mp e;rw[ht] at q1;cases q1;rw[hn] at q2;exact absurd (ma q2).symm b1
    rw[this,if_neg xN,xX]
   have R:Vp (Wu m d f (cs.take i))++[V.int j]=Vp (Wu m d f (cs.take (i+1))):=by rw[B];unfold Vp;rw[xM];rfl
   have jl:=ND m d f (cs.take i);rw[tl] at jl;refine⟨_,rfl,rfl,_,rfl,Ua (λ_=>?_) (λz=>nomatch z)⟩;refine⟨_,rfl,g,rfl,.inr ⟨U,.inl I.at_⟩,_,rfl,aB rfl,λq X=>?_⟩;have M:=ZA.new (o:=.lst []) X;have kq:(upd Y q (.lst [])) q=some (.lst []):=Zj;have gq:q≠g:=λz=>by rw[z,I.at_] at X;cases X
   have a3:H q=none:=sm.free X;generalize (upd Y q (.lst []))=H1 at M kq |-;have a5:=sm.trans M;refine⟨U,Yq d f,b,M _ _ I.at_,rfl,M _ _ hb,by lia,λv hv=>?_,λhv=>?_⟩
   .obtain⟨a,rfl,a7,a8,ha⟩:=I.yes d f v hv;have a0:=M _ _ ha;refine⟨.inl ⟨rfl,_,ZD.of a0⟩,_,rfl,a,_,_,rfl,rfl,a0,by unfold Vp;rw[xA];lia,?_⟩;refine⟨U,_,_,rfl,⟨?_,by lia,λp J=>let ⟨c,n,e,h⟩:=I.keys p J;⟨c,n,e,C c n h⟩,λc n e=>?_,λc n v e=>?_,I.one⟩,?_⟩
    .rw[Zf a8.symm];exact M _ _ I.at_
    .rw[same c n (λz=>by cases z;rw[hv] at e;cases e)];exact I.no c n e
    .obtain⟨S,rfl,h1,W,G⟩:=I.yes c n v e;refine⟨S,rfl,h1,W,?_⟩
     by_cases r:(c,n)=(d,f)
     .cases r;rw[hv] at e;cases e;rw[Zj,R]
     .rw[same c n r,Zf (λz=>r (by rw[z] at e;exact I.one c n d f a e hv))];exact M _ _ G
    .intro b' o e;rw[Zf (λz=>by rw[z,a7] at e;cases e)];exact a5 b' o e
   .have a1:(upd H1 g (.dT (Z4 U (Yq d f) (.ref q)))) q=some (.lst []):=by rw[Zf gq];exact kq
    refine⟨.inl ⟨rfl,_,ZD.of a1⟩,_,rfl,q,_,_,rfl,rfl,a1,by show 0<sizeLine;lia,?_⟩;have j0:=I.no d f hv;refine⟨Z4 U (Yq d f) (.ref q),_,_,rfl,⟨?_,xZ (Uh _ _ _) (by lia),λp J=>?_,λc n e=>?_,λc n v e=>?_,λc n c' n' a e N=>?_⟩,?_⟩
    .rw[Zf gq.symm,Zj]
    .rcases bZ J with rfl | J
     .exact⟨d,f,rfl,by rw[B];simp⟩
     .obtain⟨c,n,e,h⟩:=I.keys p J;exact⟨c,n,e,C c n h⟩
    .rw[Uw] at e
     by_cases r:Yq c n=Yq d f
     .rw[if_pos r] at e;cases e
     .rw[if_neg r] at e;rw[same c n (λz=>r (by cases z;rfl))];exact I.no c n e
    .rw[Uw] at e
     by_cases r:Yq c n=Yq d f
     .rw[if_pos r] at e;cases e;have s:=Ga r;cases s;exact⟨q,rfl,a3,gq,by rw[Zj,B,j0];rfl⟩
     .rw[if_neg r] at e;obtain⟨S,rfl,h1,W,G⟩:=I.yes c n v e;refine⟨S,rfl,h1,W,?_⟩;have aq:S≠q:=λz=>by rw[z,X] at G;cases G
      rw[same c n (λz=>r (by cases z;rfl)),Zf aq,Zf W];exact M _ _ G
    .rw[Uw] at e N;have no:∀c n,Z1 U (Yq c n)=some (.ref q)->False:=λc n z=>by
      obtain⟨S,z1,_,_,G⟩:=I.yes c n _ z;cases z1;rw[X] at G;cases G
     by_cases r:Yq c n=Yq d f
     .by_cases s:Yq c' n'=Yq d f
      .exact(Ga r).trans (Ga s).symm
      .rw[if_pos r] at e;rw[if_neg s] at N;cases e;exact(no _ _ N).elim
     .rw[if_neg r] at e
      by_cases s:Yq c' n'=Yq d f
      .rw[if_pos s] at N;cases N;exact(no _ _ e).elim
      .rw[if_neg s] at N;exact I.one _ _ _ _ _ e N
    .intro b' o e;rw[Zf (λz=>by rw[z,a3] at e;cases e),Zf (λz=>by rw[z,hg] at e;cases e)];exact a5 b' o e
 .rintro L Y ⟨U,v3,v4,rfl,I,sm⟩;have el:(Vp cs).length=cs.length:=by unfold Vp;rw[xA]
  rw[el,xT] at I;refine⟨_,rfl,k g Y hg ⟨U,I.at_,I.len,I.keys,λc n=>?_⟩ (λb6 c n a e1 e2=>?_) sm⟩
  .cases e:Z1 U (Yq c n) with
   | none=>exact .inl ⟨rfl,I.no c n e⟩
   | some v =>
    obtain⟨a,rfl,_,_,G⟩:=I.yes c n v e;exact .inr ⟨a,rfl,G⟩
  .rw[I.at_] at e1;cases e1;obtain⟨S,z,b4,_,_⟩:=I.yes c n _ e2;cases z;exact b4
def stT(bs:List Bool)(i:Nat):List Nat:=(List.range i).filter λj=>bs.getD j false
def stL(bs:List Bool):List Nat:=stT bs bs.length
theorem On{bs:List Bool}{i:Nat}{b:Bool}(h:bs[i]?=some b):stT bs (i+1)=stT bs i++(if b then [i] else []):=by
 unfold stT;rw[List.range_succ,zI];cases b<;>simp[h]
theorem Gn(bs:List Bool)(i:Nat):(stT bs i).length<=i:=xZ (yS _ _) (by rw[mI];exact xF _)
theorem stL_mem:j∈stL bs↔bs[j]?=some true:=by
 unfold stL stT;rw[zM,wQ,yD];constructor
 .grind
 .intro h;exact⟨(xI.mp h).1,by rw[h];rfl⟩
abbrev TN(ss:List ZS):List Bool:=(Yd [] 0 ss).1
def J4(a:List ZS)(c:Int)(n:Str):List Nat:=Wu a c n (stL (TN a))
theorem ME{a:List ZS}{c:Int}{n:Str}:J4 a c n ≠ []↔∃(j:Nat)(u:ZS),a[j]?=some u/\(TN a)[j]?=some true/\u.named=some (c,n):=by
 unfold J4 Wu;rw[<- List.isEmpty_eq_false_iff,List.isEmpty_eq_false_iff_exists_mem];constructor
 .rintro⟨j,h⟩;obtain⟨d,e⟩:=zM.mp h;obtain⟨u,a,b⟩:=nmd_iff.mp e;exact⟨j,u,a,stL_mem.mp d,b⟩
 .rintro⟨j,u,a,b,c⟩;exact⟨j,zM.mpr ⟨stL_mem.mpr b,nmd_iff.mpr ⟨u,a,c⟩⟩⟩
inductive VA(vs:aG)(H:Hp)(Q:VK)(a:XK):Prop
 |mk(l) (ss)(_:vs=[.ref l])(_:ZN H ss l)(_:(∀t∈ss,Tp t))(_:ss.length<=1000)(_:∀g Y,H g=none->Ii Y g ss (stL (TN ss))->(∀U c n a,Y g=some (.dT U)->Z1 U (Yq c n)=some (.ref a)->H a=none)->ZA H Y->Q (.ref g) Y)
abbrev GD:Stmt:=top 46
theorem bN(a:YA K mg "breaking" GD)(T:Txt mg)(e:Fn P w K mg Z "settled" ia 4 VY)(b:Fn P w K mg Z "naming" ["suits","cases"] 1 VR) :
  Fn P w K mg Z "breaking" ia 5 VA:=by
 refine a.fq ia λH c Q E a h=>?_;obtain⟨l,a,rfl,d,f,c,k⟩:=h
 refine⟨rfl,_,(Zg (Zw (Zl b (Za Q0 (Za (Vu (locs:=["case","stands"]) (fr:=[]) ⟨rfl,aA,aA,aA,aA,aA⟩ .nil rfl (KW T.enumerate (Za (Zl e (Za Q0 Zb)) Zb)) ⟨λ_ _ _ _ _ _=>by
  have b:(inN ["case","stands"] []).Nodup:=aA
  exact⟨(Cv 2 (by rfl) (Yv (Wb 0 b) (Yv (Wb 1 b) Ub))),(JO (Vi (Yp 1))),(Yp 0)⟩⟩) Zb))))),?_⟩
 refine⟨_,rfl,_,rfl,l,a,rfl,d,f,c,λc e f b g=>?_⟩;have h:(TN a).length=a.length:=Cf [] a 0;refine⟨c,_,rfl,ZD.of b,?_⟩;refine QD ((TN a).map V.bl) (λi c Y=>ZA e Y/\c=Vp (stT (TN a) i)) ⟨λ_ _ e=>e,rfl⟩ (by rw[xA];lia) (λi c Y _ ⟨e,_⟩=>ZD.of (e _ _ b)) ?_ ?_ ?_
 .rintro i c Y ⟨_,rfl⟩;unfold Vp;rw[xA];exact Gn _ _
 .rintro i x p c Y m ⟨f,rfl⟩ j n b;obtain⟨m,n,rfl⟩:=Dl b;refine nw (o:=.tup [.int i,x]) j λm Sp n=>?_;obtain⟨b,j,rfl⟩:∃b,(TN a)[i]?=some b/\x=.bl b:=by grind
  refine⟨p,_,rfl,ZJ.of n,rfl,_,_,rfl,_,_,rfl,rfl,⟨[_,_],rfl,rfl⟩,?_⟩;refine⟨_,rfl,b,rfl,?_⟩;have e:=On j;cases b with
  | true =>
   refine Z6 ?_;refine⟨_,rfl,f.trans Sp,?_⟩;rw[e];unfold Vp;rw[xM];rfl
  | false =>
   refine Z5 ?_;exact⟨f.trans Sp,by rw[e];simp⟩
 .rintro c Y ⟨f,rfl⟩ e b;rw[xA];have c:=ZA.new (o:=.lst (Vp (stL (TN a)))) b;have S:=(g.trans f).trans c;have b:=Gn (TN a) (TN a).length;refine⟨l,e,a,stL (TN a),rfl,d.mono S,by unfold stL;lia,λj e=>?_,Zj,λg m c a b d=>?_⟩
  .rw[<- h];exact(xI.mp (stL_mem.mp e)).1
  .exact k g m (S.free c) a (λU c n a e f=>S.free (b U c n a e f)) (S.trans d)
section
variable{K:uFg}{C CM:gF}
def fz(J:gC)(H:Hp):Hp:=λb=>if b∈J then H b else match H b with
 | some (.tup t)=>some (.tup t)
 | _=>none
theorem Af(h:fz J H b=some o):H b=some o/\(b∈J\/∃t,o=.tup t):=by
 unfold fz at h;split at h
 .rename_i m;exact⟨h,.inl m⟩
 .split at h
  .rename_i t e;cases h;exact⟨e,.inr ⟨t,rfl⟩⟩
  .cases h
theorem Vq(m:b∈J)(h:H b=some o):fz J H b=some o:=by unfold fz;rw[if_pos m];exact h
theorem We(h:H b=some (.tup t)):fz J H b=some (.tup t):=by
 unfold fz;split
 .exact h
 .rw[h]
theorem BX:ZA (fz J H) H:=λ_ _ e=>(Af e).1
theorem Ve(a:To H Y)(c:∀x∈J,∀o,H x=some o->Y x=some o)(s:∀x∈J,x∈xs'):ZA (fz J H) (fz xs' Y):=λb o e=>by
 obtain⟨e,m | ⟨t,rfl⟩⟩:=Af e
 .exact Vq (s b m) (c b m o e)
 .exact We (a b t e)
def YW(H:Hp)(J:gC)(l:gF)(S:List D):Prop:=∃a,H l=some (.lst a)/\ZO (fz J H) S a
theorem YW.mono(h:YW H J l S)(k:∀o,H l=some o->Y l=some o)(s:ZA (fz J H) (fz xs' Y)):YW Y xs' l S :=
 let ⟨c,a,b⟩:=h;⟨c,k _ a,b.iK s⟩
theorem YW.get(h:YW H J l S):∃vs,H l=some (.lst vs)/\ZO H S vs/\vs.length=S.length :=
 let ⟨vs,a,b⟩:=h;⟨vs,a,b.iK BX,b.length⟩
structure ML where
 p:gF
 L:FL
 ld:gF
 lb:gF
 lh:gF
 lq:gF
 lt:gF
 ly:gF
 lv:gF
 dp:gF
def Wv(M:ML):List (Str×V):=Zy "penances" (.ref M.dp) (Zy "verdicts" (.ref M.lv) (Zy "trial_days" (.ref M.ly) (Zy "trials" (.ref M.lt) (Zy "debts" (.ref M.lq) (Zy "happenings" (.ref M.lh) (Zy "bringings" (.ref M.lb) (Zy "folk" (.ref M.L.p) (Zy "deeds" (.ref M.ld) []))))))))
local macro_rules | `(tactic| walk_at "mf")=>`(tactic| (unfold Wv;repeat (first | rw[Wc,if_pos (by decide +kernel)] | rw[Wc,if_neg (by decide +kernel)])))
theorem Tg(M:ML):(Wv M).lookup ("deeds":Str)=some (.ref M.ld):=by walk_at "mf"
theorem Ts(M:ML):(Wv M).lookup ("folk":Str)=some (.ref M.L.p):=by walk_at "mf"
theorem Ct(M:ML):(Wv M).lookup ("bringings":Str)=some (.ref M.lb):=by walk_at "mf"
theorem Ej(M:ML):(Wv M).lookup ("happenings":Str)=some (.ref M.lh):=by walk_at "mf"
theorem Ic(M:ML):(Wv M).lookup ("debts":Str)=some (.ref M.lq):=by walk_at "mf"
theorem JY(M:ML):(Wv M).lookup ("trials":Str)=some (.ref M.lt):=by walk_at "mf"
theorem Kr(M:ML):(Wv M).lookup ("trial_days":Str)=some (.ref M.ly):=by walk_at "mf"
theorem XD(M:ML):(Wv M).lookup ("verdicts":Str)=some (.ref M.lv):=by walk_at "mf"
theorem Lo(M:ML):(Wv M).lookup ("penances":Str)=some (.ref M.dp):=by walk_at "mf"
def ML.iT(M:ML)(l:gF):ML:={M with lv:=l }
theorem dO(M:ML)(l:gF):Zy "verdicts" (.ref l) (Wv M)=Wv (M.iT l):=by
 obtain⟨p,L,ld,b,c,d,e,g,f,a⟩:=M;rfl
def EV(m:Str):Prop:=¬m="penances" /\ ¬m="verdicts" /\ ¬m="trial_days" /\ ¬m="trials" /\ ¬m="debts" /\ ¬m="happenings" /\ ¬m="bringings" /\ ¬m="folk" /\ ¬m="deeds"
instance (m:Str):Decidable (EV m):=by unfold EV;exact inferInstance
theorem Ys(M:ML)(h:EV m:=by decide +kernel):(Wv M).lookup m=none:=by
 obtain⟨a,b,c,d,e,f,g,i,j⟩:=h;unfold Wv;rw[Wc,if_neg a,Wc,if_neg b,Wc,if_neg c,Wc,if_neg d,Wc,if_neg e,Wc,if_neg f,Wc,if_neg g,Wc,if_neg i,Wc,if_neg j];rfl
abbrev RW:=VD
structure ZR (K:uFg) (C:gF):Prop where
 cl:VX K C
 nd:ZV K C "deeds"
 nf:ZV K C "folk"
 nb:ZV K C "bringings"
 nh:ZV K C "happenings"
 nq:ZV K C "debts"
 nt:ZV K C "trials"
 ny:ZV K C "trial_days"
 nv:ZV K C "verdicts"
 np:ZV K C "penances"
structure Mo where
 ip:List D
 ib:List D
 iB:List (List D)
 ik:List D
 o6:List ZS
 days:List Int
 ow:List Bool
 pen:Str->Option Int
 iP:Nat
def ML.ls(M:ML):List gF:=[M.ld,M.lb,M.lq,M.lt,M.ly,M.lv]
def Mo.at_(m:Mo)(M:ML)(qs:gC):List (gF×List D) :=
 (M.ld,m.ip)::(M.lb,m.ib)::(M.lq,m.ik)::(M.lt,m.o6.map Wq)::(M.ly,m.days.map D.int)::(M.lv,m.ow.map D.bl)::qs.zip m.iB
structure ZC (C CM:gF) (H:Hp) (M:ML) (S:List ZK) (wa:gB) (J:gC) (m:Mo) (qs:gC):Prop where
 ob:∃dx,H M.p=some (.ins CM dx (Wv M))
 fk:Fk C H M.L S wa
 ls:∀p∈m.at_ M qs,YW H J p.1 p.2
 hl:H M.lh=some (.lst (qs.map V.ref))
 hn:qs.length=m.iB.length
 pn:∃U:List (ZT×V),H M.dp=some (.dK U)/\U.length<=m.iP/\∀n:Str,Z1 U (.inr n)=(m.pen n).map V.int
 nl:(M.lh::(M.ls++qs)).Nodup
 nx:∀x∈J,x∉M.lh::(M.ls++qs)
 xl:∀x∈J,∃vs,H x=some (.lst vs)
 np:M.p≠M.L.p
 nd:¬own M.L S wa M.dp
def mo(M:ML)(S:List ZK)(a:gB)(J qs:gC)(b:gF):Prop:=b=M.p\/b=M.dp\/b∈M.lh::(M.ls++qs)\/b∈J\/own M.L S a b
variable{M:ML}{qs:gC}{m:Mo}
theorem CW{p:gF×List D}(h:p∈m.at_ M qs):p.1∈M.ls++qs:=by
 unfold Mo.at_ at h;simp only[xD] at h;rcases h with rfl | rfl | rfl | rfl | rfl | rfl | h
 iterate 6 (refine yN _ ?_;unfold ML.ls;simp only[xD,true_or,or_true])
 exact xK _ (yZ h).1
theorem ZC.keep(h:ZC C CM H M S wa J m qs)(k:∀b o,mo M S wa J qs b->H b=some o->Y b=some o)(a:To H Y):ZC C CM Y M S wa J m qs:=by
 obtain⟨⟨c,p⟩,d,i,f,g,⟨U,t,u,v⟩,l,r,w,n,j⟩:=h;have s:=Ve (J:=J) (xs':=J) a (λx a o e=>k x o (.inr (.inr (.inr (.inl a)))) e) (λ_ z=>z);exact⟨⟨c,k _ _ (.inl rfl) p⟩,d.at λb o c e=>k b o (.inr (.inr (.inr (.inr c)))) e,λp b=>(i p b).mono (λo e=>k _ o (.inr (.inr (.inl (xO _ (CW b))))) e) s, k _ _ (.inr (.inr (.inl yE))) f,g,⟨U,k _ _ (.inr (.inl rfl)) t,u,v⟩,l,r,λx a=>let ⟨b,e⟩:=w x a;⟨b,k _ _ (.inr (.inr (.inr (.inl a)))) e⟩,n,j⟩
theorem ZC.same(h:ZC C CM H M S wa J m qs)(k:ZA H Y):ZC C CM Y M S wa J m qs:=h.keep (λb o _ e=>k b o e) λ_ _ e=>k _ _ e
theorem ZC.x(h:ZC C CM H M S wa J m qs)(hs:H s=some (.lst ys))(c:¬mo M S wa J qs s)(k:ZF s H Y):ZC C CM Y M S wa J m qs :=
 h.keep (λb o a e=>k b o (λz=>c (z▸a)) e) λb ys e=>k b _ (λz=>by rw[z,hs] at e;cases e) e
theorem ZC.nown(h:ZC C CM H M S wa J m qs)(e:H b=some (.lst ys)):¬own M.L S wa b:=λz=>by
 obtain⟨o,a,c,_⟩:=h.fk.there z;rw[e] at a;cases a;exact c ys rfl
theorem ZC.pown(h:ZC C CM H M S wa J m qs):¬own M.L S wa M.p:=λz=>by
 obtain⟨b,a⟩:=h.ob;obtain⟨⟨_,⟨i,b,_⟩,⟨j,f,_⟩,⟨k,c,_⟩,⟨o,d,_⟩,_⟩,⟨⟨p,r,s,g⟩,_⟩,_⟩:=h.fk;rcases z with z | z | z | z | z | ⟨n,l,e,z⟩
 .exact h.np z
 .rw[z,b] at a;cases a
 .rw[z,f] at a;cases a
 .rw[z,c] at a;cases a
 .rw[z,d] at a;cases a
 .rw[z,(g n l e).2.1] at a;cases a
theorem ZC.iu(h:ZC C CM H M S wa J m qs)(F:Fk C Y M.L ds' wa')(t:WQ M.L S wa H Y)(f:Bp M.L S wa ds' wa' H):ZC C CM Y M ds' wa' J m qs:=by
 have T:=WQ.lt h.fk t;have p:=h.pown;obtain⟨⟨b,n⟩,a,r,k,l,⟨U,i,y,A⟩,u,w,j,v,g⟩:=h;have s:=Ve (J:=J) (xs':=J) T.2 (λx d o e=>by obtain⟨c,a⟩:=j x d;rw[e] at a;cases a;exact T.1 _ _ e) (λ_ z=>z)
 exact⟨⟨b,t _ _ n p⟩,F,λp n=>by
  obtain⟨c,a,b⟩:=r p n
  exact⟨c,T.1 _ _ a,b.iK s⟩,T.1 _ _ k,l,⟨U,t _ _ i g,y,A⟩,u,w,λx d=>let ⟨c,e⟩:=j x d;⟨c,T.1 _ _ e⟩,v,λz=>(f _ z).elim g λz=>by rw[i] at z;cases z⟩
end
section
variable{M:ML}{qs:gC}
theorem Dh{l:gF}(h:l∈M.ls++qs):l∈M.lh::(M.ls++qs):=xO _ h
theorem ZC.lst(h:ZC C CM H M S wa J m qs)(b:l∈M.lh::(M.ls++qs)):∃ys,H l=some (.lst ys):=by
 rcases xD.mp b with rfl | b
 .exact⟨_,h.hl⟩
 have:∃p∈m.at_ M qs,p.1=l:=by
  rcases xJ.mp b with z | z
  .unfold ML.ls at z;simp only[xD,xV,or_false] at z;unfold Mo.at_;rcases z with rfl | rfl | rfl | rfl | rfl | rfl
   .exact⟨(M.ld,m.ip),by simp,rfl⟩
   .exact⟨(M.lb,m.ib),by simp,rfl⟩
   .exact⟨(M.lq,m.ik),by simp,rfl⟩
   .exact⟨(M.lt,m.o6.map Wq),by simp,rfl⟩
   .exact⟨(M.ly,m.days.map D.int),by simp,rfl⟩
   .exact⟨(M.lv,m.ow.map D.bl),by simp,rfl⟩
  .obtain⟨i,c,e⟩:=List.getElem_of_mem z;have a:i<m.iB.length:=h.hn▸c;refine⟨(qs[i],m.iB[i]),?_,e⟩;have:(qs[i],m.iB[i])∈qs.zip m.iB:=xG (i:=i) (by rw[zC];exact⟨xB c,xB a⟩);exact xK [(M.ld,m.ip),(M.lb,m.ib),(M.lq,m.ik),(M.lt,m.o6.map Wq),(M.ly,m.days.map D.int),(M.lv,m.ow.map D.bl)] this
 obtain⟨p,d,rfl⟩:=this;obtain⟨f,e,_⟩:=h.ls p d;exact⟨f,e⟩
theorem ZC.there(h:ZC C CM H M S wa J m qs)(a:mo M S wa J qs b):∃o,H b=some o:=by
 rcases a with rfl | rfl | a | a | a
 .obtain⟨c,e⟩:=h.ob;exact⟨_,e⟩
 .obtain⟨U,e,_⟩:=h.pn;exact⟨_,e⟩
 .obtain⟨c,e⟩:=h.lst a;exact⟨_,e⟩
 .obtain⟨c,e⟩:=h.xl b a;exact⟨_,e⟩
 .obtain⟨o,e,_⟩:=h.fk.there a;exact⟨o,e⟩
theorem ZC.put(h:ZC C CM H M S wa J m qs)(a:l∈M.ls++qs)(n:m'.iB.length=m.iB.length)(r:m'.pen=m.pen)(t:m'.iP=m.iP)(k:∀p∈m'.at_ M qs,(p∈m.at_ M qs/\p.1≠l)\/(p.1=l/\ZO (fz J H) p.2 zs)):ZC C CM (upd H l (.lst zs)) M S wa J m' qs:=by
 obtain⟨b,e⟩:=h.lst (Dh a);have nw:=h.nown e;have b:=h;obtain⟨⟨j,b⟩,u,y,w,v,⟨U,d,F,G⟩,g,i,I,E,A⟩:=h;have o:To H (upd H l (.lst zs)):=Gu e;have f:∀x∈J,x≠l:=λx c z=>i x c (z▸Dh a);have s:ZA (fz J H) (fz J (upd H l (.lst zs))):=Ve o (λx c o e=>by rw[Zf (f x c)];exact e) (λ_ z=>z);have B:M.lh≠l:=λz=>(yM.mp g).1 (z▸a)
 refine⟨⟨j,by rw[Zf (λz=>by rw[z,e] at b;cases b)];exact b⟩,u.at λb o j a=>by rw[Zf (λz:b=l=>nw (z▸j))];exact a,λp a=>?_,by rw[Zf B];exact w,by rw[n];exact v,
  ⟨U,by rw[Zf (λz=>by rw[z,e] at d;cases d)];exact d,by rw[t];exact F,by rw[r];exact G⟩,g,i,λx c=>?_,E,A⟩
 .rcases k p a with⟨a,b⟩ | ⟨a,b⟩
  .exact(y p a).mono (λo e=>by rw[Zf b];exact e) s
  .exact⟨zs,by rw[a,Zj],b.iK s⟩
 .obtain⟨d,e⟩:=I x c;exact⟨d,by rw[Zf (f x c)];exact e⟩
theorem ZC.freeze(h:ZC C CM H M S wa J m qs)(e:H a=some (.lst vs))(n:a∉M.lh::(M.ls++qs)):ZC C CM H M S wa (a::J) m qs:=by
 obtain⟨l,b,f,d,c,o,i,k,r,j,g⟩:=h;have s:ZA (fz J H) (fz (a::J) H):=Ve (λ_ _ e=>e) (λ_ _ _ e=>e) (λ_ z=>xO _ z);exact⟨l,b,λp b=>(f p b).mono (λ_ e=>e) s,d,c,o,i,λx b=>(xD.mp b).elim (λz=>z▸n) (k x),λx b=>(xD.mp b).elim (λz=>⟨vs,z▸e⟩) (r x),j,g⟩
theorem ZC.iR(h:ZC C CM H M S wa J m qs)(e:H M.dp=some (.dK U)) :
  ZC C CM (upd H M.dp (.dK (Z4 U (.inr n) (.int c)))) M S wa J {m with pen:=λx=>if x=n then some c else m.pen x,iP:=m.iP+1 } qs:=by
 have d:=h;obtain⟨⟨p,g⟩,u,y,w,v,⟨a,b,f,F⟩,A,E,r,B,k⟩:=h;rw[e] at b;cases b;have j:∀l∈M.lh::(M.ls++qs),l≠M.dp:=λl b z=>by obtain⟨f,a⟩:=d.lst b;rw[z,e] at a;cases a
 have o:To H (upd H M.dp (.dK (Z4 U (.inr n) (.int c)))):=λb t f=>by rw[Zf (λz=>by rw[z,e] at f;cases f)];exact f
 have i:∀x∈J,x≠M.dp:=λx d z=>by obtain⟨l,a⟩:=r x d;rw[z,e] at a;cases a
 have s:ZA (fz J H) (fz J (upd H M.dp (.dK (Z4 U (.inr n) (.int c))))):=Ve o (λx d o e=>by rw[Zf (i x d)];exact e) (λ_ z=>z)
 refine⟨⟨p,by rw[Zf (λz=>by rw[z,e] at g;cases g)];exact g⟩,u.at λb o g f=>by rw[Zf (λz:b=M.dp=>k (z▸g))];exact f,λp b=>(y p b).mono (λo e=>by rw[Zf (j _ (Dh (CW b)))];exact e) s,
  by rw[Zf (j _ yE)];exact w,v,⟨_,Zj,xZ (Uh _ _ _) (by show U.length+1<=m.iP+1;lia),λx=>?_⟩,A,E,λx d=>?_,B,k⟩
 .rw[Uw];show _=(if x=n then some c else m.pen x).map V.int
  by_cases z:x=n
  .rw[if_pos (by rw[z]),if_pos z];rfl
  .rw[if_neg (λy=>z (by injection y)),if_neg z];exact F x
 .obtain⟨l,a⟩:=r x d;exact⟨l,by rw[Zf (i x d)];exact a⟩
theorem ZC.iT(h:ZC C CM H M S wa J m qs)(e:H M.p=some (.ins CM dx (Wv M)))(g:H l=some (.lst (bs.map V.bl)))(n:¬mo M S wa J qs l) :
  ZC C CM (upd H M.p (.ins CM dx (Wv (M.iT l)))) (M.iT l) S wa J {m with ow:=bs } qs:=by
 have f:=h;obtain⟨_,y,E,B,A,⟨U,j,L,N⟩,v,K,w,I,F⟩:=h;have u:∀l∈M.lh::(M.ls++qs),l≠M.p:=λl g z=>by obtain⟨a,c⟩:=f.lst g;rw[z,e] at c;cases c
 have i:l≠M.p:=λz=>n (.inl z);have o:To H (upd H M.p (.ins CM dx (Wv (M.iT l)))):=λb t d=>by rw[Zf (λz=>by rw[z,e] at d;cases d)];exact d
 have k:∀x∈J,x≠M.p:=λx a z=>by obtain⟨t,c⟩:=w x a;rw[z,e] at c;cases c
 have s:ZA (fz J H) (fz J (upd H M.p (.ins CM dx (Wv (M.iT l))))):=Ve o (λx a o e=>by rw[Zf (k x a)];exact e) (λ_ z=>z);have O:=f.pown;have P:∀(H:Hp)(bs:List Bool),ZO H (bs.map D.bl) (bs.map V.bl):=λH bs=>by
  induction bs with
  | nil=>rfl
  | cons b r f=>exact⟨_,_,rfl,rfl,f⟩
 have G:∀x,x∈M.lh::((M.iT l).ls++qs)->x∈M.lh::(M.ls++qs)\/x=l:=λx a=>by
  simp only[ML.ls,ML.iT,xD,xJ,xV,or_false] at a |-;rcases a with z | (z | z | z | z | z | z) | z<;>simp[z]
 have f:l∉M.lh::(M.ls++qs):=λz=>n (.inr (.inr (.inl z)))
 refine⟨⟨dx,Zj⟩,y.at λb o r d=>by rw[Zf (λz:b=M.p=>O (z▸r))];exact d,λp d=>?_,by show (upd H M.p _) M.lh=_;rw[Zf (u _ yE)];exact B,A,
  ⟨U,by show (upd H M.p _) M.dp=_;rw[Zf (λz=>by rw[z,e] at j;cases j)];exact j,L,N⟩,?_,λx a z=>(G x z).elim (K x a) (λz=>n (.inr (.inr (.inr (.inl (z▸a)))))),λx a=>?_,I,F⟩
 .by_cases z:p=(l,bs.map D.bl)
  .subst z;exact⟨_,by show (upd H M.p _) l=_;rw[Zf i];exact g,P _ bs⟩
  .have b:p∈m.at_ M qs:=by
    simp only[Mo.at_,ML.iT,xD] at d |-;rcases d with y | y | y | y | y | y | y
    .exact .inl y
    .exact .inr (.inl y)
    .exact .inr (.inr (.inl y))
    .exact .inr (.inr (.inr (.inl y)))
    .exact .inr (.inr (.inr (.inr (.inl y))))
    .exact absurd y z
    .exact .inr (.inr (.inr (.inr (.inr (.inr y)))))
   exact(E p b).mono (λo e=>by rw[Zf (u _ (Dh (CW b)))];exact e) s
 .simp only[ML.ls,ML.iT,yM,xD,xJ,yK,zK,not_or] at v f |-;obtain⟨⟨b,d,g,i,j,Q,o⟩,⟨r,s,u,y,R,z⟩,⟨A,B,E,T,F⟩,⟨G,I,U,K⟩,⟨L,W,N⟩,⟨X,O⟩,Y,P⟩:=v;obtain⟨v,Q,R,T,U,W,Y,X⟩:=f;exact⟨⟨b,d,g,i,j,Ne.symm v,o⟩,⟨r,s,u,y,Ne.symm Q,z⟩,⟨A,B,E,Ne.symm R,F⟩,⟨G,I,Ne.symm T,K⟩,⟨L,Ne.symm U,N⟩,⟨Ne.symm W,O⟩,X,P⟩
 .obtain⟨t,c⟩:=w x a;exact⟨t,by rw[Zf (k x a)];exact c⟩
end
theorem ZC.rep(h:ZC C CM H M S wa J m qs)(b:(l,c)∈m.at_ M qs)(e:H l=some (.lst vs)):ZO (fz J H) c vs:=by
 obtain⟨d,a,r⟩:=h.ls _ b;rw[e] at a;cases a;exact r
theorem ZC.deed(h:ZC C CM H M S wa J m qs)(e:H M.ld=some (.lst vs))(n:YE (fz J H) d v):ZC C CM (upd H M.ld (.lst (vs ++ [v]))) M S wa J {m with ip:=m.ip ++ [d] } qs:=by
 have r:=h.rep (l:=M.ld) (c:=m.ip) (by simp[Mo.at_]) e;have a:=h.nl;simp only[ML.ls,yM,xD,xJ,yK,zK,not_or] at a;obtain⟨_,⟨b,f,g,i,j,k⟩,⟨o,p,s,t,u⟩,⟨w,x,y,z⟩,⟨A,B,E⟩,⟨F,G⟩,I,K⟩:=a;refine h.put (l:=M.ld) (by simp[ML.ls]) rfl rfl rfl λp a=>?_;simp only[Mo.at_,xD] at a |-;rcases a with rfl | rfl | rfl | rfl | rfl | rfl | a
 .exact .inr ⟨rfl,r.snoc n⟩
 .exact .inl ⟨by simp,Ne.symm b⟩
 .exact .inl ⟨by simp,Ne.symm f⟩
 .exact .inl ⟨by simp,Ne.symm g⟩
 .exact .inl ⟨by simp,Ne.symm i⟩
 .exact .inl ⟨by simp,Ne.symm j⟩
 .exact .inl ⟨by simp[a],λz=>k (z▸(yZ a).1)⟩
theorem ZC.debt(h:ZC C CM H M S wa J m qs)(e:H M.lq=some (.lst vs))(n:YE (fz J H) d v):ZC C CM (upd H M.lq (.lst (vs ++ [v]))) M S wa J {m with ik:=m.ik ++ [d] } qs:=by
 have r:=h.rep (l:=M.lq) (c:=m.ik) (by simp[Mo.at_]) e;have a:=h.nl;simp only[ML.ls,yM,xD,xJ,yK,zK,not_or] at a;obtain⟨_,⟨o,b,p,s,t,u⟩,⟨f,w,x,y,z⟩,⟨g,i,j,k⟩,⟨A,B,E⟩,⟨F,G⟩,I,K⟩:=a;refine h.put (l:=M.lq) (by simp[ML.ls]) rfl rfl rfl λp a=>?_;simp only[Mo.at_,xD] at a |-;rcases a with rfl | rfl | rfl | rfl | rfl | rfl | a
 .exact .inl ⟨by simp,b⟩
 .exact .inl ⟨by simp,f⟩
 .exact .inr ⟨rfl,r.snoc n⟩
 .exact .inl ⟨by simp,Ne.symm g⟩
 .exact .inl ⟨by simp,Ne.symm i⟩
 .exact .inl ⟨by simp,Ne.symm j⟩
 .exact .inl ⟨by simp[a],λz=>k (z▸(yZ a).1)⟩
theorem ZC.trial(h:ZC C CM H M S wa J m qs)(e:H M.lt=some (.lst vs))(n:YE (fz J H) (Wq d) v):ZC C CM (upd H M.lt (.lst (vs ++ [v]))) M S wa J {m with o6:=m.o6 ++ [d] } qs:=by
 have r:=h.rep (l:=M.lt) (c:=m.o6.map Wq) (by simp[Mo.at_]) e;have a:=h.nl;simp only[ML.ls,yM,xD,xJ,yK,zK,not_or] at a;obtain⟨_,⟨o,p,b,s,t,u⟩,⟨w,f,x,y,z⟩,⟨g,A,B,E⟩,⟨i,j,k⟩,⟨F,G⟩,I,K⟩:=a;refine h.put (l:=M.lt) (by simp[ML.ls]) rfl rfl rfl λp a=>?_;simp only[Mo.at_,xD] at a |-;rcases a with rfl | rfl | rfl | rfl | rfl | rfl | a
 .exact .inl ⟨by simp,b⟩
 .exact .inl ⟨by simp,f⟩
 .exact .inl ⟨by simp,g⟩
 .exact .inr ⟨rfl,by rw[xM];exact r.snoc n⟩
 .exact .inl ⟨by simp,Ne.symm i⟩
 .exact .inl ⟨by simp,Ne.symm j⟩
 .exact .inl ⟨by simp[a],λz=>k (z▸(yZ a).1)⟩
theorem ZC.day(h:ZC C CM H M S wa J m qs)(e:H M.ly=some (.lst vs))(n:YE (fz J H) (.int d) v):ZC C CM (upd H M.ly (.lst (vs ++ [v]))) M S wa J {m with days:=m.days ++ [d] } qs:=by
 have r:=h.rep (l:=M.ly) (c:=m.days.map D.int) (by simp[Mo.at_]) e;have a:=h.nl;simp only[ML.ls,yM,xD,xJ,yK,zK,not_or] at a;obtain⟨_,⟨o,p,s,b,t,u⟩,⟨w,x,f,y,z⟩,⟨A,g,B,E⟩,⟨i,F,G⟩,⟨j,k⟩,I,K⟩:=a;refine h.put (l:=M.ly) (by simp[ML.ls]) rfl rfl rfl λp a=>?_;simp only[Mo.at_,xD] at a |-;rcases a with rfl | rfl | rfl | rfl | rfl | rfl | a
 .exact .inl ⟨by simp,b⟩
 .exact .inl ⟨by simp,f⟩
 .exact .inl ⟨by simp,g⟩
 .exact .inl ⟨by simp,i⟩
 .exact .inr ⟨rfl,by rw[xM];exact r.snoc n⟩
 .exact .inl ⟨by simp,Ne.symm j⟩
 .exact .inl ⟨by simp[a],λz=>k (z▸(yZ a).1)⟩
theorem ZC.brg(h:ZC C CM H M S wa J m qs)(e:H M.lb=some (.lst vs))(n:YE (fz J H) d v):ZC C CM (upd H M.lb (.lst (vs ++ [v]))) M S wa J {m with ib:=m.ib ++ [d] } qs:=by
 have r:=h.rep (l:=M.lb) (c:=m.ib) (by simp[Mo.at_]) e;have a:=h.nl;simp only[ML.ls,yM,xD,xJ,yK,zK,not_or] at a;obtain⟨_,⟨b,o,p,s,t,u⟩,⟨f,g,i,j,k⟩,⟨w,x,y,z⟩,⟨A,B,E⟩,⟨F,G⟩,I,K⟩:=a;refine h.put (l:=M.lb) (by simp[ML.ls]) rfl rfl rfl λp a=>?_;simp only[Mo.at_,xD] at a |-;rcases a with rfl | rfl | rfl | rfl | rfl | rfl | a
 .exact .inl ⟨by simp,b⟩
 .exact .inr ⟨rfl,r.snoc n⟩
 .exact .inl ⟨by simp,Ne.symm f⟩
 .exact .inl ⟨by simp,Ne.symm g⟩
 .exact .inl ⟨by simp,Ne.symm i⟩
 .exact .inl ⟨by simp,Ne.symm j⟩
 .exact .inl ⟨by simp[a],λz=>k (z▸(yZ a).1)⟩
theorem ZC.hap(h:ZC C CM H M S wa J m qs){q:gF}(f:qs[i]?=some q)(g:m.iB[i]?=some c)(e:H q=some (.lst vs))(w:YE (fz J H) d v) :
  ZC C CM (upd H q (.lst (vs ++ [v]))) M S wa J {m with iB:=m.iB.set i (c ++ [d]) } qs:=by
 have a:q∈qs:=xG f;have b:(q,c)∈qs.zip m.iB:=xG (i:=i) (by rw[zC];exact⟨f,g⟩);have r:=h.rep (l:=q) (c:=c) (by simp[Mo.at_,b]) e;have b:=h.nl;simp only[ML.ls,yM,xD,xJ,yK,zK,not_or] at b;obtain⟨_,⟨j,k,p,y,z,n⟩,⟨B,E,F,G,o⟩,⟨I,K,L,s⟩,⟨N,O,t⟩,⟨P,u⟩,x,A⟩:=b;refine h.put (l:=q) (xK _ a) (wK ..) rfl rfl λp b=>?_;simp only[Mo.at_,xD] at b |-;rcases b with rfl | rfl | rfl | rfl | rfl | rfl | b
 .exact .inl ⟨by simp,λz:M.ld=q=>n (z▸a)⟩
 .exact .inl ⟨by simp,λz:M.lb=q=>o (z▸a)⟩
 .exact .inl ⟨by simp,λz:M.lq=q=>s (z▸a)⟩
 .exact .inl ⟨by simp,λz:M.lt=q=>t (z▸a)⟩
 .exact .inl ⟨by simp,λz:M.ly=q=>u (z▸a)⟩
 .exact .inl ⟨by simp,λz:M.lv=q=>x (z▸a)⟩
 .obtain⟨j,k⟩:=wE b;rw[zC] at k;obtain⟨a,b⟩:=k
  by_cases z:i=j
  .subst z;rw[f] at a;injection a with a
   rw[List.getElem?_set_self (by
    rcases Nat.lt_or_ge i m.iB.length with y | y
    .exact y
    .rw[wP y] at g;cases g)] at b
   injection b with b
   exact .inr ⟨a.symm,by rw[<- b];exact r.snoc w⟩
  .rw[List.getElem?_set_ne z] at b;refine .inl ⟨.inr (.inr (.inr (.inr (.inr (.inr (xG (i:=j) (by rw[zC];exact⟨a,b⟩))))))),λy=>z ?_⟩;have b:i<qs.length:=(xI.mp f).1;exact(List.getElem?_inj b A).mp (by rw[f,a,y])
theorem ZC.newq(h:ZC C CM H M S wa J m qs){q:gF}(r:H q=some (.lst []))(n:¬mo M S wa J qs q) :
  ZC C CM (upd H M.lh (.lst ((qs ++ [q]).map V.ref))) M S wa J {m with iB:=m.iB ++ [[]] } (qs ++ [q]):=by
 have a:=h;have nw:=h.nown h.hl;obtain⟨⟨c,b⟩,l,t,d,i,⟨U,g,y,A⟩,f,k,B,w,u⟩:=h;have e:To H (upd H M.lh (.lst ((qs ++ [q]).map V.ref))):=Gu d;have j:∀x∈J,x≠M.lh:=λx a z=>k x a (z▸yE);have s:ZA (fz J H) (fz J (upd H M.lh (.lst ((qs ++ [q]).map V.ref)))):=Ve e (λx a o e=>by rw[Zf (j x a)];exact e) (λ_ z=>z);have v:M.lh∉M.ls++qs:=(yM.mp f).1;have p:q∉M.lh::(M.ls++qs):=λz=>n (.inr (.inr (.inl z)));have f:q≠M.lh:=λz=>p (z▸yE)
 refine⟨⟨c,by rw[Zf (λz=>by rw[z,d] at b;cases b)];exact b⟩,l.at λb o l c=>by rw[Zf (λz:b=M.lh=>nw (z▸l))];exact c,λp c=>?_,Zj,by rw[xE,i];show _=(m.iB ++ [[]]).length;rw[xE];rfl,
  ⟨U,by rw[Zf (λz=>by rw[z,d] at g;cases g)];exact g,y,A⟩,?_,λx a z=>?_,λx a=>?_,w,u⟩
 .by_cases z:p=(q,[])
  .subst z;exact⟨[],by show (upd H M.lh _) q=_;rw[Zf f];exact r,rfl⟩
  .have b:p∈m.at_ M qs:=by
    simp only[Mo.at_,xD] at c |-;rw[List.zip_append i] at c;rcases c with y | y | y | y | y | y | y
    .exact .inl y
    .exact .inr (.inl y)
    .exact .inr (.inr (.inl y))
    .exact .inr (.inr (.inr (.inl y)))
    .exact .inr (.inr (.inr (.inr (.inl y))))
    .exact .inr (.inr (.inr (.inr (.inr (.inl y)))))
    .rcases xJ.mp y with y | y
     .exact .inr (.inr (.inr (.inr (.inr (.inr y)))))
     .exact absurd (xP.mp y) z
   exact(t p b).mono (λo e=>by rw[Zf (λz:p.1=M.lh=>v (z▸CW b))];exact e) s
 .grind
 .rw[<- yT,<- yK] at z;rcases xJ.mp z with z | z
  .exact k x a z
  .exact n (.inr (.inr (.inr (.inl (xP.mp z▸a)))))
 .obtain⟨c,b⟩:=B x a;exact⟨c,by rw[Zf (j x a)];exact b⟩
section
variable{C CM:gF}{c:gB}
abbrev inB(i:Int)(n:Nat):Prop:=0<=i/\i<n
def Jj(m:Mo)(i:Int):Option Str:=if inB i m.ib.length then none else some "NoThing"
inductive VN(C CM:gF)(c:gB)(vs:aG)(H:Hp)(Q:VK)(E:XK):Prop
 |mk(M) (S) (wa) (J) (m) (qs) (i)(_:vs=[.ref M.p,.int i])(_:ZC C CM H M S wa J m qs)(_:okI i)(_:due E c H (Q .non H) (Jj m i))
abbrev HL:Stmt:=Y1 (top 57) 41
theorem eV(a:ZU K CM "check_thing" "Moot.check_thing" HL)(T:Txt mg)(Tm:ZR K CM)(b:Er K mg c errs):ZX P w K mg Z CM "check_thing" 1 (VN C CM c):=by
 refine a.mx ["self","thing"] ["self","thing"] λH e Q E a h=>?_;obtain⟨M,S,f,J,m,a,i,rfl,W,d,k⟩:=h;refine⟨rfl,_,(Zg (Zq (Aa (Bn Vk Vj Zc Q3 (Z0 Ym T.len Yh (Za (Z2 Q0) Zb)))) (Zg (Wg Y5 b (Wm (Yu (Y6 Q3 Wl))))) Zp)),?_⟩;obtain⟨f,g⟩:=W.ob;obtain⟨e,a,_,b⟩:=(W.ls (M.lb,m.ib) (by simp[Mo.at_])).get;dsimp only at a b;unfold Jj at k;rw[<- b] at k;refine⟨_,rfl,_,_,rfl,rfl,_,rfl,Zv (λb=>?_) (λz=>?_)⟩
 .refine⟨_,rfl,M.p,CM,f,_,_,rfl,g,Tm.cl,Tm.nb,Ct _,M.lb,e,rfl,.inl (ZD.of a),_,_,rfl,rfl,_,rfl,Ua (λz=>?_) (λa=>?_)⟩
  .rw[if_neg (λy=>z y.2)] at k;exact⟨aA,_,rfl,.inr ⟨i,rfl,Vc d⟩,λ_=>k⟩
  .rw[if_pos ⟨b,a⟩] at k;exact k
 .rw[if_neg (λy=>z y.1)] at k;exact⟨false,rfl,Z6 ⟨aA,_,rfl,.inr ⟨i,rfl,Vc d⟩,λ_=>k⟩⟩
inductive UQ(c:gB)(vs:aG)(H:Hp)(Q:VK)(E:XK):Prop
 |mk(l) (us) (i)(_:vs=[.ref l,.int i])(_:H l=some (.lst us))(_:okI i)(_:due E c H (Q .non H) (if inB i us.length then none else some "NoCase"))
abbrev Mp:Stmt:=top 48
theorem fD(a:YA K mg "check_case" Mp)(T:Txt mg)(b:Er K mg c errs):YU P w K mg Z "check_case" 1 (UQ c):=by
 refine a.fx ["suits","case"] ["suits","case"] λH d Q E a h=>?_;obtain⟨l,e,i,rfl,d,a,k⟩:=h;refine⟨rfl,_,(Zg (Zq (Aa (Bn Vk Vj Zc Q3 (Z0 Ym T.len Yh (Za Q0 Zb)))) (Zg (Wg Y5 b (Wm (Yu (Y6 Q3 Wl))))) Zp)),?_⟩;refine⟨_,rfl,_,_,rfl,rfl,_,rfl,Zv (λb=>?_) (λz=>?_)⟩
 .refine⟨_,rfl,l,e,rfl,.inl (ZD.of d),_,_,rfl,rfl,_,rfl,Ua (λz=>?_) (λd=>?_)⟩
  .rw[if_neg (λy=>z y.2)] at k;exact⟨aA,_,rfl,.inr ⟨i,rfl,Vc a⟩,λ_=>k⟩
  .rw[if_pos ⟨b,d⟩] at k;exact k
 .rw[if_neg (λy=>z y.1)] at k;exact⟨false,rfl,Z6 ⟨aA,_,rfl,.inr ⟨i,rfl,Vc a⟩,λ_=>k⟩⟩
def Wf(m:Mo):Option Str:=if m.ip.length<400 then none else some "TooMany"
inductive YM(C CM:gF)(c:gB)(vs:aG)(H:Hp)(Q:VK)(E:XK):Prop
 |mk(M) (S) (wa) (J) (m) (qs)(_:vs=[.ref M.p])(_:ZC C CM H M S wa J m qs)(_:due E c H (Q .non H) (Wf m))
abbrev Ht:Stmt:=Y1 (top 57) 43
theorem X9(d:ZU K CM "check_moments" "Moot.check_moments" Ht)(T:Txt mg)(Tm:ZR K CM)(f:Er K mg c errs)(b:∃t,mg "MOST_MOMENTS"=some (.int 400 t)):ZX P w K mg Z CM "check_moments" 1 (YM C CM c):=by
 obtain⟨e,a⟩:=b;have b:ZG (.int 400) (.int 400 e):=⟨e,rfl⟩;refine d.mx lP lP λH d Q E e h=>?_;obtain⟨M,S,g,J,m,e,rfl,W,k⟩:=h;refine⟨rfl,_,(Zg (Zq (Zk Ji (Z0 Ym T.len Yh (Za (Z2 Q0) Zb)) (Yr a b) (Zn _)) (Zg (Wg Y5 f (Wm (Yu (Y6 (Yr a b) (Yu Wl)))))) Zp)),?_⟩;obtain⟨e,f⟩:=W.ob;obtain⟨d,a,_,b⟩:=(W.ls (M.ld,m.ip) (by simp[Mo.at_])).get;dsimp only at a b;unfold Wf at k;refine⟨_,rfl,M.p,CM,e,_,_,rfl,f,Tm.cl,Tm.nd,Tg _,M.ld,d,rfl,.inl (ZD.of a),_,_,rfl,rfl,_,rfl,Zv (λz=>?_) (λz=>?_)⟩
 .rw[if_neg (by lia)] at k;exact⟨aA,.inr ⟨400,rfl,aA⟩,aA,λ_=>k⟩
 .rw[if_pos (by lia)] at k;exact k
end
section
variable{c:gB}
def Wy(a:List ZS)(i:Int)(n:Str):Option Str:=match a[i.toNat]? with
 | some t=>if inB i a.length then (if n∈(t.ones++t.others).map (·.1) then none else some "NoOath") else some "NoCase"
 | none=>some "NoCase"
inductive VF(c:gB)(vs:aG)(H:Hp)(Q:VK)(E:XK):Prop
 |mk(l) (ss) (i) (n)(_:vs=[.ref l,.int i,.str n])(_:ZN H ss l)(_:(∀t∈ss,Tp t))(_:okI i)(_:n.length<=100)(_:∀Y,ZA H Y->due E c Y (Q .non Y) (Wy ss i n))
abbrev Ma:Stmt:=top 49
theorem OI(f:YA K mg "check_oath" Ma)(T:Txt mg)(a:∃t,mg "ONES"=some (.int 0 t))(e:∃t,mg "OTHERS"=some (.int 1 t))(m:Er K mg c errs)(g:YU P w K mg Z "check_case" 1 (UQ c)) :
  YU P w K mg Z "check_oath" 2 (VF c):=by
 obtain⟨b,d⟩:=a;obtain⟨h,a⟩:=e;have e:ZG (.int 0) (.int 0 b):=⟨b,rfl⟩;have b:ZG (.int 1) (.int 1 h):=⟨h,rfl⟩;refine f.fx lO lO λH i Q E f h=>?_;obtain⟨l,f,i,n,rfl,j,x,C,p,k⟩:=h
 refine⟨rfl,_,(Zd (Zs (Ws Z3 g (Za Q0 (Za Q3 Zb)))) (Zg (Zq (Zk Fc Qa (Vu (locs:=["swearer","weight"]) (fr:=[]) ⟨rfl,aA,aA,aA,aA,aA⟩ .nil rfl (Yz (Zu Wj (Zh Zi (Zh Z7 Q0 Q3) (Yr d e)) (Zh Zi (Zh Z7 Q0 Q3) (Yr a b)))) ⟨λ_ _ _ _ _ _=>by
  have a:(inN ["swearer","weight"] []).Nodup:=aA
  exact⟨(Cv 2 (by rfl) (Yv (Wb 0 a) (Yv (Wb 1 a) Ub))),Uc,(Yp 0)⟩⟩) rfl) (Zg (Wg Y5 m (Wm (Y6 Qa (Yu (Y6 Q3 Wl)))))) Zp))),?_⟩
 have a:=aC
 obtain⟨r,v,a⟩:=id j;have h:r.length=f.length:=by have:=a.length;rw[xA] at this;exact this
 refine⟨_,rfl,_,rfl,l,r,i,rfl,v,C,?_⟩
 by_cases b:inB i f.length
 .unfold Wy at k;rw[if_pos (by rw[h];exact b)];obtain⟨j,rfl⟩:=yC b.1;have d:j<f.length:=by have:=b.2;lia
  have m:f[j]?=some f[j]:=xB d;generalize f[j]=t at m;rw[yH,m] at k;dsimp only at k;rw[if_pos b] at k;obtain⟨p,G,I,J,E,g,⟨A,y,rfl,s,d⟩,⟨B,z,rfl,u,e⟩,F⟩:=ZN.get (l:=l) a m;obtain⟨F,a,_,_⟩:=x t (xG m);have m:=d.len;have m:=e.len;have m:=F.2;have m:=a.2;refine⟨_,rfl,_,rfl,_,rfl,l,r,j,.ref p,rfl,rfl,ZD.of v,Yl E,p,_,0,.ref A,rfl,rfl,ZJ.of g,rfl,?_⟩;refine⟨_,rfl,_,rfl,l,r,j,.ref p,rfl,rfl,ZD.of v,Yl E,p,_,1,.ref B,rfl,rfl,ZJ.of g,rfl,?_⟩;refine⟨A,B,y,z,rfl,rfl,s,u,by lia,λq a=>?_⟩;refine nw (o:=.lst (y++z)) a λl g j=>?_;have a:ZP l (t.ones++t.others) (y++z):=ZP.mono (ZA.t g) (ZP.app e d);refine⟨q,rfl,⟨_,ZD.of j⟩,?_⟩;refine GV j a (by rw[xE];lia) λd a=>?_;refine⟨d,_,rfl,.inl (ZD.of Zj),rfl,FH _,_,rfl,?_⟩;rw[EM];refine Ua (λz=>?_) (λz=>?_)
  .rw[if_neg z] at k;exact⟨_,rfl,.inl ⟨n,rfl,by lia⟩,aA,_,rfl,.inr ⟨_,rfl,Vc C⟩,λ_=>k _ (g.trans (ZA.new a))⟩
  .rw[if_pos z] at k;exact k _ (g.trans (ZA.new a))
 .rw[if_neg (by rw[h];exact b)];have e:Wy f i n=some "NoCase" := by
   unfold Wy;cases f[i.toNat]? with
   | none=>rfl
   | some t=>exact if_neg b
  have k:=k H (ZA.refl H);rw[e] at k;exact k
inductive VB(vs:aG)(H:Hp)(Q:VK)(a:XK):Prop
 |mk(l:gF) (a:List ZS) (i:Nat) (n:Str)(_:vs=[.ref l,.int i,.str n])(_:ZN H a l)(_:(∀t∈a,Tp t))(_:a.length<=1000)(_:n.length<=100)(_:Wy a i n=none)(_:∀(b:gF)(Y:Hp),H b=none->Y b=some (.lst (Vp (J4 a i n)))->ZA H Y->Q (.ref b) Y)
abbrev ID:Stmt:=top 44
theorem OX(d:YA K mg "breakers" ID)(T:Txt mg)(e:YU P w K mg Z "check_oath" 2 (VF c))(b:Fn P w K mg Z "breaking" ia 5 VA) :
  Fn P w K mg Z "breakers" lO 6 VB:=by
 refine d.fq lO λH d Q E r h=>?_;obtain⟨l,m,i,n,rfl,g,f,d,p,j,k⟩:=h;refine⟨rfl,_,(Zd (Zs (Ws Xq.never e (Za Q0 (Za Q3 (Za Qa Zb))))) (Zg (Zw (GO r (Zl b (Za Q0 Zb)) (Yj (Za Q3 (Za Qa Zb))) (Yb Zb))))),?_⟩;have b:i<m.length:=by
  unfold Wy at j;cases e:m[(i:Int).toNat]? with
  | none=>rw[e] at j;cases j
  | some t=>rw[yH] at e;exact(xI.mp e).1
 refine⟨_,rfl,_,rfl,_,rfl,l,m,i,n,rfl,g,f,by unfold okI;lia,p,λh b=>?_⟩;rw[j];refine⟨_,rfl,l,m,rfl,g.mono b,f,d,λg d r ⟨U,h,m,p,j⟩ l f=>⟨g,rfl,.inr ⟨U,.inl h⟩,?_⟩⟩;refine⟨_,rfl,_,rfl,aB rfl,λq d=>?_⟩;refine nw (o:=.tup [.int i,.str n]) d λd p t=>?_;refine⟨aB rfl,λe r=>?_⟩;refine nw (o:=.lst []) r λm g s=>?_;have d:=p.trans g;have S:=(b.trans f).trans d;refine⟨_,YF.t (d _ _ h) (k:=Yq i n) (g _ _ t),?_⟩;rcases j i n with⟨g,j⟩ | ⟨a,g,j⟩
 .rw[g];refine k e m (((b.trans f).trans p).free r) ?_ S;unfold J4;rw[j];exact s
 .rw[g];exact k a m (b.free (l U i n a h g)) (d _ _ j) S
end
section
variable{C CM:gF}{c:gB}
theorem DS{t u:TS}{D:_}{L:St}{H:Hp}(a:Hp->Prop)(h:(∀Y,a Y->u D L Y)->Ug t u D L H)(k:∀Y,a Y->u D L Y):Ug t u D L H:=h k
theorem BH:∀{b:fZ}{i:Nat}{n x:Str},b[i]?=some n->(∀j<i,∀y,b[j]?=some y->f y=none)->f n=some x->b.findSome? f=some x
 | [],i,n,x,h,_,_=>by cases h
 | p::b,0,n,x,h,_,e=>by cases h;rw[zU,e]
 | p::b,i+1,n,x,h,a,e=>by rw[zU,a 0 (by lia) p rfl];exact BH (i:=i) h (λj d y b=>a (j+1) (by lia) y b) e
theorem DJ{f:Str->Option Str}{b:fZ}(a:∀j<b.length,∀y,b[j]?=some y->f y=none):b.findSome? f=none:=by
 rw[wA];intro x d;obtain⟨j,b,e⟩:=List.getElem_of_mem d;exact a j b x (by rw[xB b,e])
theorem Di{f:Str->Option Str}{b:fZ}{i:Nat}{n:Str}(h:b[i]?=some n)(a:∀j<i,∀y,b[j]?=some y->f y=none)(e:f n=none):∀j<i+1,∀y,b[j]?=some y->f y=none:=λj b y d=>by grind
structure WS (m:Mo):Prop where
 ok:∀t∈m.o6,Tp t
 dl:m.days.length=m.o6.length
 br:∀(i:Nat)(e:D),m.ib[i]?=some e->∃(x:Str)(d:Int),e=.tup [.str x,.int d]
 le:m.o6.length<=60
 vl:m.ow.length=m.o6.length
 hb:m.iB.length=m.ib.length
 hl:∀q∈m.iB,q.length<=m.ip.length
 ql:m.ik.length<=m.ip.length
def brD(m:Mo)(i:Int):Int:=match m.ib[i.toNat]? with
 | some (.tup [_,.int d])=>d
 | _=>0
def Vr(S:List ZK)(m:Mo)(day:Int)(a:fZ)(d:Option Int)(b:Option (Int×Str)):Option Str :=
 (a.findSome? (Wt S)).or ((d.bind (Jj m)).or ((b.bind λp=>Wy m.o6 p.1 p.2).or ((a.findSome? λn=>Wo ((Zr S n).getD 0) day).or ((d.bind λi=>Wo (brD m i) day).or
  ((b.bind λp=>Wo (m.days.getD p.1.toNat 0) day).or (a.findSome? λn=>V5 S n day))))))
def thV:Option Int->V
 | none=>.non
 | some i=>.int i
def oaV(H:Hp):Option (Int×Str)->V->Prop
 | none,v=>v=.non
 | some (i,n),v=>okI i/\n.length<=100/\∃a,v=.ref a/\H a=some (.tup [.int i,.str n])
inductive YH(C CM:gF)(c:gB)(vs:aG)(H:Hp)(Q:VK)(E:XK):Prop
 |mk(M) (S) (wa) (J) (m) (qs) (day) (pl) (ps) (th) (oa) (v2)(_:vs=[.ref M.p,.int day,.ref pl,thV th,v2])(_:ZC C CM H M S wa J m qs)(_:WS m)(_:H pl=some (.lst (ps.map V.str)))(_:(∀n∈ps,n.length<=100))(_:okI day)(_:(∀i,th=some i->okI i))(_:oaV H oa v2)(_:∀Y,ZA H Y->due E c Y (Q .non Y) (Vr S m day ps th oa))
abbrev LB:Stmt:=Y1 (top 57) 40
theorem Pc(b:ZU K CM "check_named" "Moot.check_named" LB)(i:VD K C)(Tm:ZR K CM)(n:Er K mg c errs)(e:ZX P w K mg Z C "check_known" 1 (YL C c))(f:ZX P w K mg Z C "check_there" 1 (YR C c))(d:ZX P w K mg Z C "check_living" 2 (WE C c))(a:ZX P w K mg Z CM "check_thing" 1 (VN C CM c))(j:YU P w K mg Z "check_oath" 2 (VF c)):ZX P w K mg Z CM "check_named" 3 (YH C CM c):=by
 refine b.mx ["self","day","people","thing","oath","name"] ["self","day","people","thing","oath"] λH R Q E b h=>?_;obtain⟨M,S,E,J,m,p,b,T,B,O,oa,v2,rfl,W,ok,l,o,hd,a0,G,k⟩:=h
 refine⟨rfl,_,(Zd (DH Dp Y5 (by rfl) (Yz Qa) (Yi 5)
 (λg h=>(Zg (Zs (Yn g (Z2 Q0) i.cl e (Za Qd Zb))))))
 (Zd (Zq (Zk TV Qb Y3 (Zn _)) (Zg (Zs (Yn Z3 Q0 Tm.cl a (Za Qb Zb)))) Zp)
 (Zd (Zq (Zk TV Qc Y3 (Zn _)) (Zg (Zs (Ws Z3 j (Za (Z2 Q0) (Za (Zh Zi Qc Zc) (Za (Zh Zi Qc Zc) Zb)))))) Zp)
 (Zd (DH Dp Y5 (by rfl) (Yz Qa) (Yi 5)
 (λg h=>(Zg (Zs (Yn g (Z2 Q0) i.cl f (Za Qd (Za Q3 Zb)))))))
 (Zd (Zq (QW.pt (Wz (Zk TV Qb Y3 (Zn _)) (Vx (Zk Vj Q3 (Zh Zi (Zh Z7 (Z2 Q0) Qb) Zc) (Zn _))))) (Zg (Wg Y5 n (Wm (Yu (Y6 Qb (Yu (Y6 Q3 Wl))))))) Zp)
 (Zd (Zq (QW.pt (Wz (Zk TV Qc Y3 (Zn _)) (Vx (Zk Vj Q3 (Zh Z7 (Z2 Q0) (Zh Zi Qc Zc)) (Zn _))))) (Zg (Wg Y5 n (Wm (Yu (Y6 Q3 Wl))))) Zp)
 (Zg (DH Dp Y5 (by rfl) (Yz Qa) (Yi 5)
 (λg h=>(Zg (Zs (Yn g (Z2 Q0) i.cl d (Za Qd (Za Q3 Zb)))))))))))))),?_⟩
 obtain⟨N,g⟩:=W.ob;have F:=W.fk.f;obtain⟨dx,ob⟩:=F.ob;have r:∀{i:Nat}{v:V},(B.map V.str)[i]?=some v->∃n,v=.str n/\B[i]?=some n/\n.length<=100:=λ{i v} I=>by
  rw[xC] at I;obtain⟨a,d,e⟩:=xL.mp I;exact⟨a,e.symm,d,o a (xG d)⟩
 have u:(B.map V.str).length=B.length:=xA ..;unfold Vr at k;refine⟨_,rfl,T,rfl,⟨_,ZD.of l⟩,?_⟩;refine Vl (B.map V.str) (λi L Y=>∃h:Option V,L=[some (.ref M.p),some (.int b),some (.ref T),some (thV O),some v2,h]/\H=Y/\∀j<i,∀y,B[j]?=some y->Wt S y=none) ⟨none,rfl,rfl,λj t=>absurd t (by lia)⟩ (λi L Y _ ⟨_,_,e,_⟩=>by rw[<- e];exact ZD.of l) ?_ ?_
 .rintro i v L Y I ⟨h,rfl,rfl,f⟩;obtain⟨n,rfl,o,hl⟩:=r I;refine⟨_,rfl,M.p,CM,N,_,_,rfl,g,Tm.cl,Tm.nf,Ts _,M.L.p,dx,_,rfl,ob,Wh _ _ _ _ aA,_,rfl,M.L,S,n,rfl,F,λ_=>hl,?_⟩;cases e:Wt S n with
  | none=>exact⟨_,rfl,rfl,Di o f e⟩
  | some x =>
   rw[BH o f e] at k;exact k H (ZA.refl H)
 rintro L Y ⟨h,rfl,rfl,f⟩;rw[u] at f;rw[DJ f,yI] at k;have z:∀i n,B[i]?=some n->∃d,Zr S n=some d:=λi n hi=>by
  have:=f i (xI.mp hi).1 n hi;unfold Wt at this;cases e:Zr S n with
  | none=>rw[if_pos e] at this;cases this
  | some d=>exact⟨d,rfl⟩
 try dsimp only
 refine DS (λY=>ZA H Y/\O.bind (Jj m)=none) (λA=>?_) (λQ ⟨s,X⟩=>?_)
 .cases O with
  | none=>exact⟨_,rfl,rfl,_,rfl,Z5 (A H ⟨ZA.refl H,rfl⟩)⟩
  | some i =>
   refine⟨_,rfl,rfl,_,rfl,Z6 ⟨_,rfl,M.p,N,_,rfl,g,Ys _ aA,_,rfl,M,S,E,J,m,p,i,rfl,W,a0 i rfl,?_⟩⟩;rw[yU] at k;cases e:Jj m i with
   | none=>exact A H ⟨ZA.refl H,e⟩
   | some x=>rw[e] at k;exact k H (ZA.refl H)
 rw[X,yI] at k;have W1:=W.same s
 try dsimp only
 refine DS (λY=>ZA H Y/\(oa.bind λp=>Wy m.o6 p.1 p.2)=none) (λA=>?_) (λU ⟨E,J⟩=>?_)
 .cases oa with
  | none =>
   obtain rfl:=G;exact⟨_,rfl,rfl,_,rfl,Z5 (A Q ⟨s,rfl⟩)⟩
  | some p =>
   obtain⟨hi,o,a,rfl,f⟩:=G;obtain⟨ts,Q,t2,_⟩:=(W1.ls (M.lt,m.o6.map Wq) (by simp[Mo.at_])).get;refine⟨_,rfl,rfl,_,rfl,Z6 ⟨_,rfl,M.p,CM,N,_,_,rfl,s _ _ g,Tm.cl,Tm.nt,JY _,_,rfl,a,_,0,_,rfl,rfl,ZJ.of (s _ _ f),rfl,_,rfl,a,_,1,_,rfl,rfl,ZJ.of (s _ _ f),rfl,?_⟩⟩;refine⟨M.lt,m.o6,p.1,p.2,rfl,⟨ts,Q,t2⟩,ok.ok,hi,o,λY Q=>?_⟩;rw[yU] at k;cases e:Wy m.o6 p.1 p.2 with
   | none=>exact A Y ⟨s.trans Q,e⟩
   | some x=>rw[e] at k;exact k Y (s.trans Q)
 rw[J,yI] at k;have s:=W.same E;have F2:=s.fk.f;refine⟨_,rfl,T,rfl,⟨_,ZD.of (E _ _ l)⟩,?_⟩;refine Vl (B.map V.str) (λi L Y=>∃h:Option V,L=[some (.ref M.p),some (.int b),some (.ref T),some (thV O),some v2,h]/\U=Y/\∀j<i,∀y,B[j]?=some y->Wo ((Zr S y).getD 0) b=none) ⟨h,rfl,rfl,λj t=>absurd t (by lia)⟩ (λi L Y _ ⟨_,_,e,_⟩=>by rw[<- e];exact ZD.of (E _ _ l)) ?_ ?_
 .rintro i v L Y I ⟨h,rfl,rfl,f⟩;obtain⟨n,rfl,o,hl⟩:=r I;obtain⟨d,Q⟩:=z i n o;refine⟨_,rfl,M.p,CM,N,_,_,rfl,E _ _ g,Tm.cl,Tm.nf,Ts _,M.L.p,dx,_,rfl,E _ _ ob,Wh _ _ _ _ aA,_,rfl,_,rfl,M.L,S,n,d,b,rfl,F2,Q,λ_=>⟨hl,hd⟩,?_⟩;have z:Wo ((Zr S n).getD 0) b=Wo d b:=by rw[Q];rfl
  cases e:Wo d b with
  | none=>exact⟨_,rfl,rfl,Di o f (z.trans e)⟩
  | some x =>
   rw[BH o f (z.trans e)] at k;exact k U E
 rintro L Y ⟨h,rfl,rfl,z⟩;rw[u] at z;rw[DJ z,yI] at k
 try dsimp only
 refine DS (λY=>ZA H Y/\(O.bind λi=>Wo (brD m i) b)=none) (λA=>?_) (λH3 ⟨Q,e3⟩=>?_)
 .cases O with
  | none=>exact⟨_,rfl,rfl,_,rfl,Z5 (Z5 (A U ⟨E,rfl⟩))⟩
  | some i =>
   obtain⟨R,b1,b2,z⟩:=(s.ls (M.lb,m.ib) (by simp[Mo.at_])).get;dsimp only at b1 b2 z;have s:inB i m.ib.length:=by
    rw[yU] at X;unfold Jj at X
    by_cases z:inB i m.ib.length
    .exact z
    .rw[if_neg z] at X;cases X
   obtain⟨j,rfl⟩:=yC s.1;have t:j<R.length:=by have:=s.2;lia
   obtain⟨e,he,re⟩:=b2.get (xB t);obtain⟨x,d,rfl⟩:=ok.br j e he;obtain⟨a,X,ea,f,⟨_,_,rfl,rfl,⟨_,_,rfl,rfl,rfl⟩⟩⟩:=re;have X:brD m (j:Int)=d:=by unfold brD;rw[yH,he]
   rw[yU,X] at k;refine⟨_,rfl,rfl,_,rfl,Z6 ⟨_,rfl,_,rfl,M.p,CM,N,_,_,rfl,E _ _ g,Tm.cl,Tm.nb,Ct _,_,rfl,M.lb,R,j,_,rfl,rfl,ZD.of b1,Yl (xB t),a,_,1,_,ea,rfl,ZJ.of f,rfl,_,_,rfl,rfl,_,rfl,Zv (λz=>?_) (λz=>?_)⟩⟩
   .have e:Wo d b=some "NotYet" := if_pos z;rw[e] at k;exact⟨aA,_,rfl,.inr ⟨_,rfl,Vc (a0 _ rfl)⟩,aA,_,rfl,.inr ⟨_,rfl,Vc hd⟩,λ_=>k U E⟩
   .exact A U ⟨E,by rw[yU,X];exact if_neg z⟩
 rw[e3,yI] at k;have X:=W.same Q
 try dsimp only
 refine DS (λY=>ZA H Y/\(oa.bind λp=>Wo (m.days.getD p.1.toNat 0) b)=none) (λA=>?_) (λH ⟨E,e4⟩=>?_)
 .cases oa with
  | none =>
   obtain rfl:=G;exact⟨_,rfl,rfl,_,rfl,Z5 (Z5 (A H3 ⟨Q,rfl⟩))⟩
  | some p =>
   obtain⟨i,n⟩:=p;obtain⟨hi,o,a,rfl,f⟩:=G;obtain⟨R,G,p,U⟩:=(X.ls (M.ly,m.days.map D.int) (by simp[Mo.at_])).get;dsimp only at G p U;rw[xA] at U;have s:inB i m.o6.length:=by
    rw[yU] at J;unfold Wy at J
    by_cases z:inB i m.o6.length
    .exact z
    .split at J
     .rw[if_neg z] at J;cases J
     .cases J
   obtain⟨j,rfl⟩:=yC s.1;have t:j<R.length:=by have:=s.2;have:=ok.dl;lia
   obtain⟨e,he,re⟩:=p.get (xB t);rw[xC] at he;obtain⟨d,s,rfl⟩:=xL.mp he;have re:R[j]= .int d:=re;have p:m.days.getD (j:Int).toNat 0=d:=by rw[yH,yD,s];rfl
   rw[yU] at k;dsimp only at k;rw[p] at k;refine⟨_,rfl,rfl,_,rfl,Z6 ⟨_,rfl,_,rfl,M.p,CM,N,_,_,rfl,Q _ _ g,Tm.cl,Tm.ny,Kr _,_,rfl,a,_,0,_,rfl,rfl,ZJ.of (Q _ _ f),rfl,M.ly,R,j,.int d,rfl,rfl,ZD.of G,re▸Yl (xB t),_,_,rfl,rfl,_,rfl,Zv (λz=>?_) (λz=>?_)⟩⟩
   .have e:Wo d b=some "NotYet" := if_pos z;rw[e] at k;exact⟨aA,_,rfl,.inr ⟨_,rfl,Vc hd⟩,λ_=>k H3 Q⟩
   .exact A H3 ⟨Q,by rw[yU];dsimp only;rw[p];exact if_neg z⟩
 rw[e4,yI] at k;have d:=W.same E;have a:=d.fk.f;refine⟨_,rfl,T,rfl,⟨_,ZD.of (E _ _ l)⟩,?_⟩;refine Vl (B.map V.str) (λi L Y=>∃h:Option V,L=[some (.ref M.p),some (.int b),some (.ref T),some (thV O),some v2,h]/\H=Y/\∀j<i,∀y,B[j]?=some y->V5 S y b=none) ⟨h,rfl,rfl,λj t=>absurd t (by lia)⟩ (λi L Y _ ⟨_,_,e,_⟩=>by rw[<- e];exact ZD.of (E _ _ l)) ?_ ?_
 .rintro i v L Y I ⟨h,rfl,rfl,f⟩;obtain⟨n,rfl,o,hl⟩:=r I;refine⟨_,rfl,M.p,CM,N,_,_,rfl,E _ _ g,Tm.cl,Tm.nf,Ts _,M.L.p,dx,_,rfl,E _ _ ob,Wh _ _ _ _ aA,_,rfl,_,rfl,M.L,S,n,b,rfl,a,hl,hd,?_⟩;cases e:V5 S n b with
  | none=>exact⟨_,rfl,rfl,Di o f e⟩
  | some x =>
   rw[BH o f e] at k;exact k H E
 rintro L Y ⟨h,rfl,rfl,a⟩;rw[u] at a;rw[DJ a] at k;exact k _ E
end
section
variable{C CM:gF}
def wOk(S:List ZK)(day:Int)(f:Str->Int)(n:Str):Prop:=∃d,Zr S n=some d/\d<=day/\A6 (kw S n) day (f n)
inductive WD(C CM:gF)(vs:aG)(H:Hp)(Q:VK)(a:XK):Prop
 |mk(M:ML) (S:List ZK) (e:gB) (J:gC) (m:Mo) (d:gC) (c:gF) (b:fZ) (a:Int) (f:Str->Int)(_:vs=[.ref M.p,.ref c,.int a])(_:ZC C CM H M S e J m d)(_:S.length<=1000)(_:H c=some (.lst (b.map V.str)))(_:b.length<=60)(_:0<=a)(_:a<=9999)(_:(∀n∈b,wOk S a f n))(_:∀(l:gF)(a:aG)(Y:Hp),H l=none->ZA H Y->Y l=some (.lst a)->ZP Y (b.map λn=>(n,f n)) a->Q (.ref l) Y)
abbrev Du:Stmt:=Y1 (top 57) 38
theorem fR:Nm (Zm Du) "day" .cell:=aA
theorem MY:Nm (Zm Du) "self" .cell:=aA
theorem PM(b:ZU K CM "weighed" "Moot.weighed" Du)(e:VD K C)(Tm:ZR K CM)(a:Mt P w K mg Z C "weight" lA 2 (UO C)):Mt P w K mg Z CM "weighed" i3 3 (WD C CM):=by
 refine b.mq i3 λH c Q E b h=>?_;obtain⟨M,S,z,J,m,l,i,d,g,f,rfl,W,j,c,b,o,s,v,k⟩:=h
 refine⟨rfl,_,(Zg (Zw (Vu (locs:=["name"]) (fr:=[("self", 0),("day", 2)]) ⟨rfl,aA,aA,aA,aA,aA⟩ (.ij MY (.ij fR .nil)) rfl (Yz Q3) ⟨λ_ _ _ _ _ _=>by
  have b:(inN ["name"] [("self", 0),("day", 2)]).Nodup:=aA
  exact⟨(Wb 0 b),Uc,(Yj (Za (Yp 0) (Za (Jg (Pi (Wn 1)) e.cl a (Za (Yp 0) (Za (Wn 2) Zb))) Zb)))⟩⟩))),?_⟩
 have a:(60:Nat)<=sizeLine:=by decide
 obtain⟨l,h⟩:=W.ob;obtain⟨m,y⟩:=W.fk.f.ob;refine⟨_,rfl,i,rfl,⟨_,ZD.of c⟩,?_⟩;refine Ui (J:=d.map V.str) (λi b Y=>ZA H Y/\ZP Y ((d.take i).map λn=>(n,f n)) b) ⟨ZA.refl H,rfl⟩ (by rw[xA];lia) (λi b Y _ ⟨e,_⟩=>ZD.of (e _ _ c)) ?_ ?_ ?_
 .rintro i b Y ⟨_,r⟩;rw[r.len,xA,xR];lia
 .rintro i x b Y d ⟨a,r⟩ e c;obtain⟨u,rfl⟩:=Uj c;rw[xC] at d;obtain⟨n,e,rfl⟩:=xL.mp d;obtain⟨d,i,t,u⟩:=v n (xG e);have c:=W.same a;refine⟨⟨[_],rfl,rfl⟩,Z6 ?_⟩;refine⟨_,rfl,_,rfl,M.p,CM,l,_,_,rfl,a _ _ h,Tm.cl,Tm.nf,Ts _,M.L.p,m,_,rfl,a _ _ y,Wh _ _ _ _ aA,_,rfl,_,rfl,M.L,S,z,n,g,d,f n,rfl,c.fk.f,c.fk.w,j,o,s,i,t,u,λd c=>?_⟩;refine⟨aB rfl,λq d=>⟨(a.trans c).trans (ZA.new d),?_⟩⟩;rw[xS,e,xM];exact ZP.snoc (p:=(n,f n)) Zj (ZP.mono (ZA.t (c.trans (ZA.new d))) r)
 .rintro b Y ⟨a,r⟩ l c;rw[xA,xT] at r;exact k l b _ (a.free c) (a.trans (ZA.new c)) Zj (ZP.mono (ZA.t (ZA.new c)) r)
def Uk(m:Mo)(n:Str)(i:Nat):Bool:=match (m.o6[i]?).bind (·.named) with
 | some p=>decide (p.2=n)&&m.ow.getD i false&&decide ((m.pen n).getD 0<=(i:Int))
 | none=>false
def AZ(m:Mo)(k:Nat)(n:Str):Bool:=(List.range k).any (Uk m n)
def Vz(m:Mo)(n:Str):Bool:=AZ m m.o6.length n
theorem Kf(m:Mo)(k:Nat)(n:Str):AZ m (k+1) n=(AZ m k n || Uk m n k):=by
 unfold AZ;rw[List.range_succ,List.any_append];simp
inductive US(C CM:gF)(vs:aG)(H:Hp)(Q:VK)(a:XK):Prop
 |mk(M) (S) (wa) (J) (m) (qs)(_:vs=[.ref M.p])(_:ZC C CM H M S wa J m qs)(_:m.ow.length=m.o6.length)(_:m.o6.length<=60)(_:∀g U Y,H g=none->ZA H Y->Y g=some (.dK U)->(∀n:Str,(Z1 U (.inr n)).isSome=Vz m n)->Q (.ref g) Y)
abbrev Md:Stmt:=Y1 (top 57) 37
theorem Pq(c:ZU K CM "forsworn_names" "Moot.forsworn_names" Md)(T:Txt mg)(Tm:ZR K CM)(b:∃t,mg "NAMED"=some (.int 3 t)):Mt P w K mg Z CM "forsworn_names" lP 1 (US C CM):=by
 obtain⟨d,a⟩:=b;have b:ZG (.int 3) (.int 3 d):=⟨d,rfl⟩;refine c.mq ["self","names","case","suit","oath"] λH d Q E c h=>?_;obtain⟨M,S,g,J,m,f,rfl,W,e,d,k⟩:=h
 refine⟨rfl,_,(Zd (Zx 1 B3) (Zd (Wi mW rfl (KW T.enumerate (Za (Z2 Q0) Zb)) (Bl (by rfl) (Yv (Yi 2) (Yv (Yi 3) Ub)))
 (Zd (Zx 4 (Zh Zi Qb (Yr a b)))
 (Zg (Zq (QW.pt (Wz (Zk TV Qc Y3 (Zn _)) (Wz (Vi (Zh Z7 (Z2 Q0) Qa)) (Vx (Zk Ji Qa (GO c (Z2 Q0) (Zh Zi Qc Zc) Zc) (Zn _)))))) (Zg (Jy c Q3 (Zh Zi Qc Zc) Jf)) Zp))))
 (Zg (Zw Q3)))),?_⟩
 have a:=aC
 obtain⟨O,a⟩:=W.ob;refine λg F=>?_;refine nw (o:=.dK []) F λE A kg=>?_;refine Z9 ?_;have b:=W.same A;obtain⟨j,c,R,u⟩:=(b.ls (M.lt,m.o6.map Wq) (by simp[Mo.at_])).get;obtain⟨N,J,y,v⟩:=(b.ls (M.lv,m.ow.map D.bl) (by simp[Mo.at_])).get;dsimp only at c R u J y v;rw[xA] at u v;obtain⟨pk,p1,d,p3⟩:=b.pn;have f:∀{o:HO}{b:gF},H b=some o->b≠g:=λe z=>by rw[z,F] at e;cases e
 refine⟨_,rfl,M.p,CM,O,_,_,rfl,A _ _ a,Tm.cl,Tm.nt,JY _,M.lt,j,rfl,ZD.of c,?_⟩;refine eI j (λi L Y=>∃(y v v4:Option V)(U:List (ZT×V)),L=[some (.ref M.p),some (.ref g),y,v,v4]/\ZA H Y/\Y g=some (.dK U)/\(∀b o,b≠g->E b=some o->Y b=some o)/\U.length<=i/\∀n:Str,(Z1 U (.inr n)).isSome=AZ m i n) ⟨none,none,none,[],rfl,A,kg,λ_ _ _ e=>e,yP _,λ_=>rfl⟩
  (λi L Y _ ⟨_,_,_,_,_,_,_,G,_,_⟩=>ZD.of (G _ _ (f ((W.ls (M.lt,m.o6.map Wq) (by simp[Mo.at_])).get.choose_spec.1)) c)) ?_ ?_
 .rintro i x p L Y s ⟨a0,a1,a2,U,rfl,d,I,G,hk,B⟩ c;refine nw (o:=.tup [.int i,x]) c λh Sp kp=>?_;have c:i<j.length:=(xI.mp s).1;obtain⟨t,Q⟩:∃t,m.o6[i]?=some t:=⟨_,xB (by lia)⟩;obtain⟨j,r⟩:∃j,m.ow[i]?=some j:=⟨_,xB (by lia)⟩;obtain⟨ta,u1,u2,u4,X,c,_,_,x⟩:=ZN.get (l:=M.lt) R Q;rw[X] at s;cases s;have s:∀b o,b≠g->E b=some o->h b=some o:=λb o n e=>Sp _ _ (G b o n e);have X:∀{b R},E b=some (.tup R)->h b=some (.tup R):=λ{b R} e=>s b _ (λz=>by rw[z,kg] at e;cases e) e;have R:m.ow.getD i false=j:=by rw[yD,r];rfl
  refine⟨p,_,rfl,ZJ.of kp,rfl,_,_,rfl,_,_,rfl,rfl,?_⟩;refine⟨_,rfl,ta,_,3,u4,rfl,rfl,ZJ.of (X c),rfl,?_⟩;have c:(∀n,Uk m n i=false)->∃(y v v4:Option V)(U:List (ZT×V)),[some (V.ref M.p),some (.ref g),some (.int i),some (.ref ta),some u4]= [some (.ref M.p),some (.ref g),y,v,v4]/\ZA H h/\h g=some (.dK U)/\(∀b o,b≠g->E b=some o->h b=some o)/\U.length<=i+1/\∀n:Str,(Z1 U (.inr n)).isSome=AZ m (i+1) n:=λz =>
   ⟨_,_,_,U,rfl,d.trans Sp,Sp _ _ I,s,by lia,λn=>by rw[Kf,z,Bool.or_false];exact B n⟩
  cases E:t.named with
  | none =>
   rw[E] at x;cases x;refine⟨_,rfl,rfl,_,rfl,Z5 (Z5 (c λn=>?_))⟩;unfold Uk;rw[Q,yU,E]
  | some o =>
   rw[E] at x;obtain⟨p,h⟩:=o;obtain⟨b,p,rfl,H,⟨y1,r1,rfl,t,⟨y2,r2,rfl,e2,e3⟩⟩⟩:=x;cases t;cases e2;cases e3;have p:∀n,Uk m n i=(decide (h=n)&&j&&decide ((m.pen n).getD 0<=(i:Int))):=λn=>by unfold Uk;rw[Q,yU,E,R]
   have t:i<N.length:=by rw[v];exact(xI.mp r).1
   obtain⟨e,x,v⟩:=y.get (xB t);rw[xC,r] at x;cases x;have v:N[i]= .bl j:=v;refine⟨_,rfl,rfl,_,rfl,Z6 ?_⟩;refine⟨_,rfl,M.p,CM,O,_,_,rfl,s _ _ (f a) (A _ _ a),Tm.cl,Tm.nv,XD _,_,rfl,M.lv,N,i,.bl j,rfl,rfl,ZD.of (s _ _ (λz=>by rw[z,kg] at J;cases J) J),v▸Yl (xB t),j,rfl,?_⟩;cases j with
   | false=>exact Z5 (Z5 (c λn=>by rw[p,Bool.and_false];rfl))
   | true =>
    refine Z6 ?_;have j:M.dp≠g:=λz=>by obtain⟨r,i,_⟩:=W.pn;rw[z,F] at i;cases i
    have i:=s _ _ j p1;have j:=YF.k (k:=Sum.inr h) i;rw[p3] at j;refine⟨_,rfl,_,rfl,M.p,CM,O,_,_,rfl,s _ _ (f a) (A _ _ a),Tm.cl,Tm.np,Lo _,M.dp,rfl,.inl ⟨pk,.inl i⟩,_,rfl,b,_,1,_,rfl,rfl,ZJ.of (X H),rfl,_,j,?_⟩;have a:(Option.map V.int (m.pen h)).getD (.int 0)= .int ((m.pen h).getD 0):=by cases m.pen h<;>rfl
    rw[a];refine⟨_,_,rfl,rfl,_,rfl,Zv (λz=>?_) (λz=>c λn=>?_)⟩
    .refine⟨_,rfl,_,rfl,b,_,1,_,rfl,rfl,ZJ.of (X H),rfl,g,_,rfl,YV.k (k:=Sum.inr h) (Sp _ _ I) (by lia),?_⟩;refine⟨_,_,_,Z4 U (.inr h) (.bl true),rfl,λb o e=>?_,Zj,λb o n e=>by rw[Zf n];exact s b o n e,xZ (Uh _ _ _) (by lia),λn=>?_⟩
     .rw[Zf (f e)];exact(d.trans Sp) b o e
     .rw[Uw,Kf,p,<- B n]
      by_cases e:n=h
      .subst e;rw[if_pos rfl,yR rfl,yR z];simp
      .grind
    .grind
 .rintro L Y ⟨a0,a1,a2,U,rfl,d,I,G,hk,B⟩;rw[u] at B;exact⟨_,rfl,k g U Y F d I B⟩
end
section
variable{C CM:gF}{c:gB}
abbrev Yg(f:Str->Int)(ns:fZ):Vd:=ns.map λn=>(n,f n)
def Uf(m:Mo)(need:Int)(f:Str->Int)(a b:fZ):Option Str :=
 if 60<=m.o6.length then some "TooMany" else if 12<max a.length b.length then some "TooMany" else (Wf m).or (if FV (a++b)<(a++b).length then some ("SwornTwice":Str) else
  ((a++b).findSome? λn=>if Vz m n=true then some ("Forsworn":Str) else none).or (if (wts (Yg f a)).sum<need then some ("TooLight":Str) else none))
inductive WB(C CM:gF)(c:gB)(vs:aG)(H:Hp)(Q:VK)(E:XK):Prop
 |mk(M) (S) (wa) (J) (m) (qs) (day need) (l1 l2) (o1 o2) (f)(_:vs=[.ref M.p,.int day,.int need,.ref l1,.ref l2])(_:ZC C CM H M S wa J m qs)(_:WS m)(_:S.length<=1000)(_:H l1=some (.lst (o1.map V.str)))(_:H l2=some (.lst (o2.map V.str)))(_:o1.length<=60)(_:o2.length<=60)(_:0<=day)(_:day<=9999)(_:okI need)(_:(∀n∈o1++o2,n.length<=100/\wOk S day f n/\1<=f n/\f n<=1000))(_:∀Y,ZA H Y->due E c Y (Q .non Y) (Uf m need f o1 o2))
abbrev LR:Stmt:=Y1 (top 57) 42
theorem Nr(f:ZU K CM "check_sides" "Moot.check_sides" LR)(T:Txt mg)(Tm:ZR K CM)(n:Er K mg c errs)(a:∃t,mg "MOST_CASES"=some (.int 60 t))(e:∃t,mg "MOST_SWEARERS"=some (.int 12 t))(i:ZX P w K mg Z CM "check_moments" 1 (YM C CM c))(g:Mt P w K mg Z CM "forsworn_names" lP 1 (US C CM))(j:Mt P w K mg Z CM "weighed" i3 3 (WD C CM))(x:Fn P w K mg Z "total" ["side"] 1 UF):ZX P w K mg Z CM "check_sides" 4 (WB C CM c):=by
 obtain⟨b,d⟩:=a;obtain⟨u,a⟩:=e;have e:ZG (.int 60) (.int 60 b):=⟨b,rfl⟩;have b:ZG (.int 12) (.int 12 u):=⟨u,rfl⟩;refine f.mx ["self","day","need","ones","others","barred","name"] ["self","day","need","ones","others"] λH f Q E z h=>?_;obtain⟨M,S,G,J,m,F,s,y,r,v,p,l,f,rfl,W,L,E,t,B,N,A,O,Q,R,I,k⟩:=h
 refine⟨rfl,_,(Zd (Zq (Zk Ji (Z0 Ym T.len Yh (Za (Z2 Q0) Zb)) (Yr d e) (Zn _)) (Zg (Wg Y5 n (Wm (Yu (Y6 (Yr d e) (Yu Wl)))))) Zp) (Zd (Zq (Zk Jo (Z0 (Ed (by rfl)) T.max Ce (Za (Z0 Ym T.len Yh (Za Qb Zb)) (Za (Z0 Ym T.len Yh (Za Qc Zb)) Zb))) (Yr a b) (Zn _)) (Zg (Wg Y5 n (Wm (Yu (Y6 (Yr a b) (Yu Wl)))))) Zp)
 (Zd (Zs (Ab Z3 Q0 Tm.cl i))
 (Zd (Zq (Zk Vj (Mm (by rfl) T.len T.set (Za (Zu Wj Qb Qc) Zb)) (Z0 Ym T.len Yh (Za (Zu Wj Qb Qc) Zb)) (Zn _)) (Zg (Wg Y5 n Zt)) Zp)
 (Zd (Zx 5 (Lq Q0 Tm.cl g))
 (Zd (DH Dp Y5 (by rfl) (Yz (Zu Wj Qb Qc)) (Yi 6)
 (λb a=>(Zg (Zq (Zk (BL z) Qe Qd rfl) (Zg (Wg a n (Wm (Y6 Qe (Yu Wl))))) Zp))))
 (Zg (Zq (Zk Vj (Zl x (Za (Jg Q0 Tm.cl j (Za Qb (Za Q3 Zb))) Zb)) Qa (Zn _)) (Zg (Wg Y5 n (Wm (Yu (Y6 Qa Wl))))) Zp)))))))),?_⟩
 have a:=aC
 obtain⟨A,b⟩:=W.ob;obtain⟨g,u,_,a⟩:=(W.ls (M.lt,m.o6.map Wq) (by simp[Mo.at_])).get;dsimp only at u a;rw[xA] at a;unfold Uf at k;have d:(p.map V.str).length=p.length:=xA ..;have e:(l.map V.str).length=l.length:=xA ..;refine⟨_,rfl,M.p,CM,A,_,_,rfl,b,Tm.cl,Tm.nt,JY _,M.lt,g,rfl,.inl (ZD.of u),_,_,rfl,rfl,_,rfl,Zv (λz=>?_) (λz=>?_)⟩
 .rw[if_pos (by lia)] at k;exact⟨aA,.inr ⟨60,rfl,aA⟩,aA,λ_=>k H (ZA.refl H)⟩
 rw[if_neg (by lia)] at k;refine⟨_,rfl,r,_,rfl,.inl (ZD.of t),_,rfl,v,_,rfl,.inl (ZD.of B),_,_,rfl,?_⟩;have a:(if ((l.map V.str).length:Int) > (p.map V.str).length then ((l.map V.str).length:Int) else (p.map V.str).length)=((max p.length l.length:Nat):Int):=by rw[d,e];split<;>lia
 rw[a];refine⟨_,_,rfl,rfl,_,rfl,Zv (λz=>?_) (λz=>?_)⟩
 .rw[if_pos (by lia)] at k;exact⟨aA,.inr ⟨12,rfl,aA⟩,aA,λ_=>k H (ZA.refl H)⟩
 rw[if_neg (by lia)] at k;refine⟨_,rfl,M.p,A,_,rfl,b,Ys _ aA,M,S,G,J,m,F,rfl,W,?_⟩;cases a:Wf m with
 | some x=>rw[a] at k;exact k H (ZA.refl H)
 | none =>
 rw[a,yI] at k;have j:p.map V.str++l.map V.str=(p++l).map V.str:=xM.symm;refine⟨_,rfl,_,rfl,r,v,_,_,rfl,rfl,t,B,by rw[d,e];lia,λq a=>?_⟩;rw[j];refine nw (o:=.lst ((p++l).map V.str)) a λn h a=>?_;refine⟨q,p++l,rfl,ZD.of a,by rw[xE];lia,?_⟩;refine⟨_,rfl,_,rfl,r,v,_,_,rfl,rfl,h _ _ t,h _ _ B,by rw[d,e];lia,λg i=>?_⟩;rw[j];have a:=h.trans (ZA.new (o:=.lst ((p++l).map V.str)) i);have h:(upd n g (.lst ((p++l).map V.str))) g=some (.lst ((p++l).map V.str)):=Zj;generalize (upd n g (.lst ((p++l).map V.str)))=i at a h |-;refine⟨g,_,rfl,.inl (ZD.of h),_,_,rfl,rfl,_,rfl,Zv (λz=>?_) (λz=>?_)⟩
 .rw[if_pos (by rw[xA] at z;lia)] at k;exact k i a
 rw[if_neg (by rw[xA] at z;lia)] at k;refine⟨_,rfl,M.p,A,_,rfl,a _ _ b,Ys _ aA,M,S,G,J,m,F,rfl,W.same a,L.vl,L.le,λg U n h i kg H=>?_⟩;have h:=a.trans i;refine Z9 ?_;refine⟨_,rfl,_,rfl,r,v,_,_,rfl,rfl,h _ _ t,h _ _ B,by rw[d,e];lia,λe d=>?_⟩;rw[j];have a:=ZA.new (o:=.lst ((p++l).map V.str)) d;have d:=h.trans a;have u:=a _ _ kg;have a:(upd n e (.lst ((p++l).map V.str))) e=some (.lst ((p++l).map V.str)):=Zj;generalize (upd n e (.lst ((p++l).map V.str)))=B at d a u |-;refine⟨e,rfl,⟨_,ZD.of a⟩,?_⟩;refine Vl ((p++l).map V.str) (λi L Y=>∃x:Option V,L=[some (.ref M.p),some (.int s),some (.int y),some (.ref r),some (.ref v),some (.ref g),x]/\B=Y/\∀j<i,∀y,(p++l)[j]?=some y->(if Vz m y=true then some ("Forsworn":Str) else none)=none) ⟨none,rfl,rfl,λj e=>absurd e (by lia)⟩ (λi L Y _ ⟨_,_,e,_⟩=>by rw[<- e];exact ZD.of a) ?_ ?_
 .rintro i v L Y a ⟨x,rfl,rfl,h⟩;rw[xC] at a;obtain⟨n,i,rfl⟩:=xL.mp a;refine⟨_,rfl,_,rfl,g,_,rfl,YF.k (k:=Sum.inr n) u,_,rfl,?_⟩;have a:=H n;cases e:Z1 U (.inr n) with
  | none =>
   rw[e] at a;exact Z5 ⟨_,rfl,rfl,Di i h (if_neg (by rw[<- a];decide))⟩
  | some v =>
   rw[e] at a;rw[BH (f:=λn=>if Vz m n=true then some ("Forsworn":Str) else none) i h (if_pos a.symm)] at k;exact Z6 ⟨_,rfl,.inl ⟨n,rfl,by have:=(I n (xG i)).1;lia⟩,aA,λ_=>k B d⟩
 rintro L Y ⟨x,rfl,rfl,h⟩;rw[xA] at h;rw[DJ (f:=λn=>if Vz m n=true then some ("Forsworn":Str) else none) h,yI] at k
 try dsimp only
 refine⟨_,rfl,M.p,A,_,rfl,d _ _ b,Ys _ aA,_,rfl,_,rfl,M,S,G,J,m,F,r,p,s,f,rfl,W.same d,E,d _ _ t,N,O,Q,λn i=>(I n (yN _ i)).2.1,λl g h i b a e=>?_⟩;refine⟨.ref l,Yg f p,rfl,⟨l,g,rfl,a,e⟩,⟨λp a=>?_,by rw[xA];exact N⟩,λe f=>?_⟩
 .grind
 have a:=(d.trans b).trans f;refine⟨_,rfl,_,_,rfl,rfl,_,rfl,Zv (λz=>?_) (λz=>?_)⟩
 .rw[if_pos z] at k;exact⟨aA,_,rfl,.inr ⟨_,rfl,Vc R⟩,λ_=>k e a⟩
 .rw[if_neg z] at k;exact k e a
end
def J5(M:ML)(S:List ZK)(a:gB)(J qs:gC)(H Y:Hp):Prop:=∀b o,H b=some o->¬mo M S a J qs b->Y b=some o
def VI(M:ML)(S:List ZK)(f:gB)(J qs:gC)(e:ML)(a:List ZK)(d:gB)(xs' c:gC)(H:Hp):Prop:=∀b,mo e a d xs' c b->mo M S f J qs b\/H b=none
theorem VI.iu(f:Bp M.L S wa ds' wa' H):VI M S wa J qs M ds' wa' J qs H:=λb a=>by
 rcases a with z | z | z | z | z
 .exact .inl (.inl z)
 .exact .inl (.inr (.inl z))
 .exact .inl (.inr (.inr (.inl z)))
 .exact .inl (.inr (.inr (.inr (.inl z))))
 .exact(f b z).imp (λz=>.inr (.inr (.inr (.inr z)))) id
theorem FJ:mo M S wa J qs M.ld:=.inr (.inr (.inl (by simp[ML.ls])))
section
variable{C CM:gF}
theorem RV(M:ML):(Wv M).length<1000:=show 9<1000 by decide
def Mo.o7(m:Mo)(day:Int)(t:ZS):Mo:={m with o6:=m.o6 ++ [t],days:=m.days ++ [day],ow:=(Yd [] 0 (m.o6 ++ [t])).1 }
theorem oaV.rep(h:oaV H oa v):YE (fz J H) (AX oa) v:=by
 cases oa with
 | none=>exact h
 | some p=>obtain⟨_,_,a,e,b⟩:=h;exact⟨a,_,e,We b,⟨_,_,rfl,rfl,⟨_,_,rfl,rfl,rfl⟩⟩⟩
theorem oaV.same(h:oaV H oa v)(k:ZA H Y):oaV Y oa v:=by
 cases oa with
 | none=>exact h
 | some p=>obtain⟨b,c,a,e,d⟩:=h;exact⟨b,c,a,e,k _ _ d⟩
theorem ZP.fz(r:ZP H sd us):ZO (fz J H) (sd.map DI) us:=(ZP.mono (λ_ _ e=>We e) r).rep
inductive UP(C CM:gF)(vs:aG)(H:Hp)(Q:VK)(a:XK):Prop
 |mk(M) (S) (wa) (J) (m) (qs) (day need) (l1 l2) (o1 o2) (f) (oa) (v2)(_:vs=[.ref M.p,.int day,.int need,.ref l1,.ref l2,v2])(_:ZC C CM H M S wa J m qs)(_:WS m)(_:m.o6.length<60)(_:S.length<=1000)(_:H l1=some (.lst (o1.map V.str)))(_:H l2=some (.lst (o2.map V.str)))(_:o1.length<=60)(_:o2.length<=60)(_:0<=day)(_:day<=9999)(_:1<=need)(_:need<=12000)(_:(∀n∈o1++o2,wOk S day f n/\1<=f n/\f n<=1000))(_:oaV H oa v2)(_:∀a b c Y,ZC C CM Y (M.iT a) S wa (b::c::J) (m.o7 day ⟨Yg f o1,Yg f o2,need,oa⟩) qs->J5 M S wa J qs H Y->VI M S wa J qs (M.iT a) S wa (b::c::J) qs H->Q (.int m.o6.length) Y)
abbrev Hm:Stmt:=Y1 (top 57) 39
theorem MC(c:ZU K CM "try_case" "Moot.try_case" Hm)(T:Txt mg)(Tm:ZR K CM)(b:Mt P w K mg Z CM "weighed" i3 3 (WD C CM))(i:Fn P w K mg Z "settled" ia 4 VY):Mt P w K mg Z CM "try_case" lD 5 (UP C CM):=by
 refine c.mq lD λH e Q E c h=>?_;obtain⟨M,S,r,J,m,j,g,c,t,z,v,x,f,G,A,rfl,W,ok,s,e,n,u,n1,n2,l,o,e0,e1,p,N,k⟩:=h;refine⟨rfl,_,(Zd (Zs (Y4 aD aE aF Wa (Z2 Q0) (Za (Yj (Za (Jg Q0 Tm.cl b (Za Qb (Za Q3 Zb))) (Za (Jg Q0 Tm.cl b (Za Qc (Za Q3 Zb))) (Za Qa (Za Qd Zb))))) Zb))) (Zd (Zs (Y4 aD aE aF Wa (Z2 Q0) (Za Q3 Zb))) (Zd (Ud Q0 (Zl i (Za (Z2 Q0) Zb))) (Zg (Zw (Zu Vy (Z0 Ym T.len Yh (Za (Z2 Q0) Zb)) Zc)))))),?_⟩;have b:=aC
 obtain⟨h,b⟩:=W.ob;obtain⟨X,I,_,i⟩:=(W.ls (M.lt,m.o6.map Wq) (by simp[Mo.at_])).get;dsimp only at I i;rw[xA] at i;refine⟨_,rfl,M.p,CM,h,_,_,rfl,b,Tm.cl,Tm.nt,JY _,.inl ⟨rfl,_,ZD.of I⟩,?_⟩;refine⟨_,rfl,M.p,h,_,rfl,b,Ys _ aA,_,rfl,_,rfl,M,S,r,J,m,j,t,v,g,f,rfl,W,e,n,n1,l,o,λn i=>(p n (yN _ i)).1,λy Y E B s t R=>?_⟩;refine⟨_,rfl,M.p,h,_,rfl,s _ _ b,Ys _ aA,_,rfl,_,rfl,M,S,r,J,m,j,z,x,g,f,rfl,W.same s,e,s _ _ u,n2,l,o,λn i=>(p n (xK _ i)).1,λu a0 e O b n U=>?_⟩;refine⟨_,rfl,_,rfl,aB rfl,λp e=>?_⟩;refine nw (o:=.tup [.ref y,.ref u,.int c,A]) e λL F k3=>?_;have i:=b.trans F;have h:=s.trans i;have E:∀{b:gF},H b=none->¬mo M S r J j b:=λe z=>by obtain⟨o,A⟩:=W.there z;rw[e] at A;cases A
 have l:H u=none:=s.free O;have s:=((W.same h).freeze (a:=u) (F _ _ n) (λz=>E l (.inr (.inr (.inl z))))).freeze (a:=y) (i _ _ t) (λz=>E B (.inr (.inr (.inl z))));refine⟨M.lt,X,.ref p,rfl,rfl,h _ _ I,by lia,?_⟩;have E:YE (fz (y::u::J) L) (Wq ⟨Yg f v,Yg f x,c,G⟩) (.ref p) :=
  ⟨p,_,rfl,We k3,⟨_,_,rfl,⟨y,Y,rfl,Vq (by simp) (i _ _ t),ZP.fz (ZP.mono (ZA.t i) R)⟩,⟨_,_,rfl,⟨u,a0,rfl,Vq (by simp) (F _ _ n),ZP.fz (ZP.mono (ZA.t F) U)⟩,⟨_,_,rfl,rfl,⟨_,_,rfl,(N.same h).rep,rfl⟩⟩⟩⟩⟩
 have i:=s.trial (h _ _ I) E;have I:J5 M S r J j H (upd L M.lt (.lst (X ++ [.ref p]))):=λb o e s=>by
  rw[Zf (λz:b=M.lt=>s (z ▸ .inr (.inr (.inl (by simp[ML.ls])))))];exact h _ _ e
 generalize (upd L M.lt (.lst (X ++ [.ref p])))=F at i I |-;obtain⟨p,h⟩:=i.ob;obtain⟨t,n,_,E⟩:=(i.ls (M.ly,m.days.map D.int) (by simp[Mo.at_])).get;dsimp only at n E;rw[xA] at E;have E:=ok.dl;refine⟨_,rfl,M.p,CM,p,_,_,rfl,h,Tm.cl,Tm.ny,Kr _,.inl ⟨rfl,_,ZD.of n⟩,_,rfl,M.ly,t,.int g,rfl,rfl,n,by lia,?_⟩;have p:=i.day (d:=g) n rfl;have E:J5 M S r J j H (upd F M.ly (.lst (t ++ [.int g]))):=λb o e s=>by
  rw[Zf (λz:b=M.ly=>s (z ▸ .inr (.inr (.inl (by simp[ML.ls])))))];exact I b o e s
 generalize (upd F M.ly (.lst (t ++ [.int g])))=g at p E |-;obtain⟨h,g⟩:=p.ob;obtain⟨n,F,I,i⟩:=(p.ls (M.lt,(m.o6 ++ [(⟨Yg f v,Yg f x,c,G⟩:ZS)]).map Wq) (by simp[Mo.at_])).get;dsimp only at F I i;rw[xA,xE,zP] at i;have i:∀t∈m.o6 ++ [(⟨Yg f v,Yg f x,c,G⟩:ZS)],Tp t:=λt L=>by
  rcases xJ.mp L with z | z
  .exact ok.ok t z
  .rw[xP.mp z];refine⟨⟨λq t=>?_,by show (v.map _).length<=60;rw[xA];exact n1⟩,⟨λq t=>?_,by show (x.map _).length<=60;rw[xA];exact n2⟩,e0,e1⟩
   .grind
   .grind
 refine⟨_,rfl,M.p,CM,h,_,_,rfl,g,Tm.cl,Tm.nt,JY _,M.lt,_,rfl,⟨n,F,I⟩,i,by rw[xE,zP];lia,λg I h F L=>?_⟩;have N:=p.same L;obtain⟨n,i⟩:=N.ob;refine⟨_,rfl,M.p,CM,n,_,rfl,i,Tm.cl,Tm.nv,RV _,?_⟩;rw[dO];have t:=N.iT i F (λz=>by obtain⟨o,e⟩:=p.there z;rw[h] at e;cases e);have N:J5 M S r J j H (upd I M.p (.ins CM n (Wv (M.iT g)))):=λb o e s=>by
  rw[Zf (λz:b=M.p=>s (.inl z))];exact L _ _ (E b o e s)
 generalize (upd I M.p (.ins CM n (Wv (M.iT g))))=I at t N |-;obtain⟨n,i⟩:=t.ob;obtain⟨F,L,_,s⟩:=(t.ls ((M.iT g).lt,(m.o6 ++ [(⟨Yg f v,Yg f x,c,G⟩:ZS)]).map Wq) (by simp[Mo.at_])).get;dsimp only at L s;rw[xA,xE,zP] at s;refine⟨_,rfl,M.p,CM,n,_,_,rfl,i,Tm.cl,Tm.nt,JY _,M.lt,F,rfl,.inl (ZD.of L),_,_,rfl,rfl,?_⟩;rw[s];show Q (.int (((m.o6.length+1:Nat):Int) - 1)) I;rw[show (((m.o6.length+1:Nat):Int) - 1)=(m.o6.length:Int) by lia];refine k g y u I t N λb f=>?_;have c:H g=none:=by
  cases e:H g with
  | none=>rfl
  | some o =>
   by_cases z:mo M S r J j g
   .have i:mo M S r (y::u::J) j g:=by
     rcases z with z | z | z | z | z
     .exact .inl z
     .exact .inr (.inl z)
     .exact .inr (.inr (.inl z))
     .exact .inr (.inr (.inr (.inl (xO _ (xO _ z)))))
     .exact .inr (.inr (.inr (.inr z)))
    obtain⟨k,A⟩:=p.there i;rw[h] at A;cases A
   .rw[E g o e z] at h;cases h
 rcases f with z | z | z | z | z
 .exact .inl (.inl z)
 .exact .inl (.inr (.inl z))
 .simp only[ML.ls,ML.iT,xD,xJ,xV,or_false] at z;have e:b∈M.lh::(M.ls++j)\/b=g:=by
   simp only[ML.ls,xD,xJ,xV,or_false];rcases z with z | (z | z | z | z | z | z) | z<;>simp[z]
  exact e.elim (λz=>.inl (.inr (.inr (.inl z)))) (λz=>.inr (z▸c))
 .rcases xD.mp z with z | z
  .exact .inr (z▸B)
  .rcases xD.mp z with z | z
   .exact .inr (z▸l)
   .exact .inl (.inr (.inr (.inr (.inl z))))
 .exact .inl (.inr (.inr (.inr (.inr z))))
end
section
variable{C CM:gF}{c:gB}
def ZZ(O:gF->Prop)(H:Hp)(a:gF->Prop)(Y:Hp):Prop:=(∀b o,H b=some o->¬O b->Y b=some o)/\∀b,a b->O b\/H b=none
theorem ZZ.trans(a:ZZ O H O1 H1)(b:ZZ O1 H1 O2 H2):ZZ O H O2 H2:=by
 refine⟨λx o e n=>b.1 x o (a.1 x o e n) λz=>(a.2 x z).elim n (λy=>by rw[e] at y;cases y),λx d=>?_⟩;rcases b.2 x d with z | z
 .exact a.2 x z
 .by_cases y:O x
  .exact .inl y
  .refine .inr ?_;cases e:H x with
   | none=>rfl
   | some o=>rw[a.1 x o e y] at z;cases z
theorem ZZ.same(s:ZA H Y):ZZ O H O Y:=⟨λb o e _=>s b o e,λb a=>.inl a⟩
def YD(C CM:gF)(H:Hp)(p:gF)(S:List ZK)(m:Mo)(O:gF->Prop):Prop:=∃M b J a,M.p=p/\ZC C CM H M S b J m a/\O=mo M S b J a
theorem YD.same(h:YD C CM H p S m O)(k:ZA H Y):YD C CM Y p S m O:=let ⟨M,b,J,a,e,W,o⟩:=h;⟨M,b,J,a,e,W.same k,o⟩
def dueM(E:XK)(c:gB)(H:Hp)(k:Prop):Option Str->Prop
 | none=>k
 | some x=>∀Y,ZA H Y->E (.ref (c x)) none Y
theorem dueM.cut(k:dueM E c H Q (a.or b))(S:ZA H Y)(f:a=none->dueM E c H Q b->R):due E c Y R a:=by cases a with
 | none=>exact f rfl k
 | some x=>exact k Y S
theorem dueM.last(k:dueM E c H Q a)(S:ZA H Y)(f:a=none->Q->R):due E c Y R a:=by cases a with
 | none=>exact f rfl k
 | some x=>exact k Y S
def KC:V->Bool
 | .str _ | .int _=>true
 | _=>false
def Mh:V->D
 | .str x=>.str x
 | .int i=>.int i
 | _=>.non
theorem HV:∀us:List V,us.all KC=true->ZO X (us.map Mh) us
 | [],_=>rfl
 | x::us,h=>by
  rw[List.all_cons,yO] at h;refine⟨_,_,rfl,?_,HV us h.2⟩;cases x<;>first | rfl | cases h.1
theorem Jp(h:Vr S m day ps th oa=none):(∀n∈ps,∃d,Zr S n=some d/\d<=day)/\(∀i,th=some i->Jj m i=none)/\∀i n,oa=some (i,n)->Wy m.o6 i n=none:=by
 unfold Vr at h;simp only[xY] at h;obtain⟨b,a,j,f,_⟩:=h;rw[wA] at b f;refine⟨λn g=>?_,λi e=>by subst e;exact a,λi n e=>by subst e;exact j⟩;have a:=b n g;have b:=f n g;unfold Wt at a;unfold Wo at b;cases e:Zr S n with
 | none=>rw[if_pos e] at a;cases a
 | some d =>
  refine⟨d,rfl,?_⟩;rw[e,mY] at b
  by_cases z:day<d
  .rw[if_pos z] at b;cases b
  .lia
theorem Jc(H:Hp):∀o:List Str,ZO H (o.map D.str) (o.map V.str)
 | []=>rfl
 | x::o=>⟨_,_,rfl,rfl,Jc H o⟩
structure Aq (S:List ZK) (m:Mo) (H:Hp) (l1 l2:gF) (o1 o2:fZ) (day need:Int) (f:Str->Int):Prop where
 ok:WS m
 hd:S.length<=1000
 h1:H l1=some (.lst (o1.map V.str))
 h2:H l2=some (.lst (o2.map V.str))
 n1:o1.length<=60
 n2:o2.length<=60
 di:okI day
 ni:okI need
 hw:∀n∈o1++o2,n.length<=100/\∀d,Zr S n=some d->d<=day->A6 (kw S n) day (f n)/\1<=f n/\f n<=1000
theorem Aq.all(a:Aq S m H l1 l2 o1 o2 day need f)(h:∀n∈o1++o2,∃d,Zr S n=some d/\d<=day):∀n∈o1++o2,n.length<=100/\wOk S day f n/\1<=f n/\f n<=1000:=λn b=>by
 obtain⟨d,e,g⟩:=h n b;obtain⟨x,y,z⟩:=(a.hw n b).2 d e g;exact⟨(a.hw n b).1,⟨d,e,g,x⟩,y,z⟩
theorem JM(h:Wf m=none):m.ip.length<400:=by
 unfold Wf at h
 by_cases z:m.ip.length<400
 .exact z
 .rw[if_neg z] at h;cases h
theorem J7(h:Uf m need f o1 o2=none):m.o6.length<60/\m.ip.length<400:=by
 unfold Uf at h
 by_cases z:60<=m.o6.length
 .rw[if_pos z] at h;cases h
 .rw[if_neg z] at h
  by_cases y:12<max o1.length o2.length
  .rw[if_pos y] at h;cases h
  .rw[if_neg y,xY] at h;exact⟨by lia,JM h.1⟩
theorem Oc(h:mo M S wa (a::a2::J) qs b):mo M S wa J qs b\/b=a\/b=a2:=by
 rcases h with z | z | z | z | z
 .exact .inl (.inl z)
 .exact .inl (.inr (.inl z))
 .exact .inl (.inr (.inr (.inl z)))
 .rcases xD.mp z with z | z
  .exact .inr (.inl z)
  .rcases xD.mp z with z | z
   .exact .inr (.inr z)
   .exact .inl (.inr (.inr (.inr (.inl z))))
 .exact .inl (.inr (.inr (.inr (.inr z))))
theorem ZC.il(W:ZC C CM H M S wa J m qs)(a:ZA H Y)(h:H b=none)(i:H a2=none)(k1:Y b=some (.lst u1))(k2:Y a2=some (.lst u2))(e:H M.ld=some (.lst vs))(j:YE (fz (b::a2::J) Y) d v) :
  ZC C CM (upd Y M.ld (.lst (vs ++ [v]))) M S wa (b::a2::J) {m with ip:=m.ip ++ [d] } qs/\ZZ (mo M S wa J qs) H (mo M S wa (b::a2::J) qs) (upd Y M.ld (.lst (vs ++ [v]))):=by
 have f:∀{b:gF},H b=none->b∉M.lh::(M.ls++qs):=λe z=>by obtain⟨k,g⟩:=W.lst z;rw[e] at g;cases g
 refine⟨(((W.same a).freeze k2 (f i)).freeze k1 (f h)).deed (a _ _ e) j,λb o f j=>?_,λb g=>?_⟩
 .rw[Zf (λz:b=M.ld=>j (z▸FJ))];exact a _ _ f
 .rcases Oc g with z | z | z
  .exact .inl z
  .exact .inr (z▸h)
  .exact .inr (z▸i)
theorem ZC.tell(W:ZC C CM H M S wa J m qs)(e:H M.ld=some (.lst vs))(b:H p=none)(hs:us.all KC=true:=by rfl) :
  (upd H p (.tup us)) M.ld=some (.lst vs)/\ZC C CM (upd (upd H p (.tup us)) M.ld (.lst (vs ++ [.ref p]))) M S wa J {m with ip:=m.ip ++ [.tup (us.map Mh)] } qs/\ZZ (mo M S wa J qs) H (mo M S wa J qs) (upd (upd H p (.tup us)) M.ld (.lst (vs ++ [.ref p]))):=by
 have a:=ZA.new (o:=.tup us) b;have b:=a _ _ e;refine⟨b,(W.same a).deed b ⟨p,us,rfl,We Zj,HV us hs⟩,λb o d g=>?_,λ_ f=>.inl f⟩;rw[Zf (λz:b=M.ld=>g (z▸FJ))];exact a _ _ d
theorem ZZ.iu(t:WQ M.L S wa H Y)(f:Bp M.L S wa ds' wa' H):ZZ (mo M S wa J qs) H (mo M ds' wa' J qs) Y :=
 ⟨λb o e a=>t b o e λz=>a (.inr (.inr (.inr (.inr z)))),λb a=>VI.iu (J:=J) (qs:=qs) f b a⟩
def clD(x:Str)(i day need:Int)(a b:fZ):D:=.tup [.str "claim", .str x,.int i,.int day,.int need,.lst (a.map D.str),.lst (b.map D.str)]
def Mo.won(m:Mo)(x:Str)(i:Nat)(day need:Int)(f:Str->Int)(a b:fZ):Mo :=
 {m.o7 day ⟨Yg f a,Yg f b,need,none⟩ with iB:=m.iB.set i (m.iB.getD i [] ++ [.tup [.int m.o6.length,.tup [.int day,.str "won", .non,.str x]]]),ip:=m.ip ++ [clD x i day need a b] }
def Ax(S:List ZK)(m:Mo)(x:Str)(i day need:Int)(f:Str->Int)(a b:fZ):Option Str:=(eM 0 9999 day).or ((eM 1 12000 need).or ((Vr S m day ([x]++a++b) (some i) none).or (Uf m need f a b)))
inductive VP(C CM:gF)(c:gB)(vs:aG)(H:Hp)(Q:VK)(E:XK):Prop
 |mk(p) (S) (m) (O) (x) (i day need) (l1 l2) (o1 o2) (f)(_:vs=[.ref p,.str x,.int i,.int day,.int need,.ref l1,.ref l2])(_:YD C CM H p S m O)(_:Aq S m H l1 l2 o1 o2 day need f)(_:¬O l1)(_:¬O l2)(_:x.length<=100)(_:okI i)(_:dueM E c H (∀a Y,YD C CM Y p S (m.won x i.toNat day need f o1 o2) a->ZZ O H a Y->Q (.int m.o6.length) Y) (Ax S m x i day need f o1 o2))
abbrev Gx:Stmt:=Y1 (top 57) 8
theorem MZ(a:ZU K CM "claim" "Moot.claim" Gx)(T:Txt mg)(Tm:ZR K CM)(n:YU P w K mg Z "check_day" 1 (VC 0 9999 c))(j:YU P w K mg Z "check_need" 1 (VC 1 12000 c))(b:ZX P w K mg Z CM "check_named" 3 (YH C CM c))(e:ZX P w K mg Z CM "check_sides" 4 (WB C CM c))(g:Mt P w K mg Z CM "try_case" lD 5 (UP C CM)):ZX P w K mg Z CM "claim" 6 (VP C CM c):=by
 refine a.mx ["self","claimer","thing","day","need","ones","others","case"] ["self","claimer","thing","day","need","ones","others"] λH X Q E a h=>?_;obtain⟨_,S,m,_,x,i,p,r,y,A,s,t,f,rfl,⟨M,u,J,l,rfl,W,rfl⟩,a,w1,w2,o,hi,k⟩:=h;refine⟨rfl,_,(Zd (Zs (Ws Z3 n (Za Qb Zb))) (Zd (Zs (Ws Z3 j (Za Qc Zb))) (Zd (Zs (Yn Z3 Q0 Tm.cl b (Za Qb (Za (Zu Wj (Zu Wj (Yb (Za Q3 Zb)) Qd) Qe) (Za Qa (Za Y3 Zb)))))) (Zd (Zs (Yn Z3 Q0 Tm.cl e (Za Qb (Za Qc (Za Qd (Za Qe Zb)))))) (Zd (Zx 7 (Jg Q0 Tm.cl g (Za Qb (Za Qc (Za Qd (Za Qe (Za Y3 Zb))))))) (Zd (Zs (Y4 aD aE aF Wa (Zh Z7 (Z2 Q0) Qa) (Za (Yj (Za Qf (Za (Yj (Za Qb (Za Zt (Za Y3 (Za Q3 Zb))))) Zb))) Zb))) (Zd (Zs (Y4 aD aE aF Wa (Z2 Q0) (Za (Yj (Za Zt (Za Q3 (Za Qa (Za Qb (Za Qc (Za (Jm JZ T.list Uy (Za Qd Zb)) (Za (Jm JZ T.list Uy (Za Qe Zb)) Zb)))))))) Zb))) (Zg (Zw Qf))))))))),?_⟩;have b:=aC
 obtain⟨I,g⟩:=W.ob;have ⟨B,o,E,F,Q,R,O,U,b⟩:=a;have z:(s.map V.str).length=s.length:=xA ..;have G:(t.map V.str).length=t.length:=xA ..;unfold Ax at k;refine⟨_,rfl,p,rfl,O,dueM.cut k (ZA.refl H) λb k=>?_⟩;obtain⟨L,N⟩:=Vo b;refine⟨_,rfl,r,rfl,U,dueM.cut k (ZA.refl H) λY k=>?_⟩;refine⟨_,rfl,M.p,I,_,rfl,g,Ys _ aA,_,rfl,_,rfl,aB rfl,λe b=>?_⟩;refine nw (o:=.lst [.str x]) b λj n b=>?_;refine⟨_,rfl,e,y,_,_,rfl,rfl,b,n _ _ E,by rw[z];show 1+_<=_;lia,λb h=>?_⟩;have e:=n.trans (ZA.new (o:=.lst ([.str x]++s.map V.str)) h);have h:(upd j b (.lst ([.str x]++s.map V.str))) b=some (.lst ([.str x]++s.map V.str)):=Zj;generalize (upd j b (.lst ([.str x]++s.map V.str)))=j at e h |-;refine⟨_,rfl,b,A,_,_,rfl,rfl,h,e _ _ F,by rw[xE,z,G];show 1+_+_<=_;lia,λb h=>?_⟩;have G:=e.trans (ZA.new (o:=.lst ([.str x]++s.map V.str++t.map V.str)) h);have e:(upd j b (.lst ([.str x]++s.map V.str++t.map V.str))) b=some (.lst (([x]++s++t).map V.str)):=by rw[Zj,xM,xM];rfl
 generalize (upd j b (.lst ([.str x]++s.map V.str++t.map V.str)))=h at G e |-;refine⟨_,rfl,M,S,u,J,m,l,p,b,[x]++s++t,some i,none,.non,rfl,W.same G,B,e,λn z=>?_,O,λj e=>by cases e;exact hi,rfl,λh b=>?_⟩
 .grind
 have h:=G.trans b;refine dueM.cut k h λb k=>?_;obtain⟨G,p2,_⟩:=Jp b;have b:=a.all λn z=>G n (by rw[yT];exact xK _ z);refine⟨_,rfl,M.p,I,_,rfl,h _ _ g,Ys _ aA,_,rfl,_,rfl,_,rfl,_,rfl,M,S,u,J,m,l,p,r,y,A,s,t,f,rfl,W.same h,B,o,h _ _ E,h _ _ F,Q,R,L,N,U,b,λa G=>?_⟩;have a:=h.trans G;refine dueM.last k a λh k=>?_;obtain⟨G,O⟩:=Vo Y;have U:=(J7 h).2;refine⟨_,rfl,M.p,I,_,rfl,a _ _ g,Ys _ aA,_,rfl,_,rfl,_,rfl,_,rfl,M,S,u,J,m,l,p,r,y,A,s,t,f,none,.non,rfl,W.same a,B,(J7 h).1,o,a _ _ E,a _ _ F,Q,R,L,N,G,O,λn z=>(b n z).2,rfl,λI O Q g f h b=>?_⟩;have R:ZZ (mo M S u J l) H (mo (M.iT I) S u (O::Q::J) l) g:=(ZZ.same a).trans ⟨h,b⟩;refine Z9 ?_;have a:inB i m.ib.length:=by
  have:=p2 i rfl;unfold Jj at this
  by_cases z:inB i m.ib.length
  .exact z
  .rw[if_neg z] at this;cases this
 obtain⟨j,rfl⟩:=yC a.1;have b:j<m.iB.length:=by rw[B.hb];have:=a.2;lia
 have h:j<l.length:=by rw[f.hn];exact b
 have i:l[j]?=some l[j]:=xB h;have a:m.iB[j]?=some (m.iB.getD j []):=by rw[yD,xB b];rfl
 have b:=B.hl _ (xG a);rw[yH] at k;unfold Mo.won at k;generalize m.iB.getD j []=g at a b k;have n:(l[j],g)∈l.zip m.iB:=xG (i:=j) (by rw[zC];exact⟨i,a⟩);obtain⟨L,B,_,b⟩:=(f.ls (l[j],g) (by simp[Mo.at_,Mo.o7,n])).get;dsimp only at B b;obtain⟨g,b⟩:=f.ob;refine⟨_,rfl,M.p,CM,g,_,_,rfl,b,Tm.cl,Tm.nh,Ej _,_,rfl,M.lh,_,j,.ref l[j],rfl,rfl,ZD.of f.hl,Yl (by rw[xC,i];rfl),.inl ⟨rfl,_,ZD.of B⟩,_,rfl,_,rfl,_,rfl,aB rfl,λb G=>?_⟩;refine nw (o:=.tup [.int p,.str "won", .non,.str x]) G λg o Y=>?_;refine⟨aB rfl,λg n=>?_⟩;refine nw (o:=.tup [.int m.o6.length,.ref b]) n λN n k8=>?_;have U:=f.same (o.trans n);have f:=n _ _ (o _ _ B);refine⟨l[j],L,.ref g,rfl,rfl,f,by lia,?_⟩;have B:=U.hap i a (d:=.tup [.int m.o6.length,.tup [.int p,.str "won", .non,.str x]]) (v:=.ref g) f ⟨g,_,rfl,We k8,⟨_,_,rfl,rfl,⟨_,_,rfl,⟨b,_,rfl,We (n _ _ Y),⟨_,_,rfl,rfl,⟨_,_,rfl,rfl,⟨_,_,rfl,rfl,⟨_,_,rfl,rfl,rfl⟩⟩⟩⟩⟩,rfl⟩⟩⟩
 have i:ZZ (mo M S u J l) H (mo (M.iT I) S u (O::Q::J) l) (upd N l[j] (.lst (L ++ [.ref g]))):=(R.trans (ZZ.same (o.trans n))).trans ⟨λb o e a=>by
  rw[Zf (λz:b=l[j]=>a (z ▸ .inr (.inr (.inl (xO _ (xK _ (zN h)))))))];exact e,λ_ G=>.inl G⟩
 generalize (upd N l[j] (.lst (L ++ [.ref g])))=a at B i |-;obtain⟨b,a⟩:=B.ob;obtain⟨X,h,_,e⟩:=(B.ls (M.ld,m.ip) (by simp[Mo.at_,Mo.o7,ML.iT])).get;dsimp only at h e;have e:=i.1 y _ E w1;have f:=i.1 A _ F w2;refine⟨_,rfl,M.p,CM,b,_,_,rfl,a,Tm.cl,Tm.nd,Tg _,.inl ⟨rfl,_,ZD.of h⟩,_,rfl,_,rfl,_,rfl,_,rfl,_,rfl,y,_,rfl,.inl (ZD.of e),λy b=>?_⟩;refine nw (o:=.lst (s.map V.str)) b λa n o=>?_;refine⟨_,rfl,A,_,rfl,.inl (ZD.of (n _ _ f)),λz e=>?_⟩;refine nw (o:=.lst (t.map V.str)) e λa g A=>?_;refine⟨aB rfl,λq a=>?_⟩;refine nw (o:=.tup [.str "claim", .str x,.int j,.int p,.int r,.ref y,.ref z]) a λa m E=>?_;have a:=(n.trans g).trans m;refine⟨M.ld,X,.ref q,rfl,rfl,a _ _ h,by lia,?_⟩;have f:=m _ _ (g _ _ o);have g:=m _ _ A;obtain⟨o,m⟩:=B.il a b (n.free e) f g h (d:=clD x j p r s t) (v:=.ref q)
  ⟨q,_,rfl,We E,⟨_,_,rfl,rfl,⟨_,_,rfl,rfl,⟨_,_,rfl,rfl,⟨_,_,rfl,rfl,⟨_,_,rfl,rfl,⟨_,_,rfl,⟨y,_,rfl,Vq (by simp) f,Jc _ _⟩,⟨_,_,rfl,⟨z,_,rfl,Vq (by simp) g,Jc _ _⟩,rfl⟩⟩⟩⟩⟩⟩⟩⟩
 exact⟨_,rfl,k _ _ ⟨M.iT I,u,_,l,rfl,o,rfl⟩ (i.trans m)⟩
def weD(x y:Str)(a day need:Int)(b d:fZ):D:=.tup [.str "wergild", .str x,.str y,.int a,.int day,.int need,.lst (b.map D.str),.lst (d.map D.str)]
def Mo.owes(m:Mo)(x y:Str)(a day need:Int)(f:Str->Int)(b d:fZ):Mo :=
 {m.o7 day ⟨Yg f b,Yg f d,need,none⟩ with ik:=m.ik ++ [.tup [.int m.o6.length,.tup [.int day,.str y,.str x,.int a]]],ip:=m.ip ++ [weD x y a day need b d] }
def JR(S:List ZK)(m:Mo)(x y:Str)(a day need:Int)(f:Str->Int)(b d:fZ):Option Str:=(eM 1 1000000 a).or ((eM 0 9999 day).or ((eM 1 12000 need).or ((Vr S m day ([x,y]++b++d) none none).or (Uf m need f b d))))
inductive TY(C CM:gF)(c:gB)(vs:aG)(H:Hp)(Q:VK)(E:XK):Prop
 |mk(p) (S) (m) (O) (x y) (many day need) (l1 l2) (o1 o2) (f)(_:vs=[.ref p,.str x,.str y,.int many,.int day,.int need,.ref l1,.ref l2])(_:YD C CM H p S m O)(_:Aq S m H l1 l2 o1 o2 day need f)(_:¬O l1)(_:¬O l2)(_:x.length<=100)(_:y.length<=100)(_:okI many)(_:dueM E c H (∀a Y,YD C CM Y p S (m.owes x y many day need f o1 o2) a->ZZ O H a Y->Q (.int m.o6.length) Y) (JR S m x y many day need f o1 o2))
abbrev IB:Stmt:=Y1 (top 57) 9
theorem Qv(a:ZU K CM "wergild" "Moot.wergild" IB)(T:Txt mg)(Tm:ZR K CM)(n:YU P w K mg Z "check_money" 1 (VC 1 1000000 c))(o:YU P w K mg Z "check_day" 1 (VC 0 9999 c))(j:YU P w K mg Z "check_need" 1 (VC 1 12000 c))(b:ZX P w K mg Z CM "check_named" 3 (YH C CM c))(e:ZX P w K mg Z CM "check_sides" 4 (WB C CM c))(g:Mt P w K mg Z CM "try_case" lD 5 (UP C CM)):ZX P w K mg Z CM "wergild" 6 (TY C CM c):=by
 refine a.mx ["self","claimer","answerer","many","day","need","ones","others","case"] ["self","claimer","answerer","many","day","need","ones","others"] λH Y Q E a h=>?_;obtain⟨_,S,m,_,x,y,l,i,p,A,B,r,s,f,rfl,⟨M,u,J,t,rfl,W,rfl⟩,a,w1,w2,E,F,z,k⟩:=h;refine⟨rfl,_,(Zd (Zs (Ws Z3 n (Za Qb Zb))) (Zd (Zs (Ws Z3 o (Za Qc Zb))) (Zd (Zs (Ws Z3 j (Za Qd Zb))) (Zd (Zs (Yn Z3 Q0 Tm.cl b (Za Qc (Za (Zu Wj (Zu Wj (Yb (Za Q3 (Za Qa Zb))) Qe) Qf) (Za Y3 (Za Y3 Zb)))))) (Zd (Zs (Yn Z3 Q0 Tm.cl e (Za Qc (Za Qd (Za Qe (Za Qf Zb)))))) (Zd (Zx 8 (Jg Q0 Tm.cl g (Za Qc (Za Qd (Za Qe (Za Qf (Za Y3 Zb))))))) (Zd (Zs (Y4 aD aE aF Wa (Z2 Q0) (Za (Yj (Za Qg (Za (Yj (Za Qc (Za Qa (Za Q3 (Za Qb Zb))))) Zb))) Zb))) (Zd (Zs (Y4 aD aE aF Wa (Z2 Q0) (Za (Yj (Za Zt (Za Q3 (Za Qa (Za Qb (Za Qc (Za Qd (Za (Jm JZ T.list Uy (Za Qe Zb)) (Za (Jm JZ T.list Uy (Za Qf Zb)) Zb))))))))) Zb))) (Zg (Zw Qg)))))))))),?_⟩;have b:=aC
 obtain⟨L,g⟩:=W.ob;have ⟨I,o,E,F,R,U,Q,X,b⟩:=a;have G:(r.map V.str).length=r.length:=xA ..;have e2:(s.map V.str).length=s.length:=xA ..;unfold JR at k;refine⟨_,rfl,l,rfl,z,dueM.cut k (ZA.refl H) λb k=>?_⟩;refine⟨_,rfl,i,rfl,Q,dueM.cut k (ZA.refl H) λb k=>?_⟩;obtain⟨N,O⟩:=Vo b;refine⟨_,rfl,p,rfl,X,dueM.cut k (ZA.refl H) λen k=>?_⟩;refine⟨_,rfl,M.p,L,_,rfl,g,Ys _ aA,_,rfl,_,rfl,_,rfl,aB rfl,λe b=>?_⟩;refine nw (o:=.lst [.str x,.str y]) b λj n b=>?_;refine⟨_,rfl,e,A,_,_,rfl,rfl,b,n _ _ E,by rw[G];show 2+_<=_;lia,λb h=>?_⟩;have e:=n.trans (ZA.new (o:=.lst ([.str x,.str y]++r.map V.str)) h);have h:(upd j b (.lst ([.str x,.str y]++r.map V.str))) b=some (.lst ([.str x,.str y]++r.map V.str)):=Zj;generalize (upd j b (.lst ([.str x,.str y]++r.map V.str)))=j at e h |-;refine⟨_,rfl,b,B,_,_,rfl,rfl,h,e _ _ F,by rw[xE,G,e2];show 2+_+_<=_;lia,λb h=>?_⟩;have G:=e.trans (ZA.new (o:=.lst ([.str x,.str y]++r.map V.str++s.map V.str)) h);have e:(upd j b (.lst ([.str x,.str y]++r.map V.str++s.map V.str))) b=some (.lst (([x,y]++r++s).map V.str)):=by rw[Zj,xM,xM];rfl
 generalize (upd j b (.lst ([.str x,.str y]++r.map V.str++s.map V.str)))=h at G e |-;refine⟨M,S,u,J,m,t,i,b,[x,y]++r++s,none,none,.non,rfl,W.same G,I,e,λn z=>?_,Q,(λj e=>nomatch e),rfl,λh b=>?_⟩
 .grind
 have h:=G.trans b;refine dueM.cut k h λb k=>?_;obtain⟨j,_⟩:=Jp b;have b:=a.all λn z=>j n (by rw[yT];exact xK _ z);refine⟨_,rfl,M.p,L,_,rfl,h _ _ g,Ys _ aA,_,rfl,_,rfl,_,rfl,_,rfl,M,S,u,J,m,t,i,p,A,B,r,s,f,rfl,W.same h,I,o,h _ _ E,h _ _ F,R,U,N,O,X,b,λa j=>?_⟩;have a:=h.trans j;refine dueM.last k a λh k=>?_;obtain⟨j,G⟩:=Vo en;have Q:=(J7 h).2;refine⟨_,rfl,M.p,L,_,rfl,a _ _ g,Ys _ aA,_,rfl,_,rfl,_,rfl,_,rfl,M,S,u,J,m,t,i,p,A,B,r,s,f,none,.non,rfl,W.same a,I,(J7 h).1,o,a _ _ E,a _ _ F,R,U,N,O,j,G,λn z=>(b n z).2,rfl,λG z L f h g b=>?_⟩;have N:ZZ (mo M S u J t) H (mo (M.iT G) S u (z::L::J) t) f:=(ZZ.same a).trans ⟨g,b⟩;refine Z9 ?_;unfold Mo.owes at k;obtain⟨g,j,_,a⟩:=(h.ls (M.lq,m.ik) (by simp[Mo.at_,Mo.o7,ML.iT])).get;dsimp only at j a;have a:=I.ql;obtain⟨b,a⟩:=h.ob;refine⟨_,rfl,M.p,CM,b,_,_,rfl,a,Tm.cl,Tm.nq,Ic _,.inl ⟨rfl,_,ZD.of j⟩,_,rfl,_,rfl,_,rfl,_,rfl,_,rfl,aB rfl,λb I=>?_⟩;refine nw (o:=.tup [.int i,.str y,.str x,.int l]) I λa o Q=>?_;refine⟨aB rfl,λa f=>?_⟩;refine nw (o:=.tup [.int m.o6.length,.ref b]) f λn f R=>?_;have O:=h.same (o.trans f);have h:=f _ _ (o _ _ j);refine⟨M.lq,g,.ref a,rfl,rfl,h,by lia,?_⟩;have j:ZC C CM (upd n M.lq (.lst (g ++ [.ref a]))) (M.iT G) S u (z::L::J) _ t:=O.debt (d:=.tup [.int m.o6.length,.tup [.int i,.str y,.str x,.int l]]) (v:=.ref a) h ⟨a,_,rfl,We R,⟨_,_,rfl,rfl,⟨_,_,rfl,⟨b,_,rfl,We (f _ _ Q),⟨_,_,rfl,rfl,⟨_,_,rfl,rfl,⟨_,_,rfl,rfl,⟨_,_,rfl,rfl,rfl⟩⟩⟩⟩⟩,rfl⟩⟩⟩
 have h:ZZ (mo M S u J t) H (mo (M.iT G) S u (z::L::J) t) (upd n M.lq (.lst (g ++ [.ref a]))):=(N.trans (ZZ.same (o.trans f))).trans ⟨λb o e f=>by
  rw[Zf (λz:b=M.lq=>f (z ▸ .inr (.inr (.inl (by simp[ML.ls,ML.iT])))))];exact e,λ_ I=>.inl I⟩
 generalize (upd n M.lq (.lst (g ++ [.ref a])))=a at j h |-;obtain⟨b,a⟩:=j.ob;obtain⟨Y,n,_,e⟩:=(j.ls (M.ld,m.ip) (by simp[Mo.at_,Mo.o7,ML.iT])).get;dsimp only at n e;have e:=h.1 A _ E w1;have f:=h.1 B _ F w2;refine⟨_,rfl,M.p,CM,b,_,_,rfl,a,Tm.cl,Tm.nd,Tg _,.inl ⟨rfl,_,ZD.of n⟩,_,rfl,_,rfl,_,rfl,_,rfl,_,rfl,_,rfl,A,_,rfl,.inl (ZD.of e),λA b=>?_⟩;refine nw (o:=.lst (r.map V.str)) b λa o z=>?_;refine⟨_,rfl,B,_,rfl,.inl (ZD.of (o _ _ f)),λB e=>?_⟩;refine nw (o:=.lst (s.map V.str)) e λa g E=>?_;refine⟨aB rfl,λq a=>?_⟩;refine nw (o:=.tup [.str "wergild", .str x,.str y,.int l,.int i,.int p,.ref A,.ref B]) a λa m F=>?_;have a:=(o.trans g).trans m;refine⟨M.ld,Y,.ref q,rfl,rfl,a _ _ n,by lia,?_⟩;have f:=m _ _ (g _ _ z);have g:=m _ _ E;obtain⟨z,m⟩:=j.il a b (o.free e) f g n (d:=weD x y l i p r s) (v:=.ref q)
  ⟨q,_,rfl,We F,⟨_,_,rfl,rfl,⟨_,_,rfl,rfl,⟨_,_,rfl,rfl,⟨_,_,rfl,rfl,⟨_,_,rfl,rfl,⟨_,_,rfl,rfl,⟨_,_,rfl,⟨A,_,rfl,Vq (by simp) f,Jc _ _⟩,⟨_,_,rfl,⟨B,_,rfl,Vq (by simp) g,Jc _ _⟩,rfl⟩⟩⟩⟩⟩⟩⟩⟩⟩
 exact⟨_,rfl,k _ _ ⟨M.iT G,u,_,t,rfl,z,rfl⟩ (h.trans m)⟩
theorem Fn.alias(F:Fn P w K mg Z y ps k sp)(e:mg x=mg y):Fn P w K mg Z x ps k sp:=let ⟨f,g,a,b,c,d⟩:=F;⟨f,g,e.trans a,b,c,d⟩
def acD(i:Int)(n:Str)(day need:Int)(a b:fZ):D:=.tup [.str "accuse", .int i,.str n,.int day,.int need,.lst (a.map D.str),.lst (b.map D.str)]
def Mo.told(m:Mo)(d:D):Mo:={m with ip:=m.ip ++ [d] }
theorem WS.told(k:WS m)(d:D):WS (m.told d):=⟨k.ok,k.dl,k.br,k.le,k.vl,k.hb,λq a=>xZ (k.hl q a) (by show _<=(m.ip ++ [d]).length;rw[xE];lia),xZ k.ql (by show _<=(m.ip ++ [d]).length;rw[xE];lia)⟩
def Mo.acc(m:Mo)(i:Int)(n:Str)(day need:Int)(f:Str->Int)(a b:fZ):Mo:=(m.told (acD i n day need a b)).o7 day ⟨Yg f a,Yg f b,need,some (i,n)⟩
def Aj(S:List ZK)(m:Mo)(i:Int)(n:Str)(day need:Int)(f:Str->Int)(a b:fZ):Option Str:=(eM 0 9999 day).or ((eM 1 12000 need).or ((Vr S m day (a++b) none (some (i,n))).or ((Uf m need f a b).or (if J4 m.o6 i n=[] then none else some ("Broken":Str)))))
inductive Jh(C CM:gF)(c:gB)(vs:aG)(H:Hp)(Q:VK)(E:XK):Prop
 |mk(p) (S) (m) (O) (i) (n) (day need) (l1 l2) (o1 o2) (f)(_:vs=[.ref p,.int i,.str n,.int day,.int need,.ref l1,.ref l2])(_:YD C CM H p S m O)(_:Aq S m H l1 l2 o1 o2 day need f)(_:¬O l1)(_:¬O l2)(_:n.length<=100)(_:okI i)(_:dueM E c H (∀a Y,YD C CM Y p S (m.acc i n day need f o1 o2) a->ZZ O H a Y->Q (.int m.o6.length) Y) (Aj S m i n day need f o1 o2))
abbrev IS:Stmt:=Y1 (top 57) 10
theorem MN(a7:ZU K CM "accuse" "Moot.accuse" IS)(T:Txt mg)(Tm:ZR K CM)(er:Er K mg c errs)(Vh:YU P w K mg Z "check_day" 1 (VC 0 9999 c))(a6:YU P w K mg Z "check_need" 1 (VC 1 12000 c))(b:ZX P w K mg Z CM "check_named" 3 (YH C CM c))(g:ZX P w K mg Z CM "check_sides" 4 (WB C CM c))(a5:Fn P w K mg Z "breakers_stands" lO 6 VB)(p:Mt P w K mg Z CM "try_case" lD 5 (UP C CM)):ZX P w K mg Z CM "accuse" 7 (Jh C CM c):=by
 refine a7.mx lT lT λH vs Q E hr h=>?_;obtain⟨_,S,m,_,i,n,s,l,l1,l2,u,x,f,rfl,⟨M,wa,J,qs,rfl,W,rfl⟩,a,w1,w2,hx,hi,k⟩:=h;refine⟨rfl,_,(Zd (Zs (Ws Z3 Vh (Za Qb Zb))) (Zd (Zs (Ws Z3 a6 (Za Qc Zb))) (Zd (Zs (Yn Z3 Q0 Tm.cl b (Za Qb (Za (Zu Wj Qd Qe) (Za Y3 (Za (Yj (Za Q3 (Za Qa Zb))) Zb)))))) (Zd (Zs (Yn Z3 Q0 Tm.cl g (Za Qb (Za Qc (Za Qd (Za Qe Zb)))))) (Zd (Zq (QV (Zl a5 (Za (Z2 Q0) (Za Q3 (Za Qa Zb)))) (λ_=>rfl)) (Zg (Wg Y5 er (Wm (Yu (Y6 Qa (Yu (Y6 Q3 (Yu Wl)))))))) Zp) (Zd (Zs (Y4 aD aE aF Wa (Z2 Q0) (Za (Yj (Za Zt (Za Q3 (Za Qa (Za Qb (Za Qc (Za (Jm JZ T.list Uy (Za Qd Zb)) (Za (Jm JZ T.list Uy (Za Qe Zb)) Zb)))))))) Zb))) (Zg (Zw (Jg Q0 Tm.cl p (Za Qb (Za Qc (Za Qd (Za Qe (Za (Yj (Za Q3 (Za Qa Zb))) Zb)))))))))))))),?_⟩;have hz:=aC
 obtain⟨dm,A⟩:=W.ob;have ⟨ok,U,h1,h2,n1,n2,dI,ni,hw⟩:=a;have e1:(u.map V.str).length=u.length:=xA ..;have e2:(x.map V.str).length=x.length:=xA ..;unfold Aj at k;refine⟨_,rfl,s,rfl,dI,dueM.cut k (ZA.refl H) λed k=>?_⟩;obtain⟨d0,d1⟩:=Vo ed;refine⟨_,rfl,l,rfl,ni,dueM.cut k (ZA.refl H) λen k=>?_⟩;refine⟨_,rfl,M.p,dm,_,rfl,A,Ys _ aA,_,rfl,_,rfl,_,rfl,l1,l2,_,_,rfl,rfl,h1,h2,by rw[e1,e2];lia,λq hq=>?_⟩;have S1:=ZA.new (o:=.lst (u.map V.str++x.map V.str)) hq;have k1:(upd H q (.lst (u.map V.str++x.map V.str))) q=some (.lst ((u++x).map V.str)):=by rw[Zj,xM]
 generalize (upd H q (.lst (u.map V.str++x.map V.str)))=H1 at S1 k1 |-;refine⟨_,rfl,_,rfl,aB rfl,λt ht=>?_⟩;have L:=ZA.new (o:=.tup [.int i,.str n]) ht;have S2:=S1.trans L;have k2:(upd H1 t (.tup [.int i,.str n])) t=some (.tup [.int i,.str n]):=Zj;have X:=L _ _ k1;generalize (upd H1 t (.tup [.int i,.str n]))=H2 at S2 k2 X |-;refine⟨M,S,wa,J,m,qs,s,q,u++x,none,some (i,n),.ref t,rfl,W.same S2,ok,X,λn hn=>(hw n hn).1,dI,(λj e=>nomatch e),⟨hi,hx,t,rfl,k2⟩,λH4 a2=>?_⟩;have F:=S2.trans a2;refine dueM.cut k F λea k=>?_;obtain⟨p1,_,p3⟩:=Jp ea;have I:=p3 i n rfl;have B:=a.all p1;refine⟨_,rfl,M.p,dm,_,rfl,F _ _ A,Ys _ aA,_,rfl,_,rfl,_,rfl,_,rfl,M,S,wa,J,m,qs,s,l,l1,l2,u,x,f,rfl,W.same F,ok,U,F _ _ h1,F _ _ h2,n1,n2,d0,d1,ni,B,λH5 a3=>?_⟩;have S5:=F.trans a3;refine dueM.cut k S5 λes k=>?_;obtain⟨g0,g1⟩:=Vo en;have h4:=(J7 es).2;have a9:inB i m.o6.length:=by
  unfold Wy at I
  by_cases z:inB i m.o6.length
  .exact z
  .split at I
   .rw[if_neg z] at I;cases I
   .cases I
 obtain⟨j,rfl⟩:=yC a9.1;obtain⟨ts,t1,t2,_⟩:=((W.same S5).ls (M.lt,m.o6.map Wq) (by simp[Mo.at_])).get;have b4:=ok.le;refine⟨_,rfl,M.p,CM,dm,_,_,rfl,S5 _ _ A,Tm.cl,Tm.nt,JY _,_,rfl,_,rfl,M.lt,m.o6,j,n,rfl,⟨ts,t1,t2⟩,ok.ok,by lia,hx,I,λlb H6 b3 b2 a4=>?_⟩;have G:=S5.trans a4;refine⟨_,.inl ⟨_,ZD.of b2,rfl⟩,?_⟩;cases eb:J4 m.o6 j n with
 | cons z r =>
  rw[eb,if_neg (by intro y;cases y)] at k;exact Z6 ⟨aA,_,rfl,.inl ⟨n,rfl,by lia⟩,aA,_,rfl,.inr ⟨_,rfl,Vc hi⟩,aA,λ_=>k H6 G⟩
 | nil =>
 rw[eb,if_pos rfl] at k;refine Z5 ?_;have W6:=W.same G;obtain⟨vs,f1,_,f2⟩:=(W6.ls (M.ld,m.ip) (by simp[Mo.at_])).get;dsimp only at f1 f2;refine⟨_,rfl,M.p,CM,dm,_,_,rfl,G _ _ A,Tm.cl,Tm.nd,Tg _,.inl ⟨rfl,_,ZD.of f1⟩,_,rfl,_,rfl,_,rfl,_,rfl,_,rfl,l1,_,rfl,.inl (ZD.of (G _ _ h1)),λa1 O=>?_⟩;refine nw (o:=.lst (u.map V.str)) O λHa Sa ka=>?_;refine⟨_,rfl,l2,_,rfl,.inl (ZD.of (Sa _ _ (G _ _ h2))),λa2 R=>?_⟩;refine nw (o:=.lst (x.map V.str)) R λHb Sb kb=>?_;refine⟨aB rfl,λq' b0=>?_⟩;refine nw (o:=.tup [.str "accuse", .int j,.str n,.int s,.int l,.ref a1,.ref a2]) b0 λHc Sc kc=>?_;have N:=(Sa.trans Sb).trans Sc;refine⟨M.ld,vs,.ref q',rfl,rfl,N _ _ f1,by lia,?_⟩;have Y:=Sc _ _ (Sb _ _ ka);have a0:=Sc _ _ kb;obtain⟨W7,R7⟩:=W6.il N O (Sa.free R) Y a0 f1 (d:=acD j n s l u x) (v:=.ref q')
  ⟨q',_,rfl,We kc,⟨_,_,rfl,rfl,⟨_,_,rfl,rfl,⟨_,_,rfl,rfl,⟨_,_,rfl,rfl,⟨_,_,rfl,rfl,⟨_,_,rfl,⟨a1,_,rfl,Vq (by simp) Y,Jc _ _⟩,⟨_,_,rfl,⟨a2,_,rfl,Vq (by simp) a0,Jc _ _⟩,rfl⟩⟩⟩⟩⟩⟩⟩⟩
 replace R7:=(ZZ.same G).trans R7;generalize (upd Hc M.ld (.lst (vs ++ [.ref q'])))=H7 at W7 R7 |-;obtain⟨a8,a1⟩:=W7.ob;refine⟨_,rfl,M.p,a8,_,rfl,a1,Ys _ aA,_,rfl,_,rfl,_,rfl,_,rfl,_,rfl,_,rfl,aB rfl,λt2 b1=>?_⟩;refine nw (o:=.tup [.int j,.str n]) b1 λH8 S8 k8=>?_;have R8:=R7.trans (ZZ.same S8);refine⟨M,S,wa,_,m.told (acD j n s l u x),qs,s,l,l1,l2,u,x,f,some ((j:Int),n),.ref t2,rfl,W7.same S8,ok.told _,(J7 es).1,U,R8.1 l1 _ h1 w1,R8.1 l2 _ h2 w2,n1,n2,d0,d1,g0,g1,λn hn=>(B n hn).2,⟨hi,hx,t2,rfl,k8⟩,λlv s1 s2 H9 W9 T9 F9=>?_⟩;exact k _ _ ⟨M.iT lv,wa,_,qs,rfl,W9,rfl⟩ (R8.trans ⟨T9,F9⟩)
def Mo.iR(m:Mo)(n:Str):Mo:={m with pen:=λx=>if x=n then some (m.o6.length:Int) else m.pen x,iP:=m.iP+1,ip:=m.ip ++ [.tup [.str "penance", .str n]] }
inductive Ja(C CM:gF)(c:gB)(vs:aG)(H:Hp)(Q:VK)(E:XK):Prop
 |mk(p) (S) (m) (O) (n)(_:vs=[.ref p,.str n])(_:YD C CM H p S m O)(_:n.length<=100)(_:m.iP<=1000)(_:m.o6.length<=1000)(_:dueM E c H (∀a Y,YD C CM Y p S (m.iR n) a->ZZ O H a Y->Q .non Y) ((Wt S n).or ((AO S n).or (Wf m))))
abbrev HM:Stmt:=Y1 (top 57) 4
theorem NX(e:ZU K CM "penance" "Moot.penance" HM)(T:Txt mg)(f:VD K C)(Tm:ZR K CM)(d:ZX P w K mg Z C "check_known" 1 (YL C c))(b:ZX P w K mg Z C "check_untold" 1 (WI C c))(a:ZX P w K mg Z CM "check_moments" 1 (YM C CM c)):ZX P w K mg Z CM "penance" 2 (Ja C CM c):=by
 refine e.mx lX lX λH l Q E i h=>?_;obtain⟨_,S,m,_,n,rfl,⟨M,r,J,j,rfl,W,rfl⟩,e,g,o,k⟩:=h;refine⟨rfl,_,(Zd (Zs (Yn Z3 (Z2 Q0) f.cl d (Za Q3 Zb))) (Zd (Zs (Yn Z3 (Z2 Q0) f.cl b (Za Q3 Zb))) (Zd (Zs (Ab Z3 Q0 Tm.cl a)) (Zd (Jy i (Z2 Q0) Q3 (Z0 Ym T.len Yh (Za (Z2 Q0) Zb))) (Zg (Zs (Y4 aD aE aF Wa (Z2 Q0) (Za (Yj (Za Zt (Za Q3 Zb))) Zb)))))))),?_⟩;have a:=aC
 obtain⟨b,a⟩:=W.ob;obtain⟨d,f⟩:=W.fk.f.ob;refine⟨_,rfl,M.p,CM,b,_,_,rfl,a,Tm.cl,Tm.nf,Ts _,M.L.p,d,_,rfl,f,Wh _ _ _ _ aA,_,rfl,M.L,S,n,rfl,W.fk.f,λ_=>e,dueM.cut k (ZA.refl H) λg k=>?_⟩;refine⟨_,rfl,M.p,CM,b,_,_,rfl,a,Tm.cl,Tm.nf,Ts _,M.L.p,d,_,rfl,f,Wh _ _ _ _ aA,_,rfl,M.L,S,n,rfl,W.fk.f,e,dueM.cut k (ZA.refl H) λd k=>?_⟩;refine⟨_,rfl,M.p,b,_,rfl,a,Ys _ aA,M,S,r,J,m,j,rfl,W,dueM.last k (ZA.refl H) λd k=>?_⟩;have e:=JM d;obtain⟨g,f,_,d⟩:=(W.ls (M.lt,m.o6.map Wq) (by simp[Mo.at_])).get;dsimp only at f d;rw[xA] at d;obtain⟨U,e,h,i⟩:=W.pn;refine⟨_,rfl,M.p,CM,b,_,_,rfl,a,Tm.cl,Tm.nt,JY _,M.lt,g,rfl,.inl (ZD.of f),?_⟩;refine⟨_,rfl,M.p,CM,b,_,_,rfl,a,Tm.cl,Tm.np,Lo _,_,rfl,M.dp,_,rfl,YV.k (k:=Sum.inr n) e (by lia),?_⟩;rw[d];have a:=W.iR (n:=n) (c:=(m.o6.length:Int)) e;have i:∀b o,b≠M.dp->H b=some o->(upd H M.dp (.dK (Z4 U (.inr n) (.int m.o6.length)))) b=some o:=λb o h e=>by rw[Zf h];exact e
 generalize (upd H M.dp (.dK (Z4 U (.inr n) (.int m.o6.length))))=d at a i |-;obtain⟨g,f⟩:=a.ob;obtain⟨l,d,_,n⟩:=(a.ls (M.ld,m.ip) (by simp[Mo.at_])).get;dsimp only at d n;refine⟨_,rfl,M.p,CM,g,_,_,rfl,f,Tm.cl,Tm.nd,Tg _,.inl ⟨rfl,_,ZD.of d⟩,_,rfl,aB rfl,λp f=>?_⟩;exact⟨M.ld,l,.ref p,rfl,rfl,(a.tell d f).1,by lia,k _ _ ⟨M,r,J,j,rfl,(a.tell d f).2.1,rfl⟩ (ZZ.trans ⟨λb o e h=>i b o (λz=>h (.inr (.inl z))) e,λ_ b=>.inl b⟩ (a.tell d f).2.2)⟩
def coD(n:Str)(day wt:Int):D:=.tup [.str "come", .str n,.int day,.int wt]
inductive UK(C CM:gF)(c:gB)(vs:aG)(H:Hp)(Q:VK)(E:XK):Prop
 |mk(p) (S) (m) (O) (n) (day wt)(_:vs=[.ref p,.str n,.int day,.int wt])(_:YD C CM H p S m O)(_:S.length<=1000)(_:okN n)(_:okI day)(_:okI wt)(_:dueM E c H (∀a Y,YD C CM Y p (S ++ [.come n day wt]) (m.told (coD n day wt)) a->ZZ O H a Y->Q .non Y) ((Tr S n day wt).or (Wf m)))
abbrev KG:Stmt:=Y1 (top 57) 1
theorem Oj(e:ZU K CM "come" "Moot.come" KG)(g:VD K C)(Tm:ZR K CM)(b:ZX P w K mg Z C "check_coming" 2 (WH C c))(d:Mt P w K mg Z C "come" lg 3 (UY C))(a:ZX P w K mg Z CM "check_moments" 1 (YM C CM c)):ZX P w K mg Z CM "come" 4 (UK C CM c):=by
 refine e.mx lg lg λH t Q E e h=>?_;obtain⟨_,S,m,_,n,e,u,rfl,⟨M,i,J,s,rfl,f,rfl⟩,l,o,j,p,k⟩:=h;refine⟨rfl,_,(Zd (Zs (Yn Z3 (Z2 Q0) g.cl b (Za Q3 (Za Qa (Za Qb Zb))))) (Zd (Zs (Ab Z3 Q0 Tm.cl a)) (Zd (Zs (Jg (Z2 Q0) g.cl d (Za Q3 (Za Qa (Za Qb Zb))))) (Zg (Zs (Y4 aD aE aF Wa (Z2 Q0) (Za (Yj (Za Zt (Za Q3 (Za Qa (Za Qb Zb))))) Zb))))))),?_⟩;have a:=aC
 obtain⟨g,b⟩:=f.ob;obtain⟨h,r⟩:=f.fk.f.ob;refine⟨_,rfl,M.p,CM,g,_,_,rfl,b,Tm.cl,Tm.nf,Ts _,M.L.p,h,_,rfl,r,Wh _ _ _ _ aA,_,rfl,_,rfl,_,rfl,M.L,S,i,n,e,u,rfl,f.fk,l,o,j,p,λd a=>dueM.cut k a λv k=>?_⟩;have d:=f.same a;refine⟨_,rfl,M.p,g,_,rfl,a _ _ b,Ys _ aA,M,S,i,J,m,s,rfl,d,dueM.last k a λf k=>?_⟩;have x:=JM f;refine⟨_,rfl,M.p,CM,g,_,_,rfl,a _ _ b,Tm.cl,Tm.nf,Ts _,M.L.p,h,_,rfl,a _ _ r,Wh _ _ _ _ aA,_,rfl,_,rfl,_,rfl,M.L,S,i,n,e,u,rfl,d.fk,l,o,j,p,v,λg b e h R2=>?_⟩;have b:=d.iu e h R2;obtain⟨f,e⟩:=b.ob;obtain⟨t,d,_,i⟩:=(b.ls (M.ld,m.ip) (by simp[Mo.at_])).get;dsimp only at d i;refine⟨_,rfl,M.p,CM,f,_,_,rfl,e,Tm.cl,Tm.nd,Tg _,.inl ⟨rfl,_,ZD.of d⟩,_,rfl,_,rfl,_,rfl,aB rfl,λp e=>?_⟩;exact⟨M.ld,t,.ref p,rfl,rfl,(b.tell d e).1,by lia,k _ _ ⟨M,g,J,s,rfl,(b.tell d e).2.1,rfl⟩ (((ZZ.same a).trans (ZZ.iu h R2)).trans (b.tell d e).2.2)⟩
def Hl(n:Str)(day:Int):D:=.tup [.str "bring", .str n,.int day]
def Mo.brg(m:Mo)(n:Str)(day:Int):Mo:={m with ib:=m.ib ++ [.tup [.str n,.int day]],iB:=m.iB ++ [[]],ip:=m.ip ++ [Hl n day] }
def DN(m:Mo):Option Str:=if m.ib.length<40 then none else some "TooMany"
inductive VS(C CM:gF)(c:gB)(vs:aG)(H:Hp)(Q:VK)(E:XK):Prop
 |mk(p) (S) (m) (O) (n) (day)(_:vs=[.ref p,.str n,.int day])(_:YD C CM H p S m O)(_:WS m)(_:n.length<=100)(_:okI day)(_:dueM E c H (∀a Y,YD C CM Y p S (m.brg n day) a->ZZ O H a Y->Q (.int m.ib.length) Y) ((eM 0 9999 day).or ((Vr S m day [n] none none).or ((DN m).or (Wf m)))))
abbrev GL:Stmt:=Y1 (top 57) 5
theorem Oa(g:ZU K CM "bring" "Moot.bring" GL)(T:Txt mg)(Tm:ZR K CM)(b:∃t,mg "MOST_THINGS"=some (.int 40 t))(r:Er K mg c errs)(o:YU P w K mg Z "check_day" 1 (VC 0 9999 c))(f:ZX P w K mg Z CM "check_named" 3 (YH C CM c))(e:ZX P w K mg Z CM "check_moments" 1 (YM C CM c)):ZX P w K mg Z CM "bring" 4 (VS C CM c):=by
 obtain⟨h,a⟩:=b;have b:ZG (.int 40) (.int 40 h):=⟨h,rfl⟩;refine g.mx lA lA λH s Q E g h=>?_;obtain⟨_,S,m,_,n,g,rfl,⟨M,l,J,i,rfl,u,rfl⟩,p,t,j,k⟩:=h;refine⟨rfl,_,(Zd (Zs (Ws Z3 o (Za Qa Zb))) (Zd (Zs (Yn Z3 Q0 Tm.cl f (Za Qa (Za (Yb (Za Q3 Zb)) (Za Y3 (Za Y3 Zb)))))) (Zd (Zq (Zk Ji (Z0 Ym T.len Yh (Za (Z2 Q0) Zb)) (Yr a b) (Zn _)) (Zg (Wg Y5 r (Wm (Yu (Y6 (Yr a b) (Yu Wl)))))) Zp) (Zd (Zs (Ab Z3 Q0 Tm.cl e)) (Zd (Zs (Y4 aD aE aF Wa (Z2 Q0) (Za (Yj (Za Q3 (Za Qa Zb))) Zb))) (Zd (Zs (Y4 aD aE aF Wa (Z2 Q0) (Za (Yb Zb) Zb))) (Zd (Zs (Y4 aD aE aF Wa (Z2 Q0) (Za (Yj (Za Zt (Za Q3 (Za Qa Zb)))) Zb))) (Zg (Zw (Zu Vy (Z0 Ym T.len Yh (Za (Z2 Q0) Zb)) Zc)))))))))),?_⟩;have a:=aC
 have a:=p.hb;refine⟨_,rfl,g,rfl,j,dueM.cut k (ZA.refl H) λa k=>?_⟩;obtain⟨o,h⟩:=u.ob;refine⟨_,rfl,M.p,o,_,rfl,h,Ys _ aA,_,rfl,_,rfl,aB rfl,λe a=>?_⟩;refine nw (o:=.lst [.str n]) a λb f a=>?_;have b:=u.same f;refine⟨M,S,l,J,m,i,g,e,[n],none,none,.non,rfl,b,p,a,λm a=>by rw[xP.mp a];exact t,j,(λj e=>nomatch e),rfl,λj a=>?_⟩;replace f:=f.trans a;replace b:=b.same a;refine dueM.cut k f λa k=>?_;have a:=f _ _ h;obtain⟨r,h,_,p⟩:=(b.ls (M.lb,m.ib) (by simp[Mo.at_])).get;dsimp only at h p;refine⟨_,rfl,M.p,CM,o,_,_,rfl,a,Tm.cl,Tm.nb,Ct _,M.lb,r,rfl,.inl (ZD.of h),_,_,rfl,rfl,_,rfl,Zv (λz=>?_) (λz=>?_)⟩
 .have:DN m=some "TooMany" := if_neg (by lia);rw[this] at k;exact⟨aA,.inr ⟨40,rfl,aA⟩,aA,λ_=>k j f⟩
 have j:m.ib.length<40:=by lia
 have:DN m=none:=if_pos j;rw[this,yI] at k;refine⟨_,rfl,M.p,o,_,rfl,a,Ys _ aA,M,S,l,J,m,i,rfl,b,?_⟩;refine dueM.last k f λx k=>?_;have j:=JM x;refine⟨_,rfl,M.p,CM,o,_,_,rfl,a,Tm.cl,Tm.nb,Ct _,.inl ⟨rfl,_,ZD.of h⟩,_,rfl,_,rfl,aB rfl,λa j=>?_⟩;refine nw (o:=.tup [.str n,.int g]) j λy p t=>?_;have o:=b.same p;refine⟨M.lb,r,.ref a,rfl,rfl,p _ _ h,by lia,?_⟩;have j:=o.brg (p _ _ h) (d:=.tup [.str n,.int g]) (v:=.ref a) ⟨a,_,rfl,We t,⟨_,_,rfl,rfl,⟨_,_,rfl,rfl,rfl⟩⟩⟩;have t:J5 M S l J i H (upd y M.lb (.lst (r ++ [.ref a]))):=λb o e h=>by
  rw[Zf (λz:b=M.lb=>h (z ▸ .inr (.inr (.inl (by simp[ML.ls])))))];exact p _ _ (f _ _ e)
 generalize (upd y M.lb (.lst (r ++ [.ref a])))=p at j t |-;obtain⟨f,a⟩:=j.ob;have r:=j.hl;refine⟨_,rfl,M.p,CM,f,_,_,rfl,a,Tm.cl,Tm.nh,Ej _,.inl ⟨rfl,_,ZD.of r⟩,aB rfl,λq a=>?_⟩;have f:=ZA.new (o:=.lst []) a;have A:(upd p q (.lst [])) q=some (.lst []):=Zj;have B:¬mo M S l J i q:=λz=>by obtain⟨o,e⟩:=j.there z;rw[a] at e;cases e
 have y:H q=none:=by
  cases e:H q with
  | none=>rfl
  | some o=>rw[t q o e B] at a;cases a
 generalize (upd p q (.lst []))=p at f A |-;refine⟨M.lh,i.map V.ref,.ref q,rfl,rfl,f _ _ r,by rw[xA];have:=u.hn;lia,?_⟩;have a:=(j.same f).newq A B;have u:J5 M S l J i H (upd p M.lh (.lst (i.map V.ref ++ [.ref q]))):=λb o e h=>by
  rw[Zf (λz:b=M.lh=>h (z ▸ .inr (.inr (.inl yE))))];exact f _ _ (t b o e h)
 have x:(i ++ [q]).map V.ref=i.map V.ref ++ [.ref q]:=by rw[xM];rfl
 rw[x] at a;generalize (upd p M.lh (.lst (i.map V.ref ++ [.ref q])))=f at a u |-;obtain⟨j,f⟩:=a.ob;obtain⟨s,r,_,p⟩:=(a.ls (M.ld,m.ip) (by simp[Mo.at_])).get;dsimp only at r p;refine⟨_,rfl,M.p,CM,j,_,_,rfl,f,Tm.cl,Tm.nd,Tg _,.inl ⟨rfl,_,ZD.of r⟩,_,rfl,_,rfl,aB rfl,λp f=>?_⟩;refine nw (o:=.tup [.str "bring", .str n,.int g]) f λt f A=>?_;have x:=a.same f;refine⟨M.ld,s,.ref p,rfl,rfl,f _ _ r,by lia,?_⟩;have j:=x.deed (v:=.ref p) (f _ _ r) (d:=.tup [.str "bring", .str n,.int g]) ⟨p,_,rfl,We A,⟨_,_,rfl,rfl,⟨_,_,rfl,rfl,⟨_,_,rfl,rfl,rfl⟩⟩⟩⟩;have r:J5 M S l J i H (upd t M.ld (.lst (s ++ [.ref p]))):=λb o e h=>by
  rw[Zf (λz:b=M.ld=>h (z▸FJ))];exact f _ _ (u b o e h)
 generalize (upd t M.ld (.lst (s ++ [.ref p])))=i at j r |-;obtain⟨f,e⟩:=j.ob;obtain⟨a,o,_,h⟩:=(j.ls (M.lb,m.ib ++ [.tup [.str n,.int g]]) (by simp[Mo.at_])).get;dsimp only at o h;rw[xE] at h;refine⟨_,rfl,M.p,CM,f,_,_,rfl,e,Tm.cl,Tm.nb,Ct _,M.lb,a,rfl,.inl (ZD.of o),_,_,rfl,rfl,?_⟩;have e:((a.length:Int) - 1)=(m.ib.length:Int):=by rw[h];simp
 show Q (.int ((a.length:Int) - 1)) i;rw[e];refine k _ i ⟨M,l,J,_,rfl,j,rfl⟩ ⟨r,λb a=>?_⟩;rcases a with z | z | z | z | z
 .exact .inl (.inl z)
 .exact .inl (.inr (.inl z))
 .rw[<- yT,<- yK] at z;rcases xJ.mp z with z | z
  .exact .inl (.inr (.inr (.inl z)))
  .rw[xP.mp z];exact .inr y
 .exact .inl (.inr (.inr (.inr (.inl z))))
 .exact .inl (.inr (.inr (.inr (.inr z))))
def gvD(i:Int)(x y:Str)(day:Int):D:=.tup [.str "give", .int i,.str x,.str y,.int day]
def Mo.give(m:Mo)(i:Nat)(x y:Str)(day:Int):Mo:={m with iB:=m.iB.set i (m.iB.getD i [] ++ [.tup [.non,.tup [.int day,.str "given", .str x,.str y]]]),ip:=m.ip ++ [gvD i x y day] }
inductive UH(C CM:gF)(c:gB)(vs:aG)(H:Hp)(Q:VK)(E:XK):Prop
 |mk(p) (S) (m) (O) (i) (x y) (day)(_:vs=[.ref p,.int i,.str x,.str y,.int day])(_:YD C CM H p S m O)(_:WS m)(_:x.length<=100)(_:y.length<=100)(_:okI i)(_:okI day)(_:dueM E c H (∀a Y,YD C CM Y p S (m.give i.toNat x y day) a->ZZ O H a Y->Q .non Y) ((eM 0 9999 day).or ((Vr S m day [x,y] (some i) none).or (Wf m))))
abbrev Lc:Stmt:=Y1 (top 57) 6
theorem M6(e:ZU K CM "give" "Moot.give" Lc)(Tm:ZR K CM)(j:YU P w K mg Z "check_day" 1 (VC 0 9999 c))(b:ZX P w K mg Z CM "check_named" 3 (YH C CM c))(a:ZX P w K mg Z CM "check_moments" 1 (YM C CM c)):ZX P w K mg Z CM "give" 4 (UH C CM c):=by
 refine e.mx ["self","thing","giver","taker","day"] ["self","thing","giver","taker","day"] λH F Q E e h=>?_;obtain⟨_,S,m,_,i,x,y,l,rfl,⟨M,r,J,f,rfl,g,rfl⟩,s,n,o,p,e,k⟩:=h;refine⟨rfl,_,(Zd (Zs (Ws Z3 j (Za Qc Zb))) (Zd (Zs (Yn Z3 Q0 Tm.cl b (Za Qc (Za (Yb (Za Qa (Za Qb Zb))) (Za Q3 (Za Y3 Zb)))))) (Zd (Zs (Ab Z3 Q0 Tm.cl a)) (Zd (Zs (Y4 aD aE aF Wa (Zh Z7 (Z2 Q0) Q3) (Za (Yj (Za Y3 (Za (Yj (Za Qc (Za Zt (Za Qa (Za Qb Zb))))) Zb))) Zb))) (Zg (Zs (Y4 aD aE aF Wa (Z2 Q0) (Za (Yj (Za Zt (Za Q3 (Za Qa (Za Qb (Za Qc Zb)))))) Zb)))))))),?_⟩;have a:=aC
 refine⟨_,rfl,l,rfl,e,dueM.cut k (ZA.refl H) λa k=>?_⟩;obtain⟨o,b⟩:=g.ob;refine⟨_,rfl,M.p,o,_,rfl,b,Ys _ aA,_,rfl,_,rfl,_,rfl,aB rfl,λj a=>?_⟩;refine nw (o:=.lst [.str x,.str y]) a λn h a=>?_;refine⟨_,rfl,M,S,r,J,m,f,l,j,[x,y],some i,none,.non,rfl,g.same h,s,a,λn a=>?_,e,(λj e=>by cases e;exact p),rfl,λj a=>?_⟩
 .grind
 replace h:=h.trans a;refine dueM.cut k h λn k=>?_;have j:=g.same h;have a:=h _ _ b;refine⟨_,rfl,M.p,o,_,rfl,a,Ys _ aA,M,S,r,J,m,f,rfl,j,?_⟩;refine dueM.last k h λb k=>?_;have g:=JM b;obtain⟨_,g,_⟩:=Jp n;have b:inB i m.ib.length:=by
  have:=g i rfl;unfold Jj at this
  by_cases z:inB i m.ib.length
  .exact z
  .rw[if_neg z] at this;cases this
 obtain⟨i,rfl⟩:=yC b.1;have n:i<m.iB.length:=by rw[s.hb];have:=b.2;lia
 have g:m.iB[i]?=some (m.iB.getD i []):=by rw[yD,xB n];rfl
 have b:=s.hl _ (xG g);rw[yH] at k;unfold Mo.give at k;generalize m.iB.getD i []=n at g b k;have p:i<f.length:=by rw[j.hn];exact(xI.mp g).1
 have A:f[i]?=some f[i]:=xB p;have s:(f[i],n)∈f.zip m.iB:=xG (i:=i) (by rw[zC];exact⟨A,g⟩);obtain⟨B,t,_,b⟩:=(j.ls (f[i],n) (by simp[Mo.at_,s])).get;dsimp only at t b;refine⟨_,rfl,M.p,CM,o,_,_,rfl,a,Tm.cl,Tm.nh,Ej _,_,rfl,M.lh,_,i,.ref f[i],rfl,rfl,ZD.of j.hl,Yl (by rw[xC,A];rfl),.inl ⟨rfl,_,ZD.of t⟩,_,rfl,_,rfl,_,rfl,aB rfl,λb u=>?_⟩;refine nw (o:=.tup [.int l,.str "given", .str x,.str y]) u λa s I=>?_;refine⟨aB rfl,λa n=>?_⟩;refine nw (o:=.tup [.non,.ref b]) n λE n L=>?_;have G:=(j.same s).same n;have o:=n _ _ (s _ _ t);refine⟨f[i],B,.ref a,rfl,rfl,o,by lia,?_⟩;have j:=G.hap A g (d:=.tup [.non,.tup [.int l,.str "given", .str x,.str y]]) (v:=.ref a) o ⟨a,_,rfl,We L,⟨_,_,rfl,rfl,⟨_,_,rfl,⟨b,_,rfl,We (n _ _ I),⟨_,_,rfl,rfl,⟨_,_,rfl,rfl,⟨_,_,rfl,rfl,⟨_,_,rfl,rfl,rfl⟩⟩⟩⟩⟩,rfl⟩⟩⟩;have g:J5 M S r J f H (upd E f[i] (.lst (B ++ [.ref a]))):=λc o e b=>by
  rw[Zf (λz:c=f[i]=>b (z ▸ .inr (.inr (.inl (xO _ (xK _ (zN p)))))))];exact n _ _ (s _ _ (h _ _ e))
 generalize (upd E f[i] (.lst (B ++ [.ref a])))=a at j g |-;obtain⟨e,b⟩:=j.ob;obtain⟨F,a,_,h⟩:=(j.ls (M.ld,m.ip) (by simp[Mo.at_])).get;dsimp only at a h;refine⟨_,rfl,M.p,CM,e,_,_,rfl,b,Tm.cl,Tm.nd,Tg _,.inl ⟨rfl,_,ZD.of a⟩,_,rfl,_,rfl,_,rfl,_,rfl,aB rfl,λp b=>?_⟩;exact⟨M.ld,F,.ref p,rfl,rfl,(j.tell a b).1,by lia,k _ _ ⟨M,r,J,f,rfl,(j.tell a b).2.1,rfl⟩ (ZZ.trans ⟨g,λ_ u=>.inl u⟩ (j.tell a b).2.2)⟩
def pyD(x y:Str)(a day:Int):D:=.tup [.str "pay", .str x,.str y,.int a,.int day]
def Mo.pay(m:Mo)(x y:Str)(a day:Int):Mo:={m with ik:=m.ik ++ [.tup [.non,.tup [.int day,.str y,.str x,.int a]]],ip:=m.ip ++ [pyD x y a day] }
inductive Jb(C CM:gF)(c:gB)(vs:aG)(H:Hp)(Q:VK)(E:XK):Prop
 |mk(p) (S) (m) (O) (x y) (many day)(_:vs=[.ref p,.str x,.str y,.int many,.int day])(_:YD C CM H p S m O)(_:WS m)(_:x.length<=100)(_:y.length<=100)(_:okI many)(_:okI day)(_:dueM E c H (∀a Y,YD C CM Y p S (m.pay x y many day) a->ZZ O H a Y->Q .non Y) ((eM 1 1000000 many).or ((eM 0 9999 day).or ((Vr S m day [x,y] none none).or (Wf m)))))
abbrev LC:Stmt:=Y1 (top 57) 7
theorem Xc(f:ZU K CM "pay" "Moot.pay" LC)(Tm:ZR K CM)(e:YU P w K mg Z "check_money" 1 (VC 1 1000000 c))(p:YU P w K mg Z "check_day" 1 (VC 0 9999 c))(b:ZX P w K mg Z CM "check_named" 3 (YH C CM c))(a:ZX P w K mg Z CM "check_moments" 1 (YM C CM c)):ZX P w K mg Z CM "pay" 4 (Jb C CM c):=by
 refine f.mx ["self","payer","taker","many","day"] ["self","payer","taker","many","day"] λH u Q E f h=>?_;obtain⟨_,S,m,_,x,y,f,g,rfl,⟨M,r,J,l,rfl,i,rfl⟩,n,s,t,j,o,k⟩:=h;refine⟨rfl,_,(Zd (Zs (Ws Z3 e (Za Qb Zb))) (Zd (Zs (Ws Z3 p (Za Qc Zb))) (Zd (Zs (Yn Z3 Q0 Tm.cl b (Za Qc (Za (Yb (Za Q3 (Za Qa Zb))) (Za Y3 (Za Y3 Zb)))))) (Zd (Zs (Ab Z3 Q0 Tm.cl a)) (Zd (Zs (Y4 aD aE aF Wa (Z2 Q0) (Za (Yj (Za Y3 (Za (Yj (Za Qc (Za Qa (Za Q3 (Za Qb Zb))))) Zb))) Zb))) (Zg (Zs (Y4 aD aE aF Wa (Z2 Q0) (Za (Yj (Za Zt (Za Q3 (Za Qa (Za Qb (Za Qc Zb)))))) Zb))))))))),?_⟩;have a:=aC
 have a:=n.ql;refine⟨_,rfl,f,rfl,j,dueM.cut k (ZA.refl H) λa k=>?_⟩;refine⟨_,rfl,g,rfl,o,dueM.cut k (ZA.refl H) λa k=>?_⟩;obtain⟨p,b⟩:=i.ob;refine⟨_,rfl,M.p,p,_,rfl,b,Ys _ aA,_,rfl,_,rfl,_,rfl,aB rfl,λe a=>?_⟩;refine nw (o:=.lst [.str x,.str y]) a λj h a=>?_;refine⟨M,S,r,J,m,l,g,e,[x,y],none,none,.non,rfl,i.same h,n,a,λn a=>?_,o,(λj e=>nomatch e),rfl,λj a=>?_⟩
 .grind
 replace h:=h.trans a;refine dueM.cut k h λa k=>?_;have o:=i.same h;have a:=h _ _ b;refine⟨_,rfl,M.p,p,_,rfl,a,Ys _ aA,M,S,r,J,m,l,rfl,o,?_⟩;refine dueM.last k h λb k=>?_;have i:=JM b;obtain⟨t,i,_,b⟩:=(o.ls (M.lq,m.ik) (by simp[Mo.at_])).get;dsimp only at i b;refine⟨_,rfl,M.p,CM,p,_,_,rfl,a,Tm.cl,Tm.nq,Ic _,.inl ⟨rfl,_,ZD.of i⟩,_,rfl,_,rfl,_,rfl,_,rfl,aB rfl,λb s=>?_⟩;refine nw (o:=.tup [.int g,.str y,.str x,.int f]) s λa n A=>?_;refine⟨aB rfl,λa j=>?_⟩;refine nw (o:=.tup [.non,.ref b]) j λp j B=>?_;have z:=(o.same n).same j;have o:=j _ _ (n _ _ i);refine⟨M.lq,t,.ref a,rfl,rfl,o,by lia,?_⟩;have i:=z.debt (d:=.tup [.non,.tup [.int g,.str y,.str x,.int f]]) (v:=.ref a) o ⟨a,_,rfl,We B,⟨_,_,rfl,rfl,⟨_,_,rfl,⟨b,_,rfl,We (j _ _ A),⟨_,_,rfl,rfl,⟨_,_,rfl,rfl,⟨_,_,rfl,rfl,⟨_,_,rfl,rfl,rfl⟩⟩⟩⟩⟩,rfl⟩⟩⟩;have f:J5 M S r J l H (upd p M.lq (.lst (t ++ [.ref a]))):=λc o e b=>by
  rw[Zf (λz:c=M.lq=>b (z ▸ .inr (.inr (.inl (by simp[ML.ls])))))];exact j _ _ (n _ _ (h _ _ e))
 generalize (upd p M.lq (.lst (t ++ [.ref a])))=a at i f |-;obtain⟨e,b⟩:=i.ob;obtain⟨u,a,_,g⟩:=(i.ls (M.ld,m.ip) (by simp[Mo.at_])).get;dsimp only at a g;refine⟨_,rfl,M.p,CM,e,_,_,rfl,b,Tm.cl,Tm.nd,Tg _,.inl ⟨rfl,_,ZD.of a⟩,_,rfl,_,rfl,_,rfl,_,rfl,aB rfl,λp b=>?_⟩;exact⟨M.ld,u,.ref p,rfl,rfl,(i.tell a b).1,by lia,k _ _ ⟨M,r,J,l,rfl,(i.tell a b).2.1,rfl⟩ (ZZ.trans ⟨f,λ_ s=>.inl s⟩ (i.tell a b).2.2)⟩
def riD(n:Str)(day wt:Int):D:=.tup [.str "rise", .str n,.int day,.int wt]
inductive UV(C CM:gF)(c:gB)(vs:aG)(H:Hp)(Q:VK)(E:XK):Prop
 |mk(p) (S) (m) (O) (n) (day wt)(_:vs=[.ref p,.str n,.int day,.int wt])(_:YD C CM H p S m O)(_:S.length<=1000)(_:n.length<=100)(_:okI day)(_:okI wt)(_:dueM E c H (∀a Y,YD C CM Y p (S ++ [.rise n day wt]) (m.told (riD n day wt)) a->ZZ O H a Y->Q .non Y) ((JS S n day wt).or (Wf m)))
abbrev IG:Stmt:=Y1 (top 57) 2
theorem Xf(e:ZU K CM "rise" "Moot.rise" IG)(i:VD K C)(Tm:ZR K CM)(b:ZX P w K mg Z C "check_rise" 3 (UD C c))(d:Mt P w K mg Z C "rise" lg 4 (Je C))(a:ZX P w K mg Z CM "check_moments" 1 (YM C CM c)):ZX P w K mg Z CM "rise" 5 (UV C CM c):=by
 refine e.mx lg lg λH s Q E e h=>?_;obtain⟨_,S,m,_,n,f,p,rfl,⟨M,g,J,r,rfl,e,rfl⟩,u,l,j,o,k⟩:=h;refine⟨rfl,_,(Zd (Zs (Yn Z3 (Z2 Q0) i.cl b (Za Q3 (Za Qa (Za Qb Zb))))) (Zd (Zs (Ab Z3 Q0 Tm.cl a)) (Zd (Zs (Jg (Z2 Q0) i.cl d (Za Q3 (Za Qa (Za Qb Zb))))) (Zg (Zs (Y4 aD aE aF Wa (Z2 Q0) (Za (Yj (Za Zt (Za Q3 (Za Qa (Za Qb Zb))))) Zb))))))),?_⟩;have a:=aC
 obtain⟨b,a⟩:=e.ob;obtain⟨d,h⟩:=e.fk.f.ob;refine⟨_,rfl,M.p,CM,b,_,_,rfl,a,Tm.cl,Tm.nf,Ts _,M.L.p,d,_,rfl,h,Wh _ _ _ _ aA,_,rfl,_,rfl,_,rfl,M.L,S,n,f,p,rfl,e.fk.f,l,j,o,dueM.cut k (ZA.refl H) λi k=>?_⟩;refine⟨_,rfl,M.p,b,_,rfl,a,Ys _ aA,M,S,g,J,m,r,rfl,e,dueM.last k (ZA.refl H) λt k=>?_⟩;have v:=JM t;refine⟨_,rfl,M.p,CM,b,_,_,rfl,a,Tm.cl,Tm.nf,Ts _,M.L.p,d,_,rfl,h,Wh _ _ _ _ aA,_,rfl,_,rfl,_,rfl,M.L,S,g,n,f,p,rfl,e.fk,u,l,j,o,i,λa b f R2=>?_⟩;have a:=e.iu b f R2;obtain⟨e,d⟩:=a.ob;obtain⟨s,b,_,h⟩:=(a.ls (M.ld,m.ip) (by simp[Mo.at_])).get;dsimp only at b h;refine⟨_,rfl,M.p,CM,e,_,_,rfl,d,Tm.cl,Tm.nd,Tg _,.inl ⟨rfl,_,ZD.of b⟩,_,rfl,_,rfl,_,rfl,aB rfl,λp d=>?_⟩;exact⟨M.ld,s,.ref p,rfl,rfl,(a.tell b d).1,by lia,k _ _ ⟨M,g,J,r,rfl,(a.tell b d).2.1,rfl⟩ ((ZZ.iu f R2).trans (a.tell b d).2.2)⟩
def diD(n a:Str)(day:Int):D:=.tup [.str "die", .str n,.int day,.str a]
inductive TR(C CM:gF)(c:gB)(vs:aG)(H:Hp)(Q:VK)(E:XK):Prop
 |mk(p) (S) (m) (O) (n he) (day)(_:vs=[.ref p,.str n,.int day,.str he])(_:YD C CM H p S m O)(_:S.length<=1000)(_:n.length<=100)(_:he.length<=100)(_:okI day)(_:dueM E c H (∀a Y,YD C CM Y p (S ++ [.die n day he]) (m.told (diD n he day)) a->ZZ O H a Y->Q .non Y) ((Bd S n he day).or (Wf m)))
abbrev Ia:Stmt:=Y1 (top 57) 3
theorem Qu(e:ZU K CM "die" "Moot.die" Ia)(j:VD K C)(Tm:ZR K CM)(b:ZX P w K mg Z C "check_death" 2 (TB C c))(d:Mt P w K mg Z C "die" lF 3 (Ay C))(a:ZX P w K mg Z CM "check_moments" 1 (YM C CM c)):ZX P w K mg Z CM "die" 4 (TR C CM c):=by
 refine e.mx lF lF λH s Q E e h=>?_;obtain⟨_,S,m,_,n,l,f,rfl,⟨M,i,J,r,rfl,e,rfl⟩,u,p,g,o,k⟩:=h;refine⟨rfl,_,(Zd (Zs (Yn Z3 (Z2 Q0) j.cl b (Za Q3 (Za Qa (Za Qb Zb))))) (Zd (Zs (Ab Z3 Q0 Tm.cl a)) (Zd (Zs (Jg (Z2 Q0) j.cl d (Za Q3 (Za Qa (Za Qb Zb))))) (Zg (Zs (Y4 aD aE aF Wa (Z2 Q0) (Za (Yj (Za Zt (Za Q3 (Za Qa (Za Qb Zb))))) Zb))))))),?_⟩;have a:=aC
 obtain⟨b,a⟩:=e.ob;obtain⟨d,h⟩:=e.fk.f.ob;refine⟨_,rfl,M.p,CM,b,_,_,rfl,a,Tm.cl,Tm.nf,Ts _,M.L.p,d,_,rfl,h,Wh _ _ _ _ aA,_,rfl,_,rfl,_,rfl,M.L,S,n,l,f,rfl,e.fk.f,p,g,o,dueM.cut k (ZA.refl H) λj k=>?_⟩;refine⟨_,rfl,M.p,b,_,rfl,a,Ys _ aA,M,S,i,J,m,r,rfl,e,dueM.last k (ZA.refl H) λt k=>?_⟩;have v:=JM t;refine⟨_,rfl,M.p,CM,b,_,_,rfl,a,Tm.cl,Tm.nf,Ts _,M.L.p,d,_,rfl,h,Wh _ _ _ _ aA,_,rfl,_,rfl,_,rfl,M.L,S,i,n,l,f,rfl,e.fk,u,p,g,o,j,λa b f R2=>?_⟩;have a:=e.iu b f R2;obtain⟨e,d⟩:=a.ob;obtain⟨s,b,_,g⟩:=(a.ls (M.ld,m.ip) (by simp[Mo.at_])).get;dsimp only at b g;refine⟨_,rfl,M.p,CM,e,_,_,rfl,d,Tm.cl,Tm.nd,Tg _,.inl ⟨rfl,_,ZD.of b⟩,_,rfl,_,rfl,_,rfl,aB rfl,λp d=>?_⟩;exact⟨M.ld,s,.ref p,rfl,rfl,(a.tell b d).1,by lia,k _ _ ⟨M,i,J,r,rfl,(a.tell b d).2.1,rfl⟩ ((ZZ.iu f R2).trans (a.tell b d).2.2)⟩
theorem Yo(d:L[i]?=some (some (.ref a)))(e:H a=some (.tup us))(f:atI us k=some v)(h:tr L H λvs b=>Q (v::vs) b):Uu (JA (Jz K) (YJ i) (tC (.int k))) tr L H Q:=⟨_,d,a,us,k,v,rfl,rfl,ZJ.of e,f,h⟩
theorem J0{i:Nat}{w v:Str}{t u:TS}{D:ZY}{L:St}{H:Hp}(a:L[i]?=some (some (.str v)))(b:v≠w)(h:u D L H):Ug (Dn (Cz (JA CO (YJ i) (tC (.str w)))) t Yy) u D L H:=⟨_,a,rfl,_,rfl,Zv (λz=>absurd (by injection z) b) (λ_=>h)⟩
theorem Jt{i:Nat}{w:Str}{t u:TS}{D:ZY}{L:St}{H:Hp}(a:L[i]?=some (some (.str w)))(h:t {D with nx:=u D } L H):Ug (Dn (Cz (JA CO (YJ i) (tC (.str w)))) t Yy) u D L H:=⟨_,a,rfl,_,rfl,Zv (λ_=>h) (λz=>absurd rfl z)⟩
inductive CD where
 | wer (x y:Str) (a:Int) | clm (x:Str) (i:Int) | acc (i:Int) (n:Str)
def cdV(day need:Int)(l1 l2:gF):CD->List V
 | .wer x y a=>[.str "wergild", .str x,.str y,.int a,.int day,.int need,.ref l1,.ref l2]
 | .clm x i=>[.str "claim", .str x,.int i,.int day,.int need,.ref l1,.ref l2]
 | .acc i n=>[.str "accuse", .int i,.str n,.int day,.int need,.ref l1,.ref l2]
def cdOk:CD->Prop
 | .wer x y a=>x.length<=100/\y.length<=100/\okI a
 | .clm x i=>x.length<=100/\okI i
 | .acc i n=>n.length<=100/\okI i
def eCD(S:List ZK)(m:Mo)(day need:Int)(f:Str->Int)(b d:fZ):CD->Option Str
 | .wer x y a=>JR S m x y a day need f b d
 | .clm x i=>Ax S m x i day need f b d
 | .acc i n=>Aj S m i n day need f b d
def Mo.iq(m:Mo)(day need:Int)(f:Str->Int)(b d:fZ):CD->Mo
 | .wer x y a=>m.owes x y a day need f b d
 | .clm x i=>m.won x i.toNat day need f b d
 | .acc i n=>m.acc i n day need f b d
inductive SD where
 | come (n:Str) (a b:Int) | rise (n:Str) (a b:Int) | die (n b:Str) (a:Int) | pen (n:Str) | bring (n:Str) (a:Int) | give (i:Int) (x y:Str) (a:Int) | pay (x y:Str) (b a:Int)
def sdV:SD->List V
 | .come n a b=>[.str "come", .str n,.int a,.int b]
 | .rise n a b=>[.str "rise", .str n,.int a,.int b]
 | .die n b a=>[.str "die", .str n,.int a,.str b]
 | .pen n=>[.str "penance", .str n]
 | .bring n a=>[.str "bring", .str n,.int a]
 | .give i x y a=>[.str "give", .int i,.str x,.str y,.int a]
 | .pay x y b a=>[.str "pay", .str x,.str y,.int b,.int a]
def sdOk(S:List ZK)(m:Mo):SD->Prop
 | .come n a b=>S.length<=1000/\okN n/\okI a/\okI b
 | .rise n a b=>S.length<=1000/\n.length<=100/\okI a/\okI b
 | .die n b a=>S.length<=1000/\n.length<=100/\b.length<=100/\okI a
 | .pen n=>n.length<=100/\m.iP<=1000/\m.o6.length<=1000
 | .bring n a=>WS m/\n.length<=100/\okI a
 | .give i x y a=>WS m/\x.length<=100/\y.length<=100/\okI i/\okI a
 | .pay x y b a=>WS m/\x.length<=100/\y.length<=100/\okI b/\okI a
def eSD(S:List ZK)(m:Mo):SD->Option Str
 | .come n a b=>(Tr S n a b).or (Wf m)
 | .rise n a b=>(JS S n a b).or (Wf m)
 | .die n b a=>(Bd S n b a).or (Wf m)
 | .pen n=>(Wt S n).or ((AO S n).or (Wf m))
 | .bring n a=>(eM 0 9999 a).or ((Vr S m a [n] none none).or ((DN m).or (Wf m)))
 | .give i x y a=>(eM 0 9999 a).or ((Vr S m a [x,y] (some i) none).or (Wf m))
 | .pay x y b a=>(eM 1 1000000 b).or ((eM 0 9999 a).or ((Vr S m a [x,y] none none).or (Wf m)))
def sdF(S:List ZK):SD->List ZK
 | .come n a b=>S ++ [.come n a b]
 | .rise n a b=>S ++ [.rise n a b]
 | .die n b a=>S ++ [.die n a b]
 | _=>S
def Mo.sd(m:Mo):SD->Mo
 | .come n a b=>m.told (coD n a b)
 | .rise n a b=>m.told (riD n a b)
 | .die n b a=>m.told (diD n b a)
 | .pen n=>m.iR n
 | .bring n a=>m.brg n a
 | .give i x y a=>m.give i.toNat x y a
 | .pay x y b a=>m.pay x y b a
def sdR(m:Mo):SD->V
 | .bring _ _=>.int m.ib.length
 | _=>.non
inductive WU(C CM:gF)(c:gB)(vs:aG)(H:Hp)(Q:VK)(E:XK):Prop
 |mk(p) (S) (m) (O) (a) (d)(_:vs=[.ref p,.ref a])(_:YD C CM H p S m O)(_:H a=some (.tup (sdV d)))(_:sdOk S m d)(_:dueM E c H (∀b Y,YD C CM Y p (sdF S d) (m.sd d) b->ZZ O H b Y->Q (sdR m d) Y) (eSD S m d))
inductive WW(C CM:gF)(c:gB)(vs:aG)(H:Hp)(Q:VK)(E:XK):Prop
 |mk(p) (S) (m) (O) (a) (d) (day need) (l1 l2) (o1 o2) (f)(_:vs=[.ref p,.ref a])(_:YD C CM H p S m O)(_:H a=some (.tup (cdV day need l1 l2 d)))(_:Aq S m H l1 l2 o1 o2 day need f)(_:¬O l1)(_:¬O l2)(_:cdOk d)(_:dueM E c H (∀b Y,YD C CM Y p S (m.iq day need f o1 o2 d) b->ZZ O H b Y->Q (.int m.o6.length) Y) (eCD S m day need f o1 o2 d))
abbrev EU:Stmt:=top 20
theorem Rx:ZM ["moot","deed","word"] ["moot","deed"] (Zm EU):=fsc
theorem PV(a:YA K mg "done" EU)(Tm:ZR K CM)(u:Er K mg c errs)(l:ZX P w K mg Z CM "come" 4 (UK C CM c))(o:ZX P w K mg Z CM "rise" 5 (UV C CM c))(r:ZX P w K mg Z CM "die" 4 (TR C CM c))(b:ZX P w K mg Z CM "penance" 2 (Ja C CM c))(j:ZX P w K mg Z CM "bring" 4 (VS C CM c))(n:ZX P w K mg Z CM "give" 4 (UH C CM c))(t:ZX P w K mg Z CM "pay" 4 (Jb C CM c))(k:ZX P w K mg Z CM "claim" 6 (VP C CM c))(e:ZX P w K mg Z CM "wergild" 6 (TY C CM c))(i:ZX P w K mg Z CM "accuse" 7 (Jh C CM c)):YU P w K mg Z "done" 8 (Sp.or (WU C CM c) (WW C CM c)):=by
 refine a.fnX Rx (λ_ _ _ _ _ _=>al2 λ_ _=>rfl) (λg H Q E h=>?_) (λf d A a s H g Q E m h=>?_)
 .rcases h with⟨p,S,m,O,a,d,rfl,_⟩ | ⟨p,S,m,O,a,d,g,need,l1,l2,o1,o2,f,rfl,_⟩<;>rfl
 .refine⟨_,(Zd (Zx 2 (Zh Zi Q3 Zc)) (Zd (Zq (Zk Yk Qa Zt (Zn _)) (Zg (Zw (Yn Z3 Q0 Tm.cl l (Za (Zh Zi Q3 Zc) (Za (Zh Zi Q3 Zc) (Za (Zh Zi Q3 Zc) Zb)))))) Zp) (Zd (Zq (Zk Yk Qa Zt (Zn _)) (Zg (Zw (Yn Z3 Q0 Tm.cl o (Za (Zh Zi Q3 Zc) (Za (Zh Zi Q3 Zc) (Za (Zh Zi Q3 Zc) Zb)))))) Zp) (Zd (Zq (Zk Yk Qa Zt (Zn _)) (Zg (Zw (Yn Z3 Q0 Tm.cl r (Za (Zh Zi Q3 Zc) (Za (Zh Zi Q3 Zc) (Za (Zh Zi Q3 Zc) Zb)))))) Zp) (Zd (Zq (Zk Yk Qa Zt (Zn _)) (Zg (Zw (Yn Z3 Q0 Tm.cl b (Za (Zh Zi Q3 Zc) Zb)))) Zp) (Zd (Zq (Zk Yk Qa Zt (Zn _)) (Zg (Zw (Yn Z3 Q0 Tm.cl j (Za (Zh Zi Q3 Zc) (Za (Zh Zi Q3 Zc) Zb))))) Zp) (Zd (Zq (Zk Yk Qa Zt (Zn _)) (Zg (Zw (Yn Z3 Q0 Tm.cl n (Za (Zh Zi Q3 Zc) (Za (Zh Zi Q3 Zc) (Za (Zh Zi Q3 Zc) (Za (Zh Zi Q3 Zc) Zb))))))) Zp) (Zd (Zq (Zk Yk Qa Zt (Zn _)) (Zg (Zw (Yn Z3 Q0 Tm.cl t (Za (Zh Zi Q3 Zc) (Za (Zh Zi Q3 Zc) (Za (Zh Zi Q3 Zc) (Za (Zh Zi Q3 Zc) Zb))))))) Zp) (Zd (Zq (Zk Yk Qa Zt (Zn _)) (Zg (Zw (Yn Z3 Q0 Tm.cl k (Za (Zh Zi Q3 Zc) (Za (Zh Zi Q3 Zc) (Za (Zh Zi Q3 Zc) (Za (Zh Zi Q3 Zc) (Za (Zh Zi Q3 Zc) (Za (Zh Zi Q3 Zc) Zb))))))))) Zp) (Zd (Zq (Zk Yk Qa Zt (Zn _)) (Zg (Zw (Yn Z3 Q0 Tm.cl e (Za (Zh Zi Q3 Zc) (Za (Zh Zi Q3 Zc) (Za (Zh Zi Q3 Zc) (Za (Zh Zi Q3 Zc) (Za (Zh Zi Q3 Zc) (Za (Zh Zi Q3 Zc) (Za (Zh Zi Q3 Zc) Zb)))))))))) Zp) (Zd (Zq (Zk Yk Qa Zt (Zn _)) (Zg (Zw (Yn Z3 Q0 Tm.cl i (Za (Zh Zi Q3 Zc) (Za (Zh Zi Q3 Zc) (Za (Zh Zi Q3 Zc) (Za (Zh Zi Q3 Zc) (Za (Zh Zi Q3 Zc) (Za (Zh Zi Q3 Zc) Zb))))))))) Zp) (Zg (Wg Y5 u (Wm (Y6 Qa (Yu Wl)))))))))))))))),?_⟩;rcases h with⟨_,S,m,_,a,d,rfl,⟨M,r,J,p,rfl,W,rfl⟩,b,e,k⟩ | ⟨_,S,m,_,a,d,g,need,l1,l2,o1,o2,f,rfl,⟨M,r,J,p,rfl,W,rfl⟩,b,cs,y1,y2,e,k⟩
  .obtain⟨l,j⟩:=W.ob;have h:YD C CM H M.p S m (mo M S r J p):=⟨M,r,J,p,rfl,W,rfl⟩;cases d with
   | come n g i =>
    refine⟨_,rfl,a,_,0,_,rfl,rfl,ZJ.of b,rfl,?_⟩;refine Z9 ?_;refine Jt rfl ?_;exact⟨_,rfl,M.p,l,_,rfl,j,Ys _ aA,Yo rfl b rfl (Yo rfl b rfl (Yo rfl b rfl ⟨M.p,S,m,_,n,g,i,rfl,h,e.1,e.2.1,e.2.2.1,e.2.2.2,k⟩))⟩
   | rise n g i =>
    refine⟨_,rfl,a,_,0,_,rfl,rfl,ZJ.of b,rfl,?_⟩;refine Z9 ?_
    iterate 1 refine J0 rfl aA ?_
    refine Jt rfl ?_;exact⟨_,rfl,M.p,l,_,rfl,j,Ys _ aA,Yo rfl b rfl (Yo rfl b rfl (Yo rfl b rfl ⟨M.p,S,m,_,n,g,i,rfl,h,e.1,e.2.1,e.2.2.1,e.2.2.2,k⟩))⟩
   | die n i g =>
    refine⟨_,rfl,a,_,0,_,rfl,rfl,ZJ.of b,rfl,?_⟩;refine Z9 ?_
    iterate 2 refine J0 rfl aA ?_
    refine Jt rfl ?_;exact⟨_,rfl,M.p,l,_,rfl,j,Ys _ aA,Yo rfl b rfl (Yo rfl b rfl (Yo rfl b rfl ⟨M.p,S,m,_,n,i,g,rfl,h,e.1,e.2.1,e.2.2.1,e.2.2.2,k⟩))⟩
   | pen n =>
    refine⟨_,rfl,a,_,0,_,rfl,rfl,ZJ.of b,rfl,?_⟩;refine Z9 ?_
    iterate 3 refine J0 rfl aA ?_
    refine Jt rfl ?_;exact⟨_,rfl,M.p,l,_,rfl,j,Ys _ aA,Yo rfl b rfl ⟨M.p,S,m,_,n,rfl,h,e.1,e.2.1,e.2.2,k⟩⟩
   | bring n g =>
    refine⟨_,rfl,a,_,0,_,rfl,rfl,ZJ.of b,rfl,?_⟩;refine Z9 ?_
    iterate 4 refine J0 rfl aA ?_
    refine Jt rfl ?_;exact⟨_,rfl,M.p,l,_,rfl,j,Ys _ aA,Yo rfl b rfl (Yo rfl b rfl ⟨M.p,S,m,_,n,g,rfl,h,e.1,e.2.1,e.2.2,k⟩)⟩
   | give i x y g =>
    refine⟨_,rfl,a,_,0,_,rfl,rfl,ZJ.of b,rfl,?_⟩;refine Z9 ?_
    iterate 5 refine J0 rfl aA ?_
    refine Jt rfl ?_;exact⟨_,rfl,M.p,l,_,rfl,j,Ys _ aA,Yo rfl b rfl (Yo rfl b rfl (Yo rfl b rfl (Yo rfl b rfl ⟨M.p,S,m,_,i,x,y,g,rfl,h,e.1,e.2.1,e.2.2.1,e.2.2.2.1,e.2.2.2.2,k⟩)))⟩
   | pay x y o g =>
    refine⟨_,rfl,a,_,0,_,rfl,rfl,ZJ.of b,rfl,?_⟩;refine Z9 ?_
    iterate 6 refine J0 rfl aA ?_
    refine Jt rfl ?_;exact⟨_,rfl,M.p,l,_,rfl,j,Ys _ aA,Yo rfl b rfl (Yo rfl b rfl (Yo rfl b rfl (Yo rfl b rfl ⟨M.p,S,m,_,x,y,o,g,rfl,h,e.1,e.2.1,e.2.2.1,e.2.2.2.1,e.2.2.2.2,k⟩)))⟩
  .obtain⟨l,j⟩:=W.ob;have h:YD C CM H M.p S m (mo M S r J p):=⟨M,r,J,p,rfl,W,rfl⟩;cases d with
   | clm x i =>
    refine⟨_,rfl,a,_,0,_,rfl,rfl,ZJ.of b,rfl,?_⟩;refine Z9 ?_
    iterate 7 refine J0 rfl aA ?_
    refine Jt rfl ?_;exact⟨_,rfl,M.p,l,_,rfl,j,Ys _ aA,Yo rfl b rfl (Yo rfl b rfl (Yo rfl b rfl (Yo rfl b rfl (Yo rfl b rfl (Yo rfl b rfl ⟨M.p,S,m,_,x,i,g,need,l1,l2,o1,o2,f,rfl,h,cs,y1,y2,e.1,e.2,k⟩)))))⟩
   | wer x y o =>
    refine⟨_,rfl,a,_,0,_,rfl,rfl,ZJ.of b,rfl,?_⟩;refine Z9 ?_
    iterate 8 refine J0 rfl aA ?_
    refine Jt rfl ?_;exact⟨_,rfl,M.p,l,_,rfl,j,Ys _ aA,Yo rfl b rfl (Yo rfl b rfl (Yo rfl b rfl (Yo rfl b rfl (Yo rfl b rfl (Yo rfl b rfl (Yo rfl b rfl ⟨M.p,S,m,_,x,y,o,g,need,l1,l2,o1,o2,f,rfl,h,cs,y1,y2,e.1,e.2.1,e.2.2,k⟩))))))⟩
   | acc i n =>
    refine⟨_,rfl,a,_,0,_,rfl,rfl,ZJ.of b,rfl,?_⟩;refine Z9 ?_
    iterate 9 refine J0 rfl aA ?_
    refine Jt rfl ?_;exact⟨_,rfl,M.p,l,_,rfl,j,Ys _ aA,Yo rfl b rfl (Yo rfl b rfl (Yo rfl b rfl (Yo rfl b rfl (Yo rfl b rfl (Yo rfl b rfl ⟨M.p,S,m,_,i,n,g,need,l1,l2,o1,o2,f,rfl,h,cs,y1,y2,e.1,e.2,k⟩)))))⟩
end
theorem YD.there(h:YD C CM H p S m O)(a:O b):∃o,H b=some o:=by
 obtain⟨M,d,J,c,_,W,rfl⟩:=h;exact W.there a
theorem YD.out(h:YD C CM H p S m O)(e:H b=none):¬O b:=λz=>by
 obtain⟨o,a⟩:=h.there z;rw[e] at a;cases a
section
variable{C CM:gF}
theorem Ye{t u:TS}{D:ZY}{L:St}{H:Hp}(h:∀b:ZY,(∀ a Y,u D a Y->b.nx a Y)->t b L H):Ug t u D L H:=h {D with nx:=u D } λ_ _ h=>h
theorem ini(c:H p=some (.ins CM dx fs))(a:H l=none):(upd (upd H l y) p (.ins CM dx fs')) p=some (.ins CM dx fs')/\(upd (upd H l y) p (.ins CM dx fs')) l=some y/\(∀b o,H b=some o->b≠p->(upd (upd H l y) p (.ins CM dx fs')) b=some o)/\p≠l:=by
 have n:p≠l:=Zo c a;exact⟨Zj,by rw[Zf n.symm,Zj],λb o e c=>by rw[Zf c,Zf (Zo e a)];exact e,n⟩
theorem JU{N:Hp->Prop}{H:Hp}{p l d:gF}{a:List (Str×V)}{nm:Str}{y:HO}{k:Nat}(g:H p=some (.ins CM d a))(f:H l=none)(i:a.length<=k)(h:∀c e,Zy nm (.ref l) a=e->e.length<=k+1->c p=some (.ins CM d e)->c l=some y->(∀b o,H b=some o->b≠p->c b=some o)->N c):N (upd (upd H l y) p (.ins CM d (Zy nm (.ref l) a))) :=
 have i:=ini (fs':=Zy nm (.ref l) a) (y:=y) g f
 h _ _ rfl (xZ (A3 ..) (by lia)) i.1 i.2.1 i.2.2.1
def mo0:Mo:=⟨[],[],[],[],[],[],[],λ_=>none,0⟩
inductive UT(C CM:gF)(vs:aG)(H:Hp)(Q:VK)(a:XK):Prop
 |mk(p dx)(_:vs=[.ref p])(_:H p=some (.ins CM dx []))(_:∀M Y,M.p=p->ZC C CM Y M [] (λ_=>0) [] mo0 []->(∀b o,H b=some o->b≠p->Y b=some o)->(∀b,mo M [] (λ_=>0) [] [] b->b=p\/H b=none)->Q .non Y)
abbrev KD:Stmt:=Y1 (top 57) 0
theorem XI(b:ZU K CM "__init__" "Moot.__init__" KD)(Tm:ZR K CM)(a:DM P w K mg Z C "Folk" 1 (TF C)):Mt P w K mg Z CM "__init__" lP 3 (UT C CM):=by
 refine b.mq lP λH c Q E b h=>?_;obtain⟨p,A,rfl,i,k⟩:=h;refine⟨rfl,_,(Zd (Ud Q0 (Yb Zb)) (Zd (Ud Q0 (Io a)) (Zd (Ud Q0 (Yb Zb)) (Zd (Ud Q0 (Yb Zb)) (Zd (Ud Q0 (Yb Zb)) (Zd (Ud Q0 (Yb Zb)) (Zd (Ud Q0 (Yb Zb)) (Zd (Ud Q0 (Yb Zb)) (Zg (Ud Q0 B3)))))))))),?_⟩;have a:=aC
 refine Ye λa b=>?_;refine⟨aB rfl,λld a2=>?_⟩;have a:p≠ld:=Zo i a2;refine⟨_,rfl,p,CM,A,[],rfl,(by rw[Zf a];exact i),Tm.cl,Tm.nd,(yW (xF 0) aA),JU (k:=0) i a2 (xF 0) λH1 j g1 r F E a6=>b _ _ ?_⟩;refine Ye λb m=>?_;intro x d nx f b;have px:p≠x:=Zo F nx;have b:p≠d:=Zo F f;refine⟨x,d,rfl,Zj,λL g b h n c=>⟨rfl,?_⟩⟩;subst b;have u:ZA H1 g:=λb o e=>n b o (by rw[Zf (Zo e nx),Zf (Zo e f)];exact e) (Zo e nx);have v:∀b,b=L.dc\/b=L.dw\/b=L.dd\/b=L.dh->H1 b=none:=λb hb=>by
  have:=c b hb
  by_cases c:b=L.p
  .rw[c];exact nx
  .rw[Zf c] at this
   by_cases c:b=d
   .rw[c];exact f
   .rw[Zf c] at this;exact this
 have c:=u _ _ F;have K2:Fk C g L [] (λ_=>0):=by
  obtain⟨d,f,n⟩:=h.w;exact⟨h,WR.start h,d,f,λp i=>by rw[mT (Nat.le_zero.mp n)] at i;cases i⟩
 refine⟨_,rfl,p,CM,A,j,rfl,c,Tm.cl,Tm.nf,(yW r aA),m _ _ ?_⟩;have i:(Zy "folk" (V.ref L.p) j).length<=2:=xZ (A3 ..) (by lia);generalize g2:Zy "folk" (V.ref L.p) j=f at i |-;have d:(upd g p (.ins CM A f)) p=some (.ins CM A f):=Zj;have m:∀b o,g b=some o->b≠p->(upd g p (.ins CM A f)) b=some o:=λb o e c=>by rw[Zf c];exact e
 generalize (upd g p (.ins CM A f))=H2 at d m |-;refine Ye λc h=>?_;refine⟨aB rfl,λQ Y=>?_⟩;have c:p≠Q:=Zo d Y;refine⟨_,rfl,p,CM,A,f,rfl,(by rw[Zf c];exact d),Tm.cl,Tm.nb,(yW i aA),JU (k:=2) d Y i λH3 j g3 i d J y=>h _ _ ?_⟩;refine Ye λh f=>?_;refine⟨aB rfl,λR N=>?_⟩;have h:p≠R:=Zo d N;refine⟨_,rfl,p,CM,A,j,rfl,(by rw[Zf h];exact d),Tm.cl,Tm.nh,(yW i aA),JU (k:=3) d N i λH4 r g4 n d O i=>f _ _ ?_⟩;refine Ye λf j=>?_;refine⟨aB rfl,λS I=>?_⟩;have t:p≠S:=Zo d I;refine⟨_,rfl,p,CM,A,r,rfl,(by rw[Zf t];exact d),Tm.cl,Tm.nq,(yW n aA),JU (k:=4) d I n λH5 s g5 r f a0 d=>j _ _ ?_⟩;refine Ye λj n=>?_;refine⟨aB rfl,λT B=>?_⟩;have M:p≠T:=Zo f B;refine⟨_,rfl,p,CM,A,s,rfl,(by rw[Zf M];exact f),Tm.cl,Tm.nt,(yW r aA),JU (k:=5) f B r λH6 z g6 s j a3 f=>n _ _ ?_⟩;refine Ye λn r=>?_;refine⟨aB rfl,λW x=>?_⟩;have a1:p≠W:=Zo j x;refine⟨_,rfl,p,CM,A,z,rfl,(by rw[Zf a1];exact j),Tm.cl,Tm.ny,(yW s aA),JU (k:=6) j x s λH7 G g7 z n a9 j=>r _ _ ?_⟩;refine Ye λr s=>?_;refine⟨aB rfl,λU r=>?_⟩;have a5:p≠U:=Zo n r;refine⟨_,rfl,p,CM,A,G,rfl,(by rw[Zf a5];exact n),Tm.cl,Tm.nv,(yW z aA),JU (k:=7) n r z λH8 f8 g8 G n a7 z=>s _ _ ?_⟩;intro dp X;have a8:p≠dp:=Zo n X;refine⟨_,rfl,p,CM,A,f8,rfl,(by rw[Zf a8];exact n),Tm.cl,Tm.np,(yW G aA),JU (k:=8) n X G λG n g9 l9 a4 b8 s=>?_⟩;have k1:=a6;have k2:∀b o,H b=some o->b≠p->H2 b=some o:=λb o e n=>m b o (u b o (k1 b o e n)) n;have k3:∀b o,H b=some o->b≠p->H3 b=some o:=λb o e n=>y b o (k2 b o e n) n;have k4:∀b o,H b=some o->b≠p->H4 b=some o:=λb o e n=>i b o (k3 b o e n) n;have k5:∀b o,H b=some o->b≠p->H5 b=some o:=λb o e n=>d b o (k4 b o e n) n;have k6:∀b o,H b=some o->b≠p->H6 b=some o:=λb o e n=>f b o (k5 b o e n) n;have k7:∀b o,H b=some o->b≠p->H7 b=some o:=λb o e n=>j b o (k6 b o e n) n;have k8:∀b o,H b=some o->b≠p->H8 b=some o:=λb o e n=>z b o (k7 b o e n) n;have k9:∀b o,H b=some o->b≠p->G b=some o:=λb o e n=>s b o (k8 b o e n) n;have q2:=m;have q3:∀b o,g b=some o->b≠p->H3 b=some o:=λb o e n=>y b o (q2 b o e n) n;have q4:∀b o,g b=some o->b≠p->H4 b=some o:=λb o e n=>i b o (q3 b o e n) n;have q5:∀b o,g b=some o->b≠p->H5 b=some o:=λb o e n=>d b o (q4 b o e n) n;have q6:∀b o,g b=some o->b≠p->H6 b=some o:=λb o e n=>f b o (q5 b o e n) n;have q7:∀b o,g b=some o->b≠p->H7 b=some o:=λb o e n=>j b o (q6 b o e n) n;have q8:∀b o,g b=some o->b≠p->H8 b=some o:=λb o e n=>z b o (q7 b o e n) n;have q9:∀b o,g b=some o->b≠p->G b=some o:=λb o e n=>s b o (q8 b o e n) n;have b2:G ld=some (.lst []):=(s _ _ (z _ _ (j _ _ (f _ _ (d _ _ (i _ _ (y _ _ (m _ _ (u _ _ E) a.symm) a.symm) a.symm) a.symm) a.symm) a.symm) a.symm) a.symm);have g:H ld=none:=a2;have b1:G Q=some (.lst []):=(s _ _ (z _ _ (j _ _ (f _ _ (d _ _ (i _ _ J c.symm) c.symm) c.symm) c.symm) c.symm) c.symm);have g:H Q=none:=by
  cases g:H Q with
  | none=>rfl
  | some o=>have:=k2 _ _ g c.symm;rw[Y] at this;cases this
 have b3:G R=some (.lst []):=(s _ _ (z _ _ (j _ _ (f _ _ (d _ _ O h.symm) h.symm) h.symm) h.symm) h.symm);have a2:H R=none:=by
  cases g:H R with
  | none=>rfl
  | some o=>have:=k3 _ _ g h.symm;rw[N] at this;cases this
 have b4:G S=some (.lst []):=(s _ _ (z _ _ (j _ _ (f _ _ a0 t.symm) t.symm) t.symm) t.symm);have a2:H S=none:=by
  cases g:H S with
  | none=>rfl
  | some o=>have:=k4 _ _ g t.symm;rw[I] at this;cases this
 have b5:G T=some (.lst []):=(s _ _ (z _ _ (j _ _ a3 M.symm) M.symm) M.symm);have a2:H T=none:=by
  cases g:H T with
  | none=>rfl
  | some o=>have:=k5 _ _ g M.symm;rw[B] at this;cases this
 have b7:G W=some (.lst []):=(s _ _ (z _ _ a9 a1.symm) a1.symm);have z:H W=none:=by
  cases g:H W with
  | none=>rfl
  | some o=>have:=k6 _ _ g a1.symm;rw[x] at this;cases this
 have b6:G U=some (.lst []):=(s _ _ a7 a5.symm);have s:H U=none:=by
  cases g:H U with
  | none=>rfl
  | some o=>have:=k7 _ _ g a5.symm;rw[r] at this;cases this
 have b0:G dp=some (.dK []):=b8;have b8:H dp=none:=by
  cases g:H dp with
  | none=>rfl
  | some o=>have:=k8 _ _ g a8.symm;rw[X] at this;cases this
 have a1:ld≠Q:=Zo (m _ _ (u _ _ E) a.symm) Y;have Y:ld≠R:=Zo (y _ _ (m _ _ (u _ _ E) a.symm) a.symm) N;have a2:ld≠S:=Zo (i _ _ (y _ _ (m _ _ (u _ _ E) a.symm) a.symm) a.symm) I;have a5:ld≠T:=Zo (d _ _ (i _ _ (y _ _ (m _ _ (u _ _ E) a.symm) a.symm) a.symm) a.symm) B;have a7:ld≠W:=Zo (f _ _ (d _ _ (i _ _ (y _ _ (m _ _ (u _ _ E) a.symm) a.symm) a.symm) a.symm) a.symm) x;have a6:ld≠U:=Zo (j _ _ (f _ _ (d _ _ (i _ _ (y _ _ (m _ _ (u _ _ E) a.symm) a.symm) a.symm) a.symm) a.symm) a.symm) r;have m:Q≠R:=Zo J N;have s:Q≠S:=Zo (i _ _ J c.symm) I;have u:Q≠T:=Zo (d _ _ (i _ _ J c.symm) c.symm) B;have E:Q≠W:=Zo (f _ _ (d _ _ (i _ _ J c.symm) c.symm) c.symm) x;have y:Q≠U:=Zo (j _ _ (f _ _ (d _ _ (i _ _ J c.symm) c.symm) c.symm) c.symm) r;have c:R≠S:=Zo O I;have i:R≠T:=Zo (d _ _ O h.symm) B;have J:R≠W:=Zo (f _ _ (d _ _ O h.symm) h.symm) x;have I:R≠U:=Zo (j _ _ (f _ _ (d _ _ O h.symm) h.symm) h.symm) r;have d:S≠T:=Zo a0 B;have B:S≠W:=Zo (f _ _ a0 t.symm) x;have h:S≠U:=Zo (j _ _ (f _ _ a0 t.symm) t.symm) r;have N:T≠W:=Zo a3 x;have t:T≠U:=Zo (j _ _ a3 M.symm) r;have j:W≠U:=Zo a9 r;have r:¬own L [] (λ_=>0) p:=λz=>by
  rcases z with z | z | z | z | z | ⟨n,l,e,z⟩
  .exact px z
  .have:=v p (.inl z);rw[F] at this;cases this
  .have:=v p (.inr (.inl z));rw[F] at this;cases this
  .have:=v p (.inr (.inr (.inl z)));rw[F] at this;cases this
  .have:=v p (.inr (.inr (.inr z)));rw[F] at this;cases this
  .cases e
 have x:Fk C G L [] (λ_=>0):=K2.at λb o hb e=>q9 b o e λz=>r (z▸hb);have a:∀b,H1 b=none->b≠p->H b=none:=λb hb n=>by
  cases g:H b with
  | none=>rfl
  | some o=>have:=k1 _ _ g n;rw[hb] at this;cases this
 have a4:G p=some (.ins CM A _):=a4.trans (congrArg (λf=>some (HO.ins CM A f)) (g9.symm.trans (congrArg (Zy _ _) (g8.symm.trans (congrArg (Zy _ _) (g7.symm.trans (congrArg (Zy _ _) (g6.symm.trans (congrArg (Zy _ _) (g5.symm.trans (congrArg (Zy _ _) (g4.symm.trans (congrArg (Zy _ _) (g3.symm.trans (congrArg (Zy _ _) (g2.symm.trans (congrArg (Zy _ _) g1.symm)))))))))))))))));have f:¬own L [] (λ_=>0) dp:=λz=>by
  obtain⟨o,e,_⟩:=K2.there z;have:=q8 _ _ e a8.symm;rw[X] at this;cases this
 refine k ⟨p,L,ld,Q,R,S,T,W,U,dp⟩ G rfl ⟨⟨A,a4⟩,x,λq g=>?_,b3,rfl,⟨[],b0,xF _,λ_=>rfl⟩,?_,(λ_ z=>nomatch z),(λ_ z=>nomatch z),px,f⟩ k9 (λb hb=>?_)
 .simp only[Mo.at_,mo0,xD,List.zip_nil_left,xV,or_false] at g;rcases g with rfl | rfl | rfl | rfl | rfl | rfl
  .exact⟨[],b2,rfl⟩
  .exact⟨[],b1,rfl⟩
  .exact⟨[],b4,rfl⟩
  .exact⟨[],b5,rfl⟩
  .exact⟨[],b7,rfl⟩
  .exact⟨[],b6,rfl⟩
 .simp only[ML.ls,xX,yM,xD,xV,or_false,not_or,not_false_eq_true,List.nodup_nil,and_true];exact⟨⟨Ne.symm Y,Ne.symm m,c,i,J,I⟩,⟨a1,a2,a5,a7,a6⟩,⟨s,u,E,y⟩,⟨d,B,h⟩,⟨N,t⟩,j⟩
 .rcases hb with z | z | z | z | z
  .exact .inl z
  .rw[z];exact .inr b8
  .simp only[ML.ls,xX,xD,xV,or_false] at z;rcases z with rfl | rfl | rfl | rfl | rfl | rfl | rfl<;>exact .inr (by assumption)
  .cases z
  .have c:b≠p:=λy=>r (y▸z);refine .inr ?_;rcases z with z | z | z | z | z | ⟨n,l,e,z⟩
   .exact a b (by rw[z];exact nx) c
   .exact a b (v b (.inl z)) c
   .exact a b (v b (.inr (.inl z))) c
   .exact a b (v b (.inr (.inr (.inl z)))) c
   .exact a b (v b (.inr (.inr (.inr z)))) c
   .cases e
end
inductive AD where
 | s (d:SD) | c (d:CD) (a a:Int) (a a:fZ) (f:Str->Int)
abbrev V0:=List ZK×Mo
def Vs(s:V0):AD->V0
 | .s d=>(sdF s.1 d,s.2.sd d)
 | .c d b a c e f=>(s.1,s.2.iq b a f c e d)
def Ze(a:List AD):V0:=a.foldl Vs ([],mo0)
def sdD:SD->D
 | .come n a b=>coD n a b
 | .rise n a b=>riD n a b
 | .die n b a=>diD n b a
 | .pen n=>.tup [.str "penance", .str n]
 | .bring n a=>Hl n a
 | .give i x y a=>gvD i.toNat x y a
 | .pay x y b a=>pyD x y b a
def cdD(day need:Int)(b c:fZ):CD->D
 | .wer x y a=>weD x y a day need b c
 | .clm x i=>clD x i.toNat day need b c
 | .acc i n=>acD i n day need b c
def adD:AD->D
 | .s d=>sdD d
 | .c d b a c e _=>cdD b a c e d
def HB:SD->Prop
 | .give i _ _ _=>0<=i
 | _=>True
def IU:CD->Prop
 | .clm _ i=>0<=i
 | _=>True
def Ky(s:V0):AD->Prop
 | .s d=>sdOk s.1 s.2 d/\eSD s.1 s.2 d=none/\HB d
 | .c d a b c e f=>cdOk d/\WS s.2/\s.1.length<=1000/\c.length<=60/\e.length<=60/\okI a/\okI b/\(∀n∈c++e,n.length<=100/\∀d,Zr s.1 n=some d->d<=a->A6 (kw s.1 n) a (f n)/\1<=f n/\f n<=1000)/\eCD s.1 s.2 a b f c e d=none/\IU d
def JB(b:List AD):Prop:=b.length<=400/\∀i a,b[i]?=some a->Ky (Ze (b.take i)) a
theorem Rr(s:V0)(a:AD):(Vs s a).2.ip=s.2.ip ++ [adD a]:=by
 cases a with
 | s d=>cases d<;>rfl
 | c d e b g h f=>cases d<;>rfl
theorem GQ:∀(b:List AD)(s:V0),(b.foldl Vs s).2.ip=s.2.ip++b.map adD
 | [],s=>by simp
 | a::b,s=>by
  rw[zA,GQ b,yF,Rr,yT];rfl
theorem OB(a:List AD):(Ze a).2.ip=a.map adD:=by unfold Ze;rw[GQ];rfl
theorem TX(b:List AD)(a:AD):Ze (b ++ [a])=Vs (Ze b) a:=by unfold Ze;rw[wC];rfl
theorem Cq(a:List AD):(Ze a).2.ip.length=a.length:=by rw[OB,xA]
theorem JB.snoc(h:JB as)(b:as.length<400)(g:Ky (Ze as) a):JB (as ++ [a]):=by
 refine⟨by rw[xE];show as.length+1<=400;lia,λi p b=>?_⟩;rcases Nat.lt_or_ge i as.length with z | z
 .rw[wF z] at b;rw[List.take_append_of_le_length (zE z)];exact h.2 i p b
 .grind
def scD:D->Bool
 | .str _=>true
 | .int _=>true
 | .non=>true
 | .bl _=>true
 | _=>false
theorem IT(h:scD d=true):isI d "list"=false:=by cases d<;>first | rfl | cases h
theorem NN(h:scD d=true)(a:YE H d u)(b:YE Y d v):v=u:=by
 cases d<;>first | (cases h;done) | (cases a;cases b;rfl)
theorem Ea:∀{S:List D}{us vs:aG},(∀d∈S,scD d=true)->ZO H S us->ZO Y S vs->vs=us
 | [],_,_,_,a,b=>by cases a;cases b;rfl
 | d::S,_,_,h,⟨_,_,rfl,a,a'⟩,⟨_,_,rfl,b,b'⟩=>by rw[NN (h d yE) a b,Ea (λx a=>h x (xO _ a)) a' b']
def sdP:SD->List D
 | .come n a b=>[.str "come", .str n,.int a,.int b]
 | .rise n a b=>[.str "rise", .str n,.int a,.int b]
 | .die n b a=>[.str "die", .str n,.int a,.str b]
 | .pen n=>[.str "penance", .str n]
 | .bring n a=>[.str "bring", .str n,.int a]
 | .give i x y a=>[.str "give", .int i,.str x,.str y,.int a]
 | .pay x y b a=>[.str "pay", .str x,.str y,.int b,.int a]
theorem FQ(d:SD):∀x∈sdP d,scD x=true:=by cases d<;>simp[sdP,scD]
theorem AF(H:Hp)(d:SD):ZO H (sdP d) (sdV d):=by cases d<;>(repeat refine⟨_,_,rfl,rfl,?_⟩)<;>exact rfl
def cdP(day need:Int)(b c:fZ):CD->List D
 | .wer x y a=>[.str "wergild", .str x,.str y,.int a,.int day,.int need,.lst (b.map D.str),.lst (c.map D.str)]
 | .clm x i=>[.str "claim", .str x,.int i,.int day,.int need,.lst (b.map D.str),.lst (c.map D.str)]
 | .acc i n=>[.str "accuse", .int i,.str n,.int day,.int need,.lst (b.map D.str),.lst (c.map D.str)]
theorem Dq:∀{o:fZ}{vs:aG},ZO H (o.map D.str) vs->vs=o.map V.str
 | [],_,h=>h
 | _::_,_,⟨_,_,e,rfl,h⟩=>by rw[e,Dq h];rfl
theorem Fb(h:ZO H (cdP day need o1 o2 d) vs):∃l1 l2,vs=cdV day need l1 l2 d/\H l1=some (.lst (o1.map V.str))/\H l2=some (.lst (o2.map V.str)):=by
 have a:∀{o:fZ}{v:V},YE H (.lst (o.map D.str)) v->∃l,v=.ref l/\H l=some (.lst (o.map V.str)):=λh=>by
  obtain⟨l,e,rfl,b,c⟩:=h;exact⟨l,rfl,by rw[b,Dq c]⟩
 cases d with
 | wer x y m =>
  obtain⟨_,_,rfl,rfl,⟨_,_,rfl,rfl,⟨_,_,rfl,rfl,⟨_,_,rfl,rfl,⟨_,_,rfl,rfl,⟨_,_,rfl,rfl,⟨_,_,rfl,e,⟨_,_,rfl,f,rfl⟩⟩⟩⟩⟩⟩⟩⟩:=h;obtain⟨l1,rfl,b⟩:=a e;obtain⟨l2,rfl,c⟩:=a f;exact⟨l1,l2,rfl,b,c⟩
 | clm x i =>
  obtain⟨_,_,rfl,rfl,⟨_,_,rfl,rfl,⟨_,_,rfl,rfl,⟨_,_,rfl,rfl,⟨_,_,rfl,rfl,⟨_,_,rfl,e,⟨_,_,rfl,f,rfl⟩⟩⟩⟩⟩⟩⟩:=h;obtain⟨l1,rfl,b⟩:=a e;obtain⟨l2,rfl,c⟩:=a f;exact⟨l1,l2,rfl,b,c⟩
 | acc i n =>
  obtain⟨_,_,rfl,rfl,⟨_,_,rfl,rfl,⟨_,_,rfl,rfl,⟨_,_,rfl,rfl,⟨_,_,rfl,rfl,⟨_,_,rfl,e,⟨_,_,rfl,f,rfl⟩⟩⟩⟩⟩⟩⟩:=h;obtain⟨l1,rfl,b⟩:=a e;obtain⟨l2,rfl,c⟩:=a f;exact⟨l1,l2,rfl,b,c⟩
section
variable{C CM:gF}
def plD(d:D):Prop:=scD d=true\/∃o:List Str,d=.lst (o.map D.str)/\o.length<=60
inductive VZ(vs:aG)(H:Hp)(Q:VK)(a:XK):Prop
 |mk(p) (us) (S)(_:vs=[.ref p])(_:H p=some (.tup us))(_:ZO H S us)(_:(∀d∈S,plD d))(_:S.length<=10)(_:∀q a Y,H q=none->Y q=some (.tup a)->ZO Y S a->(∀l,V.ref l∈a->H l=none)->ZA H Y->Q (.ref q) Y)
abbrev IP:Stmt:=top 69
theorem dE(a:YA K mg "_law_hand" IP)(T:Txt mg):Fn P w K mg Z "_law_hand" lp 1 VZ:=by
 refine a.fq lp λH a Q E g h=>?_;obtain⟨p,b,S,rfl,c,g,u,s,k⟩:=h
 refine⟨rfl,_,(Zg (Zw (Jm Xk T.tuple cD (Za (Vu (locs:=["_law_part"]) (fr:=[]) ⟨rfl,aA,aA,aA,aA,aA⟩ .nil rfl (IW Q0) ⟨λ_ _ _ _ _ _=>by
  have a:(inN ["_law_part"] []).Nodup:=aA
  exact⟨(Wb 0 a),Uc,(NR (Vi (Z0 HJ T.isinstance Vt (Za (Yp 0) (Za (C6 (v:=.ty "list") T.list Uy rfl (n:=nmC)) Zb)) (n:=nmC))) (Jm bH T.list Uy (Za (Yp 0) Zb) (n:=nmC)) (Yp 0))⟩⟩) Zb)))),?_⟩
 have j:b.length=S.length:=g.length;have a:=aC
 refine⟨_,rfl,p,rfl,⟨_,ZJ.of c⟩,?_⟩;refine Ir (J:=b) (λi b Y=>ZA H Y/\ZO Y (S.take i) b/\∀l,V.ref l∈b->H l=none) ⟨ZA.refl H,rfl,(λl h=>nomatch h)⟩ (by lia) (λi b Y _ ⟨e,_⟩=>ZJ.of (e _ _ c)) (λi b Y ⟨_,e,_⟩=>by rw[e.length,xR];lia) ?_ ?_
 .rintro i v b Y e ⟨a,r,f⟩ d c;obtain⟨d,rfl⟩:=Uj c;obtain⟨d,m,c⟩:=g.get e;have c:=YE.mono a _ _ c;obtain⟨p,e,g⟩:=isi (K:=K) c "list" aA;have t:S.take (i+1)=S.take i ++ [d]:=by rw[xS,m];rfl
  rw[t];refine⟨⟨[_],rfl,rfl⟩,?_⟩;rcases u d (xG m) with z | ⟨o,rfl,ho⟩
  .rw[IT z] at g;refine⟨_,rfl,v, "list", p,_,rfl,e,g,_,rfl,Z5 ⟨_,rfl,a,r.snoc c,λl h=>?_⟩⟩;rcases xJ.mp h with h | h
   .exact f l h
   .have:=xP.mp h;subst this;cases d<;>first | (cases z;done) | cases c
  .obtain⟨i,d,rfl,m,t⟩:=id c;refine⟨_,rfl,.ref i, "list", p,_,rfl,e,g,_,rfl,Z6 ⟨_,rfl,i,_,rfl,.inl (ZD.of m),λq c=>?_⟩⟩;have e:=ZA.new (o:=.lst d) c;refine⟨a.trans e,ZO.snoc (show YE _ (.lst (o.map D.str)) (.ref q) from⟨q,d,rfl,Zj,ZO.mono e _ _ t⟩) (ZO.mono e _ _ r),λl h=>?_⟩;rcases xJ.mp h with h | h
   .exact f l h
   .cases xP.mp h;exact a.free c
 .rintro b Y ⟨a,r,f⟩ l s;rw[j,xT] at r;refine nw (o:=.lst b) s λg d e=>?_;exact⟨l,_,rfl,.inl ⟨ZD.of e,λq c=>k q b _ ((a.trans d).free c) Zj (ZO.mono (d.trans (ZA.new c)) _ _ r) f ((a.trans d).trans (ZA.new c))⟩⟩
theorem Hw(b:o1.length<=60)(c:o2.length<=60)(d:CD):∀x∈cdP day need o1 o2 d,plD x:=by
 have a:plD (.lst (o1.map D.str)):=.inr ⟨o1,rfl,b⟩;have b:plD (.lst (o2.map D.str)):=.inr ⟨o2,rfl,c⟩;have c:∀x,plD (.str x):=λ_=>.inl rfl;have e:∀x,plD (.int x):=λ_=>.inl rfl;cases d<;>simp[cdP,a,b,c,e]
theorem Cp(b:H l1=some (.lst (o1.map V.str)))(c:H l2=some (.lst (o2.map V.str)))(d:CD):ZO H (cdP day need o1 o2 d) (cdV day need l1 l2 d):=by
 have a:YE H (.lst (o1.map D.str)) (.ref l1):=⟨l1,_,rfl,b,Jc H o1⟩;have b:YE H (.lst (o2.map D.str)) (.ref l2):=⟨l2,_,rfl,c,Jc H o2⟩;have t:ZO H [.lst (o1.map D.str),.lst (o2.map D.str)] [.ref l1,.ref l2]:=⟨_,_,rfl,a,⟨_,_,rfl,b,rfl⟩⟩;cases d
 .exact⟨_,_,rfl,rfl,⟨_,_,rfl,rfl,⟨_,_,rfl,rfl,⟨_,_,rfl,rfl,⟨_,_,rfl,rfl,⟨_,_,rfl,rfl,t⟩⟩⟩⟩⟩⟩
 all_goals exact⟨_,_,rfl,rfl,⟨_,_,rfl,rfl,⟨_,_,rfl,rfl,⟨_,_,rfl,rfl,⟨_,_,rfl,rfl,t⟩⟩⟩⟩⟩
theorem YD.x(h:YD C CM H p S m O)(hs:H s=some (.lst ys))(a:¬O s)(k:ZF s H Y):YD C CM Y p S m O:=by
 obtain⟨M,c,J,b,e,W,rfl⟩:=h;exact⟨M,c,J,b,e,W.x hs a k,rfl⟩
def trd{c:Type _}(e:Option Str)(a b:c):c:=match e with
 | none=>a
 | some _=>b
def Fj(C CM:gF)(Q:V->Hp->Prop)(H:Hp)(p:gF)(O:gF->Prop)(b:List ZK)(c:Mo)(d:aG):Prop:=∀a l Y,YD C CM Y p b c a->ZZ O H a Y->¬a l->Y l=some (.lst d)->Q (.ref l) Y
inductive WN(C CM:gF)(vs:aG)(H:Hp)(Q:VK)(b:XK):Prop
 |mk(p) (S) (m) (O) (a) (d)(_:vs=[.ref p,.ref a])(_:YD C CM H p S m O)(_:H a=some (.tup (sdV d)))(_:sdOk S m d)(_:(∀x,eSD S m d=some x->x∈errs))(_:Fj C CM Q H p O (trd (eSD S m d) (sdF S d) S) (trd (eSD S m d) (m.sd d) m) (trd (eSD S m d) [sdR m d] []))
inductive WK(C CM:gF)(vs:aG)(H:Hp)(Q:VK)(b:XK):Prop
 |mk(p) (S) (m) (O) (a) (d) (day need) (l1 l2) (o1 o2) (f)(_:vs=[.ref p,.ref a])(_:YD C CM H p S m O)(_:H a=some (.tup (cdV day need l1 l2 d)))(_:Aq S m H l1 l2 o1 o2 day need f)(_:cdOk d)(_:(∀x,eCD S m day need f o1 o2 d=some x->x∈errs))(_:Fj C CM Q H p O S (trd (eCD S m day need f o1 o2 d) (m.iq day need f o1 o2 d) m) (trd (eCD S m day need f o1 o2 d) [.int m.o6.length] []))
abbrev Fl:Stmt:=top 70
theorem RY:ZM ["_law_moot","_law_deed_here","_law_handed","_law_told","_law_part"] lH (Zm Fl):=fsc
theorem SJ(a:YA K mg "_law_try" Fl)(T:Txt mg)(er:Er K mg c errs)(b:Fn P w K mg Z "_law_hand" lp 1 VZ)(e:YU P w K mg Z "done" 8 (Sp.or (WU C CM c) (WW C CM c))):Fn P w K mg Z "_law_try" lH 9 (Sp.or (WN C CM) (WK C CM)):=by
 refine a.fn0 RY (λ_ _ _ _ _ _=>al2 λ_ _=>rfl) (λi H Q E h=>?_) (λf d A a s H i Q E g h=>?_)
 .rcases h with⟨p,S,m,O,a,d,rfl,_⟩ | ⟨p,S,m,O,a,d,day,need,l1,l2,o1,o2,f,rfl,_⟩<;>rfl
 .refine⟨_,(An (QS.q0 (Zx 2 (Zl b (Za Q3 Zb)))) (An (QS.q0 (Zx 3 (Yb Zb))) (An (GF DC (λ_ _ hx=>(Zg (Zx 3 (Yb (Za (Ws hx e (Za Q0 (Za Qa Zb))) Zb))))) (MA DC (er.m) (λ_ _=>(Zg (Zx 3 (Yb Zb)))) HD)) (An (QS.q0 (Wi mW rfl (Yz (Vu (locs:=["_law_part"]) (fr:=[]) ⟨rfl,aA,aA,aA,aA,aA⟩ .nil rfl (IW Qa) ⟨λ_ _ _ _ _ _=>by
  have g:(inN ["_law_part"] []).Nodup:=aA
  exact⟨(Wb 0 g),(JO (Vi (Z0 HJ T.isinstance Vt (Za (Yp 0) (Za (C6 (v:=.ty "list") T.list Uy rfl (n:=nmC)) Zb)) (n:=nmC)))),(Yp 0)⟩⟩)) (Yi 4)
 (Zg (Zs (OU aD F.slot_list_clear F.type_list_clear R0 Qc)))))
 (An (QS.q0 (Zw Qb))
 (WT.q0 Zp)))))),?_⟩
  have j:=aC
  obtain⟨p,S,m,O,a,U,o,Y,W,y,N,M,L,hk⟩:∃(p:gF)(S:List ZK)(m:Mo)(O:gF->Prop)(a:gF)(U:aG)(o:List D),i=[.ref p,.ref a]/\YD C CM H p S m O/\H a=some (.tup U)/\ZO H o U/\(∀x∈o,plD x)/\o.length<=10 /\
    ∀(q:gF)(u:aG)(s:Hp),ZA H s->s q=some (.tup u)->ZO s o u->(∀l,V.ref l∈u->H l=none)->
     ∃t m' tv,Fj C CM Q H p O t m' tv/\∀(R:V->Hp->Prop)(E:XK),(∀(v:V)(j:gF->Prop)(r:Hp),tv=[v]->YD C CM r p t m' j->ZZ O s j r->R v r)->(∀x r,x∈errs->tv=[]->t=S->m'=m->ZA s r->E (.ref (c x)) none r)->(Sp.or (WU C CM c) (WW C CM c)) [.ref p,.ref q] s R E:=by
   rcases h with⟨p,S,m,O,a,d,rfl,W,y,I,J,k⟩ | ⟨p,S,m,O,a,d,day,need,l1,l2,o1,o2,f,rfl,W,y,cs,I,J,k⟩
   .refine⟨p,S,m,O,a,_,sdP d,rfl,W,y,AF H d,λx hx=>.inl (FQ d x hx),by cases d<;>simp[sdP],λq u s i A z _=>⟨_,_,_,k,λR E g b=>.inl ⟨p,S,m,O,q,d,rfl,W.same i,by rw[A,Ea (FQ d) (AF H d) z],I,?_⟩⟩⟩;cases e:eSD S m d with
    | none=>rw[e] at g;exact λj r W3 X=>g _ j r rfl W3 X
    | some x=>rw[e] at b;exact λr G=>b x r (J x e) rfl rfl rfl G
   .refine⟨p,S,m,O,a,_,cdP day need o1 o2 d,rfl,W,y,Cp cs.h1 cs.h2 d,Hw cs.n1 cs.n2 d,by cases d<;>simp[cdP],λq u s i A z B=>⟨_,_,_,k,λR E g b=>?_⟩⟩;obtain⟨E,Q,rfl,h1,h2⟩:=Fb z;refine .inr ⟨p,S,m,O,q,d,day,need,E,Q,o1,o2,f,rfl,W.same i,A,⟨cs.ok,cs.hd,h1,h2,cs.n1,cs.n2,cs.di,cs.ni,cs.hw⟩,W.out (B E (by cases d<;>simp[cdV])),W.out (B Q (by cases d<;>simp[cdV])),I,?_⟩;cases e:eCD S m day need f o1 o2 d with
    | none=>rw[e] at g;exact λj r W3 X=>g _ j r rfl W3 X
    | some x=>rw[e] at b;exact λr G=>b x r (J x e) rfl rfl rfl G
  subst Y;refine⟨_,rfl,a,U,o,rfl,y,N,M,L,λq u i Y A z B m=>?_⟩;refine Z9 ?_;dsimp only [Yy];refine⟨aB rfl,λo f=>?_⟩;have S2:=m.trans (ZA.new (o:=.lst []) f);have N:=(ZA.new (o:=.lst []) f) _ _ A;have m:=ZO.mono (ZA.new (o:=.lst []) f) _ _ z;generalize (upd i o (.lst []))=s at S2 N m |-;refine Z9 ?_;dsimp only [Yy];obtain⟨t,m',tv,k,g⟩:=hk q u s S2 N m B;have Q:∀{l:gF},V.ref l∈u->∃J:List Str,s l=some (.lst (J.map V.str)):=λ{l} h=>by
   obtain⟨i,f⟩:=wE h;obtain⟨d,I,re⟩:=m.get f;rcases M d (xG I) with z | ⟨o,rfl,_⟩
   .cases d<;>first | (cases z;done) | cases re
   .obtain⟨b,U,e,A,e2⟩:=re;cases e;exact⟨o,by rw[A,Dq e2]⟩
  refine Vg (λL H4=>∃(j:gF->Prop)(l:gF),L=[some (.ref p),some (.ref a),some (.ref q),some (.ref l),none]/\YD C CM H4 p t m' j/\ZZ O s j H4/\¬j l/\H4 l=some (.lst tv)/\∀b,V.ref b∈u->b≠l) ?_ ?_
  .rintro L H4 ⟨j,l,rfl,W4,F4,nl,kl,a1⟩;have E:∀{b:gF}{o:HO},H b=none->s b=some o->H4 b=some o/\¬j b:=λe e2=>⟨F4.1 _ _ e2 (W.out e),λz=>(F4.2 _ z).elim (W.out e) (λy=>by rw[e2] at y;cases y)⟩;have s:=(E Y N).1;refine⟨_,rfl,q,rfl,⟨_,ZJ.of s⟩,?_⟩;have f:=m.length;refine Ir (J:=u) (λi f Y=>Y=H4/\f.length<=i/\∀z∈f,∃b,z=.ref b/\z∈u) ⟨rfl,yP _,(λz h=>nomatch h)⟩ (by lia) (λi f Y _ ⟨e,_⟩=>by rw[e];exact ZJ.of s) (λi f Y ⟨_,e,_⟩=>e) ?_ ?_
   .rintro i v f Y N ⟨rfl,s,y⟩ ls a0;obtain⟨w0,rfl⟩:=Uj a0;obtain⟨d,I,re⟩:=m.get N;have hm:=xG N;refine⟨⟨[_],rfl,rfl⟩,?_⟩;rcases M d (xG I) with z | ⟨o,rfl,_⟩
    .have m:YE Y d v:=by cases d<;>first | (cases z;done) | exact re
     obtain⟨I,d,A⟩:=isi (K:=K) m "list" aA;rw[IT z] at A;exact⟨_,rfl,v, "list", I,_,rfl,d,A,_,rfl,Z5 ⟨rfl,by lia,y⟩⟩
    .obtain⟨b,U,rfl,A,e2⟩:=re;have m:YE Y (.lst (o.map D.str)) (.ref b):=⟨b,U,rfl,(E (B b hm) A).1,by rw[Dq e2];exact Jc _ _⟩;obtain⟨I,d,A⟩:=isi (K:=K) m "list" aA;refine⟨_,rfl,.ref b, "list", I,_,rfl,d,A,_,rfl,Z6 ⟨_,rfl,rfl,by rw[xE];show _+1<=_;lia,λz h=>?_⟩⟩;rcases xJ.mp h with h | h
     .exact y z h
     .cases xP.mp h;exact⟨b,rfl,hm⟩
   .rintro f Y ⟨rfl,s,y⟩ A d;have M:=ZA.new (o:=.lst f) d;have U:(upd Y A (.lst f)) A=some (.lst f):=Zj;have m:=W4.out d;have W5:=W4.same M;have F5:=((ZZ.same S2).trans F4).trans (ZZ.same M);have I:=M _ _ kl;have a0:∀{b:gF}{o:HO},Y b=some o->b≠A:=λe=>Zo e d;have m:∀{b:gF},V.ref b∈u->¬j b/\b≠A/\∃J,(upd Y A (.lst f)) b=some (.lst J):=λ{b} h=>by
     obtain⟨J,e⟩:=Q h;obtain⟨d,a2⟩:=E (B b h) e;exact⟨a2,a0 d,_,M _ _ d⟩
    generalize (upd Y A (.lst f))=d at W5 F5 I U m |-;refine⟨A,rfl,⟨_,ZD.of U⟩,?_⟩;refine Vl f (λi L d=>(∃E:Option V,L=[some (.ref p),some (.ref a),some (.ref q),some (.ref l),E])/\YD C CM d p t m' j/\ZZ O H j d/\d l=some (.lst tv)/\d A=some (.lst f)/\∀b,V.ref b∈u->∃J,d b=some (.lst J)) ⟨⟨none,rfl⟩,W5,F5,I,U,λb h=>(m h).2.2⟩ (λi L d _ ⟨_,_,_,_,e,_⟩=>ZD.of e) ?_ ?_
    .rintro i v L d N ⟨⟨E,rfl⟩,u,p,h,A,f⟩;obtain⟨b,rfl,a⟩:=y v (xG N);obtain⟨J,e⟩:=f b a;have i:ZF b d (upd d b (.lst [])):=ZF.upd;refine⟨_,rfl,.inl ⟨rfl,_,ZD.of e⟩,b,J,rfl,rfl,e,⟨_,rfl⟩,u.x e (m a).1 i,⟨λy o t H=>i _ _ (Zo t (B b a)) (p.1 _ _ t H),p.2⟩,i _ _ (a1 b a).symm h,i _ _ (m a).2.1.symm A,λy m=>?_⟩
     by_cases z:y=b
     .rw[z];exact⟨_,Zj⟩
     .obtain⟨o,t⟩:=f y m;exact⟨o,i _ _ z t⟩
    .rintro L d ⟨⟨E,rfl⟩,u,p,h,A,f⟩;exact⟨_,rfl,k j l d u p nl h⟩
  .intro d h _ _ _;refine⟨_,rfl,_,rfl,g _ _ (λv j r d W3 X=>?_) (λx r hx d g i G=>?_)⟩
   .refine⟨aB rfl,λl s=>?_⟩;refine Z9 (h _ _ ⟨j,l,rfl,W3.same (ZA.new s),X.trans (ZZ.same (ZA.new s)),W3.out s,by rw[d];exact Zj,λb a=>?_⟩);obtain⟨J,e⟩:=Q a;exact Zo (X.1 _ _ e (W.out (B b a))) s
   .refine⟨_,rfl,_,er.e x hx,Z6 ⟨aB rfl,λl s=>?_⟩⟩;have f:=G.trans (ZA.new (o:=.lst []) s);refine Z9 (h _ _ ⟨O,l,rfl,by rw[g,i];exact(W.same S2).same f,ZZ.same f,W.out ((S2.trans G).free s),by rw[d];exact Zj,λb a=>?_⟩);obtain⟨J,e⟩:=Q a;exact Zo (G _ _ e) s
end
section
def adP:AD->List D
 | .s d=>sdP d
 | .c d b a c e _=>cdP b a c e d
def adT(a:AD):D:=.tup (adP a)
def isC:AD->Bool
 | .s _=>false
 | .c ..=>true
theorem Am(h:YE (fz fx H) (adT (.s d)) v):∃q,v=.ref q/\H q=some (.tup (sdV d)):=by
 obtain⟨a,e,rfl,b,c⟩:=h;exact⟨a,rfl,by rw[(Af b).1,Ea (FQ d) (AF H d) c]⟩
theorem CQ(h:YE (fz fx H) (adT (.c d day need o1 o2 f)) v):∃q l1 l2,v=.ref q/\H q=some (.tup (cdV day need l1 l2 d))/\fz fx H l1=some (.lst (o1.map V.str))/\fz fx H l2=some (.lst (o2.map V.str)):=by
 obtain⟨a,b,rfl,e,g⟩:=h;obtain⟨l1,l2,rfl,b,c⟩:=Fb g;exact⟨a,l1,l2,rfl,(Af e).1,b,c⟩
structure WL where
 wl:gF
 dl:gF
 sl:gF
 tl:gF
structure ZW (s:gF) (H:Hp) (fx:gC) (W:WL) (as bs:List AD) (ss:List ZS):Prop where
 e:H W.wl=some (.lst [.ref W.dl,.ref W.sl,.ref W.tl])
 d:YW H fx W.dl (as.map adT)
 u:YW H fx W.sl (ss.map Wq)
 t:YW H fx W.tl (bs.map adT)
 ne:∀b∈W.wl::W.dl::W.sl::W.tl::fx,b≠s
 nd:[W.wl,W.dl,W.sl,W.tl].Nodup
 nx:∀b∈fx,b ∉ [W.dl,W.sl,W.tl]
variable{s la:gF}{H Y:Hp}{fx:gC}{as:List AD}
theorem ZW.keep(h:ZW s H fx W as bs ss)(c:To H Y)(a:∀b∈W.wl::W.dl::W.sl::W.tl::fx,∀o,H b=some o->Y b=some o):ZW s Y fx W as bs ss:=by
 have f:ZA (fz fx H) (fz fx Y):=Ve c (λx b=>a x (by simp[b])) λ_ z=>z;exact⟨a _ (by simp) _ h.e,h.d.mono (a _ (by simp)) f,h.u.mono (a _ (by simp)) f,h.t.mono (a _ (by simp)) f,h.ne,h.nd,h.nx⟩
theorem ZW.same(h:ZW s H fx W as bs ss)(k:ZA H Y):ZW s Y fx W as bs ss:=h.keep (λ_ _ e=>k _ _ e) λ_ _ _ e=>k _ _ e
theorem ZW.x(h:ZW s H fx W as bs ss)(hs:ZH H s la)(k:ZF s H Y):ZW s Y fx W as bs ss:=by
 obtain⟨_,_,_,_,_,a,_⟩:=hs;exact h.keep (λb u e=>k _ _ (λz=>by rw[z,a] at e;cases e) e) λb a o e=>k _ _ (h.ne b a) e
theorem ZW.more(h:ZW s H fx W as bs ss)(c:∀b∈gx,b≠s)(d:∀b∈gx,b ∉ [W.dl,W.sl,W.tl]):ZW s H (gx++fx) W as bs ss:=by
 have f:ZA (fz fx H) (fz (gx++fx) H):=Ve (λ_ _ e=>e) (λ_ _ _ e=>e) λ_ z=>xK _ z;refine⟨h.e,h.d.mono (λ_ e=>e) f,h.u.mono (λ_ e=>e) f,h.t.mono (λ_ e=>e) f,λb a=>?_,h.nd,λb a=>(xJ.mp a).elim (d b) (h.nx b)⟩;have a:b ∈ [W.wl,W.dl,W.sl,W.tl]\/b∈gx\/b∈fx:=by simpa [or_assoc] using a
 rcases a with z | z | z
 .exact h.ne b (yN fx z)
 .exact c b z
 .exact h.ne b (by simp[z])
theorem ZW.grow(h:ZW s H fx W as bs ss)(c:l ∈ [W.dl,W.sl,W.tl])(e:H l=some (.lst vs)) :
  ZA (fz fx H) (fz fx (upd H l (.lst (vs ++ [v]))))/\(∀b,b≠l->b∈W.wl::W.dl::W.sl::W.tl::fx->∀o,H b=some o->(upd H l (.lst (vs ++ [v]))) b=some o):=by
 have a:ZF l H (upd H l (.lst (vs ++ [v]))):=ZF.upd;exact⟨Ve (λb u y=>a _ _ (λz=>by rw[z,e] at y;cases y) y) (λx d o y=>a _ _ (λz=>h.nx x d (z▸c)) y) λ_ z=>z,λb n _ o y=>a _ _ n y⟩
theorem YW.snoc(h:YW H fx l c)(e:H l=some (.lst vs))(f:ZA (fz fx H) (fz fx (upd H l (.lst (vs ++ [v])))))(b:YE (fz fx H) d v):YW (upd H l (.lst (vs ++ [v]))) fx l (c ++ [d]):=by
 obtain⟨g,a,r⟩:=h;rw[e] at a;cases a;exact⟨_,Zj,ZO.snoc (YE.mono f _ _ b) (r.iK f)⟩
theorem ZW.wne(h:ZW s H fx W as bs ss):W.wl≠W.dl/\W.wl≠W.sl/\W.wl≠W.tl/\W.dl≠W.sl/\W.dl≠W.tl/\W.sl≠W.tl:=by
 have:=h.nd;simp only[yM,xD,xV,or_false,not_or] at this;obtain⟨⟨a,b,c⟩,⟨d,e⟩,f,_⟩:=this;exact⟨a,b,c,d,e,f⟩
theorem ZW.addU(h:ZW s H fx W as bs ss){vs:aG}{v:V}{t:ZS}(e:H W.sl=some (.lst vs))(a:YE (fz fx H) (Wq t) v):ZW s (upd H W.sl (.lst (vs ++ [v]))) fx W as bs (ss ++ [t]):=by
 obtain⟨f,g⟩:=h.grow (l:=W.sl) (v:=v) (by simp) e;obtain⟨i,b,j,c,k,d⟩:=h.wne;exact⟨g _ b (by simp) _ h.e,h.d.mono (g _ c (by simp)) f,by rw[xM];exact h.u.snoc e f a,h.t.mono (g _ d.symm (by simp)) f,h.ne,h.nd,h.nx⟩
theorem ZW.addT(h:ZW s H fx W as bs ss){vs:aG}{v:V}{x:AD}(e:H W.tl=some (.lst vs))(a:YE (fz fx H) (adT x) v):ZW s (upd H W.tl (.lst (vs ++ [v]))) fx W as (bs ++ [x]) ss:=by
 obtain⟨f,g⟩:=h.grow (l:=W.tl) (v:=v) (by simp) e;obtain⟨i,j,b,k,c,d⟩:=h.wne;exact⟨g _ b (by simp) _ h.e,h.d.mono (g _ c (by simp)) f,h.u.mono (g _ d (by simp)) f,by rw[xM];exact h.t.snoc e f a,h.ne,h.nd,h.nx⟩
theorem ZW.addD(h:ZW s H fx W as bs ss){vs:aG}{v:V}{x:AD}(e:H W.dl=some (.lst vs))(a:YE (fz fx H) (adT x) v):ZW s (upd H W.dl (.lst (vs ++ [v]))) fx W (as ++ [x]) bs ss:=by
 obtain⟨f,g⟩:=h.grow (l:=W.dl) (v:=v) (by simp) e;obtain⟨b,i,j,c,d,k⟩:=h.wne;exact⟨g _ b (by simp) _ h.e,by rw[xM];exact h.d.snoc e f a,h.u.mono (g _ c.symm (by simp)) f,h.t.mono (g _ d.symm (by simp)) f,h.ne,h.nd,h.nx⟩
inductive UE(vs:aG)(H:Hp)(Q:VK)(a:XK):Prop
 |mk(s la b:gF) (a:fZ)(_:vs=[.ref s,.ref b])(_:ZH H s la)(_:H b=some (.lst (a.map V.str)))(_:b≠s)(_:0<a.length)(_:a.length<=1000)(_:∀(n:Str)(Y:Hp),n∈a->ZH Y s la->ZF s H Y->Q (.str n) Y)
abbrev LJ:Stmt:=top 74
theorem cN(a:YA K mg "_law_one" LJ)(T:Txt mg)(c:Fn P w K mg Z "_law_next" lj 1 YC):Fn P w K mg Z "_law_one" lI 2 UE:=by
 refine a.fq lI λH b Q E a h=>?_;obtain⟨s,la,f,g,rfl,a,e,b,d,i,k⟩:=h;refine⟨rfl,_,(Zg (Zw (Zh Z7 Q3 (Zl c (Za Q0 (Za (Z0 Ym T.len Yh (Za Q3 Zb)) Zb)))))),?_⟩;refine⟨_,rfl,_,rfl,_,rfl,f,_,rfl,.inl (ZD.of e),s,la,_,rfl,a,by rw[xA];lia,by rw[xA];lia,λd h i l c a=>?_⟩;obtain⟨j,rfl⟩:=yC i;rw[xA] at l;have d:j<g.length:=by lia
 exact⟨f,_,_,.str g[j],rfl,rfl,ZD.of (a _ _ b e),Yl (by rw[xC,xB d];rfl),k _ h (zN d) c a⟩
def wst(n:Str)(day:Int)(p:Int×Int):ZK->Int×Int
 | .come m d a=>if m=n/\p.1<=d/\d<=day then (d,a) else p
 | .rise m d a=>if m=n/\p.1<=d/\d<=day then (d,a) else p
 | .die _ _ _=>p
def wgp(S:List ZK)(n:Str)(day:Int):Int×Int:=S.foldl (wst n day) (-1,0)
def wg(S:List ZK)(n:Str)(day:Int):Int:=(wgp S n day).2
theorem Tj(S:List ZK)(x:ZK)(n:Str)(day:Int):wgp (S ++ [x]) n day=wst n day (wgp S n day) x:=by unfold wgp;rw[wC];rfl
theorem Rg:inV (.str "come") [.str "come", .str "rise"]=true:=aA
theorem XE:inV (.str "rise") [.str "come", .str "rise"]=true:=aA
theorem FX:∀x∈(["die","penance","bring","give","pay","wergild","claim","accuse"]:fZ),inV (.str x) [.str "come", .str "rise"]=false:=aA
def Y2:AD->Str
 | .s (.come ..)=> "come"
 | .s (.rise ..)=> "rise"
 | .s (.die ..)=> "die"
 | .s (.pen ..)=> "penance"
 | .s (.bring ..)=> "bring"
 | .s (.give ..)=> "give"
 | .s (.pay ..)=> "pay"
 | .c (.wer ..) .. => "wergild"
 | .c (.clm ..) .. => "claim"
 | .c (.acc ..) .. => "accuse"
theorem Ad(h:YE (fz fx H) (adT x) v):∃q us,v=.ref q/\H q=some (.tup us)/\us[0]?=some (.str (Y2 x)):=by
 cases x with
 | s d =>
  obtain⟨q,rfl,a⟩:=Am h;exact⟨q,_,rfl,a,by cases d<;>rfl⟩
 | c d e b g i f =>
  obtain⟨q,b,e,rfl,a,_⟩:=CQ h;exact⟨q,_,rfl,a,by cases d<;>rfl⟩
def fdS(S:List ZK):AD->List ZK
 | .s d=>sdF S d
 | .c ..=>S
theorem As(as:List AD)(x:AD):(Ze (as ++ [x])).1=fdS (Ze as).1 x:=by
 rw[TX];cases x<;>rfl
inductive YZ(vs:aG)(H:Hp)(Q:VK)(a:XK):Prop
 |mk(q) (fx) (as) (n) (day)(_:vs=[.ref q,.str n,.int day])(_:YW H fx q (as.map adT))(_:∀Y,ZA H Y->Q (.int (wg (Ze as).1 n day)) Y)
abbrev KZ:Stmt:=top 67
theorem OH(G:YA K mg "_law_weighs" KZ)(T:Txt mg):Fn P w K mg Z "_law_weighs" lB 1 YZ:=by
 refine G.fq ["_law_deeds","_law_name","_law_day","_law_last","_law_found","_law_deed_here"] λH vs Q E hr h=>?_;obtain⟨q,fx,as,n,b,rfl,⟨vs,hq,t⟩,k⟩:=h;refine⟨rfl,_,(Zd (Zx 3 (Yw Yx Zc)) (Zd (Zx 4 Zc) (Zd (Wi mW rfl (Yz Q0) (Yi 5) (Zg (Zq (QW.pt (Wz (Zk KB (Zh Zi Qd Zc) (Yb (Za Zt (Za Zt Zb))) rfl) (Wz (Zk Yk (Zh Zi Qd Zc) Q3 (Zn _)) (Wz (Zk Vk Qb (Zh Zi Qd Zc) (Zn _)) (Vx (Zk Vk (Zh Zi Qd Zc) Qa (Zn _))))))) (Zd (Zx 3 (Zh Zi Qd Zc)) (Zg (Zx 4 (Zh Zi Qd Zc)))) Zp))) (Zg (Zw Qc))))),?_⟩;have hz:=aC
 have B:=t.length;rw[xA] at B;refine⟨_,rfl,?_⟩;refine⟨_,rfl,q,rfl,⟨_,ZD.of hq⟩,?_⟩;refine Vl vs (λi L Y=>∃R:Option V,L=[some (.ref q),some (.str n),some (.int b),some (.int (wgp (Ze (as.take i)).1 n b).1),some (.int (wgp (Ze (as.take i)).1 n b).2),R]/\ZA H Y) ⟨none,rfl,λ_ _ e=>e⟩ (λi L Y _ ⟨_,_,e⟩=>ZD.of (e _ _ hq)) ?_ ?_
 .rintro i v L Y hv ⟨R,rfl,F⟩;obtain⟨x0,C,O⟩:=t.get hv;rw[xC] at C;obtain⟨x,hx,rfl⟩:=xL.mp C;have et:as.take (i+1)=as.take i ++ [x]:=by rw[xS,hx];rfl
  rw[et,As];generalize (Ze (as.take i)).1=S;obtain⟨a,us,rfl,j,hw⟩:=Ad O;have X:=F _ _ j;refine⟨_,rfl,a,_,0,.str (Y2 x),rfl,rfl,ZJ.of X,Yl hw,aB rfl,λlq M=>?_⟩;refine nw (o:=.lst [.str "come", .str "rise"]) M λH1 A kl=>?_;have p:=F.trans A;have l:=A _ _ X;refine⟨lq,_,rfl,.inl (ZD.of kl),rfl,rfl,_,rfl,?_⟩;show if inV _ _=true then _ else _
  by_cases g:∃(m:Str)(d r:Int),x=.s (.come m d r)\/x=.s (.rise m d r)
  .obtain⟨m,d,r,N⟩:=g;have I:us=[.str (Y2 x),.str m,.int d,.int r]/\inV (.str (Y2 x)) [.str "come", .str "rise"]=true/\wgp (fdS S x) n b=if m=n/\(wgp S n b).1<=d/\d<=b then (d,r) else wgp S n b:=by
    rcases N with rfl | rfl
    .obtain⟨q',e,u⟩:=Am O;cases e;rw[u] at j;cases j;exact⟨rfl,Rg,Tj S _ n b⟩
    .obtain⟨q',e,u⟩:=Am O;cases e;rw[u] at j;cases j;exact⟨rfl,XE,Tj S _ n b⟩
   obtain⟨rfl,g,J⟩:=I;rw[g,J];refine Z6 ?_;refine⟨_,rfl,a,_,1,.str m,rfl,rfl,ZJ.of l,rfl,_,rfl,rfl,_,rfl,Zv (λz=>?_) (λz=>Z5 ?_)⟩
   .have em:m=n:=by injection z
    refine⟨_,rfl,_,rfl,a,_,2,.int d,rfl,rfl,ZJ.of l,rfl,_,d,rfl,rfl,_,rfl,Zv (λU=>?_) (λU=>Z5 ?_)⟩
    .refine⟨_,rfl,a,_,2,.int d,rfl,rfl,ZJ.of l,rfl,_,rfl,d,b,rfl,rfl,_,rfl,Zv (λW=>?_) (λW=>?_)⟩
     .rw[if_pos ⟨em,U,W⟩];exact⟨_,rfl,a,_,2,.int d,rfl,rfl,ZJ.of l,rfl,_,rfl,a,_,3,.int r,rfl,rfl,ZJ.of l,rfl,_,rfl,p⟩
     .rw[if_neg (λy=>W y.2.2)];exact⟨_,rfl,p⟩
    .rw[if_neg (λy=>U y.2.1)];exact⟨_,rfl,p⟩
   .rw[if_neg (λy=>z (by rw[y.1]))];exact⟨_,rfl,p⟩
  .have I:inV (.str (Y2 x)) [.str "come", .str "rise"]=false/\wgp (fdS S x) n b=wgp S n b:=by
    cases x with
    | s d =>
     cases d with
     | come m d r=>exact absurd ⟨m,d,r,.inl rfl⟩ g
     | rise m d r=>exact absurd ⟨m,d,r,.inr rfl⟩ g
     | die m he d=>exact⟨FX _ (by simp[Y2]),Tj S _ n b⟩
     | _=>exact⟨FX _ (by simp[Y2]),rfl⟩
    | c d dy a0 o1 o2 f=>exact⟨FX _ (by cases d<;>simp[Y2]),rfl⟩
   obtain⟨g,J⟩:=I;rw[g,J];exact Z5 (Z5 ⟨_,rfl,p⟩)
 .rintro L Y ⟨R,rfl,F⟩;rw[B,xT];exact⟨_,rfl,k Y F⟩
end
theorem Mx{left:aG}{j:Nat}(b:j<left.length):([left[j]]++left.eraseIdx j).Perm left:=by
 rw[List.eraseIdx_eq_take_drop_succ];have e:left.take j++left[j]::left.drop (j+1)=left:=by rw[<- zQ b,zD]
 have h:=(List.perm_middle (a:=left[j]) (l₁:=left.take j) (l₂:=left.drop (j+1))).symm;exact h.trans (by rw[e])
inductive Jk(vs:aG)(H:Hp)(Q:VK)(b:XK):Prop
 |mk(s la a) (ts) (n)(_:vs=[.ref s,.ref a,.int n])(_:ZH H s la)(_:H a=some (.lst ts))(_:a≠s)(_:0<=n)(_:ts.length<=1000)(_:∀l b Y,(∃left,(b++left).Perm ts)->b.length=(min n ts.length).toNat->H l=none->Y l=some (.lst b)->ZH Y s la->ZF s H Y->Q (.ref l) Y)
abbrev Lu:Stmt:=top 68
theorem Rt(S:YA K mg "_law_pick" Lu)(T:Txt mg)(Z8:Fn P w K mg Z "_law_next" lj 1 YC) :
  Fn P w K mg Z "_law_pick" i4 2 Jk:=by
 refine S.fq ["_law_src_here","_law_things","_law_many","_law_left","_law_found","_law_k"] λH vs Q E hr h=>?_;obtain⟨s,la,a,g,n,rfl,m,ha,a2,a4,a5,k⟩:=h
 refine⟨rfl,_,(Zd (Zx 3 (Jm JZ T.list Uy (Za Q3 Zb))) (Zd (Zx 4 (Yb Zb)) (Zd (Wi mW rfl (Aw T.range (Za (Z0 (CZ (by rfl)) T.min BS (Za Qa (Za (Z0 Ym T.len Yh (Za Q3 Zb)) Zb))) Zb)) (Yi 5)
 (Zg (Zs (Y4 aD aE aF Wa Qc (Za (Y4 aD F.slot_list_pop F.type_list_pop dD Qb (Za (Zl Z8 (Za Q0 (Za (Z0 Ym T.len Yh (Za Qb Zb)) Zb))) Zb)) Zb)))))
 (Zg (Zw Qc))))),?_⟩
 have hz:(2000:Nat)<=sizeLine:=by decide
 refine⟨_,rfl,a,_,rfl,.inl (ZD.of ha),λp t=>?_⟩;refine⟨aB rfl,λl R=>?_⟩;have G:p≠l:=λz=>by rw[<- z,Zj] at R;cases R
 have I:ZA H (upd (upd H p (.lst g)) l (.lst [])):=(ZA.new t).trans (ZA.new R);have u:H l=none:=(ZA.new t).free R;obtain⟨n1,n2⟩:=m.ne t;obtain⟨n3,n4⟩:=m.ne u;have ea:(upd (upd H p (.lst g)) l (.lst [])) a=some (.lst g):=I _ _ ha;refine⟨_,rfl,_,rfl,a,_,rfl,.inl (ZD.of ea),n,_,rfl,_,rfl,?_,?_,?_⟩
 .split<;>lia
 .split<;>lia
 have em:(if (g.length:Int)<n then (g.length:Int) else n)=min n g.length:=by split<;>lia
 refine Ba (min n g.length).toNat (by rw[em]) (λi L Y=>∃(c left:aG)(v:Option V),L=[some (.ref s),some (.ref a),some (.int n),some (.ref p),some (.ref l),v]/\c.length=i/\left.length+i=g.length/\(∀x∈c,x∈g)/\(∀x∈left,x∈g)/\(c++left).Perm g /\
   Y l=some (.lst c)/\Y p=some (.lst left)/\ZH Y s la/\ZF s H Y)
  ⟨[],g,none,rfl,rfl,rfl,(λ_ z=>nomatch z),(λ_ z=>z),.refl _,Zj,by rw[Zf G,Zj],m.keep I,I.x⟩ ?_ ?_
 .rintro i L Y hi ⟨c,left,v,rfl,A,y,ho,N,B,r,f,C,J⟩;have a3:0<left.length:=by lia
  refine⟨_,rfl,.inl ⟨rfl,_,ZD.of r⟩,_,rfl,.inl ⟨rfl,_,ZD.of f⟩,_,rfl,_,rfl,p,_,rfl,.inl (ZD.of f),s,la,_,rfl,C,by lia,by lia,λd H1 d0 d1 a0 M=>?_⟩;obtain⟨j,rfl⟩:=yC d0;have U:j<left.length:=by lia
  have O:=M p _ n1 f;have W:=M l _ n3 r;refine⟨p,_,_,j,left[j],rfl,rfl,O,by lia,by lia,seqIndex_of (by lia) (by lia),xB U,?_⟩;have a1:ZH (upd H1 p (.lst (left.eraseIdx j))) s la:=a0.iG ZF.upd n1 n2;have X:upd H1 p (.lst (left.eraseIdx j)) l=some (.lst c):=by rw[Zf G.symm];exact W
  refine⟨l,c,left[j],rfl,rfl,X,by lia,?_⟩;refine⟨c ++ [left[j]],left.eraseIdx j,_,rfl,by rw[xE,A];rfl,?_,λx hx=>?_,λx hx=>?_,?_,Zj,?_,?_,?_⟩
  .rw[List.length_eraseIdx_of_lt U];lia
  .grind
  .exact N x (List.mem_of_mem_eraseIdx hx)
  .refine List.Perm.trans ?_ B;rw[yT];exact List.Perm.append_left _ (Mx U)
  .rw[Zf G,Zj]
  .exact a1.iG ZF.upd n3 n4
  .intro b o hb e;have b1:b≠p:=λz=>by rw[z,t] at e;cases e
   have b2:b≠l:=λz=>by rw[z,u] at e;cases e
   rw[Zf b2,Zf b1];exact M b o hb (J b o hb e)
 .rintro L Y ⟨c,left,v,rfl,A,y,ho,N,B,r,f,C,J⟩;exact⟨_,rfl,k l c Y ⟨left,B⟩ A u r C J⟩
theorem L7:∀{l:List Int},(∀x∈l,0<=x/\x<=1000)->0<=l.sum
 | [],_=>Int.le_refl _
 | x::r,h=>by
  have a:=L7 (l:=r) λy a=>h y (xO _ a);have b:=(h x yE).1;rw[List.sum_cons];lia
theorem HG{ns:fZ}:∀{out:aG},(∀v∈out,v∈ns.map V.str)->∃os:List Str,out=os.map V.str/\∀n∈os,n∈ns
 | [],_=>⟨[],rfl,λ_ h=>nomatch h⟩
 | v::r,h=>by
  obtain⟨os,e,m⟩:=HG (out:=r) λv a=>h v (xO _ a);obtain⟨n,b,a⟩:=zF.mp (h v yE);exact⟨n::os,by rw[<- a,e];rfl,λx a=>(xD.mp a).elim (λz=>z▸b) (m x)⟩
theorem PP{ns:fZ}(c:ns.Nodup){out left:aG}(h:(out++left).Perm (ns.map V.str)):∃os:List Str,out=os.map V.str/\(∀n∈os,n∈ns)/\os.Nodup:=by
 obtain⟨os,rfl,m⟩:=HG (ns:=ns) (out:=out) λv a=>h.mem_iff.mp (yN _ a);have d:(ns.map V.str).Nodup:=List.Pairwise.map V.str (λa b n e=>n (by injection e)) c;have:=(h.nodup_iff.mpr d);have:=(List.nodup_append.mp this).1;exact⟨os,rfl,m,List.Pairwise.of_map V.str (λa b n e=>n (by rw[e])) this⟩
inductive UG(vs:aG)(H:Hp)(Q:VK)(a:XK):Prop
 |mk(s g d:gF) (b:fZ) (W:WL) (f:gC) (a e:List AD) (h:List ZS) (c:Int)(_:vs=[.ref s,.ref W.wl,.ref d,.int c])(_:ZH H s g)(_:ZW s H f W a e h)(_:H d=some (.lst (b.map V.str)))(_:d≠s)(_:b.Nodup)(_:0<b.length)(_:b.length<=1000)(_:(∀n d,0<=wg (Ze a).1 n d/\wg (Ze a).1 n d<=1000))(_:∀(q e f:gF)(c d:fZ)(a:Int)(Y:Hp),1<=a->a<=12000->(∀n∈c++d,n∈b)->(c++d).Nodup->0<c.length->(c++d).length<=6->H e=none->H f=none->Y q=some (.tup [.int a,.ref e,.ref f])->Y e=some (.lst (c.map V.str))->Y f=some (.lst (d.map V.str))->ZH Y s g->ZF s H Y->Q (.ref q) Y)
abbrev DR:Stmt:=top 75
theorem Gi:Nm (Zm DR) "_law_day" .cell:=aA
theorem Kc:Nm (Zm DR) "_law_world" .cell:=aA
theorem Rj(a:YA K mg "_law_sides" DR)(T:Txt mg)(c:Fn P w K mg Z "_law_next" lj 1 YC)(b:Fn P w K mg Z "_law_pick" i4 2 Jk)(d:Fn P w K mg Z "_law_weighs" lB 1 YZ):Fn P w K mg Z "_law_sides" lz 3 UG:=by
 refine a.fq ["_law_src_here","_law_world","_law_names_here","_law_day","_law_row","_law_cut","_law_ones","_law_others","_law_need"] λH e Q E a h=>?_;obtain⟨s,j,N,p,W,U,l,f,r,a,rfl,n,t,m,e,g,o,i,C,k⟩:=h
 refine⟨rfl,_,(Zd (Zx 4 (Zl b (Za Q0 (Za Qa (Za (Zu Y9 Zc (Zl c (Za Q0 (Za Zc Zb)))) Zb))))) (Zd (Zx 5 (Zu CF (Zu Y9 (Zu Y9 (Z0 Ym T.len Yh (Za Qc Zb)) Zc) (Zl c (Za Q0 (Za Zc Zb)))) Zc)) (Zd (Zq (Zk Yk (Zl c (Za Q0 (Za Zc Zb))) Zc (Zn _)) (Zg (Zx 5 (Zu Y9 Zc (Zl c (Za Q0 (Za (Z0 Ym T.len Yh (Za Qc Zb)) Zb)))))) Zp) (Zd (Zx 6 (Z0 (CB (by rfl)) T.sum BF (Za (Vu (locs:=lG) (fr:=[("_law_world", 1),("_law_day", 3)]) ⟨rfl,aA,aA,aA,aA,aA⟩ (.ij Kc (.ij Gi .nil)) rfl (Yz (Tn Bo Qc Uz (U0 Qd))) ⟨λ_ _ _ _ _ _=>by
  have b:(inN lG [("_law_world", 1),("_law_day", 3)]).Nodup:=aA
  exact⟨(Wb 0 b),Uc,(Zl d (Za (Zh JX (Wn 1) Zc) (Za (Yp 0) (Za (Wn 2) Zb))) (n:=nmC))⟩⟩) Zb)))
 (Zd (Zx 7 (Z0 (CB (by rfl)) T.sum BF (Za (Vu (locs:=lG) (fr:=[("_law_world", 1),("_law_day", 3)]) ⟨rfl,aA,aA,aA,aA,aA⟩ (.ij Kc (.ij Gi .nil)) rfl (Yz (Tn Bo Qc (U0 Qd) Uz)) ⟨λ_ _ _ _ _ _=>by
  have b:(inN lG [("_law_world", 1),("_law_day", 3)]).Nodup:=aA
  exact⟨(Wb 0 b),Uc,(Zl d (Za (Zh JX (Wn 1) Zc) (Za (Yp 0) (Za (Wn 2) Zb))) (n:=nmC))⟩⟩) Zb)))
 (Zd (Zx 8 (Z0 (Ed (by rfl)) T.max Ce (Za Zc (Za (Z0 (XZ (by rfl)) T.min BS (Za Qe (Za Zc (Za (Zu Y9 (Zu Vy (Zu Vy Qe Qf) Zc) (Zl c (Za Q0 (Za Zc Zb)))) Zb)))) Zb))))
 (Zd (Zq (Zk Yk (Zl c (Za Q0 (Za Zc Zb))) Zc (Zn _)) (Zg (Zx 8 Zc)) Zp)
 (Zg (Zw (Yj (Za Qg (Za (Tn Bo Qc Uz (U0 Qd)) (Za (Tn Bo Qc (U0 Qd) Uz) Zb))))))))))))),?_⟩
 have b:=aC
 refine⟨_,rfl,_,rfl,_,rfl,s,j,6,rfl,n,aA,aA,λb o c h d f=>?_⟩;refine⟨_,_,rfl,rfl,s,j,N,_,1+b,rfl,d,f _ _ e m,e,by lia,by rw[xA];exact i,λr o m ⟨left,e⟩ b c A h i=>?_⟩;obtain⟨os,rfl,om,O⟩:=PP g e;rw[xA] at b;have e:0<os.length/\os.length<=6:=by rw[xA] at b;lia
 have g:r≠s:=λz=>by obtain⟨_,_,_,_,_,e,_⟩:=d;rw[z,e] at c;cases c
 have o:ZF s H m:=f.trans i;refine Z9 ?_;dsimp only [Yy];refine⟨_,rfl,r,_,rfl,.inl (ZD.of A),_,_,rfl,rfl,_,rfl,s,j,2,rfl,h,aA,aA,λR d b c M B=>?_⟩;refine⟨_,_,rfl,rfl,_,_,rfl,rfl,⟨by lia,by lia⟩,?_⟩;refine Z9 ?_;dsimp only [Yy];rw[xA];refine Vg (λL E=>∃c:Nat,L=[some (.ref s),some (.ref W.wl),some (.ref N),some (.int a),some (.ref r),some (.int c),none,none,none]/\0<c/\c<=os.length/\ZH E s j/\ZF s m E) ?_ ?_
 .rintro L E ⟨c,rfl,b,d,p,f⟩;have Q:=t.x n (o.trans f);have v:=f _ _ g A;have b:((os.take c).map V.str).length<=6:=by rw[xA,xR];lia
  have b:((os.drop c).map V.str).length<=6:=by rw[xA,zG];lia
  refine⟨_,rfl,_,rfl,_,rfl,r,_,rfl,ZD.of v,λh b=>?_⟩;rw[Hg,<- mU];refine nw (o:=.lst ((os.take c).map V.str)) b λd I b=>?_;refine⟨h,rfl,⟨_,ZD.of b⟩,?_⟩;refine Ui (J:=(os.take c).map V.str) (λi h Y=>ZA d Y/\h=(((os.take c).take i).map λn=>wg (Ze l).1 n a).map V.int) ⟨ZA.refl _,rfl⟩ (by lia) (λi h Y _ ⟨S,_⟩=>ZD.of (S _ _ b)) (λi h Y ⟨_,e⟩=>by rw[e,xA,xA,xR];lia) ?_ ?_
  .rintro i x h Y b ⟨S,rfl⟩ ls t;obtain⟨u,rfl⟩:=Uj t;rw[xC] at b;obtain⟨n,d,rfl⟩:=xL.mp b;have y:=Q.same (I.trans S);refine⟨⟨[_],rfl,rfl⟩,Z6 ⟨_,rfl,W.wl,_,0,_,rfl,rfl,ZD.of y.e,rfl,_,rfl,_,rfl,W.dl,U,l,n,a,rfl,y.d,λF G=>⟨S.trans G,?_⟩⟩⟩;rw[xS,d,xM,xM];rfl
  rintro h H5 ⟨X,rfl⟩ b1 m;rw[xA,xT];refine nw (o:=.lst (((os.take c).map λn=>wg (Ze l).1 n a).map V.int)) m λm T2 k2=>?_;have m:∀x∈(os.take c).map λn=>wg (Ze l).1 n a,0<=x/\x<=1000:=λx b=>by obtain⟨n,_,rfl⟩:=zF.mp b;exact C n a
  refine⟨b1,_,rfl,ZD.of k2,λx b=>by have:=m x b;lia,by rw[xA,xR];lia,?_⟩;have s1:=L7 m;generalize ((os.take c).map λn=>wg (Ze l).1 n a).sum=w1 at s1 |-;refine Z9 ?_;dsimp only [Yy];have m:=(I.trans X).trans T2;have W5:=Q.same m;refine⟨_,rfl,_,rfl,_,rfl,r,_,rfl,ZD.of (m _ _ v),λa2 I=>?_⟩;rw[GI,<- List.map_drop];refine nw (o:=.lst ((os.drop c).map V.str)) I λX I Q=>?_;refine⟨a2,rfl,⟨_,ZD.of Q⟩,?_⟩;refine Ui (J:=(os.drop c).map V.str) (λi h Y=>ZA X Y/\h=(((os.drop c).take i).map λn=>wg (Ze l).1 n a).map V.int) ⟨ZA.refl _,rfl⟩ (by lia) (λi h Y _ ⟨S,_⟩=>ZD.of (S _ _ Q)) (λi h Y ⟨_,e⟩=>by rw[e,xA,xA,xR];lia) ?_ ?_
  .rintro i x h Y b ⟨S,rfl⟩ ls t;obtain⟨u,rfl⟩:=Uj t;rw[xC] at b;obtain⟨n,d,rfl⟩:=xL.mp b;have y:=W5.same (I.trans S);refine⟨⟨[_],rfl,rfl⟩,Z6 ⟨_,rfl,W.wl,_,0,_,rfl,rfl,ZD.of y.e,rfl,_,rfl,_,rfl,W.dl,U,l,n,a,rfl,y.d,λF G=>⟨S.trans G,?_⟩⟩⟩;rw[xS,d,xM,xM];rfl
  rintro h y ⟨t,rfl⟩ u i;rw[xA,xT];refine nw (o:=.lst (((os.drop c).map λn=>wg (Ze l).1 n a).map V.int)) i λy h i=>?_;refine⟨u,_,rfl,ZD.of i,λx b=>by obtain⟨n,_,rfl⟩:=zF.mp b;have:=C n a;lia,by rw[xA,zG];lia,?_⟩;generalize ((os.drop c).map λn=>wg (Ze l).1 n a).sum=x;refine Z9 ?_;dsimp only [Yy];have b:=m.trans ((I.trans t).trans h);have h:=p.keep b;have i:=b _ _ v;refine⟨_,rfl,_,rfl,_,rfl,_,_,rfl,rfl,_,_,rfl,rfl,_,rfl,s,j,4,rfl,h,aA,aA,λt n l m u h=>?_⟩;refine⟨_,_,rfl,rfl,_,_,_,rfl,λm l t v y=>?_⟩;refine⟨_,_,rfl,?_⟩;have v:1<=(if m > 1 then m else 1)/\(if m > 1 then m else 1)<=12000:=by split<;>lia
  generalize (if m > 1 then m else 1)=l at v |-;refine Z9 ?_;dsimp only [Yy];have t:=h _ _ g i;have i:ZF s H n:=(((o.trans f)).trans b.x).trans h;refine Vg (λL m=>∃l:Int,L=[some (.ref s),some (.ref W.wl),some (.ref N),some (.int a),some (.ref r),some (.int c),some (.int w1),some (.int x),some (.int l)]/\1<=l/\l<=12000/\ZH m s j/\ZF s n m) ?_ ?_
  .rintro L m ⟨l,rfl,F,G,a,h⟩;have n:=h _ _ g t;have x:ZF s H m:=i.trans h;have i:∀{Y:Hp}{b:gF},ZF s H Y->ZH Y s j->Y b=none->H b=none:=λ{Y b} I t e=>by
    cases C:H b with
    | none=>rfl
    | some o =>
     by_cases z:b=s
     .obtain⟨_,_,_,_,_,y,_⟩:=t;rw[z,y] at e;cases e
     .rw[I b o z C] at e;cases e
   refine⟨_,rfl,_,rfl,_,rfl,_,rfl,r,_,rfl,ZD.of n,λy b=>?_⟩;rw[Hg,<- mU];refine nw (o:=.lst ((os.take c).map V.str)) b λe o H=>?_;refine⟨_,rfl,_,rfl,_,rfl,r,_,rfl,ZD.of (o _ _ n),λz e=>?_⟩;rw[GI,<- List.map_drop];refine nw (o:=.lst ((os.drop c).map V.str)) e λn t I=>?_;refine⟨aB rfl,λq C=>?_⟩;have n:=ZA.new (o:=.tup [.int l,.ref y,.ref z]) C;have U:=(o.trans t).trans n;refine k q y z (os.take c) (os.drop c) l _ F G (by rw[zD];exact om) (by rw[zD];exact O) (by rw[xR];lia) (by rw[zD];lia) (i x a b) (i (x.trans o.x) (a.keep o) e) Zj (n _ _ (t _ _ H)) (n _ _ I) (a.keep U) (x.trans U.x)
  .intro b d _ _ _;refine⟨_,rfl,s,j,4,rfl,u,aA,aA,λi m c e a h=>?_⟩;refine⟨rfl,_,rfl,Zv (λ_=>?_) (λ_=>?_)⟩
   .exact Z9 (d _ _ ⟨1,rfl,aA,aA,a,h⟩)
   .exact d _ _ ⟨l,rfl,v.1,v.2,a,h⟩
 .intro b d _ _ _;refine⟨_,rfl,s,j,4,rfl,M,aA,aA,λc E a b p f=>?_⟩;have h:((os.length:Int)+1+R) / 2=((((os.length:Int)+1+R) / 2).toNat:Int):=by lia
  refine⟨rfl,_,rfl,Zv (λ_=>?_) (λ_=>?_)⟩
  .refine⟨_,rfl,_,rfl,r,_,rfl,.inl (ZD.of (f _ _ g (B _ _ g A))),s,j,_,rfl,p,by rw[xA];lia,by rw[xA];lia,λa H5 g b c e=>?_⟩;rw[xA] at b;refine⟨_,_,rfl,rfl,?_⟩;refine Z9 ?_;have b:1+a=((1+a).toNat:Int):=by lia
   exact d _ _ ⟨(1+a).toNat,by rw[<- b];rfl,by lia,by lia,c,(B.trans f).trans e⟩
  .rw[h];exact d _ _ ⟨_,rfl,by lia,by lia,p,B.trans f⟩
inductive VE(vs:aG)(H:Hp)(Q:VK)(a:XK):Prop
 |mk(s b:gF) (W:WL) (e:gC) (c d:List AD) (a:List ZS)(_:vs=[.ref s,.ref W.wl])(_:ZH H s b)(_:ZW s H e W c d a)(_:0<a.length)(_:a.length<=1000)(_:(∀t∈a,Tp t/\0<t.ones.length))(_:∀(q:gF)(i:Nat)(t:ZS)(n:Str)(Y:Hp),a[i]?=some t->n∈(t.ones++t.others).map (·.1)->Y q=some (.tup [.int i,.str n])->ZH Y s b->ZF s H Y->Q (.ref q) Y)
abbrev Ds:Stmt:=top 76
theorem NO:ZM lM lY (Zm Ds):=fsc
theorem SW:Nm (Zm Ds) "_law_swearers" .local:=aA
theorem Qx(a0:YA K mg "_law_accused" Ds)(T:Txt mg)(Z8:Fn P w K mg Z "_law_next" lj 1 YC):Fn P w K mg Z "_law_accused" lY 2 VE:=by
 refine a0.fq lM λH vs Q E hr h=>?_;obtain⟨s,R,W,fx,as,bs,d,rfl,hs,N,h0,h1,a6,k⟩:=h
 refine⟨rfl,_,(Zd (Zx 2 (Zh Z7 Q3 Zc)) (Zd (Zx 3 (Zl Z8 (Za Q0 (Za (Z0 Ym T.len Yh (Za Qa Zb)) Zb)))) (Zd (Zq (Zk Yk (Zl Z8 (Za Q0 (Za Zc Zb))) Zc (Zn _)) (Zg (Zx 3 (Zu Vy (Z0 Ym T.len Yh (Za Qa Zb)) Zc))) Zp) (Zd (Bu (locs:=["_law_name","_law_weight"]) (fr:=[]) ⟨rfl,aA,aA,aA,aA,aA⟩ .nil rfl (Yz (Zu Wj (Zh Zi (Zh Z7 Qa Qb) Zc) (Zh Zi (Zh Z7 Qa Qb) Zc))) ⟨λ_ _ _ _ _ _=>by
  have y:(inN ["_law_name","_law_weight"] []).Nodup:=aA
  exact⟨(Cv 2 (by rfl) (Yv (Wb 0 y) (Yv (Wb 1 y) Ub))),Uc,(Yp 0)⟩⟩ NO.nd SW (by rfl) (i:=4))
 (Zg (Zw (Yj (Za Qb (Za (Zh Z7 Qc (Zl Z8 (Za Q0 (Za (Z0 Ym T.len Yh (Za Qc Zb)) Zb)))) Zb))))))))),?_⟩
 have hz:=aC
 obtain⟨M,hl,l⟩:=N.u;have G:ZO H (d.map Wq) M:=l.iK BX;have b9:M.length=d.length:=by have:=G.length;rw[xA] at this;exact this
 have a5:=N.ne W.sl (by simp);refine⟨_,rfl,W.wl,_,1,_,rfl,rfl,ZD.of N.e,rfl,?_⟩;refine Z9 ?_;dsimp only [Yy];refine⟨_,rfl,_,rfl,W.sl,M,rfl,.inl (ZD.of hl),s,R,_,rfl,hs,by lia,by lia,λd1 H1 b4 b5 a8 n=>?_⟩;refine Z9 ?_;dsimp only [Yy];refine Vg (λL g=>∃i:Nat,L=[some (.ref s),some (.ref W.wl),some (.ref W.sl),some (.int i),none]/\i<d.length/\ZH g s R/\ZF s H g) ?_ ?_
 .rintro L g ⟨i,rfl,hi,c,b⟩;have W2:=N.x hs b;obtain⟨e,z,a⟩:=W2.u;have a:ZO g (d.map Wq) e:=a.iK BX;have O:d[i]?=some d[i]:=xB hi;generalize d[i]=t at O;obtain⟨v,hv⟩:∃v,e[i]?=some v:=⟨_,xB (by have:=a.length;rw[xA] at this;lia)⟩;obtain⟨dd,hd,re⟩:=a.get hv;rw[xC,O] at hd;cases hd;obtain⟨S,u1,u2,u4,rfl,I,⟨b1,r,rfl,a3,C⟩,⟨b2,u,rfl,a4,F⟩,h4⟩:=GE re;obtain⟨⟨L1,X,_,_⟩,b3⟩:=a6 t (xG O);have z1:=C.len;have z2:=F.len;have y1:=L1.2;have y2:=X.2;refine⟨_,rfl,_,rfl,W.sl,e,i,.ref S,rfl,rfl,ZD.of z,Yl hv,S,_,0,.ref b1,rfl,rfl,ZJ.of I,rfl,?_⟩;refine⟨_,rfl,_,rfl,W.sl,e,i,.ref S,rfl,rfl,ZD.of z,Yl hv,S,_,1,.ref b2,rfl,rfl,ZJ.of I,rfl,?_⟩;refine⟨b1,b2,r,u,rfl,rfl,a3,a4,by lia,λq hq=>?_⟩;have x:=ZA.new (o:=.lst (r++u)) hq;have kc:(upd g q (.lst (r++u))) q=some (.lst (r++u)):=Zj;generalize (upd g q (.lst (r++u)))=U at x kc |-;have a7:ZP U (t.ones++t.others) (r++u):=ZP.mono (ZA.t x) (ZP.app F C);refine⟨q,rfl,⟨_,ZD.of kc⟩,?_⟩;refine GV kc a7 (by rw[xE];lia) λp f=>?_;have Y:=ZA.new (o:=.lst (((t.ones++t.others).map (·.1)).map V.str)) f;have m:(upd U p (.lst (((t.ones++t.others).map (·.1)).map V.str))) p=some (.lst (((t.ones++t.others).map (·.1)).map V.str)):=Zj;generalize (upd U p (.lst (((t.ones++t.others).map (·.1)).map V.str)))=H4 at Y m |-;refine Z9 ?_;dsimp only [Yy];have a9:=c.keep (x.trans Y);have b1:p≠s:=(c.keep x).ne f |>.1
  have b8:0<((t.ones++t.others).map (·.1)).length/\((t.ones++t.others).map (·.1)).length<=120:=by rw[xA,xE];lia
  refine⟨_,rfl,_,rfl,_,rfl,_,rfl,p,_,rfl,.inl (ZD.of m),s,R,_,rfl,a9,by rw[xA];lia,by rw[xA];lia,λd3 H5 a1 a2 b0 J=>?_⟩;rw[xA] at a2;obtain⟨j,rfl⟩:=yC a1;have hj:j<((t.ones++t.others).map (·.1)).length:=by lia
  refine⟨p,_,_,.str ((t.ones++t.others).map (·.1))[j],rfl,rfl,ZD.of (J _ _ b1 m),Yl (by rw[xC,xB hj];rfl),aB rfl,λq2 B=>?_⟩;exact k q2 i t _ _ O (zN hj) Zj (b0.keep (ZA.new B)) (((b.trans (x.trans Y).x).trans J).trans (ZA.new B).x)
 .intro D' A _ _ _;refine⟨_,rfl,s,R,2,rfl,a8,aA,aA,λd2 g b6 b7 c b=>?_⟩;refine⟨rfl,_,rfl,Zv (λ_=>?_) (λ_=>?_)⟩
  .refine⟨_,rfl,W.sl,M,rfl,.inl (ZD.of ((n.trans b) _ _ a5 hl)),_,_,rfl,rfl,?_⟩;have e1:((M.length:Int) - 1)=((d.length - 1:Nat):Int):=by lia
   exact Z9 (A _ _ ⟨d.length - 1,by rw[<- e1];rfl,by lia,c,n.trans b⟩)
  .have e1:d1=(d1.toNat:Int):=by lia
   exact A _ _ ⟨d1.toNat,by rw[<- e1];rfl,by lia,c,n.trans b⟩
theorem Ow:∀x∈(["claim","wergild","accuse"]:fZ),inV (.str x) [.str "claim", .str "wergild", .str "accuse"]=true:=aA
theorem PU:∀x∈(["come","rise","die","penance","bring","give","pay"]:fZ),inV (.str x) [.str "claim", .str "wergild", .str "accuse"]=false:=aA
theorem PZ(x:AD):inV (.str (Y2 x)) [.str "claim", .str "wergild", .str "accuse"]=isC x:=by
 cases x with
 | s d=>exact PU _ (by cases d<;>simp[Y2])
 | c d b a e g f=>exact Ow _ (by cases d<;>simp[Y2])
inductive UU(vs:aG)(H:Hp)(Q:VK)(a:XK):Prop
 |mk(v) (fx) (x)(_:vs=[v])(_:YE (fz fx H) (adT x) v)(_:∀Y,ZA H Y->Q (.bl (isC x)) Y)
abbrev Ml:Stmt:=top 71
theorem MI(a:YA K mg "_law_is_case" Ml)(T:Txt mg):Fn P w K mg Z "_law_is_case" lp 1 UU:=by
 refine a.fq lp λH b Q E a h=>?_;obtain⟨v,a,x,rfl,d,k⟩:=h;refine⟨rfl,_,(Zg (Zw (JF KB (Zh Zi Q0 Zc) (Yb (Za Zt (Za Zt (Za Zt Zb)))) rfl))),?_⟩;have a:=aC
 obtain⟨a,e,rfl,b,c⟩:=Ad d;refine⟨_,rfl,a,_,0,.str (Y2 x),rfl,rfl,ZJ.of b,Yl c,aB rfl,λb a=>?_⟩;refine⟨b,_,rfl,.inl (ZD.of Zj),rfl,rfl,?_⟩;rw[PZ];exact k _ (ZA.new a)
theorem NC(day need:Int)(l1 l2:gF)(d:CD):atI (cdV day need l1 l2 d) (-1)=some (.ref l2):=by cases d<;>rfl
theorem QN(day need:Int)(l1 l2:gF)(d:CD):atI (cdV day need l1 l2 d) (-2)=some (.ref l1):=by cases d<;>rfl
theorem XS(day need:Int)(l1 l2:gF)(d:CD):atI (cdV day need l1 l2 d) (-3)=some (.int need):=by cases d<;>rfl
theorem EF(day need:Int)(l1 l2:gF)(d:CD):atI (cdV day need l1 l2 d) (-4)=some (.int day):=by cases d<;>rfl
theorem Nx{v:V}{i:Nat}{u:TS}{D:ZY}{L:St}{H:Hp}(h:u D (L.set i (some v)) H):Ug (Js (tC v) (Wr i)) u D L H:=h
def Ck:CD->Option (Int×Str)
 | .acc i n=>some (i,n)
 | _=>none
def kss(c:List AD)(e:List ZS):AD->List ZS
 | .s _=>e
 | .c d a b f g _=>e ++ [⟨Yg (λn=>wg (Ze c).1 n a) f,Yg (λn=>wg (Ze c).1 n a) g,b,Ck d⟩]
inductive VG(vs:aG)(H:Hp)(Q:VK)(a:XK):Prop
 |mk(v) (s) (W) (fx) (as bs) (ss) (x)(_:vs=[.ref W.wl,v])(_:ZW s H fx W as bs ss)(_:YE (fz fx H) (adT x) v)(_:as.length<=1000)(_:bs.length<=1000)(_:ss.length<=1000)(_:(∀d b a c e f,x=.c d b a c e f->c.length<=60/\e.length<=60))(_:(∃o,H s=some o))(_:∀a Y,ZW s Y a W (as ++ [x]) (bs++(if isC x then [x] else [])) (kss as ss x)->(∀b o,b ∉ [W.dl,W.sl,W.tl]->H b=some o->Y b=some o)->(∀b∈a,b∈fx\/H b=none/\∃vs,Y b=some (.lst vs))->Q .non Y)
abbrev Bg:Stmt:=top 72
theorem EN:ZM lE lu (Zm Bg):=fsc
theorem TZ:Nm (Zm Bg) "_law_deed_here" .cell:=aA
theorem Dy:Nm (Zm Bg) "_law_deeds" .cell:=aA
theorem SK:Nm (Zm Bg) "_law_ones" .local:=aA
theorem MH:Nm (Zm Bg) "_law_others" .local:=aA
theorem P0(c1:YA K mg "_law_keep" Bg)(T:Txt mg)(c0:Fn P w K mg Z "_law_is_case" lp 1 UU)(b1:Fn P w K mg Z "_law_weighs" lB 1 YZ):Fn P w K mg Z "_law_keep" lu 2 VG:=by
 refine c1.fq lE λH vs Q E hr h=>?_;obtain⟨v,s,W,O,t,bs,ss,x,rfl,hW,re,d3,d4,d7,m,⟨os,c4⟩,k⟩:=h
 refine⟨rfl,_,(Zd (Ul Q0 (EA (by rfl) (Yv (GS (i:=2) EN.nd Dy) (Yv (Yi 3) (Yv (Yi 4) Ub)))))
 (Zd (Zq (Vi (Zl c0 (Za (qvC 1 TZ) Zb))) (Zd (Bu (locs:=lG) (fr:=[("_law_deed_here", 1),("_law_deeds", 2)]) ⟨rfl,aA,aA,aA,aA,aA⟩ (.ij TZ (.ij Dy .nil)) rfl (Yz (Zh Zi (qvC 1 TZ) (Yw Yx Zc))) ⟨λ_ _ _ _ _ _=>by
  have a3:(inN lG [("_law_deed_here", 1),("_law_deeds", 2)]).Nodup:=aA
  exact⟨(Wb 0 a3),Uc,(Yj (Za (Yp 0) (Za (Zl b1 (Za (Wn 2) (Za (Yp 0) (Za (Zh JN (Wn 1) (Yw Yx Zc)) Zb))) (n:=nmC)) Zb)))⟩⟩ EN.nd SK (by rfl) (i:=5))
 (Zd (Bu (locs:=lG) (fr:=[("_law_deed_here", 1),("_law_deeds", 2)]) ⟨rfl,aA,aA,aA,aA,aA⟩ (.ij TZ (.ij Dy .nil)) rfl (Yz (Zh Zi (qvC 1 TZ) (Yw Yx Zc))) ⟨λ_ _ _ _ _ _=>by
  have a3:(inN lG [("_law_deed_here", 1),("_law_deeds", 2)]).Nodup:=aA
  exact⟨(Wb 0 a3),Uc,(Yj (Za (Yp 0) (Za (Zl b1 (Za (Wn 2) (Za (Yp 0) (Za (Zh JN (Wn 1) (Yw Yx Zc)) Zb))) (n:=nmC)) Zb)))⟩⟩ EN.nd MH (by rfl) (i:=6))
 (Zd (Zx 7 Y3)
 (Zd (Zq (Zk Yk (Zh Zi (qvC 1 TZ) Zc) Zt (Zn _)) (Zg (Zx 7 (Yj (Za (Zh Zi (qvC 1 TZ) Zc) (Za (Zh Zi (qvC 1 TZ) Zc) Zb))))) Zp)
 (Zd (Zs (Y4 aD aE aF Wa Qb (Za (Yj (Za Qd (Za Qe (Za (Zh Zi (qvC 1 TZ) (Yw Yx Zc)) (Za Qf Zb))))) Zb)))
 (Zg (Zs (Y4 aD aE aF Wa Qc (Za (qvC 1 TZ) Zb))))))))) Zp)
 (Zg (Zs (Y4 aD aE aF Wa (qvC 2 Dy) (Za (qvC 1 TZ) Zb)))))),?_⟩
 have hz:=aC
 refine⟨_,rfl,W.wl,_,rfl,ZD.of hW.e,rfl,_,_,rfl,_,_,rfl,_,_,rfl,rfl,?_⟩
 try dsimp only [Yy]
 refine Vg (λL H1=>∃(v5 v6 v7:Option V)(C:gC),L=[some (.ref W.wl),some v,some (.ref W.dl),some (.ref W.sl),some (.ref W.tl),v5,v6,v7]/\ZW s H1 C W t (bs++(if isC x then [x] else [])) (kss t ss x)/\YE (fz C H1) (adT x) v/\(∀b o,b ∉ [W.dl,W.sl,W.tl]->H b=some o->H1 b=some o)/\∀b∈C,b∈O\/H b=none/\∃vs,H1 b=some (.lst vs)) ?_ ?_
 .rintro L H1 ⟨v5,v6,v7,C,rfl,W1,M,f1,g1⟩;obtain⟨us,hd,hr⟩:=id W1.d;have a7:=hr.length;rw[xA] at a7;refine⟨_,rfl,.inl ⟨rfl,_,ZD.of hd⟩,_,rfl,W.dl,us,v,rfl,rfl,hd,by lia,?_⟩;refine k C _ (W1.addD hd M) (λb o B e=>?_) (λb j=>?_)
  .rw[Zf (λz=>B (by rw[z];simp))];exact f1 b o B e
  .rcases g1 b j with z | ⟨z,vs',e⟩
   .exact .inl z
   .obtain⟨u1,e1,_⟩:=hW.d;exact .inr ⟨z,vs',by rw[Zf (λy=>by rw[y,e1] at z;cases z)];exact e⟩
 .intro D' b5 _ _ _;refine⟨_,rfl,v,O,x,rfl,re,λH1 S1=>⟨_,rfl,?_⟩⟩;have W1:=hW.same S1;have M:=YE.mono (Ve (xs':=O) (λ_ _ e=>S1 _ _ e) (λx _ o e=>S1 _ _ e) λ_ z=>z) _ _ re;cases x with
  | s d =>
   refine Z5 (b5 _ _ ⟨none,none,none,O,rfl,?_,M,λb o _ e=>S1 _ _ e,λb j=>.inl j⟩);show ZW s H1 O W t (bs ++ []) ss;rw[xX];exact W1
  | c d a I o1 o2 f =>
   refine Z6 ?_;obtain⟨d5,d6⟩:=m _ _ _ _ _ _ rfl;obtain⟨q,l1,l2,rfl,hq,c2,c3⟩:=CQ M;have h1:=(Af c2).1;have h2:=(Af c3).1;refine⟨_,rfl,_,rfl,q,_,_,_,rfl,rfl,ZJ.of hq,QN _ _ _ _ _,l1,rfl,⟨_,ZD.of h1⟩,?_⟩;refine Ui (J:=o1.map V.str) (λi X Y=>ZA H1 Y/\ZP Y (Yg (λn=>wg (Ze t).1 n a) (o1.take i)) X) ⟨ZA.refl _,rfl⟩ (by rw[xA];lia) (λi X Y _ ⟨S,_⟩=>ZD.of (S _ _ h1)) (λi X Y ⟨_,r⟩=>by rw[r.len,xA,xR];lia) ?_ ?_
   .rintro i x X Y m ⟨S,r⟩ ls a4;obtain⟨u,rfl⟩:=Uj a4;rw[xC] at m;obtain⟨n,F,rfl⟩:=xL.mp m;refine⟨⟨[_],rfl,rfl⟩,Z6 ⟨_,rfl,_,rfl,_,rfl,_,rfl,_,rfl,q,_,_,_,rfl,rfl,ZJ.of (S _ _ hq),EF _ _ _ _ _,W.dl,O,t,n,a,rfl,(W1.same S).d,λb6 S'=>⟨aB rfl,λp hp=>⟨(S.trans S').trans (ZA.new hp),?_⟩⟩⟩⟩;show ZP _ ((o1.take (i+1)).map λn=>(n,wg (Ze t).1 n a)) _;rw[xS,F,xM];exact ZP.snoc (p:=(n,wg (Ze t).1 n a)) Zj (ZP.mono (ZA.t (S'.trans (ZA.new hp))) r)
   rintro a9 H2 ⟨S2,r1⟩ a1 b3;rw[xA,xT] at r1;refine nw (o:=.lst a9) b3 λH3 T1 k1=>?_;have g:=S2.trans T1;refine Z9 ?_;dsimp only [Yy];refine⟨_,rfl,_,rfl,q,_,_,_,rfl,rfl,ZJ.of (g _ _ hq),NC _ _ _ _ _,l2,rfl,⟨_,ZD.of (g _ _ h2)⟩,?_⟩;refine Ui (J:=o2.map V.str) (λi X Y=>ZA H3 Y/\ZP Y (Yg (λn=>wg (Ze t).1 n a) (o2.take i)) X) ⟨ZA.refl _,rfl⟩ (by rw[xA];lia) (λi X Y _ ⟨S,_⟩=>ZD.of (S _ _ (g _ _ h2))) (λi X Y ⟨_,r⟩=>by rw[r.len,xA,xR];lia) ?_ ?_
   .rintro i x X Y m ⟨S,r⟩ ls a4;obtain⟨u,rfl⟩:=Uj a4;rw[xC] at m;obtain⟨n,F,rfl⟩:=xL.mp m;refine⟨⟨[_],rfl,rfl⟩,Z6 ⟨_,rfl,_,rfl,_,rfl,_,rfl,_,rfl,q,_,_,_,rfl,rfl,ZJ.of (S _ _ (g _ _ hq)),EF _ _ _ _ _,W.dl,O,t,n,a,rfl,((W1.same g).same S).d,λb6 S'=>⟨aB rfl,λp hp=>⟨(S.trans S').trans (ZA.new hp),?_⟩⟩⟩⟩;show ZP _ ((o2.take (i+1)).map λn=>(n,wg (Ze t).1 n a)) _;rw[xS,F,xM];exact ZP.snoc (p:=(n,wg (Ze t).1 n a)) Zj (ZP.mono (ZA.t (S'.trans (ZA.new hp))) r)
   rintro b0 H4 ⟨S4,r2⟩ U b4;rw[xA,xT] at r2;refine nw (o:=.lst b0) b4 λH5 T2 k2=>?_;show Wr 6 (.ref U) _ _ _;refine Z9 ?_;dsimp only;refine Nx ?_;have a0:=g.trans (S4.trans T2);have b7:=S1.trans a0;have n1:H a1=none:=(S1.trans S2).free b3;have n2:H U=none:=(S1.trans (g.trans S4)).free b4;refine Vg (λL H6=>∃u4:V,L=[some (.ref W.wl),some (.ref q),some (.ref W.dl),some (.ref W.sl),some (.ref W.tl),some (.ref a1),some (.ref U),some u4]/\YE (fz [] H6) (AX (Ck d)) u4/\ZA H5 H6) ?_ ?_
   .rintro L H6 ⟨u4,rfl,r4,S6⟩;have R:=a0.trans S6;have b8:=b7.trans S6;have c5:=R _ _ hq
    have A:∀{b:gF},H b=none->b≠s/\b ∉ [W.dl,W.sl,W.tl]:=λ{b} e=>⟨Zo c4 e |>.symm,λz=>by
     obtain⟨u1,e1,_⟩:=hW.d;obtain⟨u2,e2,_⟩:=hW.u;obtain⟨u3,e3,_⟩:=hW.t;simp only[xD,xV,or_false] at z;rcases z with z | z | z
     .rw[z,e1] at e;cases e
     .rw[z,e2] at e;cases e
     .rw[z,e3] at e;cases e⟩
    have W6:=(W1.same R).more (gx:=[a1,U]) (λb j=>by simp at j;rcases j with rfl | rfl;exact(A n1).1;exact(A n2).1) (λb j=>by simp at j;rcases j with rfl | rfl;exact(A n1).2;exact(A n2).2);obtain⟨us,hu,d0⟩:=id W6.u;have a7:=d0.length;rw[xA] at a7;refine⟨_,rfl,.inl ⟨rfl,_,ZD.of hu⟩,_,rfl,_,rfl,_,rfl,_,rfl,q,_,_,_,rfl,rfl,ZJ.of c5,XS _ _ _ _ _,_,rfl,aB rfl,λqt c6=>?_⟩;refine nw (o:=.tup [.ref a1,.ref U,.int I,u4]) c6 λH7 N k7=>?_;have W7:=W6.same N;have a6:=N _ _ hu;refine⟨W.sl,us,.ref qt,rfl,rfl,a6,by lia,?_⟩;have b9:=(T1.trans (S4.trans T2)).trans (S6.trans N);have a2:=T2.trans (S6.trans N);have c7:YE (fz ([a1,U]++O) H7) (Wq ⟨Yg (λn=>wg (Ze t).1 n a) o1,Yg (λn=>wg (Ze t).1 n a) o2,I,Ck d⟩) (.ref qt) :=
     ⟨qt,_,rfl,We k7,⟨_,_,rfl,⟨a1,a9,rfl,Vq (by simp) ((S4.trans a2) _ _ k1),ZP.fz (ZP.mono (ZA.t b9) r1)⟩,⟨_,_,rfl,⟨U,b0,rfl,Vq (by simp) ((S6.trans N) _ _ k2),ZP.fz (ZP.mono (ZA.t a2) r2)⟩,⟨_,_,rfl,rfl,⟨_,_,rfl,YE.mono (Ve (λ_ _ e=>N _ _ e) (λx m=>by cases m) λx m=>by cases m) _ _ r4,rfl⟩⟩⟩⟩⟩
    have W8:=W7.addU a6 c7;have d1:YE (fz ([a1,U]++O) H7) (adT (.c d a I o1 o2 f)) (.ref q):=YE.mono (Ve (λ_ _ e=>(R.trans N) _ _ e) (λx m o e=>(R.trans N) _ _ e) λx m=>xK _ m) _ _ M;have a8:=YE.mono (W7.grow (l:=W.sl) (v:=.ref qt) (by simp) a6).1 _ _ d1;have f8:∀b o,b ∉ [W.dl,W.sl,W.tl]->H b=some o->(upd H7 W.sl (.lst (us ++ [.ref qt]))) b=some o:=λb o B e=>by rw[Zf (λz=>B (by rw[z];simp))];exact N _ _ (b8 _ _ e)
    have b2:∀b o,b ∉ [W.dl,W.sl,W.tl]->H7 b=some o->(upd H7 W.sl (.lst (us ++ [.ref qt]))) b=some o:=λb o B e=>by rw[Zf (λz=>B (by rw[z];simp))];exact e
    generalize (upd H7 W.sl (.lst (us ++ [.ref qt])))=H8 at W8 a8 f8 b2 |-;obtain⟨ts,ht,c9⟩:=id W8.t;have c8:=c9.length;rw[xA] at c8;refine⟨_,rfl,.inl ⟨rfl,_,ZD.of ht⟩,_,rfl,W.tl,ts,.ref q,rfl,rfl,ht,by lia,?_⟩;have f9:∀b o,b ∉ [W.dl,W.sl,W.tl]->H7 b=some o->(upd H8 W.tl (.lst (ts ++ [.ref q]))) b=some o:=λb o B e=>by rw[Zf (λz=>B (by rw[z];simp))];exact b2 b o B e
    refine b5 _ _ ⟨_,_,_,[a1,U]++O,rfl,W8.addT ht a8,YE.mono (W8.grow (l:=W.tl) (v:=.ref q) (by simp) ht).1 _ _ a8,λb o B e=>?_,λb j=>?_⟩
    .rw[Zf (λz=>B (by rw[z];simp))];exact f8 b o B e
    .simp at j;rcases j with rfl | rfl | j
     .exact .inr ⟨n1,a9,f9 _ _ (A n1).2 (S4.trans a2 _ _ k1)⟩
     .exact .inr ⟨n2,b0,f9 _ _ (A n2).2 ((S6.trans N) _ _ k2)⟩
     .exact .inl j
   .intro D2 a5 _ _ _;have G:=a0 _ _ hq;cases d with
    | acc i n =>
     refine⟨_,rfl,q,_,0,_,rfl,rfl,ZJ.of G,rfl,rfl,_,rfl,Zv (λ_=>?_) (λz=>absurd rfl z)⟩;refine⟨_,rfl,q,_,1,_,rfl,rfl,ZJ.of G,rfl,_,rfl,q,_,2,_,rfl,rfl,ZJ.of G,rfl,aB rfl,λp hp=>?_⟩;exact Z9 (a5 _ _ ⟨.ref p,rfl,⟨p,_,rfl,We Zj,⟨_,_,rfl,rfl,⟨_,_,rfl,rfl,rfl⟩⟩⟩,ZA.new hp⟩)
    | wer x y d2 =>
     exact⟨_,rfl,q,_,0,_,rfl,rfl,ZJ.of G,rfl,rfl,_,rfl,Zv (λz=>absurd z aA) (λ_=>a5 _ _ ⟨.non,rfl,rfl,ZA.refl _⟩)⟩
    | clm x i =>
     exact⟨_,rfl,q,_,0,_,rfl,rfl,ZJ.of G,rfl,rfl,_,rfl,Zv (λz=>absurd z aA) (λ_=>a5 _ _ ⟨.non,rfl,rfl,ZA.refl _⟩)⟩
def Y7:AD->Bool
 | .s (.bring ..)=>true
 | _=>false
theorem Bs(x:AD):(Y2 x="bring")↔Y7 x=true:=by
 cases x with
 | s d=>cases d<;>simp[Y2,Y7]<;>decide +kernel
 | c d b a e g f=>cases d<;>simp[Y2,Y7]<;>decide +kernel
def Dt(ns:fZ)(c d:Nat)(day:Int)(b:Int):CD->Prop
 | .wer x y a=>x∈ns/\y∈ns/\1<=a/\a<=1000000/\b=day
 | .clm x i=>x∈ns/\0<=i/\i<c/\b=day
 | .acc i n=>n∈ns/\0<=i/\i<d/\day<=b/\b<=9999
structure EI (ns:fZ) (as bs:List AD) (ss:List ZS):Prop where
 al:as.length<=1000
 sl:ss.length<=1000
 bl:bs.length=ss.length
 ok:∀t∈ss,Tp t/\0<t.ones.length
 nm:∀t∈ss,∀n∈(t.ones++t.others).map (·.1),n∈ns
 dy:∀x∈bs,∃d day need o1 o2 f,x=.c d day need o1 o2 f/\0<=day/\day<=9999
 wg:∀n d,0<=wg (Ze as).1 n d/\wg (Ze as).1 n d<=1000
 nd:ns.Nodup
 n0:0<ns.length
 n1:ns.length<=1000
def DT(ns:fZ)(need:Int)(a b:fZ):Prop:=1<=need/\need<=12000/\(∀n∈a++b,n∈ns)/\(a++b).Nodup/\0<a.length/\(a++b).length<=6
inductive WZ(vs:aG)(H:Hp)(Q:VK)(a:XK):Prop
 |mk(s la nl) (ns) (W) (fx) (as bs) (ss) (day)(_:vs=[.ref s,.ref W.wl,.ref nl,.int day])(_:ZH H s la)(_:ZW s H fx W as bs ss)(_:EI ns as bs ss)(_:H nl=some (.lst (ns.map V.str)))(_:nl≠s)(_:0<=day)(_:day<=9999)(_:∀q b c d e a f g Y,Dt ns (as.filter Y7).length ss.length day e d->DT ns a f g->H q=none->H b=none->H c=none->Y q=some (.tup (cdV e a b c d))->Y b=some (.lst (f.map V.str))->Y c=some (.lst (g.map V.str))->ZH Y s la->ZF s H Y->Q (.ref q) Y)
theorem A2(d:ZF s H Y)(a:ZH Y s la)(e:Y b=none):H b=none:=by
 cases c:H b with
 | none=>rfl
 | some o =>
  by_cases z:b=s
  .obtain⟨_,_,_,_,_,y,_⟩:=a;rw[z,y] at e;cases e
  .rw[d b o z c] at e;cases e
abbrev LF:Stmt:=top 77
theorem Qo(c4:YA K mg "_law_case_deed" LF)(T:Txt mg)(Z8:Fn P w K mg Z "_law_next" lj 1 YC)(V9:Fn P w K mg Z "_law_one" lI 2 UE)(c2:Fn P w K mg Z "_law_sides" lz 3 UG)(c3:Fn P w K mg Z "_law_accused" lY 2 VE):Fn P w K mg Z "_law_case_deed" lz 4 WZ:=by
 refine c4.fq ["_law_src_here","_law_world","_law_names_here","_law_day","_law_need","_law_ones","_law_others","_law_kind","_law_case","_law_name","_law_things","_law_many"] λH vs Q E hr h=>?_;obtain⟨s,la,nl,ns,W,fx,as,bs,ss,c,rfl,hs,hW,C,hn,g,y0,y1,k⟩:=h
 refine⟨rfl,_,(Zd (Ul (Zl c2 (Za Q0 (Za Q3 (Za Qa (Za Qb Zb))))) (Bl (by rfl) (Yv (Yi 4) (Yv (Yi 5) (Yv (Yi 6) Ub)))))
 (Zd (Zx 7 (Zl Z8 (Za Q0 (Za Zc Zb))))
 (Zd (Zq (QW.pt (Wz (Zk Jo Qf Zc (Zn _)) (Vx (Zk Jo (Z0 Ym T.len Yh (Za (Zh Z7 Q3 Zc) Zb)) Zc (Zn _))))) (Zd (Ul (Zl c3 (Za Q0 (Za Q3 Zb))) (Bl (by rfl) (Yv (Yi 8) (Yv (Yi 9) Ub))))
 (Zg (Zw (Yj (Za Zt (Za Qg (Za (qvN 9) (Za (Z0 (Ed (by rfl)) T.max Ce (Za Qb (Za (Zh Zi (Zh Z7 (Zh Z7 Q3 Zc) Qg) (Yw Yx Zc)) Zb))) (Za Qc (Za Qd (Za Qe Zb))))))))))) Zp)
 (Zd (Zx 10 (Z0 Ym T.len Yh (Za (Vu (locs:=lp) (fr:=[]) ⟨rfl,aA,aA,aA,aA,aA⟩ .nil rfl (Yz (Zh Z7 Q3 Zc)) ⟨λ_ _ _ _ _ _=>by
  have c5:(inN lp []).Nodup:=aA
  exact⟨(Wb 0 c5),(JO (Zk Yk (Zh JN (Yp 0) Zc) Zt (Zn _))),(Yp 0)⟩⟩) Zb)))
 (Zd (Zq (QW.pt (Wz (Zk Yk Qf Zc (Zn _)) (Vx (Zk Jo (qvN 10) Zc (Zn _))))) (Zg (Zw (Yj (Za Zt (Za (Zl V9 (Za Q0 (Za Qa Zb))) (Za (Zl Z8 (Za Q0 (Za (qvN 10) Zb))) (Za Qb (Za Qc (Za Qd (Za Qe Zb)))))))))) Zp)
 (Zd (Zx 11 (Zu Y9 Zc (Zl Z8 (Za Q0 (Za (Zh Z7 (Yb (Za Zc (Za Zc Zb))) (Zl Z8 (Za Q0 (Za Zc Zb)))) Zb)))))
 (Zg (Zw (Yj (Za Zt (Za (Zl V9 (Za Q0 (Za Qa Zb))) (Za (Zl V9 (Za Q0 (Za Qa Zb))) (Za (qvN 11) (Za Qb (Za Qc (Za Qd (Za Qe Zb))))))))))))))))),?_⟩
 have hz:=aC
 have n0:=C.n0;have n1:=C.n1;refine⟨_,rfl,_,rfl,_,rfl,_,rfl,s,la,nl,ns,W,fx,as,bs,ss,c,rfl,hs,hW,hn,g,C.nd,C.n0,C.n1,C.wg,λq U X o1 o2 d H1 g0 g1 g2 g3 g4 g5 f1 f2 hq h1 h2 d1 e1=>?_⟩;have dr:DT ns d o1 o2:=⟨g0,g1,g2,g3,g4,g5⟩;obtain⟨_,_,_,_,_,b4,_⟩:=id hs;have a0:U≠s:=λz=>by rw[z,b4] at f1;cases f1
 have a1:X≠s:=λz=>by rw[z,b4] at f2;cases f2
 refine⟨q,_,rfl,ZJ.of hq,rfl,_,_,rfl,_,_,rfl,_,_,rfl,rfl,?_⟩
 try dsimp only [Yy]
 refine⟨_,rfl,s,la,5,rfl,d1,aA,aA,λkd H2 e6 e7 b2 M=>?_⟩;refine Z9 ?_
 try dsimp only [Yy]
 have r:ZF s H H2:=e1.trans M;have W2:=hW.x hs r;have d8:=r _ _ g hn;obtain⟨us,hu,d7⟩:=id W2.u;have d6:=d7.length;rw[xA] at d6;refine Vg (λL Y=>L=[some (.ref s),some (.ref W.wl),some (.ref nl),some (.int c),some (.int d),some (.ref U),some (.ref X),some (.int kd),none,none,none,none]/\Y=H2) ?_ ?_
 .rintro L Y ⟨rfl,rfl⟩;obtain⟨vs,hv,b7⟩:=id W2.d;have b6:=b7.length;rw[xA] at b6;have al:=C.al;refine⟨_,rfl,W.wl,_,0,_,rfl,rfl,ZD.of W2.e,rfl,W.dl,rfl,⟨_,ZD.of hv⟩,?_⟩;refine Ui (J:=vs) (λi ys F=>F=Y/\ys.length=((as.take i).filter Y7).length) ⟨rfl,rfl⟩ (by lia) (λi ys F _ ⟨e,_⟩=>by rw[e];exact ZD.of hv) (λi ys F ⟨_,e⟩=>by rw[e];exact xZ (yS _ _) (by rw[xR];lia)) ?_ ?_
  .rintro i x ys F hx ⟨rfl,e⟩ ls c6;obtain⟨u,rfl⟩:=Uj c6;obtain⟨x0,I,re⟩:=b7.get hx;rw[xC] at I;obtain⟨x1,a8,rfl⟩:=xL.mp I;obtain⟨a,f0,rfl,ha,hw⟩:=Ad re;have et:as.take (i+1)=as.take i ++ [x1]:=by rw[xS,a8];rfl
   rw[et,zI];refine⟨⟨[_],rfl,rfl⟩,_,rfl,a,_,0,.str (Y2 x1),rfl,rfl,ZJ.of ha,Yl hw,rfl,_,rfl,Zv (λz=>⟨_,rfl,rfl,?_⟩) (λz=>⟨rfl,?_⟩)⟩
   .have:=(Bs x1).mp (by injection z);rw[xE,xE,e,zJ this];rfl
   .have:¬Y7 x1=true:=λy=>z (by rw[(Bs x1).mpr y]);rw[xE,e,mZ this];rfl
  rintro ys F ⟨rfl,e⟩ lt c7;rw[b6,xT] at e;refine nw (o:=.lst ys) c7 λH3 T1 k1=>?_;refine⟨lt,_,rfl,.inl (ZD.of k1),?_⟩;rw[e];refine Z9 ?_
  try dsimp only [Yy]
  have B:=b2.keep T1;have f:ZF s H H3:=r.trans T1.x;have d9:=T1 _ _ d8;have b0:=T1 _ _ (M _ _ a0 h1);have b1:=T1 _ _ (M _ _ a1 h2);have e8:(as.filter Y7).length<=1000:=xZ (yS _ _) al;refine Vg (λL Y=>L=[some (.ref s),some (.ref W.wl),some (.ref nl),some (.int c),some (.int d),some (.ref U),some (.ref X),some (.int kd),none,none,some (.int (as.filter Y7).length),none]/\Y=H3) ?_ ?_
  .rintro L Y ⟨rfl,rfl⟩;refine⟨_,rfl,aB rfl,λb8 a2=>?_⟩;refine nw (o:=.lst [.int 9,.int 1000000]) a2 λH4 T2 k2=>?_;have a7:=B.keep T2;have e0:b8≠s:=(B.ne a2).1;refine⟨_,rfl,s,la,2,rfl,a7,aA,aA,λz2 H5 f3 f4 S R=>?_⟩;obtain⟨b,hb,e4⟩:∃b:Int,atI [V.int 9,V.int 1000000] z2=some (.int b)/\0<b/\b<=1000000:=by
    rcases(show z2=0\/z2=1 by lia) with rfl | rfl
    .exact⟨9,rfl,aA,aA⟩
    .exact⟨1000000,rfl,aA,aA⟩
   refine⟨b8,_,_,.int b,rfl,rfl,ZD.of (R _ _ e0 k2),hb,s,la,b,rfl,S,by lia,by lia,λm H6 m0 m1 d2 c0=>?_⟩;refine⟨_,_,rfl,rfl,?_⟩;refine Z9 ?_
   try dsimp only [Yy]
   have a4:ZF s H H6:=((f.trans T2.x).trans R).trans c0;have b9:ZF s Y H6:=(T2.x.trans R).trans c0;refine⟨_,rfl,_,rfl,s,la,nl,ns,rfl,d2,a4 _ _ g hn,g,n0,n1,λx H7 mx d3 c1=>?_⟩;refine⟨_,rfl,_,rfl,s,la,nl,ns,rfl,d3,c1 _ _ g (a4 _ _ g hn),g,n0,n1,λy H8 my b3 e3=>?_⟩;refine⟨_,rfl,_,rfl,_,rfl,_,rfl,_,rfl,aB rfl,λqq l=>?_⟩;have O:ZF s Y H8:=(b9.trans c1).trans e3;have a5:ZF s H H8:=f.trans O;have p:=ZA.new (o:=.tup (cdV c d U X (.wer x y (1+m)))) l;exact k qq U X (.wer x y (1+m)) c d o1 o2 _ ⟨mx,my,by lia,by lia,rfl⟩ dr (A2 a5 b3 l) f1 f2 Zj (p _ _ (O _ _ a0 b0)) (p _ _ (O _ _ a1 b1)) (b3.keep p) (a5.trans p.x)
  .intro D' G a6 _ _;refine⟨_,rfl,rfl,_,rfl,Zv (λz=>?_) (λz=>Z5 (G _ _ ⟨rfl,rfl⟩))⟩;refine⟨_,rfl,_,_,rfl,rfl,_,rfl,Zv (λz2=>?_) (λz2=>G _ _ ⟨rfl,rfl⟩)⟩;refine⟨_,rfl,_,rfl,s,la,nl,ns,rfl,B,d9,g,n0,n1,λx H4 mx a7 e2=>?_⟩;refine⟨_,rfl,_,rfl,s,la,_,rfl,a7,by lia,by lia,λj H5 j0 j1 S R=>?_⟩;refine⟨_,rfl,_,rfl,_,rfl,_,rfl,aB rfl,λqq l=>a6 _ _ ?_⟩;have N:ZF s H3 H5:=e2.trans R;have a3:ZF s H H5:=f.trans N;have p:=ZA.new (o:=.tup (cdV c d U X (.clm x j))) l;exact k qq U X (.clm x j) c d o1 o2 _ ⟨mx,j0,j1,rfl⟩ dr (A2 a3 S l) f1 f2 Zj (p _ _ (N _ _ a0 b0)) (p _ _ (N _ _ a1 b1)) (S.keep p) (a3.trans p.x)
 .intro D' G a6 _ _;refine⟨_,rfl,_,_,rfl,rfl,_,rfl,Zv (λz=>?_) (λz=>Z5 (G _ _ ⟨rfl,rfl⟩))⟩;refine⟨_,rfl,W.wl,_,1,_,rfl,rfl,ZD.of W2.e,rfl,W.sl,us,rfl,.inl (ZD.of hu),_,_,rfl,rfl,_,rfl,Zv (λz2=>?_) (λz2=>G _ _ ⟨rfl,rfl⟩)⟩;refine⟨_,rfl,_,rfl,s,la,W,fx,as,bs,ss,rfl,b2,W2,by lia,C.sl,C.ok,λq2 i t n H3 ht c8 c9 B a9=>?_⟩;have f:ZF s H H3:=r.trans a9;have W3:=hW.x hs f;obtain⟨ts,d5,b5⟩:=id W3.t;have e5:=(xI.mp ht).1;have d4:=b5.length;rw[xA,C.bl] at d4;obtain⟨v,hv⟩:∃v,ts[i]?=some v:=⟨_,xB (by lia)⟩;obtain⟨x0,I,re⟩:=b5.get hv;rw[xC] at I;obtain⟨x1,a8,rfl⟩:=xL.mp I;obtain⟨d',A,e9,p1,p2,ff,rfl,e0,e1⟩:=C.dy x1 (xG a8);obtain⟨qc,m1,m2,rfl,d0,_⟩:=CQ re;refine⟨q2,_,rfl,ZJ.of c9,rfl,_,_,rfl,_,_,rfl,rfl,?_⟩
  try dsimp only [Yy]
  refine⟨_,rfl,_,rfl,_,rfl,_,rfl,W.wl,_,2,_,rfl,rfl,ZD.of W3.e,rfl,_,rfl,W.tl,ts,i,.ref qc,rfl,rfl,ZD.of d5,Yl hv,_,rfl,qc,_,_,_,rfl,rfl,ZJ.of d0,EF _ _ _ _ _,_,_,rfl,?_⟩;have mb:c<=(if A > c then A else c)/\(if A > c then A else c)<=9999:=by split<;>lia
  generalize (if A > c then A else c)=dy at mb |-;refine⟨_,rfl,_,rfl,_,rfl,aB rfl,λqq l=>a6 _ _ ?_⟩;have p:=ZA.new (o:=.tup (cdV dy d U X (.acc i n))) l;exact k qq U X (.acc i n) dy d o1 o2 _ ⟨C.nm t (xG ht) n c8,by lia,by lia,mb.1,mb.2⟩ dr (A2 f B l) f1 f2 Zj (p _ _ ((M.trans a9) _ _ a0 h1)) (p _ _ ((M.trans a9) _ _ a1 h2)) (B.keep p) (f.trans p.x)
def Ae(day:Int):Prop:=5<=day/\day<=24
def Ew(ns:fZ)(c:Nat):SD->Prop
 | .come _ _ _=>False
 | .rise n a b=>n∈ns/\Ae a/\1<=b/\b<=1000
 | .die n b a=>n∈ns/\b∈ns/\Ae a
 | .pen n=>n∈ns
 | .bring n a=>n∈ns/\Ae a
 | .give i x y a=>x∈ns/\y∈ns/\0<=i/\i<c/\Ae a
 | .pay x y b a=>x∈ns/\y∈ns/\1<=b/\b<=9/\Ae a
inductive UC(vs:aG)(H:Hp)(Q:VK)(a:XK):Prop
 |mk(s la nl) (ns) (W) (fx) (as bs) (ss)(_:vs=[.ref s,.ref W.wl,.ref nl])(_:ZH H s la)(_:ZW s H fx W as bs ss)(_:EI ns as bs ss)(_:H nl=some (.lst (ns.map V.str)))(_:nl≠s)(_:(∀q d Y,Ew ns (as.filter Y7).length d->H q=none->Y q=some (.tup (sdV d))->ZH Y s la->ZF s H Y->Q (.ref q) Y))(_:∀q c e d b f a g h Y,Ae b->Dt ns (as.filter Y7).length ss.length b f d->DT ns a g h->H q=none->H c=none->H e=none->Y q=some (.tup (cdV f a c e d))->Y c=some (.lst (g.map V.str))->Y e=some (.lst (h.map V.str))->ZH Y s la->ZF s H Y->Q (.ref q) Y)
abbrev IC:Stmt:=top 78
theorem RK(b1:YA K mg "_law_deed" IC)(T:Txt mg)(Z8:Fn P w K mg Z "_law_next" lj 1 YC)(R:Fn P w K mg Z "_law_one" lI 2 UE)(b0:Fn P w K mg Z "_law_case_deed" lz 4 WZ):Fn P w K mg Z "_law_deed" lV 5 UC:=by
 refine b1.fq ["_law_src_here","_law_world","_law_names_here","_law_day","_law_kind","_law_things"] λH vs Q E hr h=>?_;obtain⟨s,n,N,O,W,fx,as,bs,ss,rfl,hs,hW,ok,hn,c,kS,kC⟩:=h
 refine⟨rfl,_,(Zd (Zx 3 (Zu Y9 Zc (Zl Z8 (Za Q0 (Za Zc Zb))))) (Zd (Zx 4 (Zl Z8 (Za Q0 (Za Zc Zb)))) (Zd (Zq (Zk Vj Qc Zc (Zn _)) (Zg (Zw (Zl b0 (Za Q0 (Za Q3 (Za Qa (Za Qb Zb))))))) Zp) (Zd (Zx 5 (Z0 Ym T.len Yh (Za (Vu (locs:=lp) (fr:=[]) ⟨rfl,aA,aA,aA,aA,aA⟩ .nil rfl (Yz (Zh Z7 Q3 Zc)) ⟨λ_ _ _ _ _ _=>by
  have b2:(inN lp []).Nodup:=aA
  exact⟨(Wb 0 b2),(JO (Zk Yk (Zh JN (Yp 0) Zc) Zt (Zn _))),(Yp 0)⟩⟩) Zb)))
 (Zd (Zq (QW.pt (Wz (Zk Vj Qc Zc (Zn _)) (Vx (Zk Jo Qd Zc (Zn _))))) (Zg (Zw (Yj (Za Zt (Za (Zl Z8 (Za Q0 (Za Qd Zb))) (Za (Zl R (Za Q0 (Za Qa Zb))) (Za (Zl R (Za Q0 (Za Qa Zb))) (Za Qb Zb)))))))) Zp)
 (Zd (Zq (Zk Yk Qc Zc (Zn _)) (Zg (Zw (Yj (Za Zt (Za (Zl R (Za Q0 (Za Qa Zb))) (Za (Zl R (Za Q0 (Za Qa Zb))) (Za (Zu Y9 Zc (Zl Z8 (Za Q0 (Za Zc Zb)))) (Za Qb Zb)))))))) Zp)
 (Zd (Zq (Zk Yk Qc Zc (Zn _)) (Zg (Zw (Yj (Za Zt (Za (Zl R (Za Q0 (Za Qa Zb))) (Za Qb (Za (Zu Y9 Zc (Zl Z8 (Za Q0 (Za (Zh Z7 (Yb (Za Zc (Za Zc Zb))) (Zl Z8 (Za Q0 (Za Zc Zb)))) Zb)))) Zb))))))) Zp)
 (Zd (Zq (Zk Yk Qc Zc (Zn _)) (Zg (Zw (Yj (Za Zt (Za (Zl R (Za Q0 (Za Qa Zb))) (Za Qb (Za (Zl R (Za Q0 (Za Qa Zb))) Zb))))))) Zp)
 (Zd (Zq (Zk Yk Qc Zc (Zn _)) (Zg (Zw (Yj (Za Zt (Za (Zl R (Za Q0 (Za Qa Zb))) Zb))))) Zp)
 (Zg (Zw (Yj (Za Zt (Za (Zl R (Za Q0 (Za Qa Zb))) (Za Qb Zb))))))))))))))),?_⟩
 have hz:=aC
 have U:=ok.n0;have X:=ok.n1;refine⟨_,rfl,s,n,20,rfl,hs,aA,aA,λd1 H1 c3 c4 b6 c0=>?_⟩;refine⟨_,_,rfl,rfl,?_⟩;refine Z9 ?_
 try dsimp only [Yy]
 refine⟨_,rfl,s,n,16,rfl,b6,aA,aA,λkd H2 c6 c7 G c1=>?_⟩;refine Z9 ?_
 try dsimp only [Yy]
 have k:ZF s H H2:=c0.trans c1;have W2:=hW.x hs k;have a9:=k _ _ c hn;have v:Ae (5+d1):=⟨by lia,by lia⟩;refine⟨_,rfl,_,_,rfl,rfl,_,rfl,Zv (λz=>?_) (λz=>?_)⟩
 .exact⟨_,rfl,_,rfl,_,rfl,_,rfl,s,n,N,O,W,fx,as,bs,ss,5+d1,rfl,G,W2,ok,a9,c,by lia,by lia,λq l1 l2 d dy a8 o1 o2 Y c1 c2 f0 f1 f2 e0 e1 e2 S a0=>kC q l1 l2 d _ dy a8 o1 o2 Y v c1 c2 (A2 k G f0) (A2 k G f1) (A2 k G f2) e0 e1 e2 S (k.trans a0)⟩
 try dsimp only [Yy]
 obtain⟨vs,hv,a5⟩:=id W2.d;have a4:=a5.length;rw[xA] at a4;have al:=ok.al;refine⟨_,rfl,W.wl,_,0,_,rfl,rfl,ZD.of W2.e,rfl,W.dl,rfl,⟨_,ZD.of hv⟩,?_⟩;refine Ui (J:=vs) (λi ys F=>F=H2/\ys.length=((as.take i).filter Y7).length) ⟨rfl,rfl⟩ (by lia) (λi ys F _ ⟨e,_⟩=>by rw[e];exact ZD.of hv) (λi ys F ⟨_,e⟩=>by rw[e];exact xZ (yS _ _) (by rw[xR];lia)) ?_ ?_
 .rintro i x ys F hx ⟨rfl,e⟩ ls b3;obtain⟨u,rfl⟩:=Uj b3;obtain⟨x0,a6,re⟩:=a5.get hx;rw[xC] at a6;obtain⟨x1,b8,rfl⟩:=xL.mp a6;obtain⟨a,c9,rfl,ha,hw⟩:=Ad re;have et:as.take (i+1)=as.take i ++ [x1]:=by rw[xS,b8];rfl
  rw[et,zI];refine⟨⟨[_],rfl,rfl⟩,_,rfl,a,_,0,.str (Y2 x1),rfl,rfl,ZJ.of ha,Yl hw,rfl,_,rfl,Zv (λz=>⟨_,rfl,rfl,?_⟩) (λz=>⟨rfl,?_⟩)⟩
  .have:=(Bs x1).mp (by injection z);rw[xE,xE,e,zJ this];rfl
  .have:¬Y7 x1=true:=λy=>z (by rw[(Bs x1).mpr y]);rw[xE,e,mZ this];rfl
 rintro ys F ⟨rfl,e⟩ lt b4;rw[a4,xT] at e;refine nw (o:=.lst ys) b4 λH3 T1 k1=>?_;refine⟨lt,_,rfl,.inl (ZD.of k1),?_⟩;rw[e];refine Z9 ?_
 try dsimp only [Yy]
 have A:=G.keep T1;have a2:ZF s H H3:=k.trans T1.x;have l:=T1 _ _ a9;have c8:(as.filter Y7).length<=1000:=xZ (yS _ _) al;have t:∀{Y:Hp}{q:gF}{us:aG}(d:SD),sdV d=us->Ew O (as.filter Y7).length d->ZH Y s n->ZF s H3 Y->Y q=none->Q (.ref q) (upd Y q (.tup us)):=λ{Y q us} d e hd S a0 r=>by
  subst e;have T:=ZA.new (o:=.tup (sdV d)) r;exact kS q d _ hd (A2 (a2.trans a0) S r) Zj (S.keep T) ((a2.trans a0).trans T.x)
 refine Vg (λL Y=>L=[some (.ref s),some (.ref W.wl),some (.ref N),some (.int (5+d1)),some (.int kd),some (.int (as.filter Y7).length)]/\Y=H3) ?_ ?_
 .rintro L Y ⟨rfl,rfl⟩;refine⟨_,rfl,rfl,_,rfl,Zv (λz=>?_) (λz=>?_)⟩
  .refine⟨_,rfl,_,rfl,s,n,N,O,rfl,A,l,c,U,X,λx H4 M g f=>?_⟩;refine⟨_,rfl,_,rfl,s,n,N,O,rfl,g,f _ _ c l,c,U,X,λy H5 my p B=>?_⟩;refine⟨_,rfl,s,n,9,rfl,p,aA,aA,λm H6 m0 m1 I C=>?_⟩;exact⟨_,_,rfl,rfl,_,rfl,aB rfl,λq r=>t (.pay x y (1+m) (5+d1)) rfl ⟨M,my,by lia,by lia,v⟩ I ((f.trans B).trans C) r⟩
  try dsimp only [Yy]
  refine⟨_,rfl,rfl,_,rfl,Zv (λz=>?_) (λz=>?_)⟩
  .refine⟨_,rfl,_,rfl,s,n,N,O,rfl,A,l,c,U,X,λx H4 M g f=>?_⟩;refine⟨_,rfl,_,rfl,aB rfl,λa7 a1=>?_⟩;refine nw (o:=.lst [.int 9,.int 1000]) a1 λH5 T2 k2=>?_;have p:=g.keep T2;have b9:a7≠s:=(g.ne a1).1;refine⟨_,rfl,s,n,2,rfl,p,aA,aA,λz2 H6 d0 d2 I C=>?_⟩;obtain⟨b,hb,c5⟩:∃b:Int,atI [V.int 9,V.int 1000] z2=some (.int b)/\0<b/\b<=1000:=by
    rcases(show z2=0\/z2=1 by lia) with rfl | rfl
    .exact⟨9,rfl,aA,aA⟩
    .exact⟨1000,rfl,aA,aA⟩
   refine⟨a7,_,_,.int b,rfl,rfl,ZD.of (C _ _ b9 k2),hb,s,n,b,rfl,I,by lia,by lia,λm H7 m0 m1 b7 c2=>?_⟩;exact⟨_,_,rfl,rfl,aB rfl,λq r=>t (.rise x (5+d1) (1+m)) rfl ⟨M,v,by lia,by lia⟩ b7 (((f.trans T2.x).trans C).trans c2) r⟩
  try dsimp only [Yy]
  refine⟨_,rfl,rfl,_,rfl,Zv (λz=>?_) (λz=>?_)⟩
  .refine⟨_,rfl,_,rfl,s,n,N,O,rfl,A,l,c,U,X,λx H4 M g f=>?_⟩;refine⟨_,rfl,_,rfl,_,rfl,s,n,N,O,rfl,g,f _ _ c l,c,U,X,λy H5 my p B=>?_⟩;exact⟨aB rfl,λq r=>t (.die x y (5+d1)) rfl ⟨M,my,v⟩ p (f.trans B) r⟩
  try dsimp only [Yy]
  refine⟨_,rfl,rfl,_,rfl,Zv (λz=>?_) (λz=>?_)⟩
  .refine⟨_,rfl,_,rfl,s,n,N,O,rfl,A,l,c,U,X,λx H4 M g f=>?_⟩;exact⟨aB rfl,λq r=>t (.pen x) rfl M g f r⟩
  try dsimp only [Yy]
  refine⟨_,rfl,_,rfl,s,n,N,O,rfl,A,l,c,U,X,λx H4 M g f=>?_⟩;exact⟨_,rfl,aB rfl,λq r=>t (.bring x (5+d1)) rfl ⟨M,v⟩ g f r⟩
 .intro D' a3 b5 _ _;refine⟨_,rfl,_,_,rfl,rfl,_,rfl,Zv (λz=>?_) (λz=>Z5 (a3 _ _ ⟨rfl,rfl⟩))⟩;refine⟨_,rfl,_,_,rfl,rfl,_,rfl,Zv (λz2=>?_) (λz2=>a3 _ _ ⟨rfl,rfl⟩)⟩;refine⟨_,rfl,_,rfl,s,n,_,rfl,A,by lia,by lia,λj H4 j0 j1 g f=>?_⟩;refine⟨_,rfl,_,rfl,s,n,N,O,rfl,g,f _ _ c l,c,U,X,λx H5 M p B=>?_⟩;refine⟨_,rfl,_,rfl,s,n,N,O,rfl,p,B _ _ c (f _ _ c l),c,U,X,λy H6 my I C=>?_⟩;exact⟨_,rfl,aB rfl,λq r=>b5 _ _ (t (.give j x y (5+d1)) rfl ⟨M,my,j0,j1,v⟩ I ((f.trans B).trans C) r)⟩
structure Fo (S:List ZK):Prop where
 bst:∀n day,Jv (kw S n) day (wgp S n day).1 (wgp S n day).2
 bd:∀n day,0<=(wgp S n day).2/\(wgp S n day).2<=1000
 pos:∀n day,(wgp S n day).1 = -1\/1<=(wgp S n day).2
 key:∀n d,Zr S n=some d->0<=d/\d<=9999/\∃l v,kw S n=some l/\Z1 l (.inl d)=some v
theorem Fo.nil:Fo []:=⟨λ_ _=>.inl ⟨rfl,rfl,rfl⟩,λ_ _=>⟨Int.le_refl 0,by show (0:Int)<=1000;decide⟩,λ_ _=>.inl rfl,λn d h=>by cases h⟩
theorem Fo.isW(h:Fo S)(c:Zr S n=some d)(a:d<=day):A6 (kw S n) day (wg S n day)/\1<=wg S n day/\wg S n day<=1000:=by
 obtain⟨_,_,l,v,e,b⟩:=h.key n d c;refine⟨XM (h.bst n day) e b a,?_,(h.bd n day).2⟩;rcases h.pos n day with z | z
 .rcases h.bst n day with⟨y,_⟩ | ⟨l',e',⟨_,_,y⟩ | ⟨y,_⟩⟩
  .rw[e] at y;cases y
  .rw[e] at e';cases e';exact absurd a (y d v b)
  .lia
 .exact z
theorem Fo.come(h:Fo S)(f:Zr S n=none)(c:0<=d)(g:d<=9999)(j:1<=wt)(k:wt<=1000):Fo (S ++ [.come n d wt]):=by
 have i:kw S n=none:=by
  have:=Fi S n;rw[f] at this;cases e:kw S n with
  | none=>rfl
  | some l=>rw[e] at this;cases this
 refine⟨λm a=>?_,λm a=>?_,λm a=>?_,λm e b=>?_⟩
 .rw[Tj,Um];show Jv _ _ (if n=m/\_ then _ else _:Int×Int).1 (if n=m/\_ then _ else _:Int×Int).2
  by_cases z:n=m
  .subst z;obtain⟨l,o⟩:=Oz (w:=wt) (h.bst n a) i c
   by_cases y:(wgp S n a).1<=d/\d<=a
   .rw[if_pos ⟨rfl,y⟩];exact l y.1 y.2
   .rw[if_neg (λq=>y q.2)];exact o y
  .rw[if_neg (λq=>z q.1),Wd,if_neg (Ne.symm z)];exact h.bst m a
 .rw[Tj];show 0<=(if n=m/\_ then _ else _:Int×Int).2/\(if n=m/\_ then _ else _:Int×Int).2<=1000;split
  .exact⟨by show 0<=wt;lia,k⟩
  .exact h.bd m a
 .rw[Tj];show (if n=m/\_ then _ else _:Int×Int).1 = -1\/1<=(if n=m/\_ then _ else _:Int×Int).2;split
  .exact .inr j
  .exact h.pos m a
 .rw[DU f] at b;rw[Um,Wd]
  by_cases z:m=n
  .rw[if_pos z] at b |-;cases b;exact⟨c,g,_,_,rfl,by rw[De,if_pos rfl]⟩
  .rw[if_neg z] at b |-;exact h.key m e b
theorem Fo.rise(h:Fo S)(a:Zr S n=some d2)(b:0<=d)(g:1<=wt)(i:wt<=1000):Fo (S ++ [.rise n d wt]):=by
 obtain⟨_,_,e,j,f,c⟩:=h.key n d2 a;refine⟨λm a=>?_,λm a=>?_,λm a=>?_,λm e c=>?_⟩
 .rw[Tj,Um];show Jv _ _ (if n=m/\_ then _ else _:Int×Int).1 (if n=m/\_ then _ else _:Int×Int).2
  by_cases z:n=m
  .subst z;obtain⟨j,k⟩:=Nw (w:=wt) (h.bst n a) f b
   by_cases y:(wgp S n a).1<=d/\d<=a
   .rw[if_pos ⟨rfl,y⟩];exact j y.1 y.2
   .rw[if_neg (λq=>y q.2)];exact k y
  .rw[if_neg (λq=>z q.1),Wd,if_neg (Ne.symm z)];exact h.bst m a
 .rw[Tj];show 0<=(if n=m/\_ then _ else _:Int×Int).2/\(if n=m/\_ then _ else _:Int×Int).2<=1000;split
  .exact⟨by show 0<=wt;lia,i⟩
  .exact h.bd m a
 .rw[Tj];show (if n=m/\_ then _ else _:Int×Int).1 = -1\/1<=(if n=m/\_ then _ else _:Int×Int).2;split
  .exact .inr g
  .exact h.pos m a
 .rw[Dk] at c;obtain⟨f,g,l,v,a,b⟩:=h.key m e c;refine⟨f,g,?_⟩;rw[Um,Wd]
  by_cases z:m=n
  .rw[if_pos z,a]
   by_cases y:e=d
   .exact⟨_,.int wt,rfl,by rw[AJ,if_pos y]⟩
   .exact⟨_,v,rfl,by rw[AJ,if_neg y];exact b⟩
  .rw[if_neg z];exact⟨l,v,a,b⟩
theorem Fo.die(h:Fo S):Fo (S ++ [.die n d he]) :=
 ⟨λm a=>by rw[Tj,Um];exact h.bst m a,λm a=>by rw[Tj];exact h.bd m a,λm a=>by rw[Tj];exact h.pos m a,λm e a=>by rw[Dx] at a;rw[Um];exact h.key m e a⟩
def okE(o:Option Str):Prop:=∀x,o=some x->x∈errs
theorem okE.or(h:okE a)(k:okE b):okE (a.or b):=λx e=>by
 cases a with
 | none=>exact k x e
 | some y=>exact h x e
theorem okE.non:okE none:=λx e=>by cases e
theorem okE.yes(h:y∈errs):okE (some y):=λx e=>by cases e;exact h
theorem okE.ite [Decidable p] (h:okE a) (k:okE b):okE (if p then a else b):=by split<;>assumption
theorem okE.find{l:fZ}{f:Str->Option Str}(h:∀n,okE (f n)):okE (l.findSome? f):=λx e=>by
 obtain⟨n,_,a⟩:=List.exists_of_findSome?_eq_some e;exact h n x a
theorem okE.bind{a:Type}{o:Option a}{f:a->Option Str}(h:∀n,okE (f n)):okE (o.bind f):=by
 cases o with
 | none=>exact okE.non
 | some a=>exact h a
theorem okE.known(S:List ZK)(n:Str):okE (Wt S n):=.ite (.yes aA) .non
theorem okE.there(d day:Int):okE (Wo d day):=.ite (.yes aA) .non
theorem okE.living(S:List ZK)(n:Str)(day:Int):okE (V5 S n day):=.ite (.yes aA) .non
theorem okE.oj(S:List ZK)(n:Str):okE (AO S n):=.ite .non (.yes aA)
theorem okE.m(lo a d:Int):okE (eM lo a d):=.ite .non (.yes aA)
theorem okE.iJ(m:Mo):okE (Wf m):=.ite .non (.yes aA)
theorem okE.oath(a:List ZS)(i:Int)(n:Str):okE (Wy a i n):=by
 unfold Wy;split
 .exact .ite (.ite .non (.yes aA)) (.yes aA)
 .exact .yes aA
theorem okE.named(S:List ZK)(m:Mo)(day:Int)(b:fZ)(c:Option Int)(a:Option (Int×Str)):okE (Vr S m day b c a) :=
 (okE.find (okE.known S)).or ((okE.bind λ_=>.ite .non (.yes aA)).or ((okE.bind λ_=>okE.oath _ _ _).or ((okE.find λ_=>okE.there _ _).or ((okE.bind λ_=>okE.there _ _).or ((okE.bind λ_=>okE.there _ _).or (okE.find λ_=>okE.living _ _ _))))))
theorem Pp(S:List ZK)(m:Mo)(d:SD):okE (eSD S m d):=by
 cases d with
 | come n a b=>exact okE.or (.ite (.yes aA) ((okE.m _ _ _).or ((okE.m _ _ _).or (okE.or (.ite .non (.yes aA)) (.ite .non (.yes aA)))))) (okE.iJ m)
 | rise n a b=>exact okE.or ((okE.m _ _ _).or ((okE.m _ _ _).or ((okE.known _ _).or ((okE.there _ _).or (okE.living _ _ _))))) (okE.iJ m)
 | die n b a=>exact okE.or ((okE.m _ _ _).or ((okE.known _ _).or ((okE.known _ _).or ((okE.there _ _).or ((okE.there _ _).or ((okE.oj _ _).or (.ite (.yes aA) .non))))))) (okE.iJ m)
 | pen n=>exact(okE.known _ _).or ((okE.oj _ _).or (okE.iJ m))
 | bring n a=>exact(okE.m _ _ _).or ((okE.named _ _ _ _ _ _).or (okE.or (.ite .non (.yes aA)) (okE.iJ m)))
 | give i x y a=>exact(okE.m _ _ _).or ((okE.named _ _ _ _ _ _).or (okE.iJ m))
 | pay x y b a=>exact(okE.m _ _ _).or ((okE.m _ _ _).or ((okE.named _ _ _ _ _ _).or (okE.iJ m)))
theorem GR(S:List ZK)(m:Mo)(day need:Int)(f:Str->Int)(b c:fZ)(d:CD):okE (eCD S m day need f b c d):=by
 have a:okE (Uf m need f b c):=.ite (.yes aA) (.ite (.yes aA) ((okE.iJ m).or (.ite (.yes aA) (okE.or (okE.find λ_=>.ite (.yes aA) .non) (.ite (.yes aA) .non)))));cases d with
 | wer x y b=>exact(okE.m _ _ _).or ((okE.m _ _ _).or ((okE.m _ _ _).or ((okE.named _ _ _ _ _ _).or a)))
 | clm x i=>exact(okE.m _ _ _).or ((okE.m _ _ _).or ((okE.named _ _ _ _ _ _).or a))
 | acc i n=>exact(okE.m _ _ _).or ((okE.m _ _ _).or ((okE.named _ _ _ _ _ _).or (a.or (.ite .non (.yes aA)))))
section
theorem Wx{a:Type _}(l:List a)(x:a):(l ++ [x]).length=l.length+1:=by rw[xE];rfl
theorem OW(h:WS m)(i:Nat):(m.iB.getD i []).length<=m.ip.length:=by
 rw[yD];cases e:m.iB[i]? with
 | none=>exact yP _
 | some c=>exact h.hl c (xG e)
theorem Gq(h:WS m):∀q∈m.iB.set i (m.iB.getD i [] ++ [x]),q.length<=m.ip.length+1:=λq a=>by
 rcases List.mem_or_eq_of_mem_set a with z | z
 .exact zS (h.hl q z)
 .rw[z,Wx];exact mv (OW h i)
theorem eB(m:Mo)(d:SD):(m.sd d).ip.length=m.ip.length+1:=by cases d<;>exact Wx _ _
theorem WS.sd(h:WS m)(d:SD):WS (m.sd d):=by
 have c:∀q∈m.iB,q.length<=m.ip.length+1:=λq z=>zS (h.hl q z);have f:=zS h.ql;have dl:=eB m d;cases d with
 | bring n a =>
  refine⟨h.ok,h.dl,λi e b=>?_,h.le,h.vl,?_,?_,dl▸f⟩
  .change (m.ib ++ [_])[i]?=some e at b;rcases Nat.lt_or_ge i m.ib.length with z | z
   .rw[wF z] at b;exact h.br i e b
   .rw[zY z] at b;cases xP.mp (xG b);exact⟨n,a,rfl⟩
  .show (m.iB ++ [_]).length=(m.ib ++ [_]).length;rw[Wx,Wx,h.hb]
  .rw[dl];intro q z;rcases xJ.mp z with z | z
   .exact c q z
   .cases xP.mp z;exact yP _
 | give i x y a=>exact⟨h.ok,h.dl,h.br,h.le,h.vl,(wK ..).trans h.hb,dl▸Gq h,dl▸f⟩
 | pay x y b a=>exact⟨h.ok,h.dl,h.br,h.le,h.vl,h.hb,dl▸c,dl▸(Wx m.ik _).symm▸mv h.ql⟩
 | _=>exact⟨h.ok,h.dl,h.br,h.le,h.vl,h.hb,dl▸c,dl▸f⟩
theorem WS.iq(h:WS m)(i:m.o6.length<60)(e:YQ (Yg f o1))(g:YQ (Yg f o2))(b:1<=need)(c:need<=12000)(d:CD):WS (m.iq day need f o1 o2 d):=by
 have j:∀q∈m.iB,q.length<=m.ip.length+1:=λq z=>zS (h.hl q z);have k:=zS h.ql;have dl:(m.iq day need f o1 o2 d).ip.length=m.ip.length+1:=by cases d<;>exact Wx _ _
 have a:∀n:Option (Int×Str),(∀t∈m.o6 ++ [⟨Yg f o1,Yg f o2,need,n⟩],Tp t)/\(m.days ++ [day]).length=(m.o6 ++ [(⟨Yg f o1,Yg f o2,need,n⟩:ZS)]).length/\(m.o6 ++ [(⟨Yg f o1,Yg f o2,need,n⟩:ZS)]).length<=60/\(Yd [] 0 (m.o6 ++ [⟨Yg f o1,Yg f o2,need,n⟩])).1.length=(m.o6 ++ [(⟨Yg f o1,Yg f o2,need,n⟩:ZS)]).length:=λn =>
  ⟨λt l=>(xJ.mp l).elim (h.ok t) (λz=>by rw[xP.mp z];exact⟨e,g,b,c⟩),by rw[Wx,Wx,h.dl],by rw[Wx];exact i,Cf ..⟩
 cases d with
 | wer x y b=>obtain⟨b,c,e,g⟩:=a none;exact⟨b,c,h.br,e,g,h.hb,dl▸j,dl▸(Wx m.ik _).symm▸mv h.ql⟩
 | clm x i=>obtain⟨b,c,e,g⟩:=a none;exact⟨b,c,h.br,e,g,(wK ..).trans h.hb,dl▸Gq h,dl▸k⟩
 | acc i n=>obtain⟨b,c,e,g⟩:=a (some (i,n));exact⟨b,c,h.br,e,g,h.hb,dl▸j,dl▸k⟩
structure Wk (ns:fZ) (as:List AD):Prop where
 g:JB as
 fo:Fo (Ze as).1
 ok:WS (Ze as).2
 ln:(Ze as).1.length<=as.length
 pn:(Ze as).2.iP<=as.length
 su:∀t∈(Ze as).2.o6,(Tp t/\0<t.ones.length)/\∀n∈(t.ones++t.others).map (·.1),n∈ns
 cl:(as.filter isC).length=(Ze as).2.o6.length
 dy:∀x∈as.filter isC,∃d day need o1 o2 f,x=.c d day need o1 o2 f/\0<=day/\day<=9999
 nn:∀n∈ns,Vm n
 nd:ns.Nodup
 n0:0<ns.length
 n1:ns.length<=1000
variable{ns:fZ}{as:List AD}
theorem Wk.nil(d:∀n∈ns,Vm n)(c:ns.Nodup)(a:0<ns.length)(b:ns.length<=1000):Wk ns [] :=
 ⟨⟨yP _,λi p h=>by cases h⟩,Fo.nil,⟨λt h=>(nomatch h),rfl,λi e h=>(nomatch h),yP _,rfl,rfl,λq h=>(nomatch h),yP _⟩,yP _,yP _,λt h=>(nomatch h),rfl,λx h=>(nomatch h),d,c,a,b⟩
theorem Wk.wok(h:Wk ns as):EI ns as (as.filter isC) (Ze as).2.o6:=by
 have:=h.g.1;have:=h.ok.le;exact⟨by lia,by lia,h.cl,λt a=>(h.su t a).1,λt a=>(h.su t a).2,h.dy,λn d=>h.fo.bd n d,h.nd,h.n0,h.n1⟩
def dOk(ns:fZ):SD->Prop
 | .come n a b=>n∈ns/\okI a/\okI b
 | .rise n a b=>n∈ns/\okI a/\okI b
 | .die n b a=>n∈ns/\b∈ns/\okI a
 | .pen n=>n∈ns
 | .bring n a=>n∈ns/\okI a
 | .give i x y a=>x∈ns/\y∈ns/\okI i/\0<=i/\okI a
 | .pay x y b a=>x∈ns/\y∈ns/\okI b/\okI a
theorem Vf(h:0<=i)(h':i<=1000000):okI i:=by unfold okI;lia
theorem bJ(h:Ew ns nb d)(a:nb<=1000):dOk ns d:=by
 cases d with
 | come n a b=>exact h.elim
 | rise n a b=>exact⟨h.1,Vf (by have:=h.2.1.1;lia) (by have:=h.2.1.2;lia),Vf (by have:=h.2.2.1;lia) (by have:=h.2.2.2;lia)⟩
 | die n b a=>exact⟨h.1,h.2.1,Vf (by have:=h.2.2.1;lia) (by have:=h.2.2.2;lia)⟩
 | pen n=>exact h
 | bring n a=>exact⟨h.1,Vf (by have:=h.2.1;lia) (by have:=h.2.2;lia)⟩
 | give i x y a=>exact⟨h.1,h.2.1,Vf h.2.2.1 (by have:=h.2.2.2.1;lia),h.2.2.1,Vf (by have:=h.2.2.2.2.1;lia) (by have:=h.2.2.2.2.2;lia)⟩
 | pay x y b a=>exact⟨h.1,h.2.1,Vf (by have:=h.2.2.1;lia) (by have:=h.2.2.2.1;lia),Vf (by have:=h.2.2.2.2.1;lia) (by have:=h.2.2.2.2.2;lia)⟩
theorem Fh(h:Vm n):okN n:=⟨by have:=h.2.2;lia,λx a=>by have:=h.1 x a;lia⟩
theorem Wk.sdOk(h:Wk ns as)(a:dOk ns d):sdOk (Ze as).1 (Ze as).2 d:=by
 have c:∀{n:Str},n∈ns->n.length<=100:=λb=>by have:=(h.nn _ b).2.2;lia
 have:=h.g.1;have:=h.ln;have:=h.pn;have:=h.ok.le;cases d with
 | come n b e=>exact⟨by lia,Fh (h.nn n a.1),a.2.1,a.2.2⟩
 | rise n b e=>exact⟨by lia,c a.1,a.2.1,a.2.2⟩
 | die n e b=>exact⟨by lia,c a.1,c a.2.1,a.2.2⟩
 | pen n=>exact⟨c a,by lia,by lia⟩
 | bring n b=>exact⟨h.ok,c a.1,a.2⟩
 | give i x y b=>exact⟨h.ok,c a.1,c a.2.1,a.2.2.1,a.2.2.2.2⟩
 | pay x y e b=>exact⟨h.ok,c a.1,c a.2.1,a.2.2.1,a.2.2.2⟩
theorem dN(h:eSD S m d=none):m.ip.length<400:=by
 apply JM;cases d<;>simp only[eSD,xY] at h<;>simp_all
theorem Wk.snoc(h:Wk ns as)(o:dOk ns d)(e:eSD (Ze as).1 (Ze as).2 d=none):Wk ns (as ++ [.s d]):=by
 have p:=dN e;rw[Cq] at p;have f:HB d:=by
  cases d with
  | give i x y a=>exact o.2.2.2.1
  | _=>trivial
 have m:(as ++ [AD.s d]).filter isC=as.filter isC:=by rw[zI];exact xX _
 have v:=h.ln;have w:=h.pn;have c:=TX as (.s d);have r:(Ze (as ++ [.s d])).2.o6=(Ze as).2.o6:=by rw[c];cases d<;>rfl
 refine⟨h.g.snoc p ⟨h.sdOk o,e,f⟩,?_,by rw[c];exact h.ok.sd d,?_,?_,by rw[r];exact h.su,by rw[m,r];exact h.cl,by rw[m];exact h.dy,h.nn,h.nd,h.n0,h.n1⟩
 .rw[As];cases d with
  | come n a k =>
   have e:((Tr (Ze as).1 n a k).or (Wf (Ze as).2))=none:=e;obtain⟨_,⟨l,s⟩,⟨g,j⟩,b,_⟩:=Ee (xY.mp e).1;exact h.fo.come b l s g j
  | rise n a k =>
   have e:((JS (Ze as).1 n a k).or (Wf (Ze as).2))=none:=e;obtain⟨⟨l,_⟩,⟨g,j⟩,⟨t,b,_⟩,_⟩:=HU (xY.mp e).1;exact h.fo.rise b l g j
  | die n u a=>exact h.fo.die
  | _=>exact h.fo
 .rw[As,Wx];cases d<;>simp only[fdS,sdF,xE,zP]<;>lia
 .rw[c,Wx];cases d with
  | pen n=>show (Ze as).2.iP+1<=_;lia
  | _=>show (Ze as).2.iP<=_;lia
theorem GU(h:eCD S m day need f o1 o2 d=none):(0<=day/\day<=9999)/\(1<=need/\need<=12000)/\(∀n∈o1++o2,∃dd,Zr S n=some dd/\dd<=day)/\m.o6.length<60/\m.ip.length<400:=by
 cases d with
 | wer x y a =>
  simp only[eCD,JR,xY] at h;obtain⟨_,a,b,c,e⟩:=h;exact⟨Vo a,Vo b,λn g=>(Jp c).1 n (by rw[yT];exact xK _ g),J7 e⟩
 | clm x i =>
  simp only[eCD,Ax,xY] at h;obtain⟨a,b,c,e⟩:=h;exact⟨Vo a,Vo b,λn g=>(Jp c).1 n (by rw[yT];exact xK _ g),J7 e⟩
 | acc i n =>
  simp only[eCD,Aj,xY] at h;obtain⟨a,b,c,e,_⟩:=h;exact⟨Vo a,Vo b,(Jp c).1,J7 e⟩
def cOk(ns:fZ):CD->Prop
 | .wer x y a=>x∈ns/\y∈ns/\okI a
 | .clm x i=>x∈ns/\okI i/\0<=i
 | .acc i n=>n∈ns/\okI i
theorem M5(h:Dt ns nb nc day dy d)(a:nb<=1000)(a:nc<=1000):cOk ns d:=by
 cases d with
 | wer x y a=>exact⟨h.1,h.2.1,Vf (by have:=h.2.2.1;lia) h.2.2.2.1⟩
 | clm x i=>exact⟨h.1,Vf h.2.1 (by have:=h.2.2.1;lia),h.2.1⟩
 | acc i n=>exact⟨h.1,Vf h.2.1 (by have:=h.2.2.1;lia)⟩
theorem Qs(h:Dt ns nb nc day dy d)(a:Ae day):0<=dy/\dy<=9999:=by
 have:=a.1;have:=a.2;cases d with
 | wer x y a=>have:=h.2.2.2.2;lia
 | clm x i=>have:=h.2.2.2;lia
 | acc i n=>have:=h.2.2.2;lia
abbrev wf(as:List AD)(day:Int):Str->Int:=λn=>wg (Ze as).1 n day
theorem Wk.cs(h:Wk ns as){day:Int}{a b:fZ}(c:∀n∈a++b,n∈ns):∀n∈a++b,n.length<=100/\∀d,Zr (Ze as).1 n=some d->d<=day->A6 (kw (Ze as).1 n) day (wf as day n)/\1<=wf as day n/\wf as day n<=1000 :=
 λn a=>⟨by have:=(h.nn n (c n a)).2.2;lia,λd a b=>h.fo.isW a b⟩
theorem Wk.cdOk(h:Wk ns as)(a:cOk ns d):cdOk d:=by
 have b:∀{n:Str},n∈ns->n.length<=100:=λc=>by have:=(h.nn _ c).2.2;lia
 cases d with
 | wer x y c=>exact⟨b a.1,b a.2.1,a.2.2⟩
 | clm x i=>exact⟨b a.1,a.2.1⟩
 | acc i n=>exact⟨b a.1,a.2⟩
theorem Wk.iU(h:Wk ns as)(s:cOk ns d)(u:∀n∈o1++o2,n∈ns)(w:0<o1.length)(m:o1.length<=60)(r:o2.length<=60)(e:eCD (Ze as).1 (Ze as).2 day need (wf as day) o1 o2 d=none):Wk ns (as ++ [.c d day need o1 o2 (wf as day)]):=by
 obtain⟨⟨v,A⟩,⟨k,l⟩,j,b,t⟩:=GU e;rw[Cq] at t;have f:IU d:=by
  cases d with
  | clm x i=>exact s.2.2
  | _=>trivial
 have c:∀{o:fZ},(∀n∈o,n∈o1++o2)->o.length<=60->YQ (Yg (wf as day) o):=λy o=>⟨λp g=>by
  obtain⟨n,a,rfl⟩:=zF.mp g;obtain⟨p,g,i⟩:=j n (y n a)
  exact(h.fo.isW g i).2,by rw[xA];exact o⟩
 have g:YQ (Yg (wf as day) o1):=c (λn a=>yN _ a) m;have i:YQ (Yg (wf as day) o2):=c (λn a=>xK _ a) r;have j:(as ++ [AD.c d day need o1 o2 (wf as day)]).filter isC=as.filter isC ++ [.c d day need o1 o2 (wf as day)]:=by rw[zI];rfl
 have c:=h.ln;have c:=h.pn;have c:=TX as (.c d day need o1 o2 (wf as day));have o:(Ze (as ++ [.c d day need o1 o2 (wf as day)])).2.o6=(Ze as).2.o6 ++ [⟨Yg (wf as day) o1,Yg (wf as day) o2,need,Ck d⟩]:=by rw[c];cases d<;>rfl
 refine⟨h.g.snoc t ⟨h.cdOk s,h.ok,by have:=h.g.1;lia,m,r,Vf v (by lia),Vf (by lia) (by lia),h.cs u,e,f⟩,by rw[As];exact h.fo,by rw[c];exact h.ok.iq b g i k l d,by rw[As,Wx];show (Ze as).1.length<=_;lia,?_,λt b=>?_,by rw[j,o,Wx,Wx,h.cl],λx f=>?_,h.nn,h.nd,h.n0,h.n1⟩
 .rw[c,Wx];cases d<;>(show (Ze as).2.iP<=_;lia)
 .rw[o] at b;rcases xJ.mp b with z | z
  .exact h.su t z
  .rw[xP.mp z];refine⟨⟨⟨g,i,k,l⟩,by show 0<(o1.map _).length;rw[xA];exact w⟩,λn a=>?_⟩;rw[<- xM,mV] at a;obtain⟨y,b,rfl⟩:=zF.mp a;exact u _ b
 .rw[j] at f;rcases xJ.mp f with z | z
  .exact h.dy x z
  .rw[xP.mp z];exact⟨_,_,_,_,_,_,rfl,v,A⟩
end
section
variable{w:gH}{C CM:gF}{c:gB}
theorem ZC.iQ(h:ZC C CM H M S wa J m qs)(e:H b=some (.tup t)):¬mo M S wa J qs b:=λa=>by
 rcases a with z | z | z | z | z
 .obtain⟨d,a⟩:=h.ob;rw[z,a] at e;cases e
 .obtain⟨k,a,_⟩:=h.pn;rw[z,a] at e;cases e
 .obtain⟨a,y⟩:=h.lst z;rw[e] at y;cases y
 .obtain⟨a,y⟩:=h.xl b z;rw[e] at y;cases y
 .obtain⟨o,a,_,d⟩:=h.fk.there z;rw[e] at a;cases a;exact d t rfl
theorem YD.iQ(h:YD C CM H p S m O)(e:H b=some (.tup t)):¬O b:=by
 obtain⟨M,d,J,a,_,W,rfl⟩:=h;exact W.iQ e
theorem YD.keep(h:YD C CM H p S m O)(k:∀b o,O b->H b=some o->Y b=some o)(a:To H Y):YD C CM Y p S m O:=by
 obtain⟨M,d,J,b,e,W,rfl⟩:=h;exact⟨M,d,J,b,e,W.keep k a,rfl⟩
structure Ww (C CM p s la nl:gF) (W:WL) (ns:fZ) (H:Hp) (fx:gC) (st:V0) (as:List AD) (O:gF->Prop):Prop where
 w:YD C CM H p st.1 st.2 O
 sr:ZH H s la
 wd:ZW s H fx W as (as.filter isC) (Ze as).2.o6
 nm:H nl=some (.lst (ns.map V.str))
 o:∀b∈s::la::nl::W.wl::W.dl::W.sl::W.tl::fx,¬O b/\∃v,H b=some (.lst v)
 nn:nl ∉ [s,W.dl,W.sl,W.tl]
 nl:la ∉ [s,W.dl,W.sl,W.tl]
variable{p s la nl:gF}{W:WL}{ns:fZ}{H Y:Hp}{fx gx:gC}{st st':V0}{as:List AD}{O O':gF->Prop}
theorem Ww.step(h:Ww C CM p s la nl W ns H fx st as O)(k:YD C CM Y p st'.1 st'.2 O')(f:ZZ O H O' Y):Ww C CM p s la nl W ns Y fx st' as O':=by
 have m:∀{b:gF}{o:HO},H b=some o->¬O b->¬O' b:=λe n z=>(f.2 _ z).elim n (λy=>by rw[e] at y;cases y);obtain⟨l,i,j,st,cnt,a,b,c,d⟩:=id h.sr;have g:=h.o;refine⟨k,⟨l,i,j,st,cnt,f.1 _ _ a (g s (by simp)).1,f.1 _ _ b (g la (by simp)).1,c,d⟩,h.wd.keep (λb u e=>f.1 _ _ e (h.w.iQ e)) (λb a o e=>f.1 _ _ e (g b (xO _ (xO _ (xO _ a)))).1),f.1 _ _ h.nm (g nl (by simp)).1,λx a=>?_,h.nn,h.nl⟩;obtain⟨n,v,e⟩:=g x a;exact⟨m e n,v,f.1 _ _ e n⟩
theorem Ww.x(h:Ww C CM p s la nl W ns H fx st as O)(hs:ZH Y s la)(k:ZF s H Y):Ww C CM p s la nl W ns Y fx st as O:=by
 obtain⟨_,_,_,_,_,a,_⟩:=id h.sr;have b:nl≠s:=λz=>h.nn (by rw[z];simp);refine⟨h.w.x a (h.o s (by simp)).1 k,hs,h.wd.x h.sr k,k _ _ b h.nm,λx a=>?_,h.nn,h.nl⟩;obtain⟨n,v,e⟩:=h.o x a
 by_cases z:x=s
 .obtain⟨_,_,_,_,_,y,_⟩:=hs;rw[z];exact⟨z▸n,_,y⟩
 .exact⟨n,v,k _ _ z e⟩
theorem Ww.same(h:Ww C CM p s la nl W ns H fx st as O)(k:ZA H Y):Ww C CM p s la nl W ns Y fx st as O:=h.step (h.w.same k) (ZZ.same k)
theorem Ww.more(h:Ww C CM p s la nl W ns H fx st as O)(d:∀b∈gx,(¬O b/\∃v,H b=some (.lst v))/\b ∉ [s,W.dl,W.sl,W.tl]):Ww C CM p s la nl W ns H (gx++fx) st as O :=
 ⟨h.w,h.sr,h.wd.more (λb a z=>(d b a).2 (by rw[z];simp)) (λb a z=>(d b a).2 (xO _ z)),h.nm,λb a=>by
  have a:b∈gx\/b∈s::la::nl::W.wl::W.dl::W.sl::W.tl::fx:=by
   simp only[xD,xJ] at a |-
   grind
  rcases a with z | z
  .exact(d b z).1
  .exact h.o b z,h.nn,h.nl⟩
theorem Ww.new(h:Ww C CM p s la nl W ns H fx st as O){b:gF}(e:H b=none):b ∉ [s,W.dl,W.sl,W.tl]:=λz=>by
 have:b∈s::la::nl::W.wl::W.dl::W.sl::W.tl::fx:=by
  simp only[xD,xV,or_false] at z |-
  grind
 obtain⟨_,v,y⟩:=h.o b this;rw[e] at y;cases y
theorem Ww.tryS(U:Ww C CM p s la nl W ns H fx (Ze as) as O)(k:Wk ns as){q:gF}{d:SD}(e:H q=some (.tup (sdV d)))(b:dOk ns d){Q:V->Hp->Prop}{E:XK}(g:∀ (l:gF) (a:aG) (Y:Hp) (O':gF->Prop),Y l=some (.lst a)->ZZ O H O' Y->(a=[]/\eSD (Ze as).1 (Ze as).2 d≠none/\Ww C CM p s la nl W ns Y fx (Ze as) as O')\/(a=[sdR (Ze as).2 d]/\eSD (Ze as).1 (Ze as).2 d=none/\Ww C CM p s la nl W ns Y fx (Ze (as ++ [.s d])) as O')->Q (.ref l) Y) :
  (Sp.or (WN C CM) (WK C CM)) [.ref p,.ref q] H Q E:=by
 refine .inl ⟨p,_,_,O,q,d,rfl,U.w,e,k.sdOk b,Pp _ _ _,λO' l Y b a _ f=>?_⟩;cases e:eSD (Ze as).1 (Ze as).2 d with
 | none =>
  rw[e] at b f;exact g l _ Y O' f a (.inr ⟨rfl,e,by rw[TX];exact U.step b a⟩)
 | some x =>
  rw[e] at b f;exact g l _ Y O' f a (.inl ⟨rfl,(λz=>by rw[e] at z;cases z),U.step b a⟩)
theorem Ww.tryC(U:Ww C CM p s la nl W ns H fx (Ze as) as O)(k:Wk ns as){q l1 l2:gF}{d:CD}{day need:Int}{a b:fZ}(o:H q=some (.tup (cdV day need l1 l2 d)))(h:H l1=some (.lst (a.map V.str)))(i:H l2=some (.lst (b.map V.str)))(j:cOk ns d)(m:∀n∈a++b,n∈ns)(r:a.length<=60)(t:b.length<=60)(f:okI day)(u:okI need){Q:V->Hp->Prop}{E:XK}(g:∀ (l:gF) (e:aG) (Y:Hp) (O':gF->Prop),Y l=some (.lst e)->ZZ O H O' Y->(e=[]/\eCD (Ze as).1 (Ze as).2 day need (wf as day) a b d≠none/\Ww C CM p s la nl W ns Y fx (Ze as) as O')\/(e=[.int (Ze as).2.o6.length]/\eCD (Ze as).1 (Ze as).2 day need (wf as day) a b d=none/\Ww C CM p s la nl W ns Y fx (Ze (as ++ [.c d day need a b (wf as day)])) as O')->Q (.ref l) Y) :
  (Sp.or (WN C CM) (WK C CM)) [.ref p,.ref q] H Q E:=by
 refine .inr ⟨p,_,_,O,q,d,day,need,l1,l2,a,b,wf as day,rfl,U.w,o,⟨k.ok,by have:=k.ln;have:=k.g.1;lia,h,i,r,t,f,u,k.cs m⟩,k.cdOk j,GR _ _ _ _ _ _ _ _,λO' l Y h f _ i=>?_⟩;cases e:eCD (Ze as).1 (Ze as).2 day need (wf as day) a b d with
 | none =>
  rw[e] at h i;exact g l _ Y O' i f (.inr ⟨rfl,e,by rw[TX];exact U.step h f⟩)
 | some x =>
  rw[e] at h i;exact g l _ Y O' i f (.inl ⟨rfl,(λz=>by rw[e] at z;cases z),U.step h f⟩)
theorem Ww.keep{x:AD}{v:V}(U:Ww C CM p s la nl W ns H fx (Ze (as ++ [x])) as O)(k:Wk ns as)(kx:kss as (Ze as).2.o6 x=(Ze (as ++ [x])).2.o6)(re:YE (fz fx H) (adT x) v)(T:∀d day need B F f,x=.c d day need B F f->B.length<=60/\F.length<=60){Q:V->Hp->Prop}{E:XK}(g:∀ (h:gC) (Y:Hp),Ww C CM p s la nl W ns Y h (Ze (as ++ [x])) (as ++ [x]) O->(∀b o,b ∉ [W.dl,W.sl,W.tl]->H b=some o->Y b=some o)->(∀b∈h,b∈fx\/H b=none)->Q .non Y):VG [.ref W.wl,v] H Q E:=by
 have P:=k.g.1;have S:=k.ok.le;obtain⟨_,_,_,_,_,R,_⟩:=id U.sr;refine⟨v,s,W,fx,as,as.filter isC,(Ze as).2.o6,x,rfl,U.wd,re,by lia,xZ (yS _ _) (by lia),by lia,T,⟨_,R⟩,λh Y l j A=>?_⟩;have N:as.filter isC++(if isC x then [x] else [])=(as ++ [x]).filter isC:=by grind
 rw[N,kx] at l;have sn:s ∉ [W.dl,W.sl,W.tl]:=λz=>by
  have:=U.wd.ne;simp only[xD,xV,or_false] at z;rcases z with z | z | z
  .exact this W.dl (by simp) z.symm
  .exact this W.sl (by simp) z.symm
  .exact this W.tl (by simp) z.symm
 have oO:∀b,O b->b ∉ [W.dl,W.sl,W.tl]:=λb m z=>(U.o b (by simp only[xD,xV,or_false] at z |-;grind)).1 m
 have Z:To H Y:=λb u e=>j _ _ (λz=>by
  obtain⟨_,G,y⟩:=U.o b (by simp only[xD,xV,or_false] at z |-;grind)
  rw[e] at y;cases y) e
 have ln:la ∉ [W.dl,W.sl,W.tl]:=λz=>U.nl (xO _ z);obtain⟨X,i,t,st,cnt,a,b,I,J⟩:=id U.sr;refine g h Y ⟨U.w.keep (λb o m e=>j _ _ (oO b m) e) Z,⟨X,i,t,st,cnt,j _ _ sn a,j _ _ ln b,I,J⟩,l,j _ _ (λz=>U.nn (xO _ z)) U.nm,λy n=>?_,U.nn,U.nl⟩ j (λb m=>(A b m).imp id λz=>z.1);have r:∀y∈s::la::nl::W.wl::W.dl::W.sl::W.tl::fx,¬O y/\∃v,Y y=some (.lst v):=λy n=>by
  obtain⟨no,G,e⟩:=U.o y n;refine⟨no,?_⟩
  by_cases z:y ∈ [W.dl,W.sl,W.tl]
  .obtain⟨u1,K,_⟩:=l.d;obtain⟨u2,L,_⟩:=l.u;obtain⟨u3,M,_⟩:=l.t;simp only[xD,xV,or_false] at z;rcases z with rfl | rfl | rfl
   .exact⟨_,K⟩
   .exact⟨_,L⟩
   .exact⟨_,M⟩
  .exact⟨G,j _ _ z e⟩
 have n:y∈s::la::nl::W.wl::W.dl::W.sl::W.tl::fx\/y∈h:=by
  simp only[xD] at n |-
  grind
 rcases n with z | z
 .exact r y z
 .rcases A y z with z | ⟨e,vs,e'⟩
  .exact r y (by simp[z])
  .exact⟨U.w.out e,vs,e'⟩
end
section
variable{C CM:gF}
variable{p s la nl:gF}{W:WL}{ns:fZ}{H Y:Hp}{fx:gC}{as:List AD}{O O':gF->Prop}
theorem Ww.put(h:Ww C CM p s la nl W ns H fx st as O)(e:H r=some (.lst vs))(a:¬O r)(g:r∉s::la::nl::W.wl::W.dl::W.sl::W.tl::fx):Ww C CM p s la nl W ns (upd H r (.lst us)) fx st as O:=by
 have d:ZF r H (upd H r (.lst us)):=ZF.upd;have f:∀b∈s::la::nl::W.wl::W.dl::W.sl::W.tl::fx,b≠r:=λb c z=>g (z▸c);refine⟨h.w.x e a d,h.sr.iG d (f s (by simp)).symm (f la (by simp)).symm,h.wd.keep (λb u y=>d _ _ (λz=>by rw[z,e] at y;cases y) y) (λb c o y=>d _ _ (f b (xO _ (xO _ (xO _ c)))) y),d _ _ (f nl (by simp)) h.nm,λb c=>?_,h.nn,h.nl⟩;obtain⟨a,v,y⟩:=h.o b c;exact⟨a,v,d _ _ (f b c) y⟩
theorem Ww.fresh(h:Ww C CM p s la nl W ns H fx st as O)(e:H r=none):¬O r/\r∉s::la::nl::W.wl::W.dl::W.sl::W.tl::fx:=⟨h.w.out e,λz=>by
 obtain⟨_,v,y⟩:=h.o r z
 rw[e] at y;cases y⟩
abbrev TL(S:List SD):List D:=S.map λd=>adT (.s d)
theorem Rw.x(h:YW H [] r (TL S))(hs:ZH H s la)(k:ZF s H Y)(n:r≠s):YW Y [] r (TL S):=by
 obtain⟨_,_,_,_,_,a,_⟩:=hs;exact h.mono (λo e=>k _ _ n e) (Ve (λb u e=>k _ _ (λz=>by rw[z,a] at e;cases e) e) (λx a=>by cases a) λ_ z=>z)
theorem Rw.same(h:YW H [] r (TL S))(k:ZA H Y):YW Y [] r (TL S):=h.mono (λo e=>k _ _ e) (Ve (λ_ _ e=>k _ _ e) (λx a=>by cases a) λ_ z=>z)
theorem Rw.add{r q:gF}(h:YW H [] r (TL S))(e:H r=some (.lst us))(a:H q=some (.tup (sdV d))):YW (upd H r (.lst (us ++ [.ref q]))) [] r (TL (S ++ [d])):=by
 have c:ZF r H (upd H r (.lst (us ++ [.ref q]))):=ZF.upd;have f:ZA (fz [] H) (fz [] (upd H r (.lst (us ++ [.ref q])))):=Ve (λb u y=>c _ _ (λz=>by rw[z,e] at y;cases y) y) (λx b=>by cases b) λ_ z=>z;show YW _ [] r ((S ++ [d]).map _);rw[xM];exact h.snoc e f ⟨q,_,rfl,We a,AF _ d⟩
def Hz(ns:fZ):SD->Prop
 | .come n a b=>n∈ns/\0<=a/\a<=3/\1<=b/\b<=1000
 | .bring n a=>n∈ns/\3<=a/\a<=5
 | _=>False
structure AI (ns:fZ) (k:Nat) (S:List ZK):Prop where
 cm:V2 S=ns.take k
 com:∀n,n∈ns.take k->∃d,Zr S n=some d/\0<=d/\d<=3
 no:∀n,n∉ns.take k->Zr S n=none
def cmN:SD->List Str
 | .come n _ _=>[n]
 | _=>[]
theorem Sk{ns:fZ}{S:List SD}{i:Nat}{d:SD}(h:S.flatMap cmN=ns)(a:S[i]?=some d):∃B,ns=(S.take i).flatMap cmN++(cmN d++B):=by
 have b:=(xI.mp a).1;have e:S=S.take i++d::S.drop (i+1):=by
  have:=(xI.mp a).2;rw[<- this,<- zQ b,zD]
 exact⟨(S.drop (i+1)).flatMap cmN,by rw[<- h];conv=>lhs;rw[e,M0,List.flatMap_cons]⟩
theorem AI.come(h:AI ns k S)(a:ns[k]?=some n)(c:ns.Nodup)(d:0<=day)(e:day<=3):n∉ns.take k/\AI ns (k+1) (S ++ [.come n day wt]):=by
 have b:ns.take (k+1)=ns.take k ++ [n]:=by rw[xS,a];rfl
 have a:n∉ns.take k:=λz=>by
  have:=c.sublist (List.take_sublist (k+1) ns);rw[b] at this;exact(List.nodup_append.mp this).2.2 n z n (by simp) rfl
 have c:=h.no n a;refine⟨a,by rw[CL,h.cm,b];rfl,λm a=>?_,λm a=>?_⟩
 .rw[DU c]
  by_cases z:m=n
  .rw[if_pos z];exact⟨day,rfl,d,e⟩
  .rw[if_neg z];rw[b] at a;exact h.com m ((xJ.mp a).elim id λy=>absurd (xP.mp y) z)
 .rw[b] at a;rw[DU c,if_neg (λz=>a (by rw[z];simp))];exact h.no m λz=>a (yN _ z)
inductive UW(C CM:gF)(vs:aG)(H:Hp)(Q:VK)(a:XK):Prop
 |mk(p s la nl:gF) (W:WL) (ns:fZ) (fx:gC) (O:gF->Prop)(_:vs=[.ref s,.ref p,.ref W.wl,.ref nl])(_:Ww C CM p s la nl W ns H fx (Ze []) [] O)(_:Wk ns [])(_:ns.length<=40)(_:∀(a:gC)(as:List AD)(O':gF->Prop)(Y:Hp),Ww C CM p s la nl W ns Y a (Ze as) as O'->Wk ns as->AI ns ns.length (Ze as).1->as.length<=ns.length+2->Q .non Y)
abbrev GA:Stmt:=top 73
theorem fP(c:YA K mg "_law_start" GA)(T:Txt mg)(a:Fn P w K mg Z "_law_next" lj 1 YC)(d:Fn P w K mg Z "_law_try" lH 9 (Sp.or (WN C CM) (WK C CM)))(b:Fn P w K mg Z "_law_keep" lu 2 VG):Fn P w K mg Z "_law_start" lN 10 (UW C CM):=by
 refine c.fq ["_law_src_here","_law_moot","_law_world","_law_names_here","_law_rows","_law_name","_law_k","_law_deed_here"] λH e Q E c h=>?_;obtain⟨p,s,la,nl,W,ns,fx,O,rfl,U,hk,c,k⟩:=h;refine⟨rfl,_,(Zd (Zx 4 (Yb Zb)) (Zd (Wi mW rfl (Yz Qb) (Yi 5) (Zg (Zs (Y4 aD aE aF Wa Qc (Za (Yj (Za Zt (Za Qd (Za (Zl a (Za Q0 (Za Zc Zb))) (Za (Zu Y9 Zc (Zl a (Za Q0 (Za (Zh Z7 (Yb (Za Zc (Za Zc (Za Zc Zb)))) (Zl a (Za Q0 (Za Zc Zb)))) Zb)))) Zb))))) Zb))))) (Zd (Wi mW rfl (Aw T.range (Za (Zu Y9 Zc (Zl a (Za Q0 (Za Zc Zb)))) Zb)) (Yi 6) (Zg (Zs (Y4 aD aE aF Wa Qc (Za (Yj (Za Zt (Za (Zh Z7 Qb (Zl a (Za Q0 (Za (Z0 Ym T.len Yh (Za Qb Zb)) Zb)))) (Za (Zu Y9 Zc (Zl a (Za Q0 (Za Zc Zb)))) Zb)))) Zb))))) (Zg (Wi mW rfl (Yz Qc) (Yi 7) (Zg (Zq (Zk Jo (Z0 Ym T.len Yh (Za (Zl d (Za Q3 (Za Qf Zb))) Zb)) Zc (Zn _)) (Zg (Zs (Zl b (Za Qa (Za Qf Zb))))) Zp))))))),?_⟩;have a:=aC
 have a:=hk.n0;have a:nl≠s:=λz=>U.nn (by rw[z];simp);refine⟨aB rfl,λa b=>?_⟩;obtain⟨nr,G⟩:=U.fresh b;have U1:=U.same (ZA.new (o:=.lst []) b);have b:YW (upd H a (.lst [])) [] a (TL []):=⟨[],Zj,rfl⟩;generalize (upd H a (.lst []))=c at U1 b |-;have rs:a≠s:=λz=>G (by rw[z];simp);refine Z9 ?_
 try dsimp only [Yy]
 refine⟨_,rfl,nl,rfl,⟨_,ZD.of U1.nm⟩,?_⟩;refine Vl (ns.map V.str) (λi L Y=>∃(v5:Option V)(S:List SD),L=[some (.ref s),some (.ref p),some (.ref W.wl),some (.ref nl),some (.ref a),v5,none,none]/\Ww C CM p s la nl W ns Y fx (Ze []) [] O/\YW Y [] a (TL S)/\(∀d∈S,Hz ns d)/\S.flatMap cmN=ns.take i/\S.length=i) ⟨none,[],rfl,U1,b,(λd h=>nomatch h),rfl,rfl⟩ (λi L Y _ ⟨_,_,_,U,_,_,_,_⟩=>ZD.of U.nm) ?_ ?_
 .rintro i v L H2 hv hI;refine opq λD0 r _ _ _=>?_;obtain⟨v5,S,rfl,J,r2,g,c,f⟩:=hI;rw[xC] at hv;obtain⟨n,hn,rfl⟩:=xL.mp hv;have B:=xG hn;obtain⟨us,hu,F⟩:=id r2;have E:=F.length;rw[xA] at E;have a5:=(xI.mp hn).1;refine⟨_,rfl,.inl ⟨rfl,_,ZD.of hu⟩,_,rfl,_,rfl,s,la,4,rfl,J.sr,aA,aA,λR H3 a3 a4 y j=>?_⟩;have U3:=J.x y j;have r3:=Rw.x r2 J.sr j rs;refine⟨_,rfl,aB rfl,λe b=>?_⟩;have l:=ZA.new (o:=.lst [.int 9,.int 30,.int 1000]) b;have u:(upd H3 e (.lst [.int 9,.int 30,.int 1000])) e=some (.lst [.int 9,.int 30,.int 1000]):=Zj;have o:e≠s:=(y.ne b).1;generalize (upd H3 e (.lst [.int 9,.int 30,.int 1000]))=H4 at l u |-;have A:=U3.same l;have r4:=Rw.same r3 l;refine⟨_,rfl,s,la,3,rfl,A.sr,aA,aA,λm H5 b t a0 l=>?_⟩;have t:=A.x a0 l;have r5:=Rw.x r4 A.sr l rs;obtain⟨b,M,x⟩:∃b:Int,atI [V.int 9,V.int 30,V.int 1000] m=some (.int b)/\0<b/\b<=1000:=by
   rcases(show m=0\/m=1\/m=2 by lia) with rfl | rfl | rfl
   .exact⟨9,rfl,aA,aA⟩
   .exact⟨30,rfl,aA,aA⟩
   .exact⟨1000,rfl,aA,aA⟩
  refine⟨e,_,_,.int b,rfl,rfl,ZD.of (l _ _ o u),M,s,la,b,rfl,t.sr,by lia,by lia,λm I N Q a1 x=>?_⟩;have M:=t.x a1 x;have r6:=Rw.x r5 t.sr x rs;refine⟨_,_,rfl,rfl,aB rfl,λq X=>?_⟩;have Q:=ZA.new (o:=.tup [.str "come", .str n,.int R,.int (1+m)]) X;have k7:(upd I q (.tup [.str "come", .str n,.int R,.int (1+m)])) q=some (.tup (sdV (.come n R (1+m)))):=Zj;generalize (upd I q (.tup [.str "come", .str n,.int R,.int (1+m)]))=H7 at Q k7 |-;have U7:=M.same Q;have r7:=Rw.same r6 Q;obtain⟨a2,e,u⟩:=id r7;have o:=u.length;rw[xA] at o;refine⟨a,a2,.ref q,rfl,rfl,e,by lia,?_⟩;refine r _ _ ⟨_,S ++ [.come n R (1+m)],rfl,U7.put e nr G,Rw.add r7 e k7,λd N=>?_,?_,by rw[Wx,f]⟩
  .rcases xJ.mp N with z | z
   .exact g d z
   .rw[xP.mp z];exact⟨B,a3,by lia,by lia,by lia⟩
  .rw[M0,c,xS,hn];rfl
 rintro L H2 ⟨v5,S,rfl,J,r2,g,c,f⟩;rw[xA] at c f;rw[xT] at c;refine⟨_,rfl,s,la,2,rfl,J.sr,aA,aA,λR H3 a3 a4 y j=>?_⟩;have U3:=J.x y j;have r3:=Rw.x r2 J.sr j rs;refine⟨_,_,rfl,rfl,_,rfl,by lia,by lia,?_⟩;refine Ba (1+R).toNat (by lia) (λi L Y=>∃(m:Option V)(S:List SD),L=[some (.ref s),some (.ref p),some (.ref W.wl),some (.ref nl),some (.ref a),v5,m,none]/\Ww C CM p s la nl W ns Y fx (Ze []) [] O/\YW Y [] a (TL S)/\(∀d∈S,Hz ns d)/\S.flatMap cmN=ns/\S.length=ns.length+i) ⟨none,S,rfl,U3,r3,g,c,by lia⟩ ?_ ?_
 .rintro i L H4 j hI;refine opq λD0 r _ _ _=>?_;obtain⟨m,S,rfl,A,r4,g,c,f⟩:=hI;obtain⟨us,hu,F⟩:=id r4;refine⟨_,rfl,.inl ⟨rfl,_,ZD.of hu⟩,_,rfl,_,rfl,_,rfl,nl,_,rfl,.inl (ZD.of A.nm),s,la,_,rfl,A.sr,by rw[xA];lia,by rw[xA];lia,λj H5 y R a0 l=>?_⟩;rw[xA] at R;have t:=A.x a0 l;have r5:=Rw.x r4 A.sr l rs;obtain⟨j,rfl⟩:=yC y;have l:j<ns.length:=by lia
  refine⟨nl,_,_,.str ns[j],rfl,rfl,ZD.of t.nm,Yl (by rw[xC,xB l];rfl),?_⟩;have B:ns[j]∈ns:=zN l;generalize ns[j]=n at B;refine⟨_,rfl,s,la,3,rfl,t.sr,aA,aA,λz I j l a1 x=>?_⟩;have M:=t.x a1 x;have r6:=Rw.x r5 t.sr x rs;refine⟨_,_,rfl,rfl,aB rfl,λq X=>?_⟩;have Q:=ZA.new (o:=.tup [.str "bring", .str n,.int (3+z)]) X;have k7:(upd I q (.tup [.str "bring", .str n,.int (3+z)])) q=some (.tup (sdV (.bring n (3+z)))):=Zj;generalize (upd I q (.tup [.str "bring", .str n,.int (3+z)]))=H7 at Q k7 |-;have U7:=M.same Q;have r7:=Rw.same r6 Q;obtain⟨a2,e,u⟩:=id r7;have o:=u.length;rw[xA] at o;refine⟨a,a2,.ref q,rfl,rfl,e,by lia,?_⟩;refine r _ _ ⟨_,S ++ [.bring n (3+z)],rfl,U7.put e nr G,Rw.add r7 e k7,λd N=>?_,?_,by rw[Wx,f];lia⟩
  .rcases xJ.mp N with y | y
   .exact g d y
   .rw[xP.mp y];exact⟨B,by lia,by lia⟩
  .rw[M0,c];exact xX _
 rintro L H4 ⟨m,S,rfl,A,r4,g,c,f⟩;clear U U1 J U3 r2 r3;obtain⟨us,hu,F⟩:=id r4;have E:=F.length;rw[xA] at E;refine⟨_,rfl,a,rfl,⟨_,ZD.of hu⟩,?_⟩;refine Vl us (λi L Y=>∃(v7:Option V)(j:gC)(as:List AD)(O':gF->Prop),L=[some (.ref s),some (.ref p),some (.ref W.wl),some (.ref nl),some (.ref a),v5,m,v7]/\Ww C CM p s la nl W ns Y j (Ze as) as O'/\Wk ns as/\AI ns ((S.take i).flatMap cmN).length (Ze as).1/\as.length<=i/\¬O' a/\a∉s::la::nl::W.wl::W.dl::W.sl::W.tl::j/\YW Y [] a (TL S)/\Y a=some (.lst us)) ⟨none,fx,[],O,rfl,A,hk,⟨rfl,(λn h=>nomatch h),λn _=>rfl⟩,xF _,nr,G,r4,hu⟩ (λi L Y _ ⟨_,_,_,_,_,_,_,_,_,_,_,_,e⟩=>ZD.of e) ?_ ?_
 .rintro i v L H5 hv hI;refine opq λD0 r _ _ _=>?_;obtain⟨v7,j,as,O',rfl,t,m,v,al5,F,h,r5,A⟩:=hI;obtain⟨o,f,l⟩:=id r5;rw[A] at f;cases f;obtain⟨u,f,o⟩:=l.get hv;rw[xC] at f;obtain⟨d,N,rfl⟩:=xL.mp f;have f:=g d (xG N);obtain⟨q,rfl,X⟩:=Am o;have R:dOk ns d:=by
   cases d with
   | come n g J=>exact⟨f.1,Vf f.2.1 (by have:=f.2.2.1;lia),Vf (by have:=f.2.2.2.1;lia) (by have:=f.2.2.2.2;lia)⟩
   | bring n g=>exact⟨f.1,Vf (by have:=f.2.1;lia) (by have:=f.2.2;lia)⟩
   | _=>exact f.elim
  have et:S.take (i+1)=S.take i ++ [d]:=by rw[xS,N];rfl
  have a5:=(xI.mp N).1;refine⟨_,rfl,_,rfl,t.tryS m X R λl o I O6 kl Q hc=>?_⟩;have U:¬O6 a:=λz=>(Q.2 a z).elim F (λy=>by rw[A] at y;cases y);have r6:YW I [] a (TL S):=r5.mono (λo e=>Q.1 _ _ e F) (Ve (λb u e=>Q.1 _ _ e (t.w.iQ e)) (λx hx=>by cases hx) λ_ z=>z);have G:=Q.1 _ _ A F;obtain⟨B,hB⟩:=Sk c N;have B:∀n,cmN d=[n]->ns[((S.take i).flatMap cmN).length]?=some n:=λn e=>by
   rw[hB,e,zY (xF _),Nat.sub_self];rfl
  rw[et,M0] at r;have N:[d].flatMap cmN=cmN d:=by simp
  rw[N,xE] at r;have gr:eSD (Ze as).1 (Ze as).2 d=none->AI ns (((S.take i).flatMap cmN).length+(cmN d).length) (Ze (as ++ [.s d])).1:=λ_=>by
   rw[As];cases d with
   | come n g J=>exact(v.come (B n rfl) m.nd f.2.1 f.2.2.1).2
   | bring n g=>exact v
   | _=>exact f.elim
  rcases hc with⟨rfl,i,M⟩ | ⟨rfl,he,M⟩
  .refine⟨l,_,rfl,.inl (ZD.of kl),_,_,rfl,rfl,_,rfl,Zv (λz=>absurd z aA) (λ_=>r _ _ ⟨_,j,as,O6,rfl,M,m,?_,by lia,U,h,r6,G⟩)⟩;cases d with
   | come n g J =>
    exfalso;apply i;have i:=B n rfl;have B:=(xI.mp i).1;have B:(V2 (Ze as).1).length<40:=by rw[v.cm,xR];lia
    have N:=v.no n (v.come (wt:=J) i m.nd f.2.1 f.2.2.1).1;have i:=m.g.1;have y1:=f.2.1;have i:=f.2.2.1;have y3:=f.2.2.2.1;have y4:=f.2.2.2.2
    show ((Tr (Ze as).1 n g J).or (Wf (Ze as).2))=none;have em:Wf (Ze as).2=none:=if_pos (by rw[Cq];lia);have i:Tr (Ze as).1 n g J=none:=by
     unfold Tr;rw[if_neg (by rw[Qw (m.nn n f.1)];decide),if_pos N,if_pos B,show eM 0 9999 g=none from if_pos ⟨y1,by lia⟩,show eM 1 1000 J=none from if_pos ⟨y3,y4⟩];rfl
    rw[i,em];rfl
   | bring n g=>exact v
   | _=>exact f.elim
  .have f:YE (fz j I) (adT (.s d)) (.ref q):=⟨q,_,rfl,We (Q.1 _ _ X (t.w.iQ X)),AF _ d⟩;refine⟨l,_,rfl,.inl (ZD.of kl),_,_,rfl,rfl,_,rfl,Zv (λ_=>?_) (λz=>absurd (show (0:Int)<1 by decide) z)⟩;refine⟨_,rfl,_,rfl,?_⟩;dsimp only [Vw];refine M.keep m (by rw[TX];cases d<;>rfl) f (λ_ _ _ _ _ _ z=>by cases z) λf H7 U7 g l=>?_;have i:a ∉ [W.dl,W.sl,W.tl]:=λz=>h (by simp only[xD,xV,or_false] at z |-;grind);refine r _ _ ⟨_,f,as ++ [.s d],O6,rfl,U7,m.snoc R he,gr he,by rw[Wx];lia,U,?_,?_,g _ _ i G⟩
   .intro z;rcases xD.mp (show a∈s::la::nl::W.wl::W.dl::W.sl::W.tl::f from z) with y | y
    .exact h (by rw[y];simp)
    .have:a∈s::la::nl::W.wl::W.dl::W.sl::W.tl::j\/a∈f:=by
      simp only[xD] at z |-
      grind
     rcases this with y | y
     .exact h y
     .rcases l a y with y | y
      .exact h (by simp[y])
      .rw[G] at y;cases y
   .refine r6.mono (λo e=>g _ _ i e) (Ve (λb u e=>g _ _ (λz=>?_) e) (λx hx=>by cases hx) λ_ z=>z);obtain⟨_,a,y⟩:=M.o b (by simp only[xD,xV,or_false] at z |-;grind);rw[e] at y;cases y
 .rintro L H5 ⟨v7,j,as,O',rfl,t,m,v,al5,F,h,r5,A⟩;rw[E,xT,c] at v;exact k j as O' H5 t m v (by lia)
end
section
variable{C CM:gF}
inductive Az(C CM:gF)(vs:aG)(H:Hp)(Q:VK)(a:XK):Prop
 |mk(M) (S) (wa) (J) (m) (qs)(_:vs=[.ref M.p])(_:ZC C CM H M S wa J m qs)(_:Q (.int m.ip.length) H)
abbrev Ip:Stmt:=Y1 (top 57) 11
theorem Pr(a:ZU K CM "now" "Moot.now" Ip)(T:Txt mg)(Tm:ZR K CM):Mt P w K mg Z CM "now" lP 1 (Az C CM):=by
 refine a.mq lP λH c Q E a h=>?_;obtain⟨M,S,b,J,m,a,rfl,W,k⟩:=h;refine⟨rfl,_,(Zg (Zw (Z0 Ym T.len Yh (Za (Z2 Q0) Zb)))),?_⟩;obtain⟨d,e⟩:=W.ob;obtain⟨c,a,_,b⟩:=(W.ls (M.ld,m.ip) (by simp[Mo.at_])).get;dsimp only at a b;refine⟨_,rfl,M.p,CM,d,_,_,rfl,e,Tm.cl,Tm.nd,Tg _,M.ld,c,rfl,.inl (ZD.of a),?_⟩;rw[b];exact k
end
theorem O7(s:V0)(x:AD):∃r,(Vs s x).1=s.1++r:=by
 cases x with
 | s d=>cases d<;>first | exact⟨_,rfl⟩ | exact⟨[],(xX _).symm⟩
 | c d b a c e f=>exact⟨[],(xX _).symm⟩
theorem GZ:∀(bs:List AD)(s:V0),∃r,(bs.foldl Vs s).1=s.1++r
 | [],s=>⟨[],(xX _).symm⟩
 | x::bs,s=>by
  obtain⟨c,a⟩:=O7 s x;obtain⟨d,b⟩:=GZ bs (Vs s x);exact⟨c++d,by rw[zA,b,a,yT]⟩
theorem KL(a:List AD)(i:Nat):∃r,(Ze a).1=(Ze (a.take i)).1++r:=by
 obtain⟨r,e⟩:=GZ (a.drop i) (Ze (a.take i));refine⟨r,?_⟩;rw[<- e];unfold Ze;rw[<- wC,zD]
theorem RU(h:Zr (Ze (as.take i)).1 n=some d):Zr (Ze as).1 n=some d:=by
 obtain⟨r,e⟩:=KL as i;rw[e,BB,h];rfl
theorem cM(h:Yc (Ze (as.take i)).1 n=some d):Yc (Ze as).1 n=some d:=by
 obtain⟨r,e⟩:=KL as i;rw[e,BG,h];rfl
theorem cR(h:Y2 x="come"):∃n d wt,x=.s (.come n d wt):=by
 cases x with
 | s d=>cases d<;>first | exact⟨_,_,_,rfl⟩ | exact absurd h (by dsimp only [Y2];decide +kernel)
 | c d b a c e f=>cases d<;>exact absurd h (by dsimp only [Y2];decide +kernel)
theorem OP(h:Y2 x="die"):∃n a d,x=.s (.die n a d):=by
 cases x with
 | s d=>cases d<;>first | exact⟨_,_,_,rfl⟩ | exact absurd h (by dsimp only [Y2];decide +kernel)
 | c d b a c e f=>cases d<;>exact absurd h (by dsimp only [Y2];decide +kernel)
theorem dC(h:Zr S n=none):Zr (fdS S x) n=(match x with
  | .s (.come m d _)=>if m=n then some d else none
  | _=>none):=by
 cases x with
 | s d =>
  cases d with
  | come m d a=>show Zr (S ++ [_]) n=_;rw[BB,h];rfl
  | rise m d a=>exact(Dk n).trans h
  | die m a d=>exact(Dx n).trans h
  | _=>exact h
 | c d b a e g f=>exact h
theorem Xs(h:Yc S n=none):Yc (fdS S x) n=(match x with
  | .s (.die m a d)=>if m=n then some (d,a) else none
  | _=>none):=by
 cases x with
 | s d =>
  cases d with
  | come m d b=>exact(EB n).trans h
  | rise m d b=>exact(Em n).trans h
  | die m a d=>show Yc (S ++ [_]) n=_;rw[BG,h];rfl
  | _=>exact h
 | c d b a e g f=>exact h
def bG:Option Int->V
 | none=>.non
 | some d=>.int d
inductive Tw(vs:aG)(H:Hp)(Q:VK)(a:XK):Prop
 |mk(q) (fx) (as) (n)(_:vs=[.ref q,.str n])(_:YW H fx q (as.map adT))(_:Q (bG (Zr (Ze as).1 n)) H)
abbrev Hn:Stmt:=top 64
theorem OJ(l:YA K mg "_law_came" Hn)(T:Txt mg):Fn P w K mg Z "_law_came" lR 1 Tw:=by
 refine l.fq i5 λH A Q E R h=>?_;obtain⟨q,O,o,n,rfl,⟨A,t,c⟩,k⟩:=h;refine⟨rfl,_,(Zd (Wi mW rfl (Yz Q0) (Yi 2) (Zg (Zq (QW.pt (Wz (Zk Yk (Zh Zi Qa Zc) Zt (Zn _)) (Vx (Zk Yk (Zh Zi Qa Zc) Q3 (Zn _))))) (Zg (Zw (Zh Zi Qa Zc))) Zp))) (Zg (Zw Y3))),?_⟩;have g:=c.length;rw[xA] at g;refine⟨_,rfl,q,rfl,⟨_,ZD.of t⟩,?_⟩;refine Vl A (λi L Y=>∃r:Option V,L=[some (.ref q),some (.str n),r]/\Y=H/\Zr (Ze (o.take i)).1 n=none) ⟨none,rfl,rfl,rfl⟩ (λi L Y _ ⟨_,_,e,_⟩=>by rw[e];exact ZD.of t) ?_ ?_
 .rintro i v L Y I ⟨r,rfl,rfl,b⟩;obtain⟨W,j,u⟩:=c.get I;rw[xC] at j;obtain⟨x,M,rfl⟩:=xL.mp j;have G:o.take (i+1)=o.take i ++ [x]:=by rw[xS,M];rfl
  have f:=dC (x:=x) b;rw[<- As,<- G] at f;obtain⟨a,S,rfl,p,J⟩:=Ad u;refine⟨_,rfl,a,_,0,.str (Y2 x),rfl,rfl,ZJ.of p,Yl J,rfl,_,rfl,Zv (λz=>?_) (λz=>Z5 ?_)⟩
  .obtain⟨m,B,U,rfl⟩:=cR (by injection z);obtain⟨N,C,d⟩:=Am u;cases C;rw[d] at p;cases p;refine⟨_,rfl,a,_,1,.str m,rfl,rfl,ZJ.of d,rfl,_,rfl,rfl,_,rfl,Zv (λs=>?_) (λs=>?_)⟩
   .have F:m=n:=by injection s
    have f:=f.trans (if_pos F);rw[RU f] at k;exact⟨_,rfl,a,_,2,.int B,rfl,rfl,ZJ.of d,rfl,k⟩
   .refine⟨_,rfl,rfl,f.trans (if_neg λy=>s (by rw[y]))⟩
  .refine⟨_,rfl,rfl,f.trans ?_⟩;split
   .exact absurd rfl z
   .rfl
 .rintro L Y ⟨r,rfl,rfl,b⟩;rw[g,xT] at b;rw[b] at k;exact k
def Su(H:Hp):Option (Int×Str)->V->Prop
 | none,v=>v=.non
 | some (d,b),v=>∃a,v=.ref a/\H a=some (.tup [.int d,.str b])
inductive UJ(vs:aG)(H:Hp)(Q:VK)(a:XK):Prop
 |mk(q) (fx) (as) (n)(_:vs=[.ref q,.str n])(_:YW H fx q (as.map adT))(_:∀v Y,ZA H Y->Su Y (Yc (Ze as).1 n) v->Q v Y)
abbrev Gp:Stmt:=top 65
theorem ON(l:YA K mg "_law_death" Gp)(T:Txt mg):Fn P w K mg Z "_law_death" lR 1 UJ:=by
 refine l.fq i5 λH B Q E W h=>?_;obtain⟨q,U,o,n,rfl,⟨B,u,d⟩,k⟩:=h;refine⟨rfl,_,(Zd (Wi mW rfl (Yz Q0) (Yi 2) (Zg (Zq (QW.pt (Wz (Zk Yk (Zh Zi Qa Zc) Zt (Zn _)) (Vx (Zk Yk (Zh Zi Qa Zc) Q3 (Zn _))))) (Zg (Zw (Yj (Za (Zh Zi Qa Zc) (Za (Zh Zi Qa Zc) Zb))))) Zp))) (Zg (Zw Y3))),?_⟩;have X:=aC
 have g:=d.length;rw[xA] at g;refine⟨_,rfl,q,rfl,⟨_,ZD.of u⟩,?_⟩;refine Vl B (λi L Y=>∃s:Option V,L=[some (.ref q),some (.str n),s]/\Y=H/\Yc (Ze (o.take i)).1 n=none) ⟨none,rfl,rfl,rfl⟩ (λi L Y _ ⟨_,_,e,_⟩=>by rw[e];exact ZD.of u) ?_ ?_
 .rintro i v L Y N ⟨s,rfl,rfl,c⟩;obtain⟨x0,j,A⟩:=d.get N;rw[xC] at j;obtain⟨x,R,rfl⟩:=xL.mp j;have I:o.take (i+1)=o.take i ++ [x]:=by rw[xS,R];rfl
  have f:=Xs (x:=x) c;rw[<- As,<- I] at f;obtain⟨a,us,rfl,r,O⟩:=Ad A;refine⟨_,rfl,a,_,0,.str (Y2 x),rfl,rfl,ZJ.of r,Yl O,rfl,_,rfl,Zv (λz=>?_) (λz=>Z5 ?_)⟩
  .obtain⟨m,J,C,rfl⟩:=OP (by injection z);obtain⟨S,F,b⟩:=Am A;cases F;rw[b] at r;cases r;refine⟨_,rfl,a,_,1,.str m,rfl,rfl,ZJ.of b,rfl,_,rfl,rfl,_,rfl,Zv (λt=>?_) (λt=>?_)⟩
   .have G:m=n:=by injection t
    have f:=f.trans (if_pos G);have:=cM f;rw[this] at k;refine⟨_,rfl,a,_,2,.int C,rfl,rfl,ZJ.of b,rfl,_,rfl,a,_,3,.str J,rfl,rfl,ZJ.of b,rfl,aB rfl,λp M=>k _ _ (ZA.new M) ⟨p,rfl,Zj⟩⟩
   .refine⟨_,rfl,rfl,f.trans (if_neg λy=>t (by rw[y]))⟩
  .refine⟨_,rfl,rfl,f.trans ?_⟩;split
   .exact absurd rfl z
   .rfl
 .rintro L Y ⟨s,rfl,rfl,c⟩;rw[g,xT] at c;rw[c] at k;exact k _ _ (ZA.refl _) rfl
inductive VU(vs:aG)(H:Hp)(Q:VK)(a:XK):Prop
 |mk(q) (fx) (as) (n) (day)(_:vs=[.ref q,.str n,.int day])(_:YW H fx q (as.map adT))(_:∀Y,ZA H Y->Q (.bl (Ju (Ze as).1 n day)) Y)
abbrev Ki:Stmt:=top 66
theorem MU(b:YA K mg "_law_is_dead" Ki)(T:Txt mg)(a:Fn P w K mg Z "_law_death" lR 1 UJ):Fn P w K mg Z "_law_is_dead" lB 2 VU:=by
 refine b.fq ["_law_deeds","_law_name","_law_day","_law_death_here"] λH c Q E b h=>?_;obtain⟨q,d,c,n,b,rfl,e,k⟩:=h;refine⟨rfl,_,(Zd (Zx 3 (Zl a (Za Q0 (Za Q3 Zb)))) (Zg (Zw (FA (JF TV Qb Y3 (Zn _)) (Ep (JF Vk (Zh Zi Qb Zc) Qa (Zn _))))))),?_⟩;refine⟨_,rfl,_,rfl,q,d,c,n,rfl,e,λv a d b=>?_⟩;refine Z9 ?_;have k:=k a d;unfold Ju at k;cases e:Yc (Ze c).1 n with
 | none =>
  rw[e] at b k;have b:v=.non:=b;subst b;exact⟨_,rfl,rfl,_,rfl,Z5 k⟩
 | some x =>
  obtain⟨d,a⟩:=x;rw[e] at b k;obtain⟨a,rfl,c⟩:=b;refine⟨_,rfl,rfl,_,rfl,Z6 ?_⟩;exact⟨_,rfl,a,_,0,.int d,rfl,rfl,ZJ.of c,rfl,_,rfl,_,_,rfl,rfl,k⟩
def AW(n:Str)(s:Nat×Nat):AD->Nat×Nat
 | .c ..=>(s.1+1,s.2)
 | .s (.pen y)=>if y=n then (s.1,s.1) else s
 | _=>s
def Vv(a:List AD)(n:Str):Nat×Nat:=a.foldl (AW n) (0,0)
theorem Ov(s:V0)(a:AD):(Vs s a).2.o6.length=s.2.o6.length+(if isC a=true then 1 else 0):=by
 cases a with
 | s d=>cases d<;>rfl
 | c d e b g h f=>cases d<;>exact Wx _ _
theorem dX(s:V0)(a:AD)(n:Str):(Vs s a).2.pen n=(match a with
  | .s (.pen y)=>if n=y then some s.2.o6.length else s.2.pen n
  | _=>s.2.pen n):=by
 cases a with
 | s d=>cases d<;>first | rfl | (unfold Vs;rfl)
 | c d c b e g f=>cases d<;>rfl
theorem RF(b:List AD)(n:Str):(Ze b).2.o6.length=(Vv b n).1/\(((Ze b).2.pen n).getD 0:Int)=(Vv b n).2:=by
 suffices h:∀(b:List AD)(s:V0)(u:Nat×Nat),s.2.o6.length=u.1->((s.2.pen n).getD 0:Int)=u.2->(b.foldl Vs s).2.o6.length=(b.foldl (AW n) u).1/\(((b.foldl Vs s).2.pen n).getD 0:Int)=(b.foldl (AW n) u).2 from h b _ (0,0) rfl rfl
 intro b
 induction b with
 | nil=>exact λs u e g=>⟨e,g⟩
 | cons a b d =>
  intro s u e g;rw[zA,zA];refine d _ _ ?_ ?_
  .rw[Ov,e];cases a with
   | s d =>
    cases d
    case pen y=>show u.1+0=(if y=n then (u.1,u.1) else u).1;split<;>rfl
    all_goals rfl
   | c d h b i j f=>rfl
  .rw[dX];cases a with
   | s d =>
    cases d
    case pen y =>
     show ((if n=y then some (s.2.o6.length:Int) else s.2.pen n).getD 0:Int)=((if y=n then (u.1,u.1) else u).2:Nat)
     by_cases z:y=n
     .rw[if_pos z,if_pos z.symm,e];rfl
     .rw[if_neg z,if_neg (λe=>z e.symm)];exact g
    all_goals exact g
   | c d h b i j f=>exact g
theorem Xw(b:List AD):(Ze b).2.ow=(Yd [] 0 (Ze b).2.o6).1:=by
 suffices h:∀(b:List AD)(s:V0),s.2.ow=(Yd [] 0 s.2.o6).1->(b.foldl Vs s).2.ow=(Yd [] 0 (b.foldl Vs s).2.o6).1 from h b _ rfl
 intro b
 induction b with
 | nil=>exact λs h=>h
 | cons a b d =>
  intro s h;rw[zA];refine d _ ?_;cases a with
  | s d=>cases d<;>exact h
  | c d b a e g f=>cases d<;>rfl
theorem Pj(h:Y2 x="penance"):∃y,x=.s (.pen y):=by
 cases x with
 | s d=>cases d<;>first | exact⟨_,rfl⟩ | (exact absurd h (by simp only[Y2];decide +kernel))
 | c d b a c e f=>cases d<;>exact absurd h (by simp only[Y2];decide +kernel)
theorem fO(h:¬Y2 x="penance"):AW n u x=(u.1+(if isC x=true then 1 else 0),u.2):=by
 cases x with
 | s d=>cases d<;>first | rfl | exact absurd rfl h
 | c d b a c e f=>rfl
theorem dY(b:List AD)(n:Str):(Vv b n).2<=(Vv b n).1:=by
 suffices h:∀(b:List AD)(u:Nat×Nat),u.2<=u.1->(b.foldl (AW n) u).2<=(b.foldl (AW n) u).1 from h b _ (xF _)
 intro b
 induction b with
 | nil=>exact λu h=>h
 | cons a b d =>
  intro u h;refine d _ ?_;cases a with
  | s d =>
   cases d
   case pen y=>show (if y=n then (u.1,u.1) else u).2<=(if y=n then (u.1,u.1) else u).1;split;exact xF _;exact h
   all_goals exact h
  | c d b a e g f=>exact zS h
theorem OG{m:Mo}{n:Str}{j:Nat}(h:(j:Int)<(m.pen n).getD 0):Uk m n j=false:=by
 unfold Uk;split
 .grind
 .rfl
theorem fors_iff:Vz m n=true↔∃i,i<m.o6.length/\Uk m n i=true:=by
 unfold Vz AZ;rw[List.any_eq_true];constructor
 .rintro⟨i,h,e⟩;exact⟨i,wQ.mp h,e⟩
 .rintro⟨i,h,e⟩;exact⟨i,wQ.mpr h,e⟩
theorem V3{t u:TS}{D:ZY}{L:St}{H:Hp}(h:∀b:ZY,(∀ a Y,u D a Y->b.nx a Y)->(∀v Y,D.rt v Y->b.rt v Y)->t b L H):Ug t u D L H:=h {D with nx:=u D } (λ_ _ h=>h) λ_ _ h=>h
inductive WJ(vs:aG)(H:Hp)(Q:VK)(a:XK):Prop
 |mk(l) (ss)(_:vs=[.ref l])(_:ZN H ss l)(_:ss.length<=1000)(_:∀a Y,Y a=some (.lst ((Yd [] 0 ss).1.map V.bl))->ZA H Y->Q (.ref a) Y)
inductive Ap(vs:aG)(H:Hp)(Q:VK)(a:XK):Prop
 |mk(s) (W) (fx) (as bs) (n)(_:vs=[.ref W.wl,.str n])(_:ZW s H fx W as bs (Ze as).2.o6)(_:WS (Ze as).2)(_:as.length<=1000)(_:∀Y,ZA H Y->Q (.bl (Vz (Ze as).2 n)) Y)
abbrev Hh:Stmt:=top 81
theorem bA(a3:YA K mg "_law_is_forsworn" Hh)(T:Txt mg)(a2:Fn P w K mg Z "_law_is_case" lp 1 UU)(a4:Fn P w K mg Z "_law_settled" lU 3 WJ):Fn P w K mg Z "_law_is_forsworn" ["_law_world","_law_name"] 4 Ap:=by
 refine a3.fq ["_law_world","_law_name","_law_deeds","_law_suits","_law_trials","_law_start_here","_law_count","_law_deed_here","_law_told","_law_case"] λH vs Q E hr h=>?_;obtain⟨s,W,fx,a,bs,n,rfl,C,ok,al,k⟩:=h
 refine⟨rfl,_,(Zd (Ul Q0 (EA (by rfl) (Yv (Yi 2) (Yv (Yi 3) (Yv (Yi 4) Ub)))))
 (Zd (Zx 5 Zc)
 (Zd (Zx 6 Zc)
 (Zd (Wi mW rfl (Yz Qa) (Yi 7)
 (Zd (Zq (Vi (Zl a2 (Za Qf Zb))) (Zg (Zx 6 (Zu Y9 Qe Zc))) Zp)
 (Zg (Zq (QW.pt (Wz (Zk Yk (Zh Zi Qf Zc) Zt (Zn _)) (Vx (Zk Yk (Zh Zi Qf Zc) Q3 (Zn _))))) (Zg (Zx 5 Qe)) Zp))))
 (Zd (Zx 8 (Zl a4 (Za Qb Zb)))
 (Zd (Wi mW rfl (Ko T.range (Za Qd (Za (Z0 Ym T.len Yh (Za Qb Zb)) Zb))) (Yi 9)
 (Zg (Zq (QW.pt (Wz (Vi (Zh Z7 Qg (qvN 9))) (Wz (Zk TV (Zh Zi (Zh Z7 Qb (qvN 9)) Zc) Y3 (Zn _)) (Vx (Zk Yk (Zh Zi (Zh Zi (Zh Z7 Qb (qvN 9)) Zc) Zc) Q3 (Zn _)))))) (Zg (Zw Jf)) Zp)))
 (Zg (Zw Jf)))))))),?_⟩
 obtain⟨vs,hv,b3⟩:=id C.d;have O:=b3.length;rw[xA] at O;refine Ye λD1 a5=>?_;refine⟨_,rfl,W.wl,_,rfl,ZD.of C.e,rfl,_,_,rfl,_,_,rfl,_,_,rfl,rfl,a5 _ _ ?_⟩;refine Ye λD2 a6=>Z9 (a6 _ _ ?_);refine Ye λD3 a7=>Z9 (a7 _ _ ?_);refine Ye λD4 a8=>?_;refine⟨_,rfl,W.dl,rfl,⟨_,ZD.of hv⟩,?_⟩;refine Vl vs (λi L Y=>∃v7:Option V,L=[some (.ref W.wl),some (.str n),some (.ref W.dl),some (.ref W.sl),some (.ref W.tl),some (.int (Vv (a.take i) n).2),some (.int (Vv (a.take i) n).1),v7,none,none]/\ZA H Y) ⟨none,rfl,ZA.refl _⟩ (λi L Y _ ⟨_,_,S⟩=>ZD.of (S _ _ hv)) ?_ ?_
 .rintro i y L Y hy ⟨v7,rfl,S⟩;have R:ZO (fz fx Y) (a.map adT) vs:=by
   obtain⟨b4,e,r⟩:=(C.same S).d;rw[S _ _ hv] at e;cases e;exact r
  obtain⟨x0,U,re⟩:=R.get hy;rw[xC] at U;obtain⟨A,X,rfl⟩:=xL.mp U;have et:Vv (a.take (i+1)) n=AW n (Vv (a.take i) n) A:=by
   unfold Vv;rw[xS,X];exact wC ..
  rw[et];generalize Vv (a.take i) n=u;refine Z9 ?_;refine Vg (λL Y=>L=[some (.ref W.wl),some (.str n),some (.ref W.dl),some (.ref W.sl),some (.ref W.tl),some (.int u.2),some (.int ((u.1+(if isC A=true then 1 else 0):Nat):Int)),some y,none,none]/\ZA H Y) ?_ ?_
  .rintro L H2 ⟨rfl,c⟩;have a1:YE (fz fx H2) (adT A) y:=by
    obtain⟨b4,e,r⟩:=(C.same c).d;rw[c _ _ hv] at e;cases e;obtain⟨z0,a0,rz⟩:=r.get hy;rw[xC,X] at a0;cases a0;exact rz
   by_cases wp:Y2 A="penance"
   .obtain⟨f,rfl⟩:=Pj wp;obtain⟨q,rfl,hq⟩:=Am a1;refine⟨_,rfl,q,_,0,.str "penance", rfl,rfl,ZJ.of hq,rfl,rfl,_,rfl,Zv (λ_=>?_) (λz=>absurd rfl z)⟩;refine⟨_,rfl,q,_,1,.str f,rfl,rfl,ZJ.of hq,rfl,_,rfl,rfl,_,rfl,Zv (λz=>?_) (λz=>?_)⟩
    .have z:f=n:=by injection z
     refine⟨_,rfl,⟨some (.ref q),?_,c⟩⟩;subst z;show _=[_,_,_,_,_,some (V.int ((if f=f then (u.1,u.1) else u).2:Nat)),some (V.int ((if f=f then (u.1,u.1) else u).1:Nat)),_,_,_];rw[if_pos rfl];rfl
    .have z:¬f=n:=λe=>z (by rw[e]);refine⟨some (.ref q),?_,c⟩;show _=[_,_,_,_,_,some (V.int ((if f=n then (u.1,u.1) else u).2:Nat)),some (V.int ((if f=n then (u.1,u.1) else u).1:Nat)),_,_,_];rw[if_neg z];rfl
   .obtain⟨q,m,rfl,hq,hw⟩:=Ad a1;refine⟨_,rfl,q,_,0,.str (Y2 A),rfl,rfl,ZJ.of hq,Yl hw,rfl,_,rfl,Zv (λz=>absurd (by injection z) wp) (λ_=>?_)⟩;exact Z5 ⟨_,by rw[fO wp],c⟩
  .intro D5 I _ _ _;refine⟨_,rfl,y,fx,A,rfl,re,λH2 c=>⟨_,rfl,Cu (λz=>?_) (λz=>?_)⟩⟩
   .exact⟨_,rfl,_,_,rfl,rfl,I _ _ ⟨by rw[if_pos z];rfl,S.trans c⟩⟩
   .exact I _ _ ⟨by rw[if_neg (by rw[z];exact xN)];rfl,S.trans c⟩
 rintro L H1 ⟨v7,rfl,S1⟩;rw[O,xT];refine a8 _ _ ?_;obtain⟨e1,e2⟩:=RF a n;obtain⟨us,hu,N⟩:=id C.u;have b2:=N.length;rw[xA] at b2;have tl:=ok.le;have su:ZN H (Ze a).2.o6 W.sl:=⟨us,hu,N.iK BX⟩;refine Ye λD6 a9=>?_;refine⟨_,rfl,W.sl,_,rfl,su.mono S1,by lia,λl2 H2 k2 c=>Z9 (a9 _ _ ?_)⟩;rw[<- Xw] at k2;have B:=S1.trans c;refine V3 λD7 b0 b1=>?_;have p2:=dY a n;refine⟨_,rfl,_,rfl,W.sl,us,rfl,.inl (ZD.of (B _ _ hu)),_,_,rfl,⟨by lia,by lia,by lia,by lia⟩,?_⟩;refine Ba (us.length - (Vv a n).2) (by lia) (λi L Y=>∃v9:Option V,L=[some (.ref W.wl),some (.str n),some (.ref W.dl),some (.ref W.sl),some (.ref W.tl),some (.int (Vv a n).2),some (.int (Vv a n).1),v7,some (.ref l2),v9]/\ZA H Y/\Y l2=some (.lst ((Ze a).2.ow.map V.bl))/\∀j,j<(Vv a n).2+i->Uk (Ze a).2 n j=false) ⟨none,rfl,B,k2,λj hj=>OG (by rw[e2];lia)⟩ ?_ ?_
 .rintro i L Y hi ⟨v9,rfl,S,k3,no⟩;have vl:=ok.vl;obtain⟨j,hj⟩:∃j,j=(Vv a n).2+i:=⟨_,rfl⟩;have ej:(((Vv a n).2:Int)+(i:Nat))=((j:Nat):Int):=by lia
  rw[ej];have next:Uk (Ze a).2 n j=false->∀x,x<(Vv a n).2+(i+1)->Uk (Ze a).2 n x=false:=λe x hx=>if h:x=j then by rw[h];exact e else no x (by lia)
  obtain⟨t,ht⟩:∃t,(Ze a).2.o6[j]?=some t:=⟨_,xB (by lia)⟩;obtain⟨b,F⟩:∃b,(Ze a).2.ow[j]?=some b:=⟨_,xB (by lia)⟩;have v:Uk (Ze a).2 n j=match t.named with | some p=>decide (p.2=n)&&b&&true | none=>false:=by
   unfold Uk;rw[ht,yR (show ((Ze a).2.pen n).getD 0<=(j:Int) by rw[e2];lia),yD,F];rfl
  obtain⟨m,G,g⟩:=su.mono S;obtain⟨ta,u1,u2,u4,M,J,_,_,h4⟩:=ZN.get (l:=W.sl) g ht;refine⟨_,rfl,_,rfl,l2,_,j,.bl b,rfl,rfl,ZD.of k3,Yl (by rw[xC,F];rfl),b,rfl,?_⟩;cases b with
  | false=>exact Z5 ⟨_,rfl,S,k3,next (by rw[v];cases t.named<;>simp)⟩
  | true =>
   refine Z6 ?_;refine⟨_,rfl,_,rfl,W.sl,m,j,.ref ta,rfl,rfl,ZD.of G,Yl M,ta,_,3,u4,rfl,rfl,ZJ.of J,rfl,?_⟩;cases hn:t.named with
   | none =>
    rw[hn] at h4 v;cases h4;exact⟨rfl,_,rfl,Z5 ⟨_,rfl,S,k3,next v⟩⟩
   | some o =>
    rw[hn] at h4 v;obtain⟨oc,on⟩:=o;obtain⟨d,b5,rfl,hd,⟨y1,r1,rfl,f1,⟨y2,r2,rfl,f2,f3⟩⟩⟩:=h4;cases f1;cases f2;cases f3;refine⟨rfl,_,rfl,Z6 ?_⟩;refine⟨_,rfl,_,rfl,W.sl,m,j,.ref ta,rfl,rfl,ZD.of G,Yl M,ta,_,3,.ref d,rfl,rfl,ZJ.of J,rfl,d,_,1,.str on,rfl,rfl,ZJ.of hd,rfl,_,rfl,rfl,_,rfl,Zv (λz=>?_) (λz=>?_)⟩
    .have z:on=n:=by injection z
     have e:Vz (Ze a).2 n=true:=fors_iff.mpr ⟨j,by lia,by rw[v];simp[z]⟩;have:=k Y S;rw[e] at this;exact b1 _ _ this
    .exact⟨_,rfl,S,k3,next (by rw[v];simp;exact λy=>z (by rw[y]))⟩
 .rintro L Y ⟨v9,rfl,S,k3,no⟩;refine b0 _ _ ?_;have e:Vz (Ze a).2 n=false:=by
   cases e:Vz (Ze a).2 n with
   | false=>rfl
   | true =>
    obtain⟨i,hi,F⟩:=fors_iff.mp e;rw[no i (by lia)] at F;cases F
  have:=k Y S
  rwa [e] at this
theorem Ef(a:List AU):∀k b i,(Yd a i b).1.drop k=(Yd a (i+k) (b.drop k)).1
 | 0,b,i=>rfl
 | k+1,[],i=>by rw[List.drop_nil,Yd,Yd,List.drop_nil]
 | k+1,t::r,i=>by
  rw[Yd,List.drop_succ_cons,List.drop_succ_cons,Ef a k r (i+1)];have:i+1+k=i+(k+1):=by lia
  rw[this]
theorem Hi(a:List AU)(x:AU):∀(r:List ZS)(i:Nat),x∈(Yd a i r).2↔x∈a\/∃(j:Nat)(t:ZS),r[j]?=some t/\(Yd a i r).1[j]?=some true/\t.named=some x
 | [],i=>by rw[Yd];exact⟨.inl,λh=>h.elim id λ⟨j,t,e,_,_⟩=>by simp at e⟩
 | t::r,i=>by
  have g:=Hi a x r (i+1);rw[Yd];generalize decide (0<=Th (λc n=>decide ((c,n)∈(Yd a (i+1) r).2)) i t)=b;dsimp only;have d:(∃(j:Nat)(u:ZS),(t::r)[j]?=some u/\(b::(Yd a (i+1) r).1)[j]?=some true/\u.named=some x)↔(b=true/\t.named=some x)\/∃(j:Nat)(u:ZS),r[j]?=some u/\(Yd a (i+1) r).1[j]?=some true/\u.named=some x:=by
   constructor
   .rintro⟨j,u,a,c,f⟩;cases j with
    | zero =>
     have a:some t=some u:=a;have c:some b=some true:=c;cases a;exact .inl ⟨ma c,f⟩
    | succ j=>exact .inr ⟨j,u,a,c,f⟩
   .rintro(⟨rfl,e⟩ | ⟨j,u,a,c,f⟩)
    .exact⟨0,t,rfl,rfl,e⟩
    .exact⟨j+1,u,a,c,f⟩
  rw[d];cases b with
  | false =>
   rw[if_neg xN,g];exact⟨λh=>h.imp id .inr,λh=>h.imp id λz=>z.elim (λq=>nomatch q.1) id⟩
  | true =>
   rw[if_pos rfl,xJ,g,Option.mem_toList];constructor
   .grind
   .grind
theorem cS{b:List ZS}{c:Nat}{t:ZS}(d:b[c]?=some t):∃br:Int->Str->Bool,(∀n,br c n=true↔LH (Yd [] 0 b).1 b c n)/\(Yd [] 0 b).1[c]?=some (decide (0<=Th br c t)):=by
 have a:=(xI.mp d).1;have f:b.drop c=t::b.drop (c+1):=by
  have:=zQ a;rw[this];have e:=xB a;rw[d] at e;rw[ma e]
 refine⟨λa n=>decide ((a,n)∈(Yd [] (c+1) (b.drop (c+1))).2),λn=>?_,?_⟩
 .rw[wM,Hi];have a:=Ef [] (c+1) b 0;rw[Nat.zero_add] at a;rw[<- a];constructor
  .rintro(h | ⟨j,u,a,d,e⟩)
   .cases h
   .rw[wL] at a d;exact⟨c+1+j,u,by lia,a,d,e⟩
  .rintro⟨j,u,g,a,d,e⟩;refine .inr ⟨j - (c+1),u,?_,?_,e⟩
   .rw[wL,show c+1+(j - (c+1))=j by lia];exact a
   .rw[wL,show c+1+(j - (c+1))=j by lia];exact d
 .have a:=Ef [] c b 0;rw[Nat.zero_add,f,Yd] at a;have:(Yd [] 0 b).1[c]?=((Yd [] 0 b).1.drop c)[0]?:=by rw[wL,Nat.add_zero]
  rw[this,a];rfl
theorem HI{br:Int->Str->Bool}{c:Int}{a:Vd}{i:Nat}{p:Str×Int}(h:a[i]?=some p):Uo br c (a.take (i+1))=Uo br c (a.take i)+(if br c p.1 then 0 else p.2):=by
 unfold Uo wts;rw[Gh h,xM,List.sum_append];cases br c p.1<;>simp
theorem Nt(m:Nat)(d:n=m)(Pv:Nat->List V->Hp->Prop)(b:Pv 0 [] H)(e:m<=1000000)(a:∀i ys H,Pv i ys H->ys.length<=i)(step:∀i ys H,i<m->Pv i ys H->V1 nl fv g tt te (.int (lo+i)) H (λy Y=>Pv (i+1) (ys ++ [y]) Y) λY=>Pv (i+1) ys Y)(c:∀ys H,Pv m ys H->∀l,H l=none->Q (.ref l) (upd H l (.lst ys))):Ux (Jn lo n) nl fv g tt te Q H:=by
 subst d;exact FE Pv b e a step c
theorem D9{a:List (Option V)}(h:a.length=1):∃w,a=[w]:=by
 match a,h with
 | [w],_=>exact⟨w,rfl⟩
def Jw(H:Hp)(bs:List Bool)(e:List ZS)(c k:Nat)(vs:aG):Prop :=
 (∀v∈vs,v=.non\/∃a b d,v=.ref a/\H a=some (.tup [.int b,.str d]))/\∀n:Str,(∃a,V.ref a∈vs/\H a=some (.tup [.int c,.str n]))↔∃j t,c<j/\j<k/\e[j]?=some t/\bs[j]?=some true/\t.named=some ((c:Int),n)
theorem Jw.mono(h:Jw H bs ss c k vs)(S:ZA H Y):Jw Y bs ss c k vs:=by
 refine⟨λv a=>(h.1 v a).imp id λ⟨a,b,d,e,x⟩=>⟨a,b,d,e,S _ _ x⟩,λn=>?_⟩;rw[<- h.2 n];constructor
 .rintro⟨a,m,e⟩;rcases h.1 _ m with z | ⟨a2,b,d,z,x⟩
  .cases z
  .cases z;rw[S _ _ x] at e;exact⟨a,m,by rw[x];exact e⟩
 .rintro⟨a,m,e⟩;exact⟨a,m,S _ _ e⟩
theorem Jw.skip(h:Jw H bs ss c k vs)(g:bs[k]?=some false):Jw H bs ss c (k+1) vs:=by
 refine⟨h.1,λn=>?_⟩;rw[h.2 n];constructor
 .rintro⟨j,t,a,b,r,d,e⟩;exact⟨j,t,a,by lia,r,d,e⟩
 .rintro⟨j,t,a,b,e,d,f⟩;refine⟨j,t,a,?_,e,d,f⟩
  by_cases z:j=k
  .subst z;rw[g] at d;cases d
  .lia
theorem Jw.add(h:Jw H bs ss c k vs)(B:c<k)(s:ss[k]?=some t)(A:bs[k]?=some true)(e:YE H (AX t.named) u):Jw H bs ss c (k+1) (vs ++ [u]):=by
 have g:(u=.non/\t.named=none)\/∃a b f,u=.ref a/\H a=some (.tup [.int b,.str f])/\t.named=some (b,f):=by
  cases i:t.named with
  | none=>rw[i] at e;cases e;exact .inl ⟨rfl,rfl⟩
  | some o =>
   rw[i] at e;obtain⟨b,f⟩:=o;obtain⟨d,j,rfl,p,⟨r,o,rfl,l,⟨v,w,rfl,m,n⟩⟩⟩:=e;cases l;cases m;cases n;exact .inr ⟨d,b,f,rfl,p,rfl⟩
 refine⟨λv d=>?_,λn=>?_⟩
 .rcases xJ.mp d with z | z
  .exact h.1 v z
  .cases xP.mp z;exact g.imp (·.1) λ⟨a,b,f,e,x,_⟩=>⟨a,b,f,e,x⟩
 .constructor
  .rintro⟨a,m,e⟩;rcases xJ.mp m with z | z
   .obtain⟨j,p,l,v,r,o,w⟩:=(h.2 n).mp ⟨a,z,e⟩;exact⟨j,p,l,by lia,r,o,w⟩
   .have z:=xP.mp z;rcases g with⟨y,_⟩ | ⟨a',b,f,y,x,i⟩
    .rw[y] at z;cases z
    .rw[y] at z;cases z;rw[x] at e;cases e;exact⟨k,t,B,by lia,s,A,i⟩
  .rintro⟨j,p,l,v,o,r,d⟩
   by_cases z:j=k
   .subst z;rw[s] at o;cases o;rcases g with⟨_,y⟩ | ⟨a',b,f,y,x,i⟩
    .rw[y] at d;cases d
    .rw[i] at d;cases d;exact⟨a',by rw[y];simp,x⟩
   .obtain⟨a,m,e⟩:=(h.2 n).mpr ⟨j,p,l,by lia,o,r,d⟩;exact⟨a,yN _ m,e⟩
abbrev Ai:Stmt:=top 79
theorem HH:ZM lr lU (Zm Ai):=fsc
theorem Sy:Nm (Zm Ai) "_law_lost_here" .local:=aA
theorem Cj:Nm (Zm Ai) "_law_suits" .cell:=aA
theorem CI:Nm (Zm Ai) "_law_told" .cell:=aA
theorem NQ:Nm (Zm Ai) "range" .globalImplicit:=aA
theorem X0:Nm (Zm Ai) "reversed" .globalImplicit:=aA
theorem RT(a:YA K mg "_law_settled" Ai)(T:Txt mg):Fn P w K mg Z "_law_settled" lU 3 WJ:=by
 refine a.fq lr λH a Q E b h=>?_;obtain⟨l,f,rfl,k,a,q⟩:=h
 refine⟨rfl,_,(Zd (Es (i:=1) HH.nd CI (Zu KM (Yb (Za Jf Zb)) (Z0 Ym T.len Yh (Za (qvC 0 Cj) Zb)))) (Zd (Wi mW rfl (cI X0.1 T.reversed NQ.1 T.range (Za (Z0 Ym T.len Yh (Za (qvC 0 Cj) Zb)) Zb)) (Yi 2) (Zd (Ul (Zh Z7 (qvC 0 Cj) Qa) (Bl (by rfl) (Yv (Yi 3) (Yv (Yi 4) (Yv (Yi 5) (Yv (Yi 6) Ub))))))
 (Zd (Bu (locs:=["_law_later"]) (fr:=[("_law_suits", 0),("_law_told", 1)]) ⟨rfl,aA,aA,aA,aA,aA⟩ (.ij Cj (.ij CI .nil)) rfl (Ko T.range (Za (Zu Y9 Qa Zc) (Za (Z0 Ym T.len Yh (Za (qvC 0 Cj) Zb)) Zb))) ⟨λ_ _ _ _ _ _=>by
  have a:(inN ["_law_later"] [("_law_suits", 0),("_law_told", 1)]).Nodup:=aA
  exact⟨(Wb 0 a),(JO (Vi (Zh JX (Wn 2) (Yp 0)))),(Zh JN (Zh JX (Wn 1) (Yp 0)) Zc)⟩⟩ HH.nd Sy (by rfl) (i:=7))
 (Zd (Zx 8 (Zu Vy Zc Qd))
 (Zd (Wi mW rfl (Yz Qb) (Bl (by rfl) (Yv (Yi 9) (Yv (Yi 10) Ub)))
 (Zg (Zq (Zk (HX b) (Yj (Za Qa (Za (qvN 9) Zb))) Qf rfl) (Zg (Zx 8 (Zu Y9 Qg (qvN 10)))) Zp)))
 (Zd (Wi mW rfl (Yz Qc) (Bl (by rfl) (Yv (Yi 9) (Yv (Yi 10) Ub)))
 (Zg (Zq (Zk (HX b) (Yj (Za Qa (Za (qvN 9) Zb))) Qf rfl) (Zg (Zx 8 (Zu Vy Qg (qvN 10)))) Zp)))
 (Zg (Ul (JF Ji Qg Zc (Zn _)) (A0 (qvC 1 CI) Qa A5)))))))))
 (Zg (Zw (qvC 1 CI))))),?_⟩
 have Q:(2000000:Nat)<=sizeLine:=by decide
 obtain⟨c,j,a⟩:=id k;have d:c.length=f.length:=by rw[a.length,xA]
 refine Ye λa g=>?_;refine⟨aB rfl,λi a=>?_⟩;have e:=ZA.new (o:=.lst [.bl false]) a;refine⟨_,rfl,l,c,rfl,.inl (ZD.of (e _ _ j)),i,_,_,rfl,rfl,Zj,by lia,by lia,?_,λr b=>?_⟩
 .show 1 * _<=_;lia
 have m:=ZA.new (o:=.lst (List.replicate (c.length:Int).toNat [V.bl false]).flatten) b;have n:(upd (upd H i (.lst [.bl false])) r (.lst (List.replicate (c.length:Int).toNat [V.bl false]).flatten)) r=some (.lst ((List.replicate f.length false).map V.bl)):=by
  rw[Zj,d,yH,List.flatten_replicate_singleton,List.map_replicate]
 have a:=e.trans m;have p:H r=none:=e.free b;generalize (upd (upd H i (.lst [.bl false])) r (.lst (List.replicate (c.length:Int).toNat [V.bl false]).flatten))=m at n a |-;refine Z9 (g _ _ ?_);have N:∀{Y:Hp},ZF r m Y->ZA H Y:=λ{Y} E b o e=>E b o (Zo e p) (a _ _ e);refine Ye λg a1=>?_;refine⟨_,rfl,l,c,rfl,.inl (ZD.of (a _ _ j)),f.length,by rw[d],by lia,?_⟩;refine Ke f.length rfl (λi L Y=>∃(v2 v3 v4 v5 v6 v7 v8 o d:Option V)(u:List Bool),L=[some (.ref l),some (.ref r),v2,v3,v4,v5,v6,v7,v8,o,d]/\Y r=some (.lst (u.map V.bl))/\u.length=f.length/\(∀j,f.length - i<=j->u[j]?=(Yd [] 0 f).1[j]?)/\ZF r m Y)
  ⟨none,none,none,none,none,none,none,none,none,List.replicate f.length false,rfl,n,zX,(λj hj=>by rw[wP (by rw[zX];lia),wP (by rw[Cf];lia)]),ZF.refl⟩ ?_ ?_
 .rintro i L Y c a;refine opq λc a3 _ _ _=>?_;obtain⟨v2,v3,v4,v5,v6,v7,v8,o,d,u,rfl,g,C,A,E⟩:=a;obtain⟨c,a⟩:∃c,c=f.length - 1 - i:=⟨_,rfl⟩;have a:(f.length:Int) - 1 - (i:Nat)=((c:Nat):Int):=by lia
  rw[a];have a:c<f.length:=by lia
  obtain⟨t,v⟩:∃t,f[c]?=some t:=⟨_,xB a⟩;obtain⟨s,X,a⟩:=cS v;have p:=k.mono (N E);obtain⟨k,m,a⟩:=id p;have n:k.length=f.length:=by rw[a.length,xA]
  obtain⟨x,B,F,u4,y,n,⟨R,w1,rfl,J,G⟩,⟨U,w2,rfl,M,H⟩,z⟩:=ZN.get (l:=l) a v;refine Ye λv a=>?_;refine⟨_,rfl,_,rfl,l,k,c,.ref x,rfl,rfl,ZD.of m,Yl y,x,_,rfl,ZJ.of n,rfl,_,_,rfl,_,_,rfl,_,_,rfl,_,_,rfl,rfl,a _ _ ?_⟩;refine Ye λa a2=>?_;refine⟨_,rfl,_,_,rfl,rfl,_,rfl,l,k,rfl,.inl (ZD.of m),_,_,rfl,⟨by lia,by lia,by lia,by lia⟩,?_⟩;refine Nt (f.length - (c+1)) (by lia) (λk B F=>ZA Y F/\Jw F u f c (c+1+k) B/\B.length<=k) ⟨ZA.refl _,⟨(λv a=>nomatch a),λn=>⟨(λ⟨a,m,_⟩=>nomatch m),λ⟨j,t,x,y,_,_,_⟩=>by lia⟩⟩,xF _⟩ (by lia) (λk B F h=>h.2.2) ?_ ?_
  .rintro k B F y ⟨z,m,yl⟩ I v;obtain⟨y,rfl⟩:=D9 v;have v:((c:Int)+1+(k:Nat))=((c+1+k:Nat):Int):=by lia
   rw[v];obtain⟨v,I⟩:∃t,f[c+1+k]?=some t:=⟨_,xB (by lia)⟩;obtain⟨b,v⟩:∃b,u[c+1+k]?=some b:=⟨_,xB (by lia)⟩;obtain⟨a6,a0,y⟩:=p.mono z;obtain⟨O,_,_,a5,a4,p,_,_,W⟩:=ZN.get (l:=l) y I;refine⟨⟨[_],rfl,rfl⟩,?_⟩;refine⟨_,rfl,_,rfl,r,_,(c+1+k:Nat),.bl b,rfl,rfl,ZD.of (z _ _ g),Yl (by rw[xC,v];rfl),b,rfl,?_⟩;cases b with
   | false=>exact Z5 ⟨z,m.skip v,by lia⟩
   | true=>exact Z6 ⟨_,rfl,_,rfl,l,a6,(c+1+k:Nat),.ref O,rfl,rfl,ZD.of a0,Yl a4,O,_,3,a5,rfl,rfl,ZJ.of p,rfl,z,m.add (by lia) I v W,by rw[xE];show _+1<=_;lia⟩
  rintro B F ⟨z,m,yl⟩ lo k;refine nw (o:=.lst B) k λO p k3=>?_;have I:=m.mono p;rw[show c+1+(f.length - (c+1))=f.length by lia] at I;have k:=z.trans p;have F:∀{y:Hp}(S:ZA O y) (z:Bool) (n:Str),(z=true↔∃a,V.ref a∈B/\y a=some (.tup [.int c,.str n]))->z=s c n:=λ{y} S z n h=>by
   have e:z=true↔s c n=true:=by
    rw[h,(I.mono S).2 n,X];unfold LH;constructor
    .rintro⟨j,t,h,p,a,m,n⟩;exact⟨j,t,h,a,by rw[<- A j (by lia)];exact m,n⟩
    .rintro⟨j,t,h,a,m,n⟩;exact⟨j,t,h,(xI.mp a).1,a,by rw[A j (by lia)];exact m,n⟩
   exact zB.mpr e
  refine Z9 (a2 _ _ ?_);refine Ye λh a=>?_;refine⟨_,rfl,_,_,rfl,rfl,a _ _ ?_⟩;refine Ye λa W=>?_;refine⟨_,rfl,R,rfl,⟨_,ZD.of (k _ _ J)⟩,?_⟩;refine Vl w1 (λi L Y=>∃o d,L=[some (.ref l),some (.ref r),some (.int c),some (.ref R),some (.ref U),some (.int t.need),some u4,some (.ref lo),some (.int (0 - t.need+Uo s c (t.ones.take i))),o,d]/\ZA O Y) ⟨o,d,by unfold Uo wts keep;rw[List.take_zero,List.filter_nil,wO,List.sum_nil,Int.add_zero];rfl,ZA.refl _⟩ (λi L Y _ ⟨_,_,_,e⟩=>ZD.of (e _ _ (k _ _ J))) ?_ ?_
  .rintro i x L y hx ⟨o,d,rfl,h⟩;obtain⟨p,b,J,rfl,v⟩:=G.get hx;refine⟨b,_,rfl,ZJ.of (h _ _ (k _ _ v)),rfl,_,_,rfl,_,_,rfl,rfl,?_⟩;refine⟨_,rfl,_,rfl,aB rfl,λq X=>?_⟩;refine nw (o:=.tup [.int c,.str p.1]) X λH5 n k5=>?_;have a:=h.trans n;refine⟨_,rfl,q,lo,c,p.1,B,rfl,k5,rfl,ZD.of (a _ _ k3),(I.mono a).1,λz Q=>?_⟩;have e:=F a z p.1 Q;have m:=HI (br:=s) (c:=c) J;rw[<- e] at m;refine⟨_,rfl,?_⟩;cases z with
   | true=>exact Z5 ⟨_,_,by rw[m,if_pos rfl,Int.add_zero];rfl,a⟩
   | false=>exact Z6 ⟨_,rfl,_,rfl,_,_,rfl,rfl,_,_,by rw[m,if_neg xN,<- Int.add_assoc];rfl,a⟩
  rintro L y ⟨o,d,rfl,h⟩;rw[G.len,xT];refine W _ _ ?_;refine Ye λW G=>?_;refine⟨_,rfl,U,rfl,⟨_,ZD.of (h _ _ (k _ _ M))⟩,?_⟩;refine Vl w2 (λi L Y=>∃o d,L=[some (.ref l),some (.ref r),some (.int c),some (.ref R),some (.ref U),some (.int t.need),some u4,some (.ref lo),some (.int (0 - t.need+Uo s c t.ones - Uo s c (t.others.take i))),o,d]/\ZA O Y) ⟨o,d,by unfold Uo wts keep;rw[List.take_zero,List.filter_nil,wO,List.sum_nil,Int.sub_zero],h⟩ (λi L Y _ ⟨_,_,_,e⟩=>ZD.of (e _ _ (k _ _ M))) ?_ ?_
  .rintro i x L y hx ⟨o,d,rfl,h⟩;obtain⟨p,b,J,rfl,v⟩:=H.get hx;refine⟨b,_,rfl,ZJ.of (h _ _ (k _ _ v)),rfl,_,_,rfl,_,_,rfl,rfl,?_⟩;refine⟨_,rfl,_,rfl,aB rfl,λq X=>?_⟩;refine nw (o:=.tup [.int c,.str p.1]) X λH5 n k5=>?_;have a:=h.trans n;refine⟨_,rfl,q,lo,c,p.1,B,rfl,k5,rfl,ZD.of (a _ _ k3),(I.mono a).1,λz Q=>?_⟩;have e:=F a z p.1 Q;have m:=HI (br:=s) (c:=c) J;rw[<- e] at m;refine⟨_,rfl,?_⟩;cases z with
   | true=>exact Z5 ⟨_,_,by rw[m,if_pos rfl,Int.add_zero];rfl,a⟩
   | false=>exact Z6 ⟨_,rfl,_,rfl,_,_,rfl,rfl,_,_,by rw[m,if_neg xN,<- Int.sub_sub];rfl,a⟩
  rintro L H5 ⟨o,d,rfl,n⟩;rw[H.len,xT,show 0 - t.need+Uo s c t.ones - Uo s c t.others=Th s c t by unfold Th;lia];refine G _ _ ?_;have a:=k.trans n;refine⟨_,rfl,_,_,rfl,rfl,_,rfl,_,rfl,r,_,_,c,rfl,rfl,a _ _ g,?_,?_⟩
  .unfold ixN;rw[xA,C,if_pos (by lia),if_pos (by lia),yH]
  .refine a3 _ _ ⟨_,_,_,_,_,_,_,_,_,u.set c (decide (0<=Th s c t)),rfl,?_,by rw[wK];exact C,λj hj=>?_,(E.trans a.x).trans ZF.upd⟩
   .rw[Zj,List.map_set]
   .grind
 .rintro L Y ⟨v2,v3,v4,v5,v6,v7,v8,o,d,u,rfl,g,C,A,E⟩;have a:u=(Yd [] 0 f).1:=List.ext_getElem? λj=>A j (by lia);rw[a] at g;exact a1 _ _ ⟨_,rfl,q r Y g (N E)⟩
theorem Prs.snoc(e:H a=some (.tup [.int p.1,.str p.2])):∀{c:List (Int×Str)}{vs:aG},Jx H c vs->Jx H (c ++ [p]) (vs ++ [.ref a])
 | [],_,h=>by cases h;exact⟨a,[],rfl,e,rfl⟩
 | _::_,_,⟨b,r,rfl,h1,h2⟩=>⟨b,r ++ [.ref a],rfl,h1,Prs.snoc e h2⟩
theorem Prs.mono(S:ZA H Y):∀{a:List (Int×Str)}{vs:aG},Jx H a vs->Jx Y a vs
 | [],_,h=>h
 | _::_,_,⟨b,r,e,h1,h2⟩=>⟨b,r,e,S _ _ h1,Prs.mono S h2⟩
inductive T8(vs:aG)(H:Hp)(Q:VK)(a:XK):Prop
 |mk(l:gF) (a:List ZS)(_:vs=[.ref l])(_:ZN H a l)(_:a.length<=1000)(_:∀(b:gF)(d:aG)(c:List (Int×Str))(Y:Hp),Y b=some (.lst d)->Jx Y c d->(∀p,p∈c↔∃(i:Nat)(t:ZS),i<a.length/\a[i]?=some t/\(Yd [] 0 a).1[i]?=some true/\t.named=some p)->ZA H Y->Q (.ref b) Y)
abbrev C8:Stmt:=top 80
theorem NZ:ZM ["_law_suits","_law_told"] lU (Zm C8):=fsc
theorem EW:Nm (Zm C8) "_law_suits" .cell:=aA
theorem KP:Nm (Zm C8) "_law_told" .cell:=aA
theorem Pk(b:YA K mg "_law_lost" C8)(T:Txt mg)(a:Fn P w K mg Z "_law_settled" lU 3 WJ):Fn P w K mg Z "_law_lost" lU 4 T8:=by
 refine b.fq ["_law_suits","_law_told"] λH c Q E b h=>?_;obtain⟨l,d,rfl,c,b,q⟩:=h
 refine⟨rfl,_,(Zd (Es (i:=1) NZ.nd KP (Zl a (Za (qvC 0 EW) Zb))) (Zg (Zw (Vu (locs:=["_law_case"]) (fr:=[("_law_suits", 0),("_law_told", 1)]) ⟨rfl,aA,aA,aA,aA,aA⟩ (.ij EW (.ij KP .nil)) rfl (Aw T.range (Za (Z0 Ym T.len Yh (Za (qvC 0 EW) Zb)) Zb)) ⟨λ_ _ _ _ _ _=>by
  have a:(inN ["_law_case"] [("_law_suits", 0),("_law_told", 1)]).Nodup:=aA
  exact⟨(Wb 0 a),(JO (QW.pt (Wz (Vi (Zh JX (Wn 2) (Yp 0))) (Vx (Zk TV (Zh JN (Zh JX (Wn 1) (Yp 0)) Zc) Y3 (Zn _)))))),(Zh JN (Zh JX (Wn 1) (Yp 0)) Zc)⟩⟩)))),?_⟩
 have a:(2000000:Nat)<=sizeLine:=by decide
 refine Ye λe a=>?_;refine⟨_,rfl,l,d,rfl,c,b,λM s L F=>Z9 (a _ _ ?_)⟩;have a:=Cf [] d 0;generalize (Yd [] 0 d).1=r at L a q;obtain⟨e,f,a⟩:=c.mono F;have b:e.length=d.length:=by rw[a.length,xA]
 refine⟨_,rfl,l,e,rfl,.inl (ZD.of f),d.length,by rw[b],by lia,by lia,?_⟩;refine FE (λk f m=>ZA s m/\f.length<=k/\∃a,Jx m a f/\∀p,p∈a↔∃(i:Nat)(t:ZS),i<k/\d[i]?=some t/\r[i]?=some true/\t.named=some p) ⟨ZA.refl _,xF _,[],rfl,λp=>⟨(λz=>nomatch z),λ⟨i,t,z,_,_,_⟩=>by lia⟩⟩ (by lia) (λk f m h=>h.2.1) ?_ ?_
 .rintro k f m e ⟨n,R,a,B,A⟩ g b;obtain⟨g,rfl⟩:=D9 b;obtain⟨H,j⟩:∃t,d[k]?=some t:=⟨_,xB e⟩;obtain⟨b,J⟩:∃b,r[k]?=some b:=⟨_,xB (by lia)⟩;obtain⟨x,u,h⟩:=(c.mono F).mono n;obtain⟨e,_,_,I,v,g,_,_,c⟩:=ZN.get (l:=l) h j;rw[show ((0:Int)+(k:Nat))=((k:Nat):Int) by lia];have o:(b=false\/H.named=none)->∀h,ZA m h->ZA s h/\f.length<=k+1/\∃a,Jx h a f/\∀p,p∈a↔∃(i:Nat)(t:ZS),i<k+1/\d[i]?=some t/\r[i]?=some true/\t.named=some p:=λr h d=>by
   refine⟨n.trans d,by lia,a,Prs.mono d B,λp=>(A p).trans ⟨λ⟨i,t,z,r,C,E⟩=>⟨i,t,by lia,r,C,E⟩,λ⟨i,t,z,h,G,s⟩=>⟨i,t,?_,h,G,s⟩⟩⟩
   by_cases y:i=k
   .grind
   .lia
  refine⟨⟨[_],rfl,rfl⟩,?_⟩;refine⟨_,rfl,_,rfl,M,_,(k:Nat),.bl b,rfl,rfl,ZD.of (n _ _ L),Yl (by rw[xC,J];rfl),b,rfl,?_⟩;cases b with
  | false=>exact Z5 (o (.inl rfl) _ (ZA.refl _))
  | true =>
   refine Z6 ⟨_,rfl,_,rfl,l,x,(k:Nat),.ref e,rfl,rfl,ZD.of u,Yl v,e,_,3,I,rfl,rfl,ZJ.of g,rfl,?_⟩;cases b:H.named with
   | none =>
    rw[b] at c;cases c;exact⟨rfl,_,rfl,Z5 (o (.inr b) _ (ZA.refl _))⟩
   | some o =>
    rw[b] at c;obtain⟨O,Q⟩:=o;obtain⟨d,o,rfl,N,⟨S,C,rfl,I,⟨U,E,rfl,L,M⟩⟩⟩:=c;cases I;cases L;cases M;refine⟨rfl,_,rfl,Z6 ⟨_,rfl,_,rfl,l,x,(k:Nat),.ref e,rfl,rfl,ZD.of u,Yl v,e,_,3,.ref d,rfl,rfl,ZJ.of g,rfl,n,by rw[xE];show _+1<=_;lia,a ++ [(O,Q)],Prs.snoc N B,λp=>?_⟩⟩;rw[xJ,A p,xP];constructor
    .rintro(⟨i,t,z,r,C,E⟩ | rfl)
     .exact⟨i,t,by lia,r,C,E⟩
     .exact⟨k,H,by lia,j,J,b⟩
    .rintro⟨i,t,z,h,G,s⟩
     by_cases y:i=k
     .subst y;rw[j] at h;cases h;rw[b] at s;cases s;exact .inr rfl
     .exact .inl ⟨i,t,by lia,h,G,s⟩
 rintro f m ⟨n,R,a,B,A⟩ lo b;have c:=ZA.new (o:=.lst f) b;exact q lo f a _ Zj (Prs.mono c B) A ((F.trans n).trans c)
def Tb(H:Hp)(q:gF)(d:CD)(day need:Int)(c e:fZ):Prop:=∃a b,H q=some (.tup (cdV day need a b d))/\H a=some (.lst (c.map V.str))/\H b=some (.lst (e.map V.str))/\c.length<=60/\e.length<=60
theorem Tb.mono{q:gF}(h:Tb H q d day need o1 o2)(k:ZA H Y):Tb Y q d day need o1 o2:=let ⟨g,i,a,b,c,e,f⟩:=h;⟨g,i,k _ _ a,k _ _ b,k _ _ c,e,f⟩
def wdC:CD->Str
 | .wer .. => "wergild"
 | .clm .. => "claim"
 | .acc .. => "accuse"
theorem Hk(day need:Int)(l1 l2:gF)(d:CD):atI (cdV day need l1 l2 d) 0=some (.str (wdC d)):=by cases d<;>rfl
def ppl(a b:fZ):CD->List Str
 | .wer x y _=>[x,y]++a++b
 | .clm x _=>[x]++a++b
 | .acc ..=>a++b
inductive VJ(vs:aG)(H:Hp)(Q:VK)(a:XK):Prop
 |mk(q) (d) (day need) (o1 o2)(_:vs=[.ref q])(_:Tb H q d day need o1 o2)(_:∀l Y,Y l=some (.lst ((ppl o1 o2 d).map V.str))->ZA H Y->Q (.ref l) Y)
theorem Al{a b:gF}{J ys:fZ}{H:Hp}{Q:VK}(d:H a=some (.lst (J.map V.str)))(e:H b=some (.lst (ys.map V.str)))(c:J.length+ys.length<=1000)(k:∀l Y,Y l=some (.lst ((J++ys).map V.str))->ZA H Y->Q (.ref l) Y):A4 (.ref a) (.ref b) H Q :=
 ⟨a,b,_,_,rfl,rfl,d,e,by rw[xA,xA];exact xZ c aA,λl c=>k l _ (by rw[Zj,xM]) (ZA.new c)⟩
abbrev KQ:Stmt:=top 82
theorem SC(a:YA K mg "_law_folk_of" KQ)(T:Txt mg):Fn P w K mg Z "_law_folk_of" lp 1 VJ:=by
 refine a.fq lp λH b Q E a h=>?_;obtain⟨q,d,c,b,m,n,rfl,⟨i,l,a,g,j,e,f⟩,k⟩:=h;refine⟨rfl,_,(Zd (Zq (Zk Yk (Zh Zi Q0 Zc) Zt (Zn _)) (Zg (Zw (Zu Wj (Zu Wj (Yb (Za (Zh Zi Q0 Zc) Zb)) (Zh Zi Q0 (Yw Yx Zc))) (Zh Zi Q0 (Yw Yx Zc))))) Zp) (Zd (Zq (Zk Yk (Zh Zi Q0 Zc) Zt (Zn _)) (Zg (Zw (Zu Wj (Zu Wj (Yb (Za (Zh Zi Q0 Zc) (Za (Zh Zi Q0 Zc) Zb))) (Zh Zi Q0 (Yw Yx Zc))) (Zh Zi Q0 (Yw Yx Zc))))) Zp) (Zg (Zw (Zu Wj (Zh Zi Q0 (Yw Yx Zc)) (Zh Zi Q0 (Yw Yx Zc))))))),?_⟩;have b:(1000:Nat)<=sizeLine:=by decide
 cases d with
 | clm x i =>
  refine⟨_,rfl,q,_,0,_,rfl,rfl,ZJ.of a,rfl,rfl,_,rfl,Zv (λ_=>?_) (λz=>absurd rfl z)⟩;refine⟨_,rfl,q,_,1,_,rfl,rfl,ZJ.of a,rfl,aB rfl,λs c=>?_⟩;refine nw (o:=.lst ([x].map V.str)) c λp b h=>?_;refine⟨_,rfl,_,rfl,q,_,-2,_,rfl,rfl,ZJ.of (b _ _ a),rfl,Al h (b _ _ g) (by show 1+_<=_;lia) λt r l e=>?_⟩;have S:=b.trans e;exact⟨_,rfl,_,rfl,q,_,-1,_,rfl,rfl,ZJ.of (S _ _ a),rfl,Al l (S _ _ j) (by rw[xE];show 1+_+_<=_;lia) λn d m f=>k n d m (S.trans f)⟩
 | wer x y i =>
  refine⟨_,rfl,q,_,0,_,rfl,rfl,ZJ.of a,rfl,rfl,_,rfl,Zv (λz=>absurd z aA) (λ_=>?_)⟩;dsimp only [Yy];refine⟨_,rfl,q,_,0,_,rfl,rfl,ZJ.of a,rfl,rfl,_,rfl,Zv (λ_=>?_) (λz=>absurd rfl z)⟩;refine⟨_,rfl,q,_,1,_,rfl,rfl,ZJ.of a,rfl,_,rfl,q,_,2,_,rfl,rfl,ZJ.of a,rfl,aB rfl,λs c=>?_⟩;refine nw (o:=.lst ([x,y].map V.str)) c λp b h=>?_;refine⟨_,rfl,_,rfl,q,_,-2,_,rfl,rfl,ZJ.of (b _ _ a),rfl,Al h (b _ _ g) (by show 2+_<=_;lia) λt r l e=>?_⟩;have S:=b.trans e;exact⟨_,rfl,_,rfl,q,_,-1,_,rfl,rfl,ZJ.of (S _ _ a),rfl,Al l (S _ _ j) (by rw[xE];show 2+_+_<=_;lia) λn d m f=>k n d m (S.trans f)⟩
 | acc i n =>
  refine⟨_,rfl,q,_,0,_,rfl,rfl,ZJ.of a,rfl,rfl,_,rfl,Zv (λz=>absurd z aA) (λ_=>?_)⟩;dsimp only [Yy];refine⟨_,rfl,q,_,0,_,rfl,rfl,ZJ.of a,rfl,rfl,_,rfl,Zv (λz=>absurd z aA) (λ_=>?_)⟩;dsimp only [Yy];exact⟨_,rfl,_,rfl,q,_,-2,_,rfl,rfl,ZJ.of a,rfl,_,rfl,_,rfl,q,_,-1,_,rfl,rfl,ZJ.of a,rfl,Al g j (by lia) k⟩
section
variable{C CM:gF}
theorem SL:bootBuiltins "ValueError"=some (.type "ValueError"):=aA
abbrev ns12:List Str:=["NoMeasure","Unknown","NoThing","NoCase","NoOath","NotYet","Dead","TooMany","SwornTwice","Forsworn","TooLight","Broken"]
def Ff:Option Str->List Bool
 | none=>[]
 | some x=>ns12.map (λy=>decide (x=y))++[true]
inductive TU(C CM:gF)(vs:aG)(H:Hp)(Q:VK)(b:XK):Prop
 |mk(p) (S) (m) (O) (a) (d) (day need) (l1 l2) (o1 o2) (f)(_:vs=[.ref p,.ref a])(_:YD C CM H p S m O)(_:H a=some (.tup (cdV day need l1 l2 d)))(_:Aq S m H l1 l2 o1 o2 day need f)(_:¬O l1)(_:¬O l2)(_:cdOk d)(_:(∀x,eCD S m day need f o1 o2 d=some x->x∈errs))(_:∀b Y l,YD C CM Y p S (trd (eCD S m day need f o1 o2 d) (m.iq day need f o1 o2 d) m) b->ZZ O H b Y->Y l=some (.lst ((Ff (eCD S m day need f o1 o2 d)).map V.bl))->Q (.ref l) Y)
theorem ZZ.out(s:ZA H H1)(f:ZZ O H1 O' Y):ZZ O H O' Y:=⟨λb o e n=>f.1 _ _ (s _ _ e) n,λb a=>(f.2 b a).imp id λe=>by
 cases z:H b with
 | none=>rfl
 | some o=>rw[s _ _ z] at e;cases e⟩
def bls(x:Str)(l:fZ):List V:=l.map λy=>.bl (decide (x=y))
abbrev K4:Stmt:=top 85
theorem XG(a:YA K mg "_law_kinds" K4)(T:Txt mg)(b:Er K mg c errs)(e:YU P w K mg Z "done" 8 (Sp.or (WU C CM c) (WW C CM c))):Fn P w K mg Z "_law_kinds" lH 9 (TU C CM):=by
 refine a.f0 ["_law_moot","_law_deed_here","_law_kinds_here","e"] λH d Q E a h=>?_;obtain⟨p,S,m,O,a,d,i,g,r,s,t,u,f,rfl,W,x,cs,z,A,y,n,k⟩:=h
 refine⟨rfl,_,(An (QS.q0 (Zx 2 (Yb Zb))) (An (GF DC (λ_ _ n=>(Zg (Zs (Ws n e (Za Q0 (Za Q3 Zb)))))) (Nj 3 DC (b.m) (λa C o e=>(Zd (Zx 2 (Yb (Za (Z0 (Uq e) T.isinstance Vt (Za Qb (Za (Yr (v:=.ref (c "NoMeasure")) (b.g "NoMeasure" aA) rfl) Zb))) (Za (Z0 (Uq e) T.isinstance Vt (Za Qb (Za (Yr (v:=.ref (c "Unknown")) (b.g "Unknown" aA) rfl) Zb))) (Za (Z0 (Uq e) T.isinstance Vt (Za Qb (Za (Yr (v:=.ref (c "NoThing")) (b.g "NoThing" aA) rfl) Zb))) (Za (Z0 (Uq e) T.isinstance Vt (Za Qb (Za (Yr (v:=.ref (c "NoCase")) (b.g "NoCase" aA) rfl) Zb))) Zb))))))
 (Zd (Zx 2 (Zu Wj Qa (Yb (Za (Z0 (Uq e) T.isinstance Vt (Za Qb (Za (Yr (v:=.ref (c "NoOath")) (b.g "NoOath" aA) rfl) Zb))) (Za (Z0 (Uq e) T.isinstance Vt (Za Qb (Za (Yr (v:=.ref (c "NotYet")) (b.g "NotYet" aA) rfl) Zb))) (Za (Z0 (Uq e) T.isinstance Vt (Za Qb (Za (Yr (v:=.ref (c "Dead")) (b.g "Dead" aA) rfl) Zb))) (Za (Z0 (Uq e) T.isinstance Vt (Za Qb (Za (Yr (v:=.ref (c "TooMany")) (b.g "TooMany" aA) rfl) Zb))) Zb)))))))
 (Zd (Zx 2 (Zu Wj Qa (Yb (Za (Z0 (Uq e) T.isinstance Vt (Za Qb (Za (Yr (v:=.ref (c "SwornTwice")) (b.g "SwornTwice" aA) rfl) Zb))) (Za (Z0 (Uq e) T.isinstance Vt (Za Qb (Za (Yr (v:=.ref (c "Forsworn")) (b.g "Forsworn" aA) rfl) Zb))) (Za (Z0 (Uq e) T.isinstance Vt (Za Qb (Za (Yr (v:=.ref (c "TooLight")) (b.g "TooLight" aA) rfl) Zb))) Zb))))))
 (Zg (Zx 2 (Zu Wj Qa (Yb (Za (Z0 (Uq e) T.isinstance Vt (Za Qb (Za (Yr (v:=.ref (c "Broken")) (b.g "Broken" aA) rfl) Zb))) (Za (Z0 (Uq e) T.isinstance Vt (Za Qb (Za (C6 (v:=.ty "ValueError") T.ValueError SL rfl) Zb))) Zb)))))))))) HD))
 (An (QS.q0 (Zw Qa))
 (WT.q0 Zp)))),?_⟩
 have e:(20:Nat)<=sizeLine:=by decide
 refine Ye λh e=>?_;refine⟨aB rfl,λl o=>e _ _ ?_⟩;refine nw (o:=.lst []) o λe h j=>?_;have e:=W.same h;have B:¬O l:=W.out o;refine⟨_,rfl,_,rfl,.inr ⟨p,S,m,O,a,d,i,g,r,s,t,u,f,rfl,e,h _ _ x,⟨cs.ok,cs.hd,h _ _ cs.h1,h _ _ cs.h2,cs.n1,cs.n2,cs.di,cs.ni,cs.hw⟩,z,A,y,?_⟩⟩;cases e:eCD S m i g f t u d with
 | none =>
  rw[e] at k;exact λd Y f a=>⟨_,rfl,k d Y l f (ZZ.out h a) (a.1 _ _ j B)⟩
 | some x =>
  rw[e] at k;have a:=n x e;refine λd i=>⟨_,rfl,true,b.e _ a,Z6 λd=>?_⟩;refine Ye λd e=>?_;refine⟨_,rfl,b.k _ a,_,.inl ⟨_,rfl,b.i _ a _ aA⟩,_,rfl,b.k _ a,_,.inl ⟨_,rfl,b.i _ a _ aA⟩,_,rfl,b.k _ a,_,.inl ⟨_,rfl,b.i _ a _ aA⟩,_,rfl,b.k _ a,_,.inl ⟨_,rfl,b.i _ a _ aA⟩,aB rfl,λr d=>e _ _ ?_⟩;refine nw (o:=.lst (bls x lJ)) d λd j g=>?_;refine Ye λd e=>?_;refine⟨_,rfl,_,rfl,b.k _ a,_,.inl ⟨_,rfl,b.i _ a _ aA⟩,_,rfl,b.k _ a,_,.inl ⟨_,rfl,b.i _ a _ aA⟩,_,rfl,b.k _ a,_,.inl ⟨_,rfl,b.i _ a _ aA⟩,_,rfl,b.k _ a,_,.inl ⟨_,rfl,b.i _ a _ aA⟩,aB rfl,λs d=>?_⟩;refine nw (o:=.lst (bls x lL)) d λl f d=>?_;refine⟨r,s,_,_,rfl,rfl,f _ _ g,d,by show 4+4<=sizeLine;lia,λn d=>e _ _ ?_⟩;refine nw (o:=.lst (bls x lJ++bls x lL)) d λd l m=>?_;refine Ye λd e=>?_;refine⟨_,rfl,_,rfl,b.k _ a,_,.inl ⟨_,rfl,b.i _ a _ aA⟩,_,rfl,b.k _ a,_,.inl ⟨_,rfl,b.i _ a _ aA⟩,_,rfl,b.k _ a,_,.inl ⟨_,rfl,b.i _ a _ aA⟩,aB rfl,λo d=>?_⟩;refine nw (o:=.lst (bls x lQ)) d λp g d=>?_;refine⟨n,o,_,_,rfl,rfl,g _ _ m,d,by show 8+3<=sizeLine;lia,λn d=>e _ _ ?_⟩;refine nw (o:=.lst (bls x lJ++bls x lL++bls x lQ)) d λd e m=>?_;refine⟨_,rfl,_,rfl,b.k _ a,_,.inl ⟨_,rfl,b.i _ a _ aA⟩,_,rfl,b.k _ a,_,.inr ⟨_,rfl,b.v _ a⟩,aB rfl,λb a=>?_⟩;refine nw (o:=.lst [.bl (decide (x="Broken")),.bl true]) a λo d a=>?_;refine⟨n,b,_,_,rfl,rfl,d _ _ m,a,by show 11+2<=sizeLine;lia,λm b=>⟨_,rfl,?_⟩⟩;have a:=(((((((h.trans i).trans j).trans f).trans l).trans g).trans e).trans d).trans (ZA.new (o:=.lst (bls x lJ++bls x lL++bls x lQ ++ [.bl (decide (x="Broken")),.bl true])) b);exact k O _ m (W.same a) (ZZ.same a) Zj
abbrev JJ(o:Option Str):V:=.str (o.getD "")
def okS(o:Option Str):Prop:=∀x,o=some x->x≠("":Str)
theorem EC(h:okS o):(JJ o=.str "")↔o=none:=by
 cases o with
 | none=>exact⟨λ_=>rfl,λ_=>rfl⟩
 | some x=>exact⟨λz=>absurd (by injection z) (h x rfl),λz=>by cases z⟩
inductive Ah(vs:aG)(H:Hp)(Q:VK)(a:XK):Prop
 |mk(o)(_:vs=[JJ o])(_:okS o)(_:∀Y l,ZA H Y->Y l=some (.lst ((Ff o).map V.bl))->Q (.ref l) Y)
abbrev Eg:Stmt:=top 86
theorem Iu:Nm (Zm Eg) "_law_name" .cell:=aA
theorem Xn(a:YA K mg "_law_kinds_of" Eg)(T:Txt mg):Fn P w K mg Z "_law_kinds_of" lG 1 Ah:=by
 refine a.fq ["_law_name","_law_names_here"] λH b Q E a h=>?_;obtain⟨o,rfl,c,k⟩:=h
 refine⟨rfl,_,(Zd (Zq (Zk Yk (qvC 0 Iu) Zt (Zn _)) (Zg (Zw (Yb Zb))) Zp) (Zd (Zx 1 (Yb (Za Zt (Za Zt (Za Zt (Za Zt (Za Zt (Za Zt (Za Zt (Za Zt Zb)))))))))) (Zd (Zx 1 (Zu Wj Q3 (Yb (Za Zt (Za Zt (Za Zt (Za Zt Zb))))))) (Zg (Zw (Zu Wj (Vu (locs:=i8) (fr:=[("_law_name", 0)]) ⟨rfl,aA,aA,aA,aA,aA⟩ (.ij Iu .nil) rfl (Yz Q3) ⟨λ_ _ _ _ _ _=>by
  have a:(inN i8 [("_law_name", 0)]).Nodup:=aA
  exact⟨(Wb 0 a),Uc,(JF Yk (Yp 0) (Wn 1) (Zn _))⟩⟩) (Yb (Za Jf Zb)))))))),?_⟩
 have a:(20:Nat)<=sizeLine:=by decide
 refine V3 λd a b=>?_;refine⟨_,rfl,rfl,_,rfl,Zv (λz=>?_) (λz=>a _ _ ?_)⟩
 .have e:=(EC c).mp z;subst e;exact⟨aB rfl,λl a=>b _ _ (k _ l (ZA.new a) Zj)⟩
 cases o with
 | none=>exact absurd rfl z
 | some s =>
  refine Ye λb c=>?_;refine⟨aB rfl,λh b=>c _ _ ?_⟩;refine nw (o:=.lst ((ns12.take 8).map V.str)) b λb f d=>?_;refine Ye λb c=>?_;refine⟨_,rfl,aB rfl,λi b=>?_⟩;refine nw (o:=.lst ((ns12.drop 8).map V.str)) b λj b g=>?_;refine⟨h,i,_,_,rfl,rfl,b _ _ d,g,by show 8+4<=sizeLine;lia,λl a=>c _ _ ?_⟩;refine nw (o:=.lst (ns12.map V.str)) a λd a c=>?_;have g:=(f.trans b).trans a;refine⟨_,rfl,l,rfl,⟨_,ZD.of c⟩,?_⟩;refine Ui (J:=ns12.map V.str) (λi a Y=>d=Y/\a=(ns12.take i).map λy=>V.bl (decide (s=y))) ⟨rfl,rfl⟩ aA (λi a Y _ ⟨e,_⟩=>by rw[<- e];exact ZD.of c) (λi a Y ⟨_,e⟩=>by rw[e,xA,xR];lia) ?_ ?_
  .rintro i x a Y c ⟨rfl,rfl⟩ d b;obtain⟨d,rfl⟩:=Uj b;rw[xC] at c;obtain⟨y,e,rfl⟩:=xL.mp c;refine⟨⟨[_],rfl,rfl⟩,_,rfl,_,rfl,rfl,rfl,?_⟩;rw[xS,e,xM];have:decide (V.str y=JJ (some s))=decide (s=y):=decide_eq_decide.mpr ⟨λz=>by injection z with z;exact z.symm,λz=>by rw[z];rfl⟩;rw[this];rfl
  .rintro a Y ⟨rfl,rfl⟩ c b;refine⟨aB rfl,λd a=>?_⟩;refine⟨c,d,_,_,rfl,rfl,by rw[Zf (Zo (show _=_ from Zj) a)];exact Zj,Zj,by show 12+1<=sizeLine;lia,λd c=>?_⟩;exact k _ d (((g.trans (ZA.new b)).trans (ZA.new a)).trans (ZA.new c)) Zj
end
inductive TC(vs:aG)(H:Hp)(Q:VK)(a:XK):Prop
 |mk(s d c r:gF) (a b:fZ)(_:vs=[.ref s,.ref c,.ref r])(_:ZH H s d)(_:H c=some (.lst (a.map V.str)))(_:c≠s)(_:0<a.length)(_:a.length<=1000)(_:(∀n∈a,okN n))(_:H r=some (.lst (b.map V.str)))(_:r≠s)(_:b.length<=60)(_:(∀n∈b,okN n))(_:∀(l:gF)(a:fZ)(Y:Hp),a.length<=max 26 (b.length+1)->(∀n∈a,okN n)->H l=none->Y l=some (.lst (a.map V.str))->ZH Y s d->ZF s H Y->Q (.ref l) Y)
theorem ZF.out(b:ZF s H Y)(hs:ZH Y s la)(a:Y l=none):H l=none:=by
 cases e:H l with
 | none=>rfl
 | some o=>rw[b _ _ (hs.ne a).1 e] at a;cases a
abbrev Mi:Stmt:=top 87
theorem Np(a:YA K mg "_law_odd_row" Mi)(T:Txt mg)(c:Fn P w K mg Z "_law_next" lj 1 YC)(e:Fn P w K mg Z "_law_one" lI 2 UE):Fn P w K mg Z "_law_odd_row" lW 3 TC:=by
 refine a.fq ["_law_src_here","_law_names_here","_law_row","_law_kind"] λH a Q E x h=>?_;obtain⟨s,y,I,r,J,d,rfl,g,f,t,F,G,C,x,b,a,v,k⟩:=h;refine⟨rfl,_,(Zd (Zx 3 (Zl c (Za Q0 (Za Zc Zb)))) (Zd (Zq (Zk Yk Qb Zc (Zn _)) (Zg (Zw (Zu Wj Qa (Yb (Za (Zl e (Za Q0 (Za Q3 Zb))) Zb))))) Zp) (Zd (Zq (Zk Yk Qb Zc (Zn _)) (Zg (Zw (Zu Wj Qa (Yb (Za (Zh Z7 (Yb (Za Zt (Za Zt (Za Zt (Za Zt Zb))))) (Zl c (Za Q0 (Za Zc Zb)))) Zb))))) Zp) (Zd (Zq (Zk Yk Qb Zc (Zn _)) (Zg (Zw (Yb Zb))) Zp) (Zg (Zw (Tn Bo (Zu Wj Qa Qa) Uz (U0 Zc)))))))),?_⟩;have a:(1000:Nat)<=sizeLine:=by decide
 refine Ye λa e=>?_;refine⟨_,rfl,s,y,4,rfl,g,aA,aA,λi g h j c a=>e _ _ ?_⟩;have B:=a _ _ t f;have u:=a _ _ b x;have p:∀{j:Hp}{i:gF}{n:Str}{R:VK},okN n->j i=none->ZH j s y->ZF s H j->(∀l Y,Q (.ref l) Y->R (.ref l) Y)->A4 (.ref r) (.ref i) (upd j i (.lst [.str n])) R:=λ{j i n R} L f h g z=>by
  refine nw (o:=.lst ([n].map V.str)) f λA m E=>?_;refine⟨r,i,_,_,rfl,rfl,m _ _ (g _ _ b x),E,by rw[xA];show _+1<=_;lia,λl b=>z _ _ ?_⟩;have r:=ZA.new (o:=.lst (d.map V.str ++ [n].map V.str)) b;refine k l (d ++ [n]) _ (by rw[xE];show _+1<=_;lia) (λx e=>(xJ.mp e).elim (v x) λe=>by rw[xP.mp e];exact L) ?_ (by rw[Zj,xM]) ((h.keep m).keep r) ((g.trans m.x).trans r.x);exact ZF.out (g.trans m.x) (h.keep m) b
 refine V3 λL r x=>?_;refine⟨_,rfl,rfl,_,rfl,Zv (λ_=>?_) (λ_=>r _ _ ?_)⟩
 .refine⟨_,rfl,_,rfl,_,rfl,s,y,I,J,rfl,c,B,t,F,G,λn j r h g=>⟨aB rfl,λi f=>?_⟩⟩;exact p (C n r) f h (a.trans g) λl Y q=>x _ _ q
 refine V3 λh g x=>?_;refine⟨_,rfl,rfl,_,rfl,Zv (λ_=>?_) (λ_=>g _ _ ?_)⟩
 .refine⟨_,rfl,aB rfl,λl b=>?_⟩;have B:l≠s:=(c.ne b).1;refine nw (o:=.lst [.str "", .str "Ann", .str "a b", .str "stranger"]) b λj C F=>?_;refine⟨_,rfl,s,y,4,rfl,c.keep C,aA,aA,λj A t y h g=>?_⟩;obtain⟨t,y,G⟩:∃t:Str,atI [V.str "", V.str "Ann", V.str "a b", V.str "stranger"] j=some (.str t)/\okN t:=by
   rcases(show j=0\/j=1\/j=2\/j=3 by lia) with rfl | rfl | rfl | rfl<;>exact⟨_,rfl,by unfold okN;decide +kernel⟩
  refine⟨l,_,_,_,rfl,rfl,ZD.of (g _ _ B F),y,aB rfl,λi f=>?_⟩;exact p G f h ((a.trans C.x).trans g) λl Y q=>x _ _ q
 refine V3 λp f j=>?_;refine⟨_,rfl,rfl,_,rfl,Zv (λ_=>?_) (λ_=>f _ _ ?_)⟩
 .exact⟨aB rfl,λl b=>j _ _ (k l [] _ (by show 0<=_;lia) (λ_ z=>nomatch z) (ZF.out a c b) Zj (c.keep (ZA.new b)) (a.trans (ZA.new b).x))⟩
 refine⟨_,rfl,_,rfl,Al u u (by lia) λi A E m=>⟨26,rfl,i,_,rfl,ZD.of E,λl b=>?_⟩⟩;have e:Va ((d++d).map V.str) none (some 26)=((d++d).take 26).map V.str:=by
  unfold Va;rw[show (26:Int)=((26:Nat):Int) from rfl,HT.sIx_nat,HT.sIx_none,mU];show List.take (min 26 _) _=_;rw[<- List.take_take,mJ,xT]
 rw[e];have h:=c.keep m;have g:ZF s H A:=a.trans m.x;exact k l _ _ (by rw[xR];lia) (λn r=>by have:=wD r;rw[xJ,or_self] at this;exact v n this) (ZF.out g h b) Zj (h.keep (ZA.new b)) (g.trans (ZA.new b).x)
def BC:CD->Prop
 | .wer x y m=>okN x/\okN y/\okI m
 | .clm x i=>okN x/\okI i
 | .acc i n=>okI i/\okN n
def Lh(R:gF->List Str->Prop)(v u:V):Prop:=(∃x s,v=.str x/\u=.str s/\okN s)\/(∃x i,v=.int x/\u=.int i/\okI i)\/∃l a b,v=.ref l/\u=.ref a/\R a b
theorem MV(hv:(cdV day need l1 l2 d)[j]?=some v)(hj:1<=j)(ok:BC d)(k1:okI day)(k2:okI need)(r1:R l1 o1)(r2:R l2 o2)(pr:Lh R v u) :
  ∃d' day' need' l1' l2' o1' o2',cdV day' need' l1' l2' d'=(cdV day need l1 l2 d).set j u/\BC d'/\okI day'/\okI need'/\R l1' o1'/\R l2' o2':=by
 rcases pr with⟨z,s,rfl,rfl,os⟩ | ⟨z,i',rfl,rfl,oi⟩ | ⟨l,l',o',rfl,rfl,r⟩
 .cases d with
  | wer x y m=>(rcases j with _ | _ | _ | _ | _ | _ | _ | _ | j)<;>first | lia | (cases hv;done) | exact⟨.wer s y m,day,need,l1,l2,o1,o2,rfl,⟨os,ok.2⟩,k1,k2,r1,r2⟩ | exact⟨.wer x s m,day,need,l1,l2,o1,o2,rfl,⟨ok.1,os,ok.2.2⟩,k1,k2,r1,r2⟩
  | clm x i=>(rcases j with _ | _ | _ | _ | _ | _ | _ | j)<;>first | lia | (cases hv;done) | exact⟨.clm s i,day,need,l1,l2,o1,o2,rfl,⟨os,ok.2⟩,k1,k2,r1,r2⟩
  | acc i n=>(rcases j with _ | _ | _ | _ | _ | _ | _ | j)<;>first | lia | (cases hv;done) | exact⟨.acc i s,day,need,l1,l2,o1,o2,rfl,⟨ok.1,os⟩,k1,k2,r1,r2⟩
 .cases d with
  | wer x y m=>(rcases j with _ | _ | _ | _ | _ | _ | _ | _ | j)<;>first | lia | (cases hv;done) | exact⟨.wer x y i',day,need,l1,l2,o1,o2,rfl,⟨ok.1,ok.2.1,oi⟩,k1,k2,r1,r2⟩ | exact⟨.wer x y m,i',need,l1,l2,o1,o2,rfl,ok,oi,k2,r1,r2⟩ | exact⟨.wer x y m,day,i',l1,l2,o1,o2,rfl,ok,k1,oi,r1,r2⟩
  | clm x i=>(rcases j with _ | _ | _ | _ | _ | _ | _ | j)<;>first | lia | (cases hv;done) | exact⟨.clm x i',day,need,l1,l2,o1,o2,rfl,⟨ok.1,oi⟩,k1,k2,r1,r2⟩ | exact⟨.clm x i,i',need,l1,l2,o1,o2,rfl,ok,oi,k2,r1,r2⟩ | exact⟨.clm x i,day,i',l1,l2,o1,o2,rfl,ok,k1,oi,r1,r2⟩
  | acc i n=>(rcases j with _ | _ | _ | _ | _ | _ | _ | j)<;>first | lia | (cases hv;done) | exact⟨.acc i' n,day,need,l1,l2,o1,o2,rfl,⟨oi,ok.2⟩,k1,k2,r1,r2⟩ | exact⟨.acc i n,i',need,l1,l2,o1,o2,rfl,ok,oi,k2,r1,r2⟩ | exact⟨.acc i n,day,i',l1,l2,o1,o2,rfl,ok,k1,oi,r1,r2⟩
 .cases d with
  | wer x y m=>(rcases j with _ | _ | _ | _ | _ | _ | _ | _ | j)<;>first | lia | (cases hv;done) | exact⟨.wer x y m,day,need,l',l2,o',o2,rfl,ok,k1,k2,r,r2⟩ | exact⟨.wer x y m,day,need,l1,l',o1,o',rfl,ok,k1,k2,r1,r⟩
  | clm x i=>(rcases j with _ | _ | _ | _ | _ | _ | _ | j)<;>first | lia | (cases hv;done) | exact⟨.clm x i,day,need,l',l2,o',o2,rfl,ok,k1,k2,r,r2⟩ | exact⟨.clm x i,day,need,l1,l',o1,o',rfl,ok,k1,k2,r1,r⟩
  | acc i n=>(rcases j with _ | _ | _ | _ | _ | _ | _ | j)<;>first | lia | (cases hv;done) | exact⟨.acc i n,day,need,l',l2,o',o2,rfl,ok,k1,k2,r,r2⟩ | exact⟨.acc i n,day,need,l1,l',o1,o',rfl,ok,k1,k2,r1,r⟩
theorem Oq(d:CD):∀v∈cdV day need l1 l2 d,(∃x,v=.str x)\/(∃i,v=.int i)\/v=.ref l1\/v=.ref l2:=by
 cases d<;>simp[cdV]
theorem bX(d:CD):2<=(cdV day need l1 l2 d).length/\(cdV day need l1 l2 d).length<=8:=by cases d<;>exact⟨by simp[cdV],by simp[cdV]⟩
theorem Dw(h:j<=n):HT.sIx n d (some (j:Int))=j:=by
 unfold HT.sIx;dsimp only;rw[if_neg (by lia),yH];lia
theorem Sx{J:aG}{j:Nat}(h:j<=J.length):Va J none (some (j:Int))=J.take j:=by
 unfold Va;rw[Dw h,HT.sIx_none];rfl
theorem cX{J:aG}{j:Nat}(h:j<=J.length):Va J (some (j:Int)) none=J.drop j:=by
 unfold Va;rw[Dw h,HT.sIx_none,yY (by rw[zG];lia)]
def YX(b:Nat)(G:gF->Prop)(H:Hp)(l:gF)(o:fZ):Prop:=H l=some (.lst (o.map V.str))/\G l/\o.length<=b/\∀n∈o,okN n
theorem YX.up(h:YX b G H l o)(e:Y l=some (.lst (o.map V.str))):YX (b+1) G Y l o:=⟨e,h.2.1,zS h.2.2.1,h.2.2.2⟩
theorem YX.mono(h:YX b G H l o)(S:ZA H Y):YX b G Y l o:=⟨S _ _ h.1,h.2⟩
theorem nst{H:Hp}{s a l:gF}{o:fZ}(h:ZH H s a)(e:H l=some (.lst (o.map V.str))):l≠s:=λz=>by
 obtain⟨_,_,_,_,_,a,_⟩:=h;rw[z,a] at e;cases o<;>cases e
inductive Tu(vs:aG)(H:Hp)(Q:VK)(a:XK):Prop
 |mk(s k l a:gF) (h:fZ) (d:CD) (e c:Int) (f g:gF) (i j:fZ) (b:Nat) (G:gF->Prop)(_:vs=[.ref s,.ref l,.ref a])(_:ZH H s k)(_:H l=some (.lst (h.map V.str)))(_:0<h.length)(_:h.length<=1000)(_:(∀n∈h,okN n))(_:H a=some (.tup (cdV e c f g d)))(_:BC d)(_:okI e)(_:okI c)(_:YX b G H f i)(_:YX b G H g j)(_:26<=b)(_:b<=58)(_:(∀l,H l=none->G l))(_:∀(p:gF)(d:CD)(e c:Int)(f g:gF)(i j:fZ)(Y:Hp),H p=none->Y p=some (.tup (cdV e c f g d))->BC d->okI e->okI c->YX (b+1) G Y f i->YX (b+1) G Y g j->ZH Y s k->ZF s H Y->Q (.ref p) Y)
abbrev Ie:Stmt:=top 88
theorem OK(b4:YA K mg "_law_wild" Ie)(T:Txt mg)(Z8:Fn P w K mg Z "_law_next" lj 1 YC)(b3:Fn P w K mg Z "_law_odd_row" lW 3 TC):Fn P w K mg Z "_law_wild" lS 4 Tu:=by
 refine b4.fq ["_law_src_here","_law_names_here","_law_deed_here","_law_at","_law_part","_law_odd"] λH vs Q E hr h=>?_;obtain⟨s,la,nl,a,C,d,f,c,n,r,o1,o2,b,G,rfl,sr,nm,n0,n1,a3,ha,hd,di,ni,r1,r2,b0,b1,hG,k⟩:=h;refine⟨rfl,_,(Zd (Zx 3 (Zu Y9 Zc (Zl Z8 (Za Q0 (Za (Zu Vy (Z0 Ym T.len Yh (Za Qa Zb)) Zc) Zb))))) (Zd (Zx 4 (Zh Zi Qa Qb)) (Zd (Zq (Vi (Z0 LM T.isinstance Vt (Za Qc (Za (C6 (v:=.ty "list") T.list Uy rfl) Zb)))) (Zg (Zx 4 (Zl b3 (Za Q0 (Za Q3 (Za Qc Zb)))))) (Zg (Zq (Vi (Z0 LM T.isinstance Vt (Za Qc (Za (C6 (v:=.ty "str") T.str MP rfl) Zb)))) (Zg (Zx 4 (Zh Z7 (Yb (Za Zt (Za Zt (Za Zt (Za (Zh Z7 Q3 Zc) (Za (Zh Z7 Q3 (Yw Yx Zc)) (Za Zt Zb))))))) (Zl Z8 (Za Q0 (Za Zc Zb)))))) (Zd (Zx 5 (Yb (Za (Yw Yx Zc) (Za Zc (Za Zc (Za Zc (Za Zc (Za Zc (Za Zc (Za Zc (Za Zc (Za Zc (Za Zc (Za Zc (Za (Zu Et Zc Zc) (Za (Yw Yx (Zu Et Zc Zc)) Zb)))))))))))))))) (Zg (Zx 4 (Zh Z7 Qd (Zl Z8 (Za Q0 (Za Zc Zb)))))))))) (Zg (Zw (Zu IK (Zu IK (Tn Kq Qa Uz (U0 Qb)) (Yj (Za Qc Zb))) (Tn Kq Qa (U0 (Zu Y9 Qb Zc)) Uz))))))),?_⟩;have hz:=aC
 obtain⟨d8,d9⟩:=bX (day:=f) (need:=c) (l1:=n) (l2:=r) d;obtain⟨_,_,_,_,_,c7,_⟩:=id sr;have b2:a≠s:=λz=>by rw[z,c7] at ha;cases ha
 refine Ye λD0 b9=>?_;refine⟨_,rfl,_,rfl,a,_,rfl,.inr (ZJ.of ha),_,_,rfl,rfl,s,la,_,rfl,sr,by lia,by lia,λj0 O d2 d7 y B=>?_⟩;obtain⟨i,rfl⟩:=yC d2;obtain⟨j,ej⟩:∃j:Nat,(1:Int)+(i:Int)=(j:Int):=⟨i+1,by lia⟩;have jl:1<=j/\j<(cdV f c n r d).length:=by lia
 refine⟨_,_,rfl,rfl,b9 _ _ ?_⟩;dsimp only;rw[ej];have N:=B _ _ (nst sr nm) nm;have b7:=B _ _ b2 ha;obtain⟨v,hv⟩:∃v,(cdV f c n r d)[j]?=some v:=⟨_,xB jl.2⟩;refine Ye λD1 c0=>?_;refine⟨_,rfl,_,rfl,a,_,j,v,rfl,rfl,ZJ.of b7,Yl hv,c0 _ _ ?_⟩;refine Vg (λL Y=>∃(v5:Option V)(u:V),L=[some (.ref s),some (.ref nl),some (.ref a),some (.int j),some u,v5]/\ZH Y s la/\ZF s H Y/\Lh (YX (b+1) G Y) v u) ?_ ?_
 rotate_left
 .intro D2 X _ _ _;obtain⟨m0,d0,c8⟩:∃m,atI (C.map V.str) 0=some (.str m)/\m∈C:=by
   have e:=xB n0;exact⟨_,Yl (j:=0) (by rw[xC,e];rfl),xG e⟩
  obtain⟨m1,d1,c9⟩:∃m,atI (C.map V.str) (-1)=some (.str m)/\m∈C:=by
   have h0:=n0;have e:C[C.length - 1]?=some (C[C.length - 1]'(by lia)):=xB (by lia);refine⟨_,?_,xG e⟩;unfold atI;have ei:ixN C.length (-1)=some (C.length - 1):=by
    unfold ixN;rw[if_neg (by lia),if_pos (by lia)];congr 1;lia
   rw[xA,ei];show (C.map V.str)[C.length - 1]?=_;rw[xC,e];rfl
  rcases Oq d v (xG hv) with⟨x,rfl⟩ | ⟨x,rfl⟩ | hr
  .obtain⟨t1,a1,b1⟩:=isi (K:=K) (H:=O) (d:=.str x) (v:=.str x) rfl "list" aA;obtain⟨t2,a2,b2⟩:=isi (K:=K) (H:=O) (d:=.str x) (v:=.str x) rfl "str" aA;refine⟨_,rfl,_, "list", t1,_,rfl,a1,b1,_,rfl,Z5 ⟨_,rfl,_, "str", t2,_,rfl,a2,b2,_,rfl,Z6 ?_⟩⟩;refine⟨_,rfl,nl,_,0,_,rfl,rfl,ZD.of N,d0,_,rfl,1,rfl,nl,_,-1,_,rfl,rfl,ZD.of N,d1,aB rfl,λl hl=>?_⟩;have S:=ZA.new (o:=.lst [.str "", .str "Ann", .str "nobody", .str m0,.str m1,.str "abcdefghijklm"]) hl;have kl:(upd O l (.lst [.str "", .str "Ann", .str "nobody", .str m0,.str m1,.str "abcdefghijklm"])) l=some (.lst [.str "", .str "Ann", .str "nobody", .str m0,.str m1,.str "abcdefghijklm"]):=Zj;have a2:l≠s:=(y.ne hl).1;generalize (upd O l (.lst [.str "", .str "Ann", .str "nobody", .str m0,.str m1,.str "abcdefghijklm"]))=H2 at S kl |-;refine⟨_,rfl,s,la,6,rfl,y.keep S,aA,aA,λg H3 g0 g1 a0 I=>?_⟩;obtain⟨t,ht,ot⟩:∃t:Str,atI [V.str "", V.str "Ann", V.str "nobody", V.str m0,V.str m1,V.str "abcdefghijklm"] g=some (.str t)/\okN t:=by
    rcases(show g=0\/g=1\/g=2\/g=3\/g=4\/g=5 by lia) with rfl | rfl | rfl | rfl | rfl | rfl
    .exact⟨_,rfl,by unfold okN;decide +kernel⟩
    .exact⟨_,rfl,by unfold okN;decide +kernel⟩
    .exact⟨_,rfl,by unfold okN;decide +kernel⟩
    .exact⟨_,rfl,a3 _ c8⟩
    .exact⟨_,rfl,a3 _ c9⟩
    .exact⟨_,rfl,by unfold okN;decide +kernel⟩
   exact⟨l,_,_,_,rfl,rfl,ZD.of (I _ _ a2 kl),ht,X _ _ ⟨_,_,rfl,a0,(B.trans S.x).trans I,.inl ⟨x,t,rfl,rfl,ot⟩⟩⟩
  .obtain⟨t1,a1,b1⟩:=isi (K:=K) (H:=O) (d:=.int x) (v:=.int x) rfl "list" aA;obtain⟨t2,a2,b2⟩:=isi (K:=K) (H:=O) (d:=.int x) (v:=.int x) rfl "str" aA;refine⟨_,rfl,_, "list", t1,_,rfl,a1,b1,_,rfl,Z5 ⟨_,rfl,_, "str", t2,_,rfl,a2,b2,_,rfl,Z5 ?_⟩⟩;refine Ye λD3 c1=>?_;refine⟨1,rfl,_,_,rfl,rfl,⟨aA,aA,aA⟩,_,_,rfl,rfl,⟨aA,aA,aA⟩,_,rfl,aB rfl,λl hl=>?_⟩;have a2:l≠s:=(y.ne hl).1;refine c1 _ _ ?_;refine nw (o:=.lst [.int (-1),.int 0,.int 1,.int 2,.int 1000,.int 1001,.int 9999,.int 10000,.int 12000,.int 12001,.int 1000000,.int 1000001,.int (10^Int.toNat 17),.int (-10^Int.toNat 17)]) hl λH2 S kl=>?_;refine⟨_,rfl,_,rfl,s,la,14,rfl,y.keep S,aA,aA,λg H3 g0 g1 a0 I=>?_⟩;obtain⟨t,ht,ot⟩:∃t:Int,atI [V.int (-1),.int 0,.int 1,.int 2,.int 1000,.int 1001,.int 9999,.int 10000,.int 12000,.int 12001,.int 1000000,.int 1000001,.int (10^Int.toNat 17),.int (-10^Int.toNat 17)] g=some (.int t)/\okI t:=by
    rcases(show g=0\/g=1\/g=2\/g=3\/g=4\/g=5\/g=6\/g=7\/g=8\/g=9\/g=10\/g=11\/g=12\/g=13 by lia) with rfl | rfl | rfl | rfl | rfl | rfl | rfl | rfl | rfl | rfl | rfl | rfl | rfl | rfl<;>exact⟨_,rfl,by unfold okI;decide +kernel⟩
   exact⟨l,_,_,_,rfl,rfl,ZD.of (I _ _ a2 kl),ht,X _ _ ⟨_,_,rfl,a0,(B.trans S.x).trans I,.inr (.inl ⟨x,t,rfl,rfl,ot⟩)⟩⟩
  .obtain⟨l,o,rfl,rl⟩:∃l o,v=.ref l/\YX b G H l o:=hr.elim (λe=>⟨n,o1,e,r1⟩) (λe=>⟨r,o2,e,r2⟩);have h1:=B _ _ (nst sr rl.1) rl.1;obtain⟨t1,a1,b5⟩:=isi (K:=K) (show YE O (.lst (o.map D.str)) (.ref l) from⟨l,_,rfl,h1,Jc O o⟩) "list" aA;refine⟨_,rfl,_, "list", t1,_,rfl,a1,b5,_,rfl,Z6 ?_⟩;refine⟨_,rfl,_,rfl,_,rfl,s,la,nl,l,C,o,rfl,y,N,nst y N,n0,n1,a3,h1,nst y h1,by have:=rl.2.2.1;lia,rl.2.2.2,λl' o' H2 hl ho b8 hk M A=>X _ _ ⟨_,_,rfl,M,B.trans A,.inr (.inr ⟨l,l',o',rfl,rfl,hk,hG _ (ZF.out B y b8),by have:=rl.2.2.1;lia,ho⟩)⟩⟩
 rintro L H2 ⟨v5,u,rfl,M,A,pr⟩;have a6:=A _ _ b2 ha;obtain⟨d',U,F,b0,b1,d3,d4,e',od,d5,d6,q1,q2⟩:=MV (R:=YX (b+1) G H2) hv jl.1 hd di ni (r1.up (A _ _ (nst sr r1.1) r1.1)) (r2.up (A _ _ (nst sr r2.1) r2.1)) pr;have es:cdV U F b0 b1 d'=(cdV f c n r d).take j ++ [u]++(cdV f c n r d).drop (j+1):=by
  rw[e',List.set_eq_take_append_cons_drop,if_pos jl.2,yT];rfl
 have a9:j<=(cdV f c n r d).length:=by lia
 have a5:∀{Y:Hp}{p:gF},H p=none->Y p=some (.tup ((cdV f c n r d).take j ++ [u]++(cdV f c n r d).drop (j+1)))->ZH Y s la->ZA H2 Y->Q (.ref p) Y:=λc2 hp c6 S=>k _ d' U F b0 b1 d3 d4 _ c2 (by rw[es];exact hp) od d5 d6 (q1.mono S) (q2.mono S) c6 (A.trans S.x);refine⟨_,rfl,_,rfl,j,rfl,a,cdV f c n r d,rfl,ZJ.of a6,?_,λp1 c3=>?_⟩
 .rw[Dw a9,HT.sIx_none];lia
 rw[Sx a9];refine nw (o:=.tup ((cdV f c n r d).take j)) c3 λH3 S3 k3=>?_;refine⟨_,rfl,aB rfl,λp2 c4=>?_⟩;refine nw (o:=.tup [u]) c4 λH4 S4 k4=>?_;have lt:((cdV f c n r d).take j).length=j:=by rw[xR];lia
 refine⟨p1,p2,_,_,rfl,rfl,ZJ.of (S4 _ _ k3),ZJ.of k4,(λz=>by rw[z] at lt;simp at lt;lia),by rw[lt];show j+1<=sizeLine;lia,(λz=>by cases z),λ_ p3 a7=>?_⟩;have b6:H p3=none:=ZF.out (A.trans (S3.trans S4).x) (M.keep (S3.trans S4)) a7;refine nw (o:=.tup ((cdV f c n r d).take j ++ [u])) a7 λH5 S5 k5=>?_;have a4:=(S3.trans S4).trans S5;have W:j+1<=(cdV f c n r d).length:=by lia
 refine⟨_,rfl,_,rfl,_,_,rfl,rfl,((j+1:Nat):Int),by rw[show ((j:Int)+1)=((j+1:Nat):Int) by lia],a,cdV f c n r d,rfl,ZJ.of (a4 _ _ a6),?_,λp4 c5=>?_⟩
 .rw[Dw W,HT.sIx_none];lia
 rw[cX W];refine nw (o:=.tup ((cdV f c n r d).drop (j+1))) c5 λH6 S6 k6=>?_;have J:=a4.trans S6;have a1:=M.keep J;refine⟨p3,p4,_,_,rfl,rfl,ZJ.of (S6 _ _ k5),ZJ.of k6,by simp,by rw[xE,lt,zG];show j+1+_<=sizeLine;lia,λz=>a5 b6 (by rw[z,xX];exact S6 _ _ k5) a1 J,λ_ p5 a8=>?_⟩;have S7:=ZA.new (o:=.tup ((cdV f c n r d).take j ++ [u]++(cdV f c n r d).drop (j+1))) a8;exact a5 (ZF.out (A.trans J.x) a1 a8) Zj (a1.keep S7) (J.trans S7)
def Bq:CD->Option Str
 | .wer _ _ m=>eM 1 1000000 m
 | _=>none
def AN(a:Nat):CD->Option Str
 | .clm _ i=>if 0<=i/\i<a then none else some ("NoThing":Str)
 | _=>none
def Bb(a:List ZS):CD->Option Str
 | .acc i n=>Wy a i n
 | _=>none
def B1(a:List AD)(j:Nat):Int:=match (a.filter Y7)[j]? with
 | some (.s (.bring _ a))=>a
 | _=>0
def By(a:List AD)(j:Nat):Int:=match (a.filter isC)[j]? with
 | some (.c _ a _ _ _ _)=>a
 | _=>0
def stA(a:List AD):CD->List Int
 | .clm _ i=>[B1 a i.toNat]
 | _=>[]
def stB(a:List AD):CD->List Int
 | .acc i _=>[By a i.toNat]
 | _=>[]
def cdy(a:List AD)(n:Str):Int:=(Zr (Ze a).1 n).getD 0
def eNy(a:List Int)(day:Int):Option Str:=if ∃x∈a,day<x then some ("NotYet":Str) else none
def JT(a:List AD)(b c:fZ)(d:CD):List Int:=(ppl b c d).map (cdy a)++stA a d++stB a d
def Bt(a:List AD)(day need:Int)(b c:fZ)(d:CD):Option Str:=(eM 0 9999 day).or ((eM 1 12000 need).or ((Bq d).or (((ppl b c d).findSome? (Wt (Ze a).1)).or ((AN (a.filter Y7).length d).or ((Bb (Ze a).2.o6 d).or (eNy (JT a b c d) day))))))
def C7:AD->ZS
 | .c d _ a b c f=>⟨Yg f b,Yg f c,a,Ck d⟩
 | .s _=>⟨[],[],0,none⟩
theorem Ks(b:List AD):(Ze b).2.o6=(b.filter isC).map C7:=by
 suffices h:∀(b:List AD)(s:V0),(b.foldl Vs s).2.o6=s.2.o6++(b.filter isC).map C7 from h b _
 intro b
 induction b with
 | nil=>exact λs=>(xX _).symm
 | cons a b d =>
  intro s;rw[zA,d];cases a with
  | s d=>cases d<;>rfl
  | c d b a e g f=>rw[zJ rfl,yF,List.append_cons];cases d<;>rfl
theorem Lx(f:Str->Int)(o:fZ):(Yg f o).map (·.1)=o:=by
 unfold Yg;rw[mV];exact List.map_id _
theorem FD{a b:Type}{f:a->Option b}{l:List a}(h:∀n∈l,f n=none):l.findSome? f=none:=wA.mpr h
theorem Xu{S:List ZK}{l:fZ}{n:Str}(a:n∈l)(e:Zr S n=none):l.findSome? (Wt S)=some ("Unknown":Str):=by
 induction l with
 | nil=>cases a
 | cons m l b =>
  rw[zU]
  by_cases z:Zr S m=none
  .unfold Wt;rw[if_pos z]
  .have:Wt S m=none:=if_neg z;rw[this];rcases xD.mp a with rfl | y
   .exact absurd e z
   .exact b y
theorem CP(day need:Int)(l1 l2:gF)(d:CD):atI (cdV day need l1 l2 d) (-4)=some (.int day):=by cases d<;>rfl
theorem LL(day need:Int)(l1 l2:gF)(d:CD):atI (cdV day need l1 l2 d) (-3)=some (.int need):=by cases d<;>rfl
theorem DW(day need:Int)(l1 l2:gF)(d:CD):atI (cdV day need l1 l2 d) (-2)=some (.ref l1):=by cases d<;>rfl
theorem ET(day need:Int)(l1 l2:gF)(d:CD):atI (cdV day need l1 l2 d) (-1)=some (.ref l2):=by cases d<;>rfl
theorem RC(h:V.str (wdC d)= .str "wergild"):∃x y m,d=.wer x y m:=by cases d<;>first | exact⟨_,_,_,rfl⟩ | exact absurd h (by dsimp only [wdC];decide +kernel)
theorem SE(h:V.str (wdC d)= .str "claim"):∃x i,d=.clm x i:=by cases d<;>first | exact⟨_,_,rfl⟩ | exact absurd h (by dsimp only [wdC];decide +kernel)
theorem Gm(h:V.str (wdC d)= .str "accuse"):∃i n,d=.acc i n:=by cases d<;>first | exact⟨_,_,rfl⟩ | exact absurd h (by dsimp only [wdC];decide +kernel)
theorem Ho(a:o1.length<=60)(a:o2.length<=60)(d:CD):(ppl o1 o2 d).length<=122:=by cases d<;>simp[ppl]<;>lia
theorem Fs(h:¬(lo<=x/\x<=hi)):eM lo hi x=some ("NoMeasure":Str):=if_neg h
theorem EO(h:lo<=x/\x<=hi):eM lo hi x=none:=if_pos h
theorem YW.sm{q:gF}(h:YW H fx q c)(S:ZA H Y):YW Y fx q c:=h.mono (λo e=>S _ _ e) (Ve (λ_ _ e=>S _ _ e) (λ_ _ _ e=>S _ _ e) λ_ z=>z)
theorem GH(h:¬(0<=i/\i<ss.length)):Wy ss i n=some ("NoCase":Str):=by
 unfold Wy;split
 .exact if_neg h
 .rfl
theorem Nb{a:List ZS}{j:Nat}{t:ZS}{n:Str}(h:a[j]?=some t):Wy a (j:Int) n=if n∈(t.ones++t.others).map (·.1) then none else some ("NoOath":Str):=by
 unfold Wy;rw[yH,h];exact if_pos ⟨by lia,by have:=(xI.mp h).1;lia⟩
inductive Ag(vs:aG)(H:Hp)(Q:VK)(a:XK):Prop
 |mk(s:gF) (W:WL) (f:gC) (c:List AD) (h:List ZS) (q:gF) (d:CD) (b a:Int) (e g:fZ)(_:vs=[.ref W.wl,.ref q])(_:ZW s H f W c (c.filter isC) h)(_:c.length<=1000)(_:(∀(j:Nat)(d:CD)(b a:Int)(e g:fZ)(f:Str->Int),(c.filter isC)[j]?=some (.c d b a e g f)->e.length<=60/\g.length<=60))(_:Tb H q d b a e g)(_:∀Y,ZA H Y->Q (JJ (Bt c b a e g d)) Y)
abbrev B6:Stmt:=top 83
theorem ED:ZM lC lu (Zm B6):=fsc
theorem DV:Nm (Zm B6) "_law_deeds" .cell:=aA
theorem RL:Nm (Zm B6) "_law_starts" .local:=aA
theorem RP:Nm (Zm B6) "_law_things" .local:=aA
theorem O0(Zke:YA K mg "_law_early_due" B6)(T:Txt mg)(Zfs:Fn P w K mg Z "_law_folk_of" lp 1 VJ)(Zrc:Fn P w K mg Z "_law_came" lR 1 Tw):Fn P w K mg Z "_law_early_due" lu 2 Ag:=by
 refine Zke.fq lC λH vs Q E hr h=>?_;obtain⟨s,W,fx,as,ss,q,d,day,need,o1,o2,rfl,hW,hal,bnd,hc,k⟩:=h
 refine⟨rfl,_,(Zd (Ul Q0 (EA (by rfl) (Yv (GS (i:=2) ED.nd DV) (Yv (Yi 3) (Yv (Yi 4) Ub)))))
 (Zd (Zq (QW.pt (AB (Zk Vj (Z0 (CZ (by rfl)) T.min BS (Za (Zh Zi Q3 (Yw Yx Zc)) (Za (Zu Vy Zc (Zh Zi Q3 (Yw Yx Zc))) Zb))) Zc (Zn _)) (Bm (Zk Vj (Z0 (CZ (by rfl)) T.min BS (Za (Zu Vy (Zh Zi Q3 (Yw Yx Zc)) Zc) (Za (Zu Vy Zc (Zh Zi Q3 (Yw Yx Zc))) Zb))) Zc (Zn _))))) (Zg (Zw Zt)) Zp)
 (Zd (Zq (QW.pt (Wz (Zk Yk (Zh Zi Q3 Zc) Zt (Zn _)) (Vx (Zk Vj (Z0 (CZ (by rfl)) T.min BS (Za (Zu Vy (Zh Zi Q3 Zc) Zc) (Za (Zu Vy Zc (Zh Zi Q3 Zc)) Zb))) Zc (Zn _))))) (Zg (Zw Zt)) Zp)
 (Zd (Wi mW rfl (Yz (Zl Zfs (Za Q3 Zb))) (Yi 5)
 (Zg (Zq (Zk OL (Zl Zrc (Za (qvC 2 DV) (Za Qd Zb))) Y3 (Zn _)) (Zg (Zw Zt)) Zp)))
 (Zd (Bu (locs:=i8) (fr:=[]) ⟨rfl,aA,aA,aA,aA,aA⟩ .nil rfl (Yz (qvC 2 DV)) ⟨λ_ _ _ _ _ _=>by
  have cnd:(inN i8 []).Nodup:=aA
  exact⟨(Wb 0 cnd),(JO (Zk Yk (Zh JN (Yp 0) Zc) Zt (Zn _))),(Yp 0)⟩⟩ ED.nd RP (by rfl) (i:=6))
 (Zd (Bu (locs:=lG) (fr:=[("_law_deeds", 2)]) ⟨rfl,aA,aA,aA,aA,aA⟩ (.ij DV .nil) rfl (Yz (Zl Zfs (Za Q3 Zb))) ⟨λ_ _ _ _ _ _=>by
  have cnd:(inN lG [("_law_deeds", 2)]).Nodup:=aA
  exact⟨(Wb 0 cnd),Uc,(Zl Zrc (Za (Wn 1) (Za (Yp 0) Zb)) (n:=nmC))⟩⟩ ED.nd RL (by rfl) (i:=7))
 (Zd (Zq (Zk Yk (Zh Zi Q3 Zc) Zt (Zn _)) (Zd (Zq (QW.pt (AB (Zk Vj (Zh Zi Q3 Zc) Zc (Zn _)) (Bm (Zk Ji (Zh Zi Q3 Zc) (Z0 Ym T.len Yh (Za Qe Zb)) (Zn _))))) (Zg (Zw Zt)) Zp)
 (Zg (Zs (Y4 aD aE aF Wa Qf (Za (Zh Zi (Zh Z7 Qe (Zh Zi Q3 Zc)) Zc) Zb))))) Zp)
 (Zd (Zq (Zk Yk (Zh Zi Q3 Zc) Zt (Zn _)) (Zd (Zq (QW.pt (AB (Zk Vj (Zh Zi Q3 Zc) Zc (Zn _)) (Bm (Zk Ji (Zh Zi Q3 Zc) (Z0 Ym T.len Yh (Za Qc Zb)) (Zn _))))) (Zg (Zw Zt)) Zp)
 (Zd (Zq (Zk Fc (Zh Zi Q3 Zc) (Zu Wj (Zh Zi (Zh Z7 Qc (Zh Zi Q3 Zc)) (Yw Yx Zc)) (Zh Zi (Zh Z7 Qc (Zh Zi Q3 Zc)) (Yw Yx Zc))) rfl) (Zg (Zw Zt)) Zp)
 (Zg (Zs (Y4 aD aE aF Wa Qf (Za (Zh Zi (Zh Z7 Qc (Zh Zi Q3 Zc)) (Yw Yx Zc)) Zb)))))) Zp)
 (Zd (Zq (Zk Vj (Zh Zi Q3 (Yw Yx Zc)) (PB (bD (by rfl)) T.max Ce (Za Qf Zb) Zc) (Zn _)) (Zg (Zw Zt)) Zp)
 (Zg (Zw Zt))))))))))),?_⟩
 have hz:=aC
 obtain⟨l1,l2,hq,h1,h2,b1,b2⟩:=id hc;have at0:=Hk day need l1 l2 d;have at4:=CP day need l1 l2 d;have at3:=LL day need l1 l2 d;have pll:=Ho b1 b2 d;refine Ye λD1 hn1=>?_;refine⟨_,rfl,W.wl,_,rfl,ZD.of hW.e,rfl,_,_,rfl,_,_,rfl,_,_,rfl,rfl,hn1 _ _ ?_⟩;refine V3 λD2 hn2 hr2=>?_;unfold Bt at k;refine⟨_,rfl,_,rfl,q,_,-4,_,rfl,rfl,ZJ.of hq,at4,_,rfl,_,rfl,q,_,-4,_,rfl,rfl,ZJ.of hq,at4,_,_,rfl,rfl,_,_,rfl,_,_,rfl,rfl,_,rfl,Zv (λz=>Z6 (hr2 _ _ ?_)) (λz=>?_)⟩
 .have k:=k _ (ZA.refl _);rw[Fs (by split at z<;>lia)] at k;exact k
 have dy0:0<=day/\day<=9999:=by split at z<;>lia
 rw[EO dy0,yI] at k;refine⟨_,rfl,_,rfl,q,_,-3,_,rfl,rfl,ZJ.of hq,at3,_,_,rfl,rfl,_,rfl,_,rfl,q,_,-3,_,rfl,rfl,ZJ.of hq,at3,_,_,rfl,rfl,_,_,rfl,_,_,rfl,rfl,_,rfl,Zv (λz=>hr2 _ _ ?_) (λz=>hn2 _ _ ?_)⟩
 .have k:=k _ (ZA.refl _);rw[Fs (by split at z<;>lia)] at k;exact k
 rw[EO (show 1<=need/\need<=12000 by split at z<;>lia),yI] at k;refine Vg (λL Y=>L=[some (.ref W.wl),some (.ref q),some (.ref W.dl),some (.ref W.sl),some (.ref W.tl),none,none,none]/\H=Y/\Bq d=none) ?_ ?_
 rotate_left
 .intro D3 hn3 hr3 _ _;refine⟨_,rfl,q,_,0,_,rfl,rfl,ZJ.of hq,at0,rfl,_,rfl,Zv (λz=>?_) (λz=>Z5 (hn3 _ _ ⟨rfl,rfl,?_⟩))⟩
  .obtain⟨x,y,m,rfl⟩:=RC z;refine⟨_,rfl,q,_,3,_,rfl,rfl,ZJ.of hq,rfl,_,_,rfl,rfl,_,rfl,q,_,3,_,rfl,rfl,ZJ.of hq,rfl,_,_,rfl,rfl,_,_,rfl,_,_,rfl,rfl,_,rfl,Zv (λz=>hr3 _ _ ?_) (λz=>hn3 _ _ ⟨rfl,rfl,EO (by split at z<;>lia)⟩)⟩;have k:=k _ (ZA.refl _);rw[show Bq (.wer x y m)=some ("NoMeasure":Str) from Fs (by split at z<;>lia)] at k;exact k
  .cases d with
   | wer x y m=>exact absurd rfl z
   | _=>rfl
 rintro L Y ⟨rfl,rfl,e3⟩;rw[e3,yI] at k;refine Vg (λL Y=>∃v5:Option V,L=[some (.ref W.wl),some (.ref q),some (.ref W.dl),some (.ref W.sl),some (.ref W.tl),v5,none,none]/\ZA H Y/\(ppl o1 o2 d).findSome? (Wt (Ze as).1)=none) ?_ ?_
 rotate_left
 .intro D1 hn1 hr1 _ _;refine⟨_,rfl,q,d,day,need,o1,o2,rfl,hc,λl H2 kl S2=>⟨l,rfl,⟨_,ZD.of kl⟩,?_⟩⟩;refine Vl ((ppl o1 o2 d).map V.str) (λi L Y=>∃v5:Option V,L=[some (.ref W.wl),some (.ref q),some (.ref W.dl),some (.ref W.sl),some (.ref W.tl),v5,none,none]/\Y=H2/\∀n∈(ppl o1 o2 d).take i,Wt (Ze as).1 n=none) ⟨none,rfl,rfl,λn hn=>by cases hn⟩ (λi L Y _ ⟨_,_,e,_⟩=>by rw[e];exact ZD.of kl) ?_ ?_
  .rintro i v L Y hv ⟨v5,rfl,rfl,hno⟩;rw[xC] at hv;obtain⟨n,hn,rfl⟩:=xL.mp hv;refine⟨_,rfl,_,rfl,W.dl,fx,as,n,rfl,hW.d.sm S2,rfl,_,rfl,?_⟩;cases e:Zr (Ze as).1 n with
   | none =>
    refine Zv (λ_=>hr1 _ _ ?_) (λz=>absurd rfl z);have k:=k _ S2;rw[Xu (xG hn) e] at k;exact k
   | some x =>
    refine Zv (λz=>by cases z) (λ_=>⟨_,rfl,rfl,λm hm=>?_⟩);rw[xS,hn] at hm;rcases xJ.mp hm with y | y
    .exact hno m y
    .cases xP.mp y;exact if_neg (by rw[e];exact λz=>by cases z)
  .rintro L Y ⟨v5,rfl,rfl,hno⟩;rw[xA,xT] at hno;exact hn1 _ _ ⟨_,rfl,S2,FD hno⟩
 rintro L H2 ⟨v5,rfl,S2,e4⟩;rw[e4,yI] at k;have kno:∀n∈ppl o1 o2 d,∃x,Zr (Ze as).1 n=some x:=λn hn=>by
  have:=wA.mp e4 n hn;unfold Wt at this;cases e:Zr (Ze as).1 n with
  | none=>rw[if_pos e] at this;cases this
  | some x=>exact⟨x,rfl⟩
 obtain⟨vs,hvd,hvr⟩:=hW.d.sm S2;have hvl:=hvr.length;rw[xA] at hvl;refine Ye λD3 hn3=>?_;refine⟨_,rfl,W.dl,rfl,⟨_,ZD.of hvd⟩,?_⟩;refine Ui (J:=vs) (λi ys Y=>Y=H2/\ZO (fz fx H2) (((as.take i).filter Y7).map adT) ys) ⟨rfl,rfl⟩ (by lia) (λi ys Y _ ⟨e,_⟩=>by rw[e];exact ZD.of hvd) (λi ys Y ⟨_,e⟩=>by rw[e.length,xA];exact xZ (yS _ _) (by rw[xR];lia)) ?_ ?_
 .rintro i v ys Y hv ⟨rfl,e⟩ ls hls;obtain⟨u,rfl⟩:=Uj hls;obtain⟨x0,hx0,re⟩:=hvr.get hv;rw[xC] at hx0;obtain⟨x,hx,rfl⟩:=xL.mp hx0;obtain⟨a,us,rfl,ha,hw⟩:=Ad re;have et:as.take (i+1)=as.take i ++ [x]:=by rw[xS,hx];rfl
  rw[et,zI];refine⟨⟨[_],rfl,rfl⟩,_,rfl,a,_,0,.str (Y2 x),rfl,rfl,ZJ.of ha,Yl hw,rfl,_,rfl,Zv (λz=>⟨_,rfl,rfl,?_⟩) (λz=>⟨rfl,?_⟩)⟩
  .rw[zJ ((Bs x).mp (by injection z)),xM];exact ZO.snoc re e
  .rw[mZ (λy=>z (by rw[(Bs x).mpr y])),xM];show ZO _ (_ ++ []) ys;rw[xX];exact e
 rintro us Y ⟨rfl,hur⟩ lb hlb;rw[hvl,xT] at hur;refine nw (o:=.lst us) hlb λH3 S3' kb=>?_;have S3:=S2.trans S3';have hur:=ZO.iK hur (show ZA (fz fx Y) (fz fx H3) from Ve (λ_ _ e=>S3' _ _ e) (λ_ _ _ e=>S3' _ _ e) λ_ z=>z);have hul:=hur.length;rw[xA] at hul;refine Z9 (hn3 _ _ ?_);refine Ye λD4 hn4=>?_;refine⟨_,rfl,q,d,day,need,o1,o2,rfl,hc.mono S3,λl H4 kl S4'=>⟨l,rfl,⟨_,ZD.of kl⟩,?_⟩⟩;have S4:=S3.trans S4';refine Ui (J:=(ppl o1 o2 d).map V.str) (λi ys Y=>H4=Y/\ys=((ppl o1 o2 d).take i).map λn=>V.int (cdy as n)) ⟨rfl,rfl⟩ (by rw[xA];lia) (λi ys Y _ ⟨e,_⟩=>by rw[<- e];exact ZD.of kl) (λi ys Y ⟨_,e⟩=>by rw[e,xA,xR];lia) ?_ ?_
 .rintro i v ys Y hv ⟨rfl,e⟩ ls hls;obtain⟨u,rfl⟩:=D9 hls;rw[xC] at hv;obtain⟨n,hn,rfl⟩:=xL.mp hv;obtain⟨x,hx⟩:=kno n (xG hn);refine⟨⟨[_],rfl,rfl⟩,_,rfl,_,rfl,W.dl,fx,as,n,rfl,hW.d.sm S4,rfl,?_⟩;rw[e,xS,hn,xM,hx];show _=_ ++ [V.int ((Zr (Ze as).1 n).getD 0)];rw[hx];rfl
 rintro ys Y ⟨rfl,e⟩ ls hls;rw[xA,xT] at e;subst e;refine nw (o:=.lst ((ppl o1 o2 d).map λn=>V.int (cdy as n))) hls λH5 S5' ks=>?_;have S5:=S4.trans S5';have lsn:H ls=none:=S4.free hls;have ks:H5 ls=some (.lst (((ppl o1 o2 d).map (cdy as)).map V.int)):=by rw[mV];exact ks
 have kb5:=S5' _ _ (S4' _ _ kb);refine Z9 (hn4 _ _ ?_);have more:∀{H6:Hp}{x:Int}{c:List Int}{R:Hp->Prop},ZA H H6->H6 ls=some (.lst (c.map V.int))->c.length<=130->(∀Y,ZA H Y->Y ls=some (.lst ((c ++ [x]).map V.int))->R Y)->R (upd H6 ls (.lst (c.map V.int ++ [.int x]))):=λ{H6 x c R} S kc _ z=>z _ (λb o e=>by rw[Zf (Zo e lsn)];exact S _ _ e) (by rw[Zj,xM];rfl);refine Vg (λL Y=>L=[some (.ref W.wl),some (.ref q),some (.ref W.dl),some (.ref W.sl),some (.ref W.tl),v5,some (.ref lb),some (.ref ls)]/\ZA H Y/\Y ls=some (.lst (((ppl o1 o2 d).map (cdy as)++stA as d).map V.int))/\AN (as.filter Y7).length d=none) ?_ ?_
 rotate_left
 .intro D5 hn5 hr5 _ _;refine⟨_,rfl,q,_,0,_,rfl,rfl,ZJ.of (S5 _ _ hq),at0,rfl,_,rfl,Zv (λz=>?_) (λz=>hn5 _ _ ⟨rfl,S5,?_⟩)⟩
  .obtain⟨x,i,rfl⟩:=SE z;have hq5:=S5 _ _ hq;have bad:¬(0<=i/\i<(as.filter Y7).length)->Q (.str "NoThing") H5:=λh=>by
    have k:=k _ S5;rw[show AN (as.filter Y7).length (.clm x i)=some ("NoThing":Str) from if_neg h] at k;exact k
   refine V3 λD6 hn6 hr6=>?_;refine⟨_,rfl,q,_,2,_,rfl,rfl,ZJ.of hq5,rfl,_,_,rfl,rfl,_,rfl,Zv (λz1=>Z6 (hr6 _ _ (hr5 _ _ (bad (by lia))))) (λz1=>?_)⟩;refine⟨_,rfl,q,_,2,_,rfl,rfl,ZJ.of hq5,rfl,_,rfl,lb,us,rfl,.inl (ZD.of kb5),_,_,rfl,rfl,_,rfl,?_⟩;rw[hul];refine Zv (λz2=>hr6 _ _ (hr5 _ _ (bad (by lia)))) (λz2=>hn6 _ _ ?_);obtain⟨j,rfl⟩:=yC (show 0<=i by lia);have hj:j<(as.filter Y7).length:=by lia
   obtain⟨v,hv⟩:∃v,us[j]?=some v:=⟨_,xB (by lia)⟩;obtain⟨x0,hx0,re⟩:=hur.get hv;rw[xC] at hx0;obtain⟨x1,hx1,rfl⟩:=xL.mp hx0;have hb:Y7 x1=true:=(zM.mp (xG hx1)).2;obtain⟨n,dy,rfl⟩:∃n dy,x1=.s (.bring n dy):=by
    cases x1 with
    | s d=>cases d<;>first | exact⟨_,_,rfl⟩ | cases hb
    | c d day need o1 o2 f=>cases hb
   obtain⟨ab,rfl,hab⟩:=Am re;have ed:B1 as j=dy:=by unfold B1;rw[hx1]
   refine⟨_,rfl,.inl ⟨rfl,_,ZD.of ks⟩,_,rfl,_,rfl,q,_,2,_,rfl,rfl,ZJ.of hq5,rfl,lb,us,j,_,rfl,rfl,ZD.of kb5,Yl hv,ab,_,2,.int dy,rfl,rfl,ZJ.of (S5' _ _ (S4' _ _ hab)),rfl,ls,_,.int dy,rfl,rfl,ks,by rw[xA,xA];lia,?_⟩;refine more (x:=dy) S5 ks (by rw[xA];lia) λH6 S6 k6=>hn5 _ _ ⟨rfl,S6,?_,if_pos (by lia)⟩;show _=some (HO.lst ((_ ++ [B1 as (Int.toNat (j:Int))]).map V.int));rw[yH,ed];exact k6
  .have e:stA as d=[]/\AN (as.filter Y7).length d=none:=by
    cases d with
    | clm x i=>exact absurd rfl z
    | _=>exact⟨rfl,rfl⟩
   rw[e.1,xX];exact⟨ks,e.2⟩
 rintro L H6 ⟨rfl,S6,k6,e5⟩;rw[e5,yI] at k;obtain⟨ts,ht,htr⟩:=hW.t.sm S6;have htl:=htr.length;have trl:(Ze as).2.o6.length=(as.filter isC).length:=by rw[Ks,xA]
 rw[xA] at htl;refine Vg (λL Y=>L=[some (.ref W.wl),some (.ref q),some (.ref W.dl),some (.ref W.sl),some (.ref W.tl),v5,some (.ref lb),some (.ref ls)]/\ZA H Y/\Y ls=some (.lst ((JT as o1 o2 d).map V.int))/\Bb (Ze as).2.o6 d=none) ?_ ?_
 rotate_left
 .intro D5 hn5 hr5 _ _;refine⟨_,rfl,q,_,0,_,rfl,rfl,ZJ.of (S6 _ _ hq),at0,rfl,_,rfl,Zv (λz=>?_) (λz=>hn5 _ _ ⟨rfl,S6,?_⟩)⟩
  .obtain⟨i,n,rfl⟩:=Gm z;have hq6:=S6 _ _ hq;have bad:∀{x:Str}{Y},ZA H Y->Wy (Ze as).2.o6 i n=some x->Q (.str x) Y:=λS h=>by
    have k:=k _ S;rw[show Bb (Ze as).2.o6 (.acc i n)=_ from h] at k;exact k
   refine V3 λD6 hn6 hr6=>?_;refine⟨_,rfl,q,_,1,_,rfl,rfl,ZJ.of hq6,rfl,_,_,rfl,rfl,_,rfl,Zv (λz1=>Z6 (hr6 _ _ (hr5 _ _ (bad S6 (GH (by lia)))))) (λz1=>?_)⟩;refine⟨_,rfl,q,_,1,_,rfl,rfl,ZJ.of hq6,rfl,_,rfl,W.tl,ts,rfl,.inl (ZD.of ht),_,_,rfl,rfl,_,rfl,?_⟩;rw[htl];refine Zv (λz2=>hr6 _ _ (hr5 _ _ (bad S6 (GH (by lia))))) (λz2=>hn6 _ _ ?_);obtain⟨j,rfl⟩:=yC (show 0<=i by lia);have hj:j<(as.filter isC).length:=by lia
   obtain⟨v,hv⟩:∃v,ts[j]?=some v:=⟨_,xB (by lia)⟩;obtain⟨x0,hx0,re⟩:=htr.get hv;rw[xC] at hx0;obtain⟨x1,hx1,rfl⟩:=xL.mp hx0;have hb:isC x1=true:=(zM.mp (xG hx1)).2;obtain⟨d2,dy,nd2,p1,p2,f2,rfl⟩:∃d2 dy nd2 p1 p2 f2,x1=.c d2 dy nd2 p1 p2 f2:=by
    cases x1 with
    | s d=>cases hb
    | c d day need o1 o2 f=>exact⟨_,_,_,_,_,_,rfl⟩
   obtain⟨ab,m1,m2,rfl,hab,g1,g2⟩:=CQ re;have ed:By as j=dy:=by unfold By;rw[hx1]
   have eo:=Nb (n:=n) (show (Ze as).2.o6[j]?=some (C7 (.c d2 dy nd2 p1 p2 f2)) by rw[Ks,xC,hx1];rfl);rw[show ((C7 (.c d2 dy nd2 p1 p2 f2)).ones++(C7 (.c d2 dy nd2 p1 p2 f2)).others).map (·.1)=p1++p2 by rw[xM];exact congr (congrArg _ (Lx f2 p1)) (Lx f2 p2)] at eo;have l1k:=bnd j d2 dy nd2 p1 p2 f2 hx1;refine V3 λD7 hn7 hr7=>?_;refine⟨_,rfl,q,_,2,_,rfl,rfl,ZJ.of hq6,rfl,_,rfl,_,rfl,q,_,1,_,rfl,rfl,ZJ.of hq6,rfl,W.tl,ts,j,_,rfl,rfl,ZD.of ht,Yl hv,_,rfl,ab,_,-2,_,rfl,rfl,ZJ.of hab,DW ..,_,rfl,_,rfl,q,_,1,_,rfl,rfl,ZJ.of hq6,rfl,W.tl,ts,j,_,rfl,rfl,ZD.of ht,Yl hv,_,rfl,ab,_,-1,_,rfl,rfl,ZJ.of hab,ET ..,Al (Af g1).1 (Af g2).1 (by lia) λl4 H7 k7 S7'=>⟨l4,_,rfl,.inl (ZD.of k7),rfl,FH _,_,rfl,?_⟩⟩;have S7:=S6.trans S7';rw[EM];refine Ua (λz3=>hr7 _ _ (hr5 _ _ (bad S7 (by rw[eo,if_neg z3])))) (λz3=>hn7 _ _ ?_);refine⟨_,rfl,.inl ⟨rfl,_,ZD.of (S7' _ _ k6)⟩,_,rfl,_,rfl,q,_,1,_,rfl,rfl,ZJ.of (S7 _ _ hq),rfl,W.tl,ts,j,_,rfl,rfl,ZD.of (S7' _ _ ht),Yl hv,_,rfl,ab,_,-4,.int dy,rfl,rfl,ZJ.of (S7' _ _ hab),CP ..,ls,_,.int dy,rfl,rfl,S7' _ _ k6,by rw[xA,xE,xA];show _+0<_;lia,?_⟩;refine more (x:=dy) S7 (S7' _ _ k6) (by rw[xE,xA];show _+0<=_;lia) λH8 S8 k8=>hn5 _ _ ⟨rfl,S8,?_,eo.trans (if_pos z3)⟩;show _=some (HO.lst ((_ ++ [By as (Int.toNat (j:Int))]).map V.int));rw[yH,ed];exact k8
  .have e:stB as d=[]/\Bb (Ze as).2.o6 d=none:=by
    cases d with
    | acc i n=>exact absurd rfl z
    | _=>exact⟨rfl,rfl⟩
   unfold JT;rw[e.1,xX];exact⟨k6,e.2⟩
 rintro L H7 ⟨rfl,S7,k7,e6⟩;rw[e6,yI] at k;refine V3 λD8 hn8 hr8=>?_;refine⟨_,rfl,_,rfl,q,_,-4,_,rfl,rfl,ZJ.of (S7 _ _ hq),at4,_,rfl,ls,JT as o1 o2 d,0,rfl,rfl,ZD.of k7,λm hm=>⟨_,_,rfl,rfl,_,rfl,?_⟩⟩;have k:=k _ S7;have hny:day<m↔∃x∈JT as o1 o2 d,day<x:=by grind
 refine Zv (λz=>hr8 _ _ ?_) (λz=>hn8 _ _ ?_)
 .rw[show eNy (JT as o1 o2 d) day=_ from if_pos (hny.mp z)] at k;exact k
 .rw[show eNy (JT as o1 o2 d) day=_ from if_neg λy=>z (hny.mpr y)] at k;exact k
def Au(a:List ZS):CD->Option Str
 | .acc i n=>if J4 a i n=[] then none else some ("Broken":Str)
 | _=>none
def DF(a:List AD)(day need:Int)(b c:fZ)(d:CD):Option Str:=(Bt a day need b c d).or (((ppl b c d).findSome? λn=>V5 (Ze a).1 n day).or ((Uf (Ze a).2 need (λn=>wg (Ze a).1 n day) b c).or (Au (Ze a).2.o6 d)))
theorem Ny{S:List ZK}{day:Int}{l:fZ}{n:Str}(a:n∈l)(e:Ju S n day=true):(l.findSome? λn=>V5 S n day)=some ("Dead":Str):=by
 induction l with
 | nil=>cases a
 | cons m l b =>
  rw[zU]
  by_cases z:Ju S m day=true
  .unfold V5;rw[if_pos z]
  .have:V5 S m day=none:=if_neg z;rw[this];rcases xD.mp a with rfl | y
   .exact absurd e z
   .exact b y
theorem Qt{m:Mo}{l:fZ}{n:Str}(a:n∈l)(e:Vz m n=true):(l.findSome? λn=>if Vz m n=true then some ("Forsworn":Str) else none)=some ("Forsworn":Str):=by
 induction l with
 | nil=>cases a
 | cons x l a =>
  rw[zU]
  by_cases z:Vz m x=true
  .rw[if_pos z]
  .grind
theorem Gr(h:okE a):okS a:=λx e z=>by
 have:=h x e;rw[z] at this;exact absurd this aA
theorem NY(a:List AD)(day need:Int)(b c:fZ)(d:CD):okS (Bt a day need b c d):=by
 refine Gr ((okE.m _ _ _).or ((okE.m _ _ _).or (okE.or ?_ ((okE.find (okE.known _)).or (okE.or ?_ (okE.or ?_ (.ite (.yes aA) .non)))))))
 .cases d<;>first | exact okE.m _ _ _ | exact okE.non
 .cases d<;>first | exact .ite .non (.yes (by decide +kernel)) | exact okE.non
 .cases d<;>first | exact okE.oath _ _ _ | exact okE.non
inductive TH(vs:aG)(H:Hp)(Q:VK)(a:XK):Prop
 |mk(s:gF) (W:WL) (f:gC) (c:List AD) (q:gF) (d:CD) (a b:Int) (e g:fZ)(_:vs=[.ref W.wl,.ref q])(_:ZW s H f W c (c.filter isC) (Ze c).2.o6)(_:WS (Ze c).2)(_:c.length<=300)(_:(∀n a,0<=wg (Ze c).1 n a/\wg (Ze c).1 n a<=1000))(_:(∀(j:Nat)(d:CD)(a b:Int)(e g:fZ)(f:Str->Int),(c.filter isC)[j]?=some (.c d a b e g f)->e.length<=60/\g.length<=60))(_:Tb H q d a b e g)(_:∀Y,ZA H Y->Q (JJ (DF c a b e g d)) Y)
abbrev Dd:Stmt:=top 84
theorem Us:Nm (Zm Dd) "_law_deed_here" .cell:=aA
theorem B5:Nm (Zm Dd) "_law_world" .cell:=aA
theorem bV(a:YA K mg "_law_due" Dd)(T:Txt mg)(l:Fn P w K mg Z "_law_early_due" lu 2 Ag)(n:Fn P w K mg Z "_law_folk_of" lp 1 VJ)(e:Fn P w K mg Z "_law_is_dead" lB 2 VU)(g:Fn P w K mg Z "_law_is_forsworn" ["_law_world","_law_name"] 4 Ap)(m:Fn P w K mg Z "_law_weighs" lB 1 YZ)(i:Fn P w K mg Z "_law_lost" lU 4 T8):Fn P w K mg Z "_law_due" lu 5 TH:=by
 refine a.fq ["_law_world","_law_deed_here","_law_due_here","_law_name","_law_names_here"] λH a Q E u h=>?_;obtain⟨s,W,I,f,q,d,a,c,b,j,rfl,A,ok,t,U,p,r,k⟩:=h
 refine⟨rfl,_,(Zd (Zx 2 (Zl l (Za (qvC 0 B5) (Za (qvC 1 Us) Zb)))) (Zd (Zq (Zk IY Qa Zt (Zn _)) (Zg (Zw Qa)) Zp) (Zd (Wi mW rfl (Yz (Zl n (Za (qvC 1 Us) Zb))) (Yi 3) (Zg (Zq (Vi (Zl e (Za (Zh Z7 (qvC 0 B5) Zc) (Za Qb (Za (Zh Zi (qvC 1 Us) (Yw Yx Zc)) Zb))))) (Zg (Zw Zt)) Zp))) (Zd (Zx 4 (Zu Wj (Zh Zi (qvC 1 Us) (Yw Yx Zc)) (Zh Zi (qvC 1 Us) (Yw Yx Zc)))) (Zd (Zq (QW.pt (AB (Zk Ji (Z0 Ym T.len Yh (Za (Zh Z7 (qvC 0 B5) Zc) Zb)) Zc (Zn _)) (AB (Zk Jo (Z0 Ym T.len Yh (Za (Zh Zi (qvC 1 Us) (Yw Yx Zc)) Zb)) Zc (Zn _)) (Bm (Zk Jo (Z0 Ym T.len Yh (Za (Zh Zi (qvC 1 Us) (Yw Yx Zc)) Zb)) Zc (Zn _)))))) (Zg (Zw Zt)) Zp) (Zd (Zq (Zk Vj (Mm (by rfl) T.len T.set (Za Qc Zb)) (Z0 Ym T.len Yh (Za Qc Zb)) (Zn _)) (Zg (Zw Zt)) Zp)
 (Zd (Wi mW rfl (Yz Qc) (Yi 3)
 (Zg (Zq (Vi (Zl g (Za (qvC 0 B5) (Za Qb Zb)))) (Zg (Zw Zt)) Zp)))
 (Zd (Zq (Zk Vj (Z0 (CB (by rfl)) T.sum BF (Za (Vu (locs:=lG) (fr:=[("_law_world", 0),("_law_deed_here", 1)]) ⟨rfl,aA,aA,aA,aA,aA⟩ (.ij B5 (.ij Us .nil)) rfl (Yz (Zh Zi (qvC 1 Us) (Yw Yx Zc))) ⟨λ_ _ _ _ _ _=>by
  have e:(inN lG [("_law_world", 0),("_law_deed_here", 1)]).Nodup:=aA
  exact⟨(Wb 0 e),Uc,(Zl m (Za (Zh JX (Wn 1) Zc) (Za (Yp 0) (Za (Zh JN (Wn 2) (Yw Yx Zc)) Zb))) (n:=nmC))⟩⟩) Zb)) (Zh Zi (qvC 1 Us) (Yw Yx Zc)) (Zn _)) (Zg (Zw Zt)) Zp)
 (Zd (Zq (QW.pt (Wz (Zk Yk (Zh Zi (qvC 1 Us) Zc) Zt (Zn _)) (Vx (Zk (Od u) (Yj (Za (Zh Zi (qvC 1 Us) Zc) (Za (Zh Zi (qvC 1 Us) Zc) Zb))) (Zl i (Za (Zh Z7 (qvC 0 B5) Zc) Zb)) rfl)))) (Zg (Zw Zt)) Zp)
 (Zg (Zw Zt))))))))))),?_⟩
 have e:=aC
 obtain⟨l1,l2,B,M,h2,e,g⟩:=id r;have em:Wf (Ze f).2=none:=if_pos (by rw[Cq];lia);have h:=Ho e g d;unfold DF at k;refine Ye λg e=>?_;refine⟨_,rfl,_,rfl,s,W,I,f,(Ze f).2.o6,q,d,a,c,b,j,rfl,A,by lia,p,r,λh g=>e _ _ ?_⟩;have e:=NY f a c b j d;generalize Bt f a c b j d=h at k e |-;refine V3 λm i l=>?_;refine⟨_,rfl,rfl,_,rfl,Ua (λz=>?_) (λz=>i _ _ ?_)⟩
 .cases h with
  | none=>exact absurd rfl z
  | some x=>exact⟨_,rfl,l _ _ (k _ g)⟩
 have h:=(EC e).mp z;subst h;have k:∀Y,ZA H Y->Q (JJ (((ppl b j d).findSome? λn=>V5 (Ze f).1 n a).or ((Uf (Ze f).2 c (λn=>wg (Ze f).1 n a) b j).or (Au (Ze f).2.o6 d)))) Y:=k;refine Vg (λL Y=>∃p:Option V,L=[some (.ref W.wl),some (.ref q),some (.str ""),p,none]/\ZA H Y/\((ppl b j d).findSome? λn=>V5 (Ze f).1 n a)=none) ?_ ?_
 rotate_left
 .intro N E m _ _;refine⟨_,rfl,q,d,a,c,b,j,rfl,r.mono g,λl G O e=>⟨l,rfl,⟨_,ZD.of O⟩,?_⟩⟩;have u:=g.trans e;refine Vl ((ppl b j d).map V.str) (λi L Y=>∃p:Option V,L=[some (.ref W.wl),some (.ref q),some (.str ""),p,none]/\ZA G Y/\∀n∈(ppl b j d).take i,V5 (Ze f).1 n a=none) ⟨none,rfl,ZA.refl _,λn r=>by cases r⟩ (λi L Y _ ⟨_,_,e,_⟩=>ZD.of (e _ _ O)) ?_ ?_
  .rintro i v L Y C ⟨p,rfl,t,g⟩;rw[xC] at C;obtain⟨n,r,rfl⟩:=xL.mp C;have h:=u.trans t;refine⟨_,rfl,W.wl,_,0,_,rfl,rfl,ZD.of (h _ _ A.e),rfl,_,rfl,_,rfl,_,rfl,q,_,-4,_,rfl,rfl,ZJ.of (h _ _ B),CP ..,W.dl,I,f,n,a,rfl,A.d.sm h,λH4 l=>⟨_,rfl,Cu (λz=>m _ _ ?_) (λz=>⟨_,rfl,t.trans l,λm F=>?_⟩)⟩⟩
   .have k:=k _ (h.trans l);rw[Ny (xG r) z] at k;exact k
   .rw[xS,r] at F;rcases xJ.mp F with y | y
    .exact g m y
    .cases xP.mp y;exact if_neg (by rw[z];exact xN)
  .rintro L Y ⟨p,rfl,h,g⟩;rw[xA,xT] at g;exact E _ _ ⟨_,rfl,u.trans h,FD g⟩
 rintro L G ⟨p,rfl,u,R⟩;rw[R] at k;have k:∀Y,ZA H Y->Q (JJ ((Uf (Ze f).2 c (λn=>wg (Ze f).1 n a) b j).or (Au (Ze f).2.o6 d))) Y:=k;unfold Uf at k;refine Ye λN E=>?_;refine⟨_,rfl,_,rfl,q,_,-2,_,rfl,rfl,ZJ.of (u _ _ B),DW ..,_,rfl,_,rfl,q,_,-1,_,rfl,rfl,ZJ.of (u _ _ B),ET ..,Al (u _ _ M) (u _ _ h2) (by lia) λG X N t=>E _ _ ?_⟩;have h:=u.trans t;obtain⟨us,hu,E⟩:=id A.u;have c:=E.length;rw[xA] at c;have u:=h _ _ B;have c:(b.map V.str).length=b.length:=xA ..;have c:(j.map V.str).length=j.length:=xA ..;refine V3 λt R c=>?_;have t:60<=(Ze f).2.o6.length\/12<max b.length j.length->Q (.str "TooMany") X:=λz=>by grind
 refine⟨_,rfl,W.wl,_,1,_,rfl,rfl,ZD.of (h _ _ A.e),rfl,W.sl,us,rfl,.inl (ZD.of (h _ _ hu)),_,_,rfl,rfl,_,rfl,Zv (λz=>Z6 (c _ _ (t (.inl (by lia))))) (λz=>?_)⟩;refine⟨_,rfl,_,rfl,q,_,-2,_,rfl,rfl,ZJ.of u,DW ..,l1,_,rfl,.inl (ZD.of (h _ _ M)),_,_,rfl,rfl,_,rfl,Zv (λz=>Z6 (c _ _ (t (.inr (by lia))))) (λz1=>?_)⟩;refine⟨_,rfl,_,rfl,q,_,-1,_,rfl,rfl,ZJ.of u,ET ..,l2,_,rfl,.inl (ZD.of (h _ _ h2)),_,_,rfl,rfl,_,rfl,Zv (λz=>c _ _ (t (.inr (by lia)))) (λc=>R _ _ ?_)⟩;rw[if_neg (by lia),if_neg (by lia),em] at k;rw[yI] at k;refine V3 λu c t=>?_;refine⟨_,rfl,G,b++j,rfl,ZD.of N,by rw[xE];lia,_,rfl,G,_,rfl,.inl (ZD.of N),_,_,rfl,rfl,_,rfl,Zv (λz=>t _ _ ?_) (λz=>c _ _ ?_)⟩
 .grind
 rw[if_neg (by rw[xA] at z;lia)] at k;refine Vg (λL Y=>∃p:Option V,L=[some (.ref W.wl),some (.ref q),some (.str ""),p,some (.ref G)]/\ZA H Y/\((b++j).findSome? λn=>if Vz (Ze f).2 n=true then some ("Forsworn":Str) else none)=none) ?_ ?_
 rotate_left
 .intro c t u _ _;refine⟨_,rfl,G,rfl,⟨_,ZD.of N⟩,?_⟩;refine Vl ((b++j).map V.str) (λi L Y=>∃p:Option V,L=[some (.ref W.wl),some (.ref q),some (.str ""),p,some (.ref G)]/\ZA X Y/\∀n∈(b++j).take i,(if Vz (Ze f).2 n=true then some ("Forsworn":Str) else none)=none) ⟨_,rfl,ZA.refl _,λn r=>by cases r⟩ (λi L Y _ ⟨_,_,e,_⟩=>ZD.of (e _ _ N)) ?_ ?_
  .rintro i v L Y C ⟨p,rfl,c,g⟩;rw[xC] at C;obtain⟨n,r,rfl⟩:=xL.mp C;have l:=h.trans c;refine⟨_,rfl,_,rfl,s,W,I,f,f.filter isC,n,rfl,A.same l,ok,by lia,λs j=>⟨_,rfl,Cu (λz=>u _ _ ?_) (λz=>⟨_,rfl,c.trans j,λm F=>?_⟩)⟩⟩
   .have k:=k _ (l.trans j);rw[Qt (xG r) z] at k;exact k
   .rw[xS,r] at F;rcases xJ.mp F with y | y
    .exact g m y
    .grind
  .rintro L Y ⟨p,rfl,l,g⟩;rw[xA,xT] at g;exact t _ _ ⟨_,rfl,h.trans l,FD g⟩
 rintro L H4 ⟨p,rfl,l,c⟩;rw[c,yI] at k;have c:=l _ _ B;refine V3 λg m p=>?_;refine⟨_,rfl,_,rfl,q,_,-2,_,rfl,rfl,ZJ.of c,DW ..,l1,rfl,⟨_,ZD.of (l _ _ M)⟩,?_⟩;refine Ui (J:=b.map V.str) (λi h Y=>ZA H4 Y/\h=((b.take i).map λn=>wg (Ze f).1 n a).map V.int) ⟨ZA.refl _,rfl⟩ (by lia) (λi h Y _ ⟨S,_⟩=>ZD.of (S _ _ (l _ _ M))) (λi h Y ⟨_,e⟩=>by rw[e,xA,xA,xR];lia) ?_ ?_
 .rintro i v h Y C ⟨c,rfl⟩ t g;obtain⟨u,rfl⟩:=D9 g;rw[xC] at C;obtain⟨n,r,rfl⟩:=xL.mp C;have j:=l.trans c;refine⟨⟨[_],rfl,rfl⟩,_,rfl,W.wl,_,0,_,rfl,rfl,ZD.of (j _ _ A.e),rfl,_,rfl,_,rfl,_,rfl,q,_,-4,_,rfl,rfl,ZJ.of (j _ _ B),CP ..,W.dl,I,f,n,a,rfl,A.d.sm j,λt g=>⟨c.trans g,?_⟩⟩;rw[xS,r,xM,xM];rfl
 rintro h s ⟨c,e⟩ r j;rw[xA,xT] at e;subst e;refine nw (o:=.lst ((b.map λn=>wg (Ze f).1 n a).map V.int)) j λt e j=>?_;have g:=(l.trans c).trans e;refine⟨r,_,rfl,ZD.of j,λx c=>?_,by rw[xA];lia,?_⟩
 .obtain⟨n,_,rfl⟩:=zF.mp c;have:=U n a;lia
 rw[show (wts (Yg (λn=>wg (Ze f).1 n a) b)).sum=(b.map λn=>wg (Ze f).1 n a).sum by unfold wts Yg;rw[mV];rfl] at k;refine⟨_,rfl,_,rfl,q,_,-3,_,rfl,rfl,ZJ.of (g _ _ B),LL ..,_,_,rfl,rfl,_,rfl,Zv (λz=>p _ _ ?_) (λz=>m _ _ ?_)⟩
 .have k:=k _ g;rw[if_pos z] at k;exact k
 rw[if_neg z] at k;have k:∀Y,ZA H Y->Q (JJ (Au (Ze f).2.o6 d)) Y:=k;refine V3 λa e l=>?_;have a:=g _ _ B;refine⟨_,rfl,q,_,0,_,rfl,rfl,ZJ.of a,Hk ..,rfl,_,rfl,Zv (λz=>?_) (λz=>Z5 (e _ _ ?_))⟩
 .obtain⟨i,n,rfl⟩:=Gm z;refine⟨_,rfl,q,_,1,_,rfl,rfl,ZJ.of a,rfl,_,rfl,q,_,2,_,rfl,rfl,ZJ.of a,rfl,aB rfl,λp a=>?_⟩;refine nw (o:=.tup [.int i,.str n]) a λc a r=>?_;have b:=g.trans a;have a:ZN c (Ze f).2.o6 W.sl:=⟨us,b _ _ hu,(E.iK BX).iK b⟩;refine⟨_,rfl,W.wl,_,1,_,rfl,rfl,ZD.of (b _ _ A.e),rfl,W.sl,_,rfl,a,by have:=ok.le;lia,λs h m t O j c a=>⟨p,s,i,n,m,h,rfl,a _ _ r,rfl,ZD.of O,j,?_⟩⟩;have k:=k _ (b.trans a);unfold Au at k;have h:(i,n)∈m↔J4 (Ze f).2.o6 i n ≠ []:=by
   rw[c,ME];exact⟨λ⟨j,u,_,a,b,c⟩=>⟨j,u,a,b,c⟩,λ⟨j,u,a,b,c⟩=>⟨j,u,(xI.mp a).1,a,b,c⟩⟩
  refine⟨_,rfl,Zv (λz=>l _ _ ?_) (λz=>e _ _ ?_)⟩
  .dsimp only at k;rw[if_neg (h.mp z)] at k;exact k
  .dsimp only at k;rw[if_pos (by by_cases y:J4 (Ze f).2.o6 i n=[];exact y;exact absurd (h.mpr y) z)] at k;exact k
 .have k:=k _ g;cases d with
  | acc i n=>exact absurd rfl z
  | _=>exact k
theorem ms3(d:a=none\/a=some ("NoMeasure":Str))(e:b=none\/b=some ("NoMeasure":Str))(f:c=none\/c=some ("NoMeasure":Str)):a.or (b.or (c.or r))=c.or (a.or (b.or r)):=by
 rcases d with rfl | rfl<;>rcases e with rfl | rfl<;>rcases f with rfl | rfl<;>rfl
theorem Fx(lo a x:Int):eM lo a x=none\/eM lo a x=some ("NoMeasure":Str):=by unfold eM;split<;>simp
theorem ny0:eNy [] day=none:=if_neg λ⟨_,h,_⟩=>by cases h
theorem EG:eNy (a::l) day=(Wo a day).or (eNy l day):=by
 unfold eNy Wo
 by_cases z:day<a
 .rw[if_pos ⟨a,by simp,z⟩,if_pos z];rfl
 .rw[if_neg z,yI]
  by_cases y:∃x∈l,day<x
  .rw[if_pos y];obtain⟨x,b,h⟩:=y;rw[if_pos ⟨x,xO _ b,h⟩]
  .grind
theorem HN:∀{l:fZ}{r:List Int},eNy (l.map (cdy as)++r) day=(l.findSome? λn=>Wo ((Zr (Ze as).1 n).getD 0) day).or (eNy r day)
 | [],r=>by rw[List.findSome?_nil,yI];rfl
 | n::l,r=>by
  rw[yF,yK,EG,HN,zU,<- Option.or_assoc];unfold cdy;cases Wo ((Zr (Ze as).1 n).getD 0) day<;>rfl
def GM:AD->D
 | .s (.bring n a)=>.tup [.str n,.int a]
 | _=>.non
def Kh:AD->Int
 | .c _ a _ _ _ _=>a
 | _=>0
theorem Ey(b:List AD):(Ze b).2.ib=(b.filter Y7).map GM/\(Ze b).2.days=(b.filter isC).map Kh:=by
 suffices h:∀(b:List AD)(s:V0),(b.foldl Vs s).2.ib=s.2.ib++(b.filter Y7).map GM/\(b.foldl Vs s).2.days=s.2.days++(b.filter isC).map Kh from h b _
 intro b
 induction b with
 | nil=>exact λs=>⟨(xX _).symm,(xX _).symm⟩
 | cons a b d =>
  intro s;rw[zA,(d _).1,(d _).2];cases a with
  | s d =>
   cases d
   case bring n a=>exact⟨by rw[zJ rfl,yF,List.append_cons];rfl,rfl⟩
   all_goals exact⟨rfl,rfl⟩
  | c d a b e g f=>cases d<;>exact⟨rfl,by rw[zJ rfl,yF,List.append_cons];rfl⟩
theorem SY(a:List AD)(i:Int):brD (Ze a).2 i=B1 a i.toNat:=by
 unfold brD B1;rw[(Ey a).1,xC];cases (a.filter Y7)[i.toNat]? with
 | none=>rfl
 | some x =>
  cases x with
  | s d=>cases d<;>rfl
  | c d b a e g f=>rfl
theorem OE(a:List AD)(j:Nat):(Ze a).2.days.getD j 0=By a j:=by
 unfold By;rw[yD,(Ey a).2,xC];cases (a.filter isC)[j]? with
 | none=>rfl
 | some x=>cases x<;>rfl
theorem Si(a:List AD)(day need:Int)(b c:fZ)(d:CD):DF a day need b c d=eCD (Ze a).1 (Ze a).2 day need (λn=>wg (Ze a).1 n day) b c d:=by
 have b:(a.filter Y7).length=(Ze a).2.ib.length:=by rw[(Ey a).1,xA]
 unfold DF Bt JT;rw[yT,HN];cases d with
 | wer x y m =>
  show _=JR _ _ _ _ _ _ _ _ _ _;unfold JR Vr Bq AN Bb stA stB Au ppl;simp only[xX,ny0,yI,Option.or_none,Option.bind_none,Option.or_assoc];exact ms3 (Fx _ _ _) (Fx _ _ _) (Fx _ _ _)
 | clm x i =>
  show _=Ax _ _ _ _ _ _ _ _ _;unfold Ax Vr Bq AN Bb stA stB Au ppl Jj;simp only[xX,ny0,EG,yI,Option.or_none,Option.bind_none,yU,Option.or_assoc,b,SY]
 | acc i n =>
  show _=Aj _ _ _ _ _ _ _ _ _;unfold Aj Vr Bq AN Bb stA stB Au ppl;simp only[zK,ny0,EG,yI,Option.or_none,Option.bind_none,yU,Option.or_assoc,OE]
def Cm(ns:fZ)(S:List ZK):Prop:=(∀n∈ns,∃d,Zr S n=some d)/\∀n,n∉ns->Zr S n=none
theorem Cm.of(t:AI ns ns.length S):Cm ns S :=
 ⟨λn a=>let ⟨d,e,_,_⟩:=t.com n (by rw[xT];exact a);⟨d,e⟩,λn a=>t.no n (by rw[xT];exact a)⟩
theorem Cm.snoc(h:Cm ns (Ze as).1)(i:∀d,x=.s d->dOk ns d/\eSD (Ze as).1 (Ze as).2 d=none):Cm ns (Ze (as ++ [x])).1:=by
 have b:∀n,Zr (Ze (as ++ [x])).1 n=Zr (Ze as).1 n:=by
  rw[TX];cases x with
  | c d a e g j f=>exact λ_=>rfl
  | s d =>
   obtain⟨g,e⟩:=i d rfl;cases d with
   | come n a f =>
    have e:((Tr (Ze as).1 n a f).or (Wf (Ze as).2))=none:=e;obtain⟨_,_,_,b,_⟩:=Ee (xY.mp e).1;obtain⟨x,z⟩:=h.1 n g.1;rw[b] at z;cases z
   | rise n a f=>exact λx=>Dk x
   | die n e a=>exact λx=>Dx x
   | _=>exact λ_=>rfl
 exact⟨λn a=>by rw[b];exact h.1 n a,λn a=>by rw[b];exact h.2 n a⟩
section
variable{C CM p s la nl:gF}{W:WL}{ns:fZ}{H Y:Hp}{fx:gC}{as:List AD}{O O':gF->Prop}{q:gF}
def DE(ns:fZ)(O:gF->Prop)(s:gF)(W:WL)(H:Hp)(q:gF):Prop :=
 (∃d,H q=some (.tup (sdV d))/\dOk ns d)\/
 ∃c e d b a f g,H q=some (.tup (cdV b a c e d))/\H c=some (.lst (f.map V.str))/\H e=some (.lst (g.map V.str))/\cOk ns d/\DT ns a f g/\(0<=b/\b<=9999)/\∀b ∈ [c,e],¬O b/\b ∉ [s,W.dl,W.sl,W.tl]
def RN(ns:fZ)(as:List AD)(H:Hp)(fx:gC)(q:gF)(x:AD):Prop :=
 Wk ns (as ++ [x])/\kss as (Ze as).2.o6 x=(Ze (as ++ [x])).2.o6/\YE (fz fx H) (adT x) (.ref q)/\∀d b a c e f,x=.c d b a c e f->c.length<=60/\e.length<=60
theorem Ww.tryD(U:Ww C CM p s la nl W ns H fx (Ze as) as O)(k:Wk ns as)(h:DE ns O s W H q){Q:V->Hp->Prop}{E:XK}(g:∀ (l:gF) (c:aG) (Y:Hp) (O':gF->Prop),Y l=some (.lst c)->ZZ O H O' Y->(c=[]/\Ww C CM p s la nl W ns Y fx (Ze as) as O')\/(∃ (v:V) (x:AD) (a:gC),c=[v]/\Ww C CM p s la nl W ns Y a (Ze (as ++ [x])) as O'/\RN ns as Y a q x/\(∀b∈a,b∈fx\/∃u,H b=some (.lst u))/\((∃d,x=.s d/\v=sdR (Ze as).2 d/\dOk ns d/\eSD (Ze as).1 (Ze as).2 d=none)\/∃d day need G I f,x=.c d day need G I f/\v=.int (Ze as).2.o6.length))->Q (.ref l) Y) :
  (Sp.or (WN C CM) (WK C CM)) [.ref p,.ref q] H Q E:=by
 rcases h with⟨d,a,i⟩ | ⟨A,B,d,day,need,G,I,a,y,J,i,M,N,K⟩
 .refine U.tryS k a i λl c m e o F n=>g l c m e o F (n.imp (λz=>⟨z.1,z.2.2⟩) λ⟨t,j,r⟩=>⟨_,.s d,fx,t,r,⟨k.snoc i j,?_,?_,?_⟩,λb w=>.inl w,.inl ⟨d,rfl,rfl,i,j⟩⟩)
  .rw[TX];cases d<;>rfl
  .exact⟨q,_,rfl,We (F.1 _ _ a (U.w.iQ a)),AF _ d⟩
  .exact λ_ _ _ _ _ _ z=>by cases z
 .obtain⟨S,T,L,X,P,R⟩:=M;rw[xE] at R;refine U.tryC k a y J i L (by lia) (by lia) (Vf N.1 (by lia)) (Vf (by lia) (by lia)) λl c m e o F n=>g l c m e o F (n.imp (λz=>⟨z.1,z.2.2⟩) λ⟨t,j,r⟩=>?_);have c:=K A (by simp);have n:=K B (by simp);have g:=F.1 _ _ y c.1;have m:=F.1 _ _ J n.1;have c:∀{b:gF}{o:HO},H b=some o->¬O b->¬e b:=λe n z=>(F.2 _ z).elim n (λy=>by rw[e] at y;cases y);have c:=r.more (gx:=[A,B]) λb w=>by grind
  refine⟨_,.c d day need G I (wf as day),[A,B]++fx,t,c,⟨k.iU i L P (by lia) (by lia) j,?_,?_,?_⟩,λb w=>?_,.inr ⟨_,_,_,_,_,_,rfl,rfl⟩⟩
  .rw[TX];cases d<;>rfl
  .exact⟨q,_,rfl,We (F.1 _ _ a (U.w.iQ a)),Cp (Vq (by simp) g) (Vq (by simp) m) d⟩
  .intro i b a c g j e;cases e;exact⟨by lia,by lia⟩
  .grind
end
section
variable{C CM p s la nl:gF}{W:WL}{ns:fZ}{H Y:Hp}{fx:gC}{as:List AD}{O:gF->Prop}{q:gF}{b:Nat}
def CC(O:gF->Prop)(s:gF)(W:WL)(b:gF):Prop:=¬O b/\b ∉ [s,W.dl,W.sl,W.tl]
def WV(b:Nat)(O:gF->Prop)(s:gF)(W:WL)(H:Hp)(q:gF):Prop:=∃d c a e f g h,H q=some (.tup (cdV c a e f d))/\BC d/\okI c/\okI a/\YX b (CC O s W) H e g/\YX b (CC O s W) H f h
theorem WV.to(h:WV b O s W H q)(w:∀b t,H b=some (.tup t)->Y b=some (.tup t))(e:∀b o,CC O s W b->H b=some o->Y b=some o/\CC O' s W b):WV b O' s W Y q:=by
 obtain⟨d,c,a,x,y,z,A,v,f,g,i,⟨j,k,l⟩,m,n,r⟩:=h;obtain⟨t,u⟩:=e _ _ k j;obtain⟨j,k⟩:=e _ _ n m;exact⟨d,c,a,x,y,z,A,w _ _ v,f,g,i,⟨t,u,l⟩,j,k,r⟩
theorem WV.frm(h:WV b O s W H q)(w:YD C CM H p S m O)(f:ZZ O H O' Y):WV b O' s W Y q :=
 h.to (λ_ _ e=>f.1 _ _ e (w.iQ e)) λx o l e=>⟨f.1 _ _ e l.1,λz=>(f.2 _ z).elim l.1 (λy=>by rw[e] at y;cases y),l.2⟩
theorem WV.x(h:WV b O s W H q)(hs:ZH H s la)(k:ZF s H Y):WV b O s W Y q:=by
 obtain⟨_,_,_,_,_,a,_⟩:=hs;exact h.to (λx t e=>k _ _ (λz=>by rw[z,a] at e;cases e) e) λx o l e=>⟨k _ _ (λz=>l.2 (by rw[z];simp)) e,l⟩
theorem WV.kp(h:WV b O s W H q)(w:ZW s H fx W as bs ss)(k:∀b o,b ∉ [W.dl,W.sl,W.tl]->H b=some o->Y b=some o):WV b O s W Y q:=by
 obtain⟨_,a,_⟩:=w.d;obtain⟨_,c,_⟩:=w.u;obtain⟨_,d,_⟩:=w.t;refine h.to (λx t e=>k _ _ (λz=>?_) e) λx o l e=>⟨k _ _ (λz=>l.2 (xO _ z)) e,l⟩;simp only[xD,xV,or_false] at z;rcases z with rfl | rfl | rfl
 .rw[a] at e;cases e
 .rw[c] at e;cases e
 .rw[d] at e;cases e
theorem DE.cas(h:DE ns O s W H q)(c:∀n∈ns,Vm n):(∃d,H q=some (.tup (sdV d))/\dOk ns d)\/WV 26 O s W H q:=by
 rcases h with z | ⟨l1,l2,d,day,need,o1,o2,hq,h1,h2,hd,⟨s0,s1,s2,_,_,s5⟩,hy,hl⟩
 .exact .inl z
 .rw[xE] at s5;have a:∀{n},n∈ns->okN n:=λh=>Fh (c _ h);refine .inr ⟨d,day,need,l1,l2,o1,o2,hq,?_,Vf hy.1 (by lia),Vf (by lia) (by lia),⟨h1,hl l1 (by simp),by lia,λn c=>a (s2 n (yN _ c))⟩,h2,hl l2 (by simp),by lia,λn c=>a (s2 n (xK _ c))⟩;cases d with
  | wer x y m=>exact⟨a hd.1,a hd.2.1,hd.2.2⟩
  | clm x i=>exact⟨a hd.1,hd.2.1⟩
  | acc i n=>exact⟨hd.2,a hd.1⟩
theorem cZ(h:eCD S m day need f o1 o2 d=none):Uf m need f o1 o2=none:=by
 cases d with
 | wer x y a=>simp only[eCD,JR,xY] at h;exact h.2.2.2.2
 | clm x i=>simp only[eCD,Ax,xY] at h;exact h.2.2.2
 | acc i n=>simp only[eCD,Aj,xY] at h;exact h.2.2.2.1
theorem Wk.snocW(k:Wk ns as)(f:Cm ns (Ze as).1)(j:o1.length<=60)(l:o2.length<=60)(g:BC d)(e:eCD (Ze as).1 (Ze as).2 day need (wf as day) o1 o2 d=none):Wk ns (as ++ [.c d day need o1 o2 (wf as day)]):=by
 obtain⟨_,⟨a,_⟩,i,_⟩:=GU e;have c:∀{n},(∃a,Zr (Ze as).1 n=some a)->n∈ns:=λ{n} ⟨a,h⟩=>by
  by_cases z:n∈ns
  .exact z
  .rw[f.2 n z] at h;cases h
 refine k.iU ?_ (λn f=>let ⟨a,h,_⟩:=i n f;c ⟨a,h⟩) ?_ j l e
 .cases d with
  | wer x y m =>
   simp only[eCD,JR,xY] at e;have z:=(Jp e.2.2.2.1).1;exact⟨c (let ⟨a,h,_⟩:=z x (by simp);⟨a,h⟩),c (let ⟨a,h,_⟩:=z y (by simp);⟨a,h⟩),g.2.2⟩
  | clm x i =>
   simp only[eCD,Ax,xY] at e;obtain⟨z,f,_⟩:=Jp e.2.2.1;have f:=f i rfl;unfold Jj at f;refine⟨c (let ⟨a,h,_⟩:=z x (by simp);⟨a,h⟩),g.2,?_⟩
   by_cases y:inB i (Ze as).2.ib.length
   .exact y.1
   .rw[if_neg y] at f;cases f
  | acc i n =>
   simp only[eCD,Aj,xY] at e;have a:=(Jp e.2.2.1).2.2 i n rfl;unfold Wy at a;refine⟨?_,g.1⟩;split at a
   .rename_i t c;split at a
    .split at a
     .rename_i y;exact(k.su t (xG c)).2 n y
     .cases a
    .cases a
   .cases a
 .have h:=cZ e;unfold Uf at h;split at h
  .cases h
  split at h
  .cases h
  have h:=(xY.mp h).2;split at h
  .cases h
  have h:=(xY.mp h).2;cases o1 with
  | nil=>rw[if_pos (show (wts (Yg (wf as day) [])).sum<need by show (0:Int)<need;lia)] at h;cases h
  | cons x l=>exact Nat.succ_pos _
theorem FZ{t u:TS}{D:ZY}{L:St}{H:Hp}(h:∀c:ZY,(∀ a Y,u D a Y->c.nx a Y)->(∀v Y,D.rt v Y->c.rt v Y)->(∀ a Y,D.ct a Y->c.ct a Y)->t c L H):Ug t u D L H:=h {D with nx:=u D } (λ_ _ h=>h) (λ_ _ h=>h) λ_ _ h=>h
theorem Ww.drawnX(U:Ww C CM p s la nl W ns H fx (Ze as) as O)(k:Wk ns as){Q:V->Hp->Prop}{E:XK}(g:∀ (q:gF) (Y:Hp),ZF s H Y->Ww C CM p s la nl W ns Y fx (Ze as) as O->DE ns O s W Y q->Q (.ref q) Y):UC [.ref s,.ref W.wl,.ref nl] H Q E:=by
 have a:=k.wok.al;have y:=k.wok.sl;have i:(as.filter Y7).length<=1000:=xZ (yS _ _) a;refine⟨s,la,nl,ns,W,fx,as,as.filter isC,(Ze as).2.o6,rfl,U.sr,U.wd,k.wok,U.nm,λz=>U.nn (by rw[z];simp),λq d Y a n f h c=>g q Y c (U.x h c) (.inl ⟨d,f,bJ a i⟩),λq u v d l m a w x Y e j t n z A f o r h c=>g q Y c (U.x h c) (.inr ⟨u,v,d,m,a,w,x,f,o,r,M5 j i y,t,Qs j e,λb a=>?_⟩)⟩;have a:H b=none:=by grind
 exact⟨U.w.out a,U.new a⟩
end
theorem MG{H:Hp}{day need:Int}{a b l1 l2:gF}{c e:fZ}(f:H a=some (.lst (c.map V.str)))(g:H b=some (.lst (e.map V.str)))(h:H l1=some (.lst (c.map V.str)))(i:H l2=some (.lst (e.map V.str)))(d:CD)(j:Nat)(u v:V)(c:(cdV day need a b d)[j]?=some u)(k:(cdV day need l1 l2 d)[j]?=some v):Da H u v:=by
 have e:Da H (.ref a) (.ref l1):=.inr (.inr ⟨_,_,_,rfl,rfl,f,h⟩);have a:Da H (.ref b) (.ref l2):=.inr (.inr ⟨_,_,_,rfl,rfl,g,i⟩);cases d<;>(rcases j with _ | _ | _ | _ | _ | _ | _ | _ | j)<;>first | (cases c;done) | (cases c;cases k;first | exact e | exact a | exact .inl ⟨_,rfl,rfl⟩ | exact .inr (.inl ⟨_,rfl,rfl⟩))
abbrev B2:Stmt:=top 89
theorem XN:ZM ["_law_script","_law_src_here","_law_moot","_law_world","_law_names_here","_law_last","_law_same","_law_k","_law_deed_here","_law_more","_law_due_here","_law_handed"] ["_law_script"] (Zm B2):=fsc
theorem dP(F_law:UI K "law" "law" B2 f fd)(T:Txt mg)(Tm:ZR K CM)(MM_now:Mt P w K mg Z CM "now" lP 1 (Az C CM))(Z25:Fn P w K mg Z "_law_src" ["_law_script"] 1 (JV K))(Z8:Fn P w K mg Z "_law_next" lj 1 YC)(Z26:Fn P w K mg Z "_law_names" lK 3 UM)(M_Moot:DM P w K mg Z CM "Moot" 3 (UT C CM))(Z27:Fn P w K mg Z "_law_start" lN 10 (UW C CM))(Z28:Fn P w K mg Z "_law_deed" lV 5 UC)(Zjx:Fn P w K mg Z "_law_try" lH 9 (Sp.or (WN C CM) (WK C CM)))(Zfn:Fn P w K mg Z "_law_keep" lu 2 VG)(Zee:Fn P w K mg Z "_law_is_case" lp 1 UU)(Z29:Fn P w K mg Z "_law_wild" lS 4 Tu)(Z3a:Fn P w K mg Z "_law_due" lu 5 TH)(Zjj:Fn P w K mg Z "_law_hand" lp 1 VZ)(Z3b:Fn P w K mg Z "_law_kinds" lH 9 (TU C CM))(Z3c:Fn P w K mg Z "_law_kinds_of" lG 1 Ah):YG P w K mg Z WX 12 f fd ["_law_script"] (DG K):=by
 refine F_law.okQ XN (λvs H Q E h=>?_) (λcdv A outer s0 H vs Q E hr h=>?_)
 .obtain⟨a,ns,rfl,_⟩:=h;rfl
 .obtain⟨a0,ks,rfl,hS,hlen,k⟩:=h;refine⟨_,(Zd (Zx 1 (Zl Z25 (Za Q0 Zb))) (Zd (Zx 2 (Io M_Moot)) (Zd (Zx 3 (Yb (Za (Yb Zb) (Za (Yb Zb) (Za (Yb Zb) Zb))))) (Zd (Zx 4 (Zl Z26 (Za Q3 (Za (Zu Y9 Zc (Zl Z8 (Za Q3 (Za Zc Zb)))) Zb)))) (Zd (Zs (Zl Z27 (Za Q3 (Za Qa (Za Qb (Za Qc Zb)))))) (Zd (Zx 5 Y3) (Zd (Zx 6 (JF Yk (Zl Z8 (Za Q3 (Za Zc Zb))) Zc (Zn _))) (Zd (Wi mW rfl (Aw T.range (Za (Zl Z8 (Za Q3 (Za Zc Zb))) Zb)) (Yi 7) (Zd (Zx 8 (Zl Z28 (Za Q3 (Za Qb (Za Qc Zb))))) (Zd (Zq (QW.pt (Wz (Vi Qe) (Wz (Zk Yk (Zl Z8 (Za Q3 (Za Zc Zb))) Zc (Zn _)) (Vx (Zk TV Qd Y3 (Zn _)))))) (Zg (Zx 8 Qd)) Zp) (Zd (Zq (Aa (Vi (Zl Zee (Za Qg Zb)))) (Zd (Zq (Zk Jo (Z0 Ym T.len Yh (Za (Zl Zjx (Za Qa (Za Qg Zb))) Zb)) Zc (Zn _)) (Zg (Zs (Zl Zfn (Za Qb (Za Qg Zb))))) Zp) (Zg fM)) Zp) (Zd (Zx 5 Qg) (Zd (Wi mW rfl (Aw T.range (Za (Zu FN (Zu CF (Zl Z8 (Za Q3 (Za Zc Zb))) Zc) (Zu Y9 Zc (Zl Z8 (Za Q3 (Za Zc Zb))))) Zb)) (Yi 9) (Zg (Zx 8 (Zl Z29 (Za Q3 (Za Qc (Za Qg Zb))))))) (Zd (Zx 10 (Zl Z3a (Za Qb (Za Qg Zb)))) (Zd (Zx 11 (Zl Zjj (Za Qg Zb))) (Zd (Zq (QW.pt (AB (Zk (Rp hr) (Zl Z3b (Za Qa (Za (qvN 11) Zb))) (Zl Z3c (Za (qvN 10) Zb)) (Zn _)) (Bm (Zk (Py hr) (qvN 11) Qg (Zn _))))) (Zg (Zw Jf)) Zp) (Zd (Zq (Zk Yk (qvN 10) Zt (Zn _)) (Zg (Zs (Zl Zfn (Za Qb (Za Qg Zb))))) Zp) (Zg (Zq (Zk IY (Lq Qa Tm.cl MM_now) (Z0 Ym T.len Yh (Za (Zh Z7 Qb Zc) Zb)) (Zn _)) (Zg (Zw Jf)) Zp)))))))))))) (Zg (Zw Jf)))))))))),?_⟩;have hz:=aC
  refine Ye λD1 hn1=>?_;refine⟨_,rfl,a0,ks,rfl,hS,λs la H1 hs hla hs1 sm1=>hn1 _ _ ?_⟩;refine Ye λD2 hn2=>?_;intro p dx nx ndx nex;refine⟨p,dx,rfl,Zj,λM H2 hM W2 kp fr=>⟨rfl,hn2 _ _ ?_⟩⟩;have sm2:ZA H1 H2:=λb o e=>kp b o (by rw[Zf (Zo e nx),Zf (Zo e ndx)];exact e) (Zo e nx);have no2:∀b o,H1 b=some o->¬mo M [] (λ_=>0) [] [] b:=λb o e z=>by
   rcases fr b z with y | y
   .rw[y,nx] at e;cases e
   .have nb:b≠p:=λz=>by rw[z,nx] at e;cases e
    rw[Zf nb,Zf (Zo e ndx),e] at y;cases y
  obtain⟨_,_,_,_,_,hq1,hq2,_⟩:=id hs1;have W3:YD C CM H2 p (Ze []).1 (Ze []).2 (mo M [] (λ_=>0) [] []):=⟨M,_,[],[],hM,W2,rfl⟩;have ns1:=no2 _ _ hq1;have ns2:=no2 _ _ hq2;have hs2:=hs1.keep sm2;generalize mo M [] (λ_=>0) [] []=O3 at W3 ns1 ns2;clear W2 kp fr nex no2;refine Ye λD3 hn3=>?_;refine⟨aB rfl,λdl hdl=>⟨aB rfl,λsl hsl=>⟨aB rfl,λtl htl=>⟨aB rfl,λwl hwl=>Z9 (hn3 _ _ ?_)⟩⟩⟩⟩;have S1:=ZA.new (o:=.lst []) hdl;have k1:(upd H2 dl (.lst [])) dl=some (.lst []):=Zj;generalize (upd H2 dl (.lst []))=Ha at *;have S2:=ZA.new (o:=.lst []) hsl;have k2:(upd Ha sl (.lst [])) sl=some (.lst []):=Zj;generalize (upd Ha sl (.lst []))=Hb at *;have S3:=ZA.new (o:=.lst []) htl;have k3:(upd Hb tl (.lst [])) tl=some (.lst []):=Zj;generalize (upd Hb tl (.lst []))=Hc at *;have S4:=ZA.new (o:=.lst [.ref dl,.ref sl,.ref tl]) hwl;have k4:(upd Hc wl (.lst [.ref dl,.ref sl,.ref tl])) wl=some (.lst [.ref dl,.ref sl,.ref tl]):=Zj;generalize (upd Hc wl (.lst [.ref dl,.ref sl,.ref tl]))=Hd at *;have S34:=S3.trans S4;have S24:=S2.trans S34;have S14:=S1.trans S24;have s2:=sm2 _ _ hq1;have l2:=sm2 _ _ hq2;have d1:dl≠s:=Zo s2 hdl |>.symm
  have d2:sl≠s:=Zo (S1 _ _ s2) hsl |>.symm
  have d3:tl≠s:=Zo ((S1.trans S2) _ _ s2) htl |>.symm
  have d4:wl≠s:=Zo (((S1.trans S2).trans S3) _ _ s2) hwl |>.symm
  have e1:dl≠la:=Zo l2 hdl |>.symm
  have e2:sl≠la:=Zo (S1 _ _ l2) hsl |>.symm
  have e3:tl≠la:=Zo ((S1.trans S2) _ _ l2) htl |>.symm
  have f1:sl≠dl:=Zo k1 hsl |>.symm
  have f2:tl≠dl:=Zo (S2 _ _ k1) htl |>.symm
  have f3:wl≠dl:=Zo ((S2.trans S3) _ _ k1) hwl |>.symm
  have f4:tl≠sl:=Zo k2 htl |>.symm
  have f5:wl≠sl:=Zo (S3 _ _ k2) hwl |>.symm
  have f6:wl≠tl:=Zo k3 hwl |>.symm
  have wd0:ZW s Hd [] ⟨wl,dl,sl,tl⟩ [] [] []:=by
   refine⟨k4,⟨[],S24 _ _ k1,rfl⟩,⟨[],S34 _ _ k2,rfl⟩,⟨[],S4 _ _ k3,rfl⟩,?_,?_,λb hb=>nomatch hb⟩
   .intro b hb;simp only[xD,xV,or_false] at hb;rcases hb with rfl | rfl | rfl | rfl<;>assumption
   .simp only[yM,xD,xV,or_false,not_or,not_false_eq_true,List.nodup_nil,and_true];exact⟨⟨f3,f5,f6⟩,⟨f1.symm,f2.symm⟩,f4.symm⟩
  refine Ye λD4 hn4=>?_;refine⟨_,rfl,_,rfl,s,la,7,rfl,hs2.keep S14,aA,aA,λz H4 z0 z1 hs4 sx4=>⟨_,_,rfl,rfl,s,la,2+z,rfl,hs4,by lia,by lia,λnl ns H5 hnl hnd hnm fnl knl hs5 sx5=>Z9 (hn4 _ _ ?_)⟩⟩;have up:∀{b:gF}{o:HO},Hd b=some o->b≠s->H5 b=some o:=λe n=>sx5 _ _ n (sx4 _ _ n e);have g1:nl≠dl:=Zo (sx4 _ _ d1 (S24 _ _ k1)) fnl |>.symm
  have g2:nl≠sl:=Zo (sx4 _ _ d2 (S34 _ _ k2)) fnl |>.symm
  have g3:nl≠tl:=Zo (sx4 _ _ d3 (S4 _ _ k3)) fnl |>.symm
  have W4:=W3.same S14;obtain⟨_,_,_,_,_,q4,_⟩:=id (hs2.keep S14);have W5:YD C CM H5 p (Ze []).1 (Ze []).2 O3:=by
   obtain⟨_,_,_,_,_,q5,_⟩:=id hs4;exact YD.x (YD.x W4 q4 ns1 sx4) q5 ns1 sx5
  have U:Ww C CM p s la nl ⟨wl,dl,sl,tl⟩ ns H5 [] (Ze []) [] O3:=by
   have o1:=W3.out hdl;have o2:=(W3.same S1).out hsl;have o3:=(W3.same (S1.trans S2)).out htl;have o4:=(W3.same ((S1.trans S2).trans S3)).out hwl;have o5:=(YD.x W4 q4 ns1 sx4).out fnl;obtain⟨_,_,_,_,_,q5,q6,_,q7⟩:=id hs5;have g0:nl≠s:=λz=>by obtain⟨_,_,_,_,_,q5,_⟩:=id hs4;rw[z,q5] at fnl;cases fnl
   have u1:=up (S24 _ _ k1) d1;have u2:=up (S34 _ _ k2) d2;have u3:=up (S4 _ _ k3) d3;have u4:=up k4 d4;refine⟨W5,hs5,⟨u4,⟨[],u1,rfl⟩,⟨[],u2,rfl⟩,⟨[],u3,rfl⟩,?_,?_,λb hb=>nomatch hb⟩,knl,?_,?_,?_⟩
   .intro b hb;simp only[xD,xV,or_false] at hb;rcases hb with rfl | rfl | rfl | rfl<;>assumption
   .simp only[yM,xD,xV,or_false,not_or,not_false_eq_true,List.nodup_nil,and_true];exact⟨⟨f3,f5,f6⟩,⟨f1.symm,f2.symm⟩,f4.symm⟩
   .intro b hb;simp only[xD,xV,or_false] at hb;rcases hb with rfl | rfl | rfl | rfl | rfl | rfl | rfl
    .exact⟨ns1,_,q5⟩
    .exact⟨ns2,_,q6⟩
    .exact⟨o5,_,knl⟩
    .exact⟨o4,_,u4⟩
    .exact⟨o1,_,u1⟩
    .exact⟨o2,_,u2⟩
    .exact⟨o3,_,u3⟩
   .simp only[xD,xV,or_false,not_or];exact⟨g0,g1,g2,g3⟩
   .simp only[xD,xV,or_false,not_or];exact⟨q7,e1.symm,e2.symm,e3.symm⟩
  have K0:Wk ns []:=Wk.nil hnm hnd (by lia) (by lia);generalize hW:(⟨wl,dl,sl,tl⟩:WL)=W at U;have hw:wl=W.wl:=by rw[<- hW]
  refine Ye λD5 hn5=>?_;refine⟨_,rfl,_,rfl,_,rfl,_,rfl,p,s,la,nl,W,ns,[],O3,by rw[<- hw],U,K0,by lia,λfx as O H6 V6 K6 T6 l6=>hn5 _ _ ?_⟩;have nls:nl≠s:=λz=>U.nn (by rw[z];simp);have nsl:ns.length<=8:=by lia
  have cm6:=Cm.of T6;clear U K0 T6;refine Ye λD6 hn6=>Z9 (hn6 _ _ ?_);refine Ye λD7 hn7=>?_;refine⟨_,rfl,s,la,4,rfl,V6.sr,aA,aA,λm4 H7 m40 m41 hs7 sx7=>⟨rfl,hn7 _ _ ?_⟩⟩;have V7:=V6.x hs7 sx7;generalize decide (V.int m4=V.int 0)=sm;refine Ye λD8 hn8=>?_;refine⟨_,rfl,s,la,25,rfl,V7.sr,aA,aA,λm H8 m0 m1 hs8 sx8=>?_⟩;have V8:=V7.x hs8 sx8;refine⟨_,rfl,by lia,by lia,?_⟩;refine Ba m.toNat (by lia) (λi L Y=>∃(v5:V)(v7 v8 v9 v10 v11:Option V)(fx:gC)(as:List AD)(O:gF->Prop),L=[some (.ref a0),some (.ref s),some (.ref p),some (.ref W.wl),some (.ref nl),some v5,some (.bl sm),v7,v8,v9,v10,v11]/\Ww C CM p s la nl W ns Y fx (Ze as) as O/\Wk ns as/\Cm ns (Ze as).1/\as.length<=ns.length+2+i/\(v5=.non\/∃q0,v5=.ref q0/\WV 26 O s W Y q0)) ⟨.non,none,none,none,none,none,fx,as,O,by rw[<- hw];rfl,V8,K6,cm6,by lia,.inl rfl⟩ ?_ ?_
  .rintro i L Y hi hI;refine opq λD0 hnx _ _ hct=>?_;obtain⟨v5,v7,v8,v9,v10,v11,fx,as,O,rfl,U,R,cm,hl,hL⟩:=hI;refine FZ λE0 hn0 _ _=>?_;refine⟨_,rfl,_,rfl,_,rfl,?_⟩;dsimp only [Vw];refine U.drawnX R λq H1 sx1 U1 dr=>hn0 _ _ ?_;have lst:∀{O1 O':gF->Prop}{G G':Hp},(v5=.non\/∃q0,v5=.ref q0/\WV 26 O1 s W G q0)->(∀q0,WV 26 O1 s W G q0->WV 26 O' s W G' q0)->(v5=.non\/∃q0,v5=.ref q0/\WV 26 O' s W G' q0):=λh f=>h.imp id λ⟨q0,e,c⟩=>⟨q0,e,f q0 c⟩;have hL1:=lst hL λ_ h=>h.x U.sr sx1;have dr1:=dr.cas R.nn;refine Vg (λL Y=>∃q,L=[some (.ref a0),some (.ref s),some (.ref p),some (.ref W.wl),some (.ref nl),some v5,some (.bl sm),some (.int (0+i)),some (.ref q),v9,v10,v11]/\Ww C CM p s la nl W ns Y fx (Ze as) as O/\((∃d,Y q=some (.tup (sdV d))/\dOk ns d)\/WV 26 O s W Y q)/\(v5=.non\/∃q0,v5=.ref q0/\WV 26 O s W Y q0)) ?_ ?_
   rotate_left
   .intro E1 hm1 _ _ _;refine⟨_,rfl,_,rfl,Cu (λz=>?_) (λz=>Z5 (hm1 _ _ ⟨q,rfl,U1,dr1,hL1⟩))⟩;refine⟨_,rfl,s,la,3,rfl,U1.sr,aA,aA,λn2 H2 n20 n21 hs2 sx2=>⟨rfl,_,rfl,?_⟩⟩;have U2:=U1.x hs2 sx2;have hL2:=lst hL1 λ_ h=>h.x U1.sr sx2;have dr2:(∃d,H2 q=some (.tup (sdV d))/\dOk ns d)\/WV 26 O s W H2 q:=dr1.imp (λ⟨d,e,h⟩=>⟨d,by obtain⟨_,_,_,_,_,a,_⟩:=id U1.sr;exact sx2 _ _ (λz=>by rw[z,a] at e;cases e) e,h⟩) λh=>h.x U1.sr sx2;refine Zv (λ_=>?_) (λ_=>Z5 (hm1 _ _ ⟨q,rfl,U2,dr2,hL2⟩));rcases id hL2 with e | ⟨q0,e,c0⟩
    .subst e;exact⟨_,rfl,rfl,_,rfl,Z5 (hm1 _ _ ⟨q,rfl,U2,dr2,hL2⟩)⟩
    .subst e;exact⟨_,rfl,rfl,_,rfl,Z6 ⟨_,rfl,hm1 _ _ ⟨q0,rfl,U2,.inr c0,hL2⟩⟩⟩
   rintro L H2 ⟨q,rfl,U2,dr2,hL2⟩;refine FZ λE2 hn2 _ hc2=>?_;rcases dr2 with⟨d,hq,hd⟩ | hcas
   .refine⟨_,rfl,.ref q,[],.s d,rfl,⟨q,_,rfl,We hq,AF _ d⟩,λH3 S3=>⟨_,rfl,Hr (λ_=>?_) (λz=>by cases z)⟩⟩;have U3:=U2.same S3;have hL3:=lst hL2 λ_ h=>h.frm U2.w (ZZ.same S3);refine FZ λE3 hn3 _ _=>?_;refine⟨_,rfl,_,rfl,U3.tryD R (.inl ⟨d,S3 _ _ hq,hd⟩) λl tv H4 O4 kl F4 hc=>?_⟩;have hL4:=lst hL3 λ_ h=>h.frm U3.w F4;rcases hc with⟨rfl,U4⟩ | ⟨v,x,fx3,rfl,U4,kp,_,hx⟩
    .exact⟨l,_,rfl,.inl (ZD.of kl),_,_,rfl,rfl,_,rfl,Zv (λz=>absurd z aA) (λ_=>hn3 _ _ (hc2 _ _ (hct _ _ ⟨v5,_,_,_,_,_,fx,as,O4,rfl,U4,R,cm,by lia,hL4⟩)))⟩
    .refine⟨l,_,rfl,.inl (ZD.of kl),_,_,rfl,rfl,_,rfl,Zv (λ_=>?_) (λz=>absurd (show (0:Int)<1 by decide) z)⟩;refine⟨_,rfl,_,rfl,?_⟩;dsimp only [Vw];refine U4.keep R kp.2.1 kp.2.2.1 kp.2.2.2 λfx7 H7 U7 f7 g7=>hn3 _ _ (hc2 _ _ (hct _ _ ⟨v5,_,_,_,_,_,fx7,_,O4,rfl,U7,kp.1,cm.snoc λd e=>?_,by rw[Wx];lia,lst hL4 λ_ h=>h.kp U4.wd f7⟩));rcases hx with⟨d,rfl,_,hd,he⟩ | ⟨d,day,need,o1,o2,f,rfl,_⟩
     .cases e;exact⟨hd,he⟩
     .cases e
   obtain⟨d,day,need,l1,l2,o1,o2,hq,a1,a2,a3,r1,r2⟩:=id hcas;refine⟨_,rfl,.ref q,[l1,l2],.c d day need o1 o2 (wf as day),rfl,⟨q,_,rfl,We hq,Cp (Vq (by simp) r1.1) (Vq (by simp) r2.1) d⟩,λH3 S3=>⟨_,rfl,Hr (λz=>by cases z) (λ_=>hn2 _ _ ?_)⟩⟩;have U3:=U2.same S3;have c3:=hcas.frm U2.w (ZZ.same S3);refine Ye λE3 hn3=>⟨_,rfl,hn3 _ _ ?_⟩;clear hL hL1 hL2 lst dr dr1 hcas hq r1 r2;refine Ye λE4 hn4=>?_;refine⟨_,rfl,s,la,4,rfl,U3.sr,aA,aA,λx4 H4 x40 x41 hs4 sx4=>⟨_,_,rfl,rfl,⟨aA,aA⟩,?_⟩⟩;have U4:=U3.x hs4 sx4;have c4:=c3.x U3.sr sx4;refine⟨_,rfl,s,la,2,rfl,U4.sr,aA,aA,λx5 H5 x50 x51 hs5 sx5=>⟨_,_,rfl,rfl,_,_,rfl,rfl,.inl ⟨by lia,by lia⟩,?_⟩⟩;have U5:=U4.x hs5 sx5;have c5:=c4.x U4.sr sx5;have mm2:0<=x4 / 2 * (1+x5)/\x4 / 2 * (1+x5)<=2:=by
    rcases(show x4 / 2=0\/x4 / 2=1 by lia) with e | e<;>rw[e]<;>lia
   refine⟨_,rfl,by lia,by lia,?_⟩;generalize x4 / 2 * (1+x5)=mm at mm2 |-;refine Ba mm.toNat (by lia) (λj L Y=>∃(q1:gF)(v9:Option V),L=[some (.ref a0),some (.ref s),some (.ref p),some (.ref W.wl),some (.ref nl),some (.ref q),some (.bl sm),some (.int (0+i)),some (.ref q1),v9,v10,v11]/\Ww C CM p s la nl W ns Y fx (Ze as) as O/\WV (26+j) O s W Y q1/\WV 26 O s W Y q) ⟨q,v9,rfl,U5,c5,c5⟩ ?_ ?_
   .rintro j L H6 hj ⟨q1,v9,rfl,U6,⟨d,day,need,l1,l2,o1,o2,hq,a1,a2,a3,r1,r2⟩,c6⟩;refine⟨_,rfl,_,rfl,_,rfl,s,la,nl,q1,ns,d,day,need,l1,l2,o1,o2,26+j,CC O s W,rfl,U6.sr,U6.nm,R.n0,R.n1,λn hn=>Fh (R.nn n hn),hq,a1,a2,a3,r1,r2,by lia,by lia,λl hl=>⟨U6.w.out hl,U6.new hl⟩,λp1 d' day' need' l1' l2' o1' o2' H7 _ hp b1 b2 b3 q1' q2' hs7 sx7=>?_⟩;exact⟨p1,_,rfl,U6.x hs7 sx7,⟨d',day',need',l1',l2',o1',o2',hp,b1,b2,b3,q1',q2'⟩,c6.x U6.sr sx7⟩
   rintro L H6 ⟨q1,v9,rfl,U6,⟨d,day,need,l1,l2,o1,o2,hq,a1,a2,a3,r1,r2⟩,c6⟩;refine hn4 _ _ ?_;have n1:o1.length<=60:=by have:=r1.2.2.1;lia
   have n2:o2.length<=60:=by have:=r2.2.2.1;lia
   have al:as.length<=100:=by lia
   refine Ye λE5 hn5'=>?_;refine⟨_,rfl,_,rfl,s,W,fx,as,q1,d,day,need,o1,o2,rfl,U6.wd,R.ok,by lia,λn day=>R.fo.bd n day,λj d day need o1 o2 f h=>?_,⟨l1,l2,hq,r1.1,r2.1,n1,n2⟩,λH7 S7=>hn5' _ _ ?_⟩
   .obtain⟨i',hi'⟩:=wE (zM.mp (xG h)).1;have:=R.g.2 _ _ hi';exact⟨this.2.2.2.1,this.2.2.2.2.1⟩
   rw[Si];have U7:=U6.same S7;have c7:=c6.frm U6.w (ZZ.same S7);refine Ye λE6 hn6'=>?_;refine⟨_,rfl,q1,_,cdP day need o1 o2 d,rfl,S7 _ _ hq,Cp (S7 _ _ r1.1) (S7 _ _ r2.1) d,Hw n1 n2 d,by cases d<;>simp[cdP],λq2 ys H8 fq2 kq2 hy fr S8=>Z9 (hn6' _ _ ?_)⟩;obtain⟨m1,m2,rfl,g1,g2⟩:=Fb hy;have no1:¬O m1:=U7.w.out (fr m1 (by cases d<;>simp[cdV]));have no2:¬O m2:=U7.w.out (fr m2 (by cases d<;>simp[cdV]));have U8:=U7.same S8;have c8:=c7.frm U7.w (ZZ.same S8);have S68:=S7.trans S8;have er:=GR (Ze as).1 (Ze as).2 day need (wf as day) o1 o2 d;have eok:=Gr er;refine Ye λE7 hn7'=>?_;refine⟨_,rfl,_,rfl,p,_,_,O,q2,d,day,need,m1,m2,o1,o2,wf as day,rfl,U8.w,kq2,⟨R.ok,by have:=R.ln;lia,g1,g2,n1,n2,a2,a3,λn hn=>⟨((xJ.mp hn).elim (r1.2.2.2 n) (r2.2.2.2 n)).1,λdd e1 e2=>R.fo.isW e1 e2⟩⟩,no1,no2,?_,er,λO9 H9 lk W9 F9 kl=>?_⟩
   .cases d with
    | wer x y m=>exact⟨a1.1.1,a1.2.1.1,a1.2.2⟩
    | clm x i=>exact⟨a1.1.1,a1.2⟩
    | acc i n=>exact⟨a1.2.1,a1.1⟩
   have hq8:=S68 _ _ hq;have hq9:=F9.1 _ _ hq8 (U8.w.iQ hq8);have hp9:=F9.1 _ _ kq2 (U8.w.iQ kq2);have h19:=F9.1 _ _ (S68 _ _ r1.1) r1.2.1.1;have h29:=F9.1 _ _ (S68 _ _ r2.1) r2.2.1.1;have g19:=F9.1 _ _ g1 no1;have g29:=F9.1 _ _ g2 no2;refine⟨_,rfl,_,rfl,eok,λH10 l10 S10 kl10=>⟨lk,l10,Ff _,rfl,rfl,ZD.of (S10 _ _ kl),ZD.of kl10,_,rfl,Z5 ?_⟩⟩;refine⟨_,rfl,_,rfl,q2,q1,_,_,rfl,rfl,S10 _ _ hp9,S10 _ _ hq9,by cases d<;>rfl,MG (S10 _ _ g19) (S10 _ _ g29) (S10 _ _ h19) (S10 _ _ h29) d,_,rfl,Z5 (hn7' _ _ ?_)⟩;have c10:=(c8.frm U8.w F9).frm W9 (ZZ.same S10);refine Vg (λL Y=>∃(v9 v10 v11:Option V)(fx:gC)(as':List AD)(O:gF->Prop),L=[some (.ref a0),some (.ref s),some (.ref p),some (.ref W.wl),some (.ref nl),some (.ref q),some (.bl sm),some (.int (0+i)),some (.ref q1),v9,v10,v11]/\Ww C CM p s la nl W ns Y fx (Ze as') as' O/\Wk ns as'/\Cm ns (Ze as').1/\as'.length<=as.length+1/\WV 26 O s W Y q) ?_ ?_
   rotate_left
   .intro E8 hm8 _ _ _;refine⟨_,rfl,rfl,_,rfl,Zv (λz=>?_) (λz=>?_)⟩
    .have e:=(EC eok).mp z;change eCD _ _ day need (wf as day) o1 o2 d=none at e;rw[e] at W9;have U9:Ww C CM p s la nl W ns H9 fx (Ze (as ++ [.c d day need o1 o2 (wf as day)])) as O9:=by rw[TX];exact U8.step W9 F9
     have no9:∀{b:gF}{o:HO},H8 b=some o->¬O b->¬O9 b:=λe n z=>(F9.2 _ z).elim n (λy=>by rw[e] at y;cases y);have U11:=(U9.same S10).more (gx:=[l1,l2]) λb hb=>by
      simp only[xD,xV,or_false] at hb;rcases hb with rfl | rfl
      .exact⟨⟨no9 (S68 _ _ r1.1) r1.2.1.1,_,S10 _ _ h19⟩,r1.2.1.2⟩
      .exact⟨⟨no9 (S68 _ _ r2.1) r2.2.1.1,_,S10 _ _ h29⟩,r2.2.1.2⟩
     refine⟨_,rfl,_,rfl,?_⟩;dsimp only [Vw];refine U11.keep R (by rw[TX];cases d<;>rfl) ⟨q1,_,rfl,We (S10 _ _ hq9),Cp (Vq (by simp) (S10 _ _ h19)) (Vq (by simp) (S10 _ _ h29)) d⟩ (λd' day' need' o1' o2' f' e=>by cases e;exact⟨n1,n2⟩) λfx7 H12 U12 f12 _=>hm8 _ _ ⟨_,_,_,fx7,_,O9,rfl,U12,R.snocW cm n1 n2 a1 e,cm.snoc (λd e=>by cases e),by rw[Wx];lia,c10.kp U11.wd f12⟩
    .cases e:eCD (Ze as).1 (Ze as).2 day need (wf as day) o1 o2 d with
     | none=>exact absurd (by show JJ (eCD _ _ day need (wf as day) o1 o2 d)=_;rw[e];rfl) z
     | some x =>
      rw[e] at W9;exact hm8 _ _ ⟨_,_,_,fx,as,O9,rfl,(U8.step W9 F9).same S10,R,cm,by lia,c10⟩
   rintro L H11 ⟨v9,v10,v11,fx,as',O',rfl,U11,R11,cm11,l11,c11⟩;obtain⟨vs,hv,hvr⟩:=id U11.wd.d;have hvl:=hvr.length;rw[xA] at hvl;obtain⟨M,wa,J,qs,rfl,WM,eO⟩:=id U11.w;obtain⟨dx,ob⟩:=WM.ob;refine⟨_,rfl,M.p,dx,_,rfl,ob,Ys _ aA,M,_,wa,J,_,qs,rfl,WM,?_⟩;refine⟨_,rfl,W.wl,_,0,_,rfl,rfl,ZD.of U11.wd.e,rfl,W.dl,vs,rfl,.inl (ZD.of hv),rfl,_,rfl,Ua (λz=>absurd (by rw[Cq,hvl]) z) (λ_=>?_)⟩;exact hnx _ _ ⟨_,_,_,_,_,_,fx,as',O',rfl,U11,R11,cm11,by lia,.inr ⟨q,rfl,c11⟩⟩
  .rintro L Y ⟨v5,v7,v8,v9,v10,v11,fx,as,O,rfl,U,R,cm,hl,hL⟩;exact hn8 _ _ (k Y)
def cE(x:Str):gF:=(([("MootError", 38),("NoName", 58),("NoMeasure", 77),("Unknown", 96),("Taken", 115),("NoThing", 134),("NoCase", 153),("NoOath", 172),("NotYet", 191),("Dead", 210),("NoHeir", 229),("TooMany", 248),("SwornTwice", 267),("Forsworn", 286),("TooLight", 305),("Broken", 324),("NoDeed", 343)]:List (Str×gF)).lookup x).getD 0
local macro_rules | `(tactic| walk_at "k")=>`(tactic| ((repeat' (refine And.intro ?_ ?_))<;>kernel_rfl))
theorem all_mk{d:gG}{w:gH}{h:Heap}{mg:fY}{a:gF}(X:(KK w.params).In h)(G:h.Ns mainGlobals mg)(b:mg "law"=some (.ref a)) :
  ∃c:FuncData,(∀(s:gD)(v:gE),BindsTo s c ⟨[v],[]⟩ [("_law_script", v)])/\∀Z:Heap,(KK w.params).In Z->Z.Ns mainGlobals mg->YG d w (KK w.params) mg Z WX 40 a c ["_law_script"] (DG (KK w.params)):=by
 have e:some (Value.ref a)=some (.ref 1115):=b.symm.trans (mg_of X G (by kernel_rfl));cases e;have y:=Fd (K:=KK w.params) (x:="law") (qual:="law") (st:=B2) (f:=1115) (oc:=.type "function") (od:=none) (an:=none) (osl:=#[]) (kV:=.none) (doc:=.none) (pm:=(.str "law_forsworn_k32_whole_cases_refused" 1382)) (cdv:=(.ref 1114)) (ct:=.none) (by kernel_rfl) (by kernel_rfl) (by kernel_rfl);have b:RW (KK w.params) 545:=by
  refine⟨⟨?_,?_,?_,?_⟩,?_,?_,?_,?_⟩<;>(show _=_;kernel_rfl)
 have r:makesIn (KK w.params) 545=true:=by kernel_rfl
 have o:keepIn (KK w.params) (.ref 545)=true:=by kernel_rfl
 have m:mg "Folk"=some (.ref 545):=mg_of X G (by kernel_rfl);have a:ZR (KK w.params) 920:=by
  refine⟨⟨?_,?_,?_,?_⟩,?_,?_,?_,?_,?_,?_,?_,?_,?_⟩<;>(show _=_;kernel_rfl)
 have t:makesIn (KK w.params) 920=true:=by kernel_rfl
 have p:keepIn (KK w.params) (.ref 920)=true:=by kernel_rfl
 have n:mg "Moot"=some (.ref 920):=mg_of X G (by kernel_rfl);have i:Er (KK w.params) mg cE errs:=Qp X G (by kernel_rfl);have c:mg "breakers_stands"=mg "breakers" := (mg_of X G (by kernel_rfl):mg "breakers_stands"=some (.ref 570)).trans (mg_of X G (by kernel_rfl):mg "breakers"=some (.ref 570)).symm;have k:mg "ONES"=some (.int 0 865):=mg_of X G (by kernel_rfl);have j:mg "OTHERS"=some (.int 1 867):=mg_of X G (by kernel_rfl);have e:mg "NAMED"=some (.int 3 871):=mg_of X G (by kernel_rfl);have T:Txt mg:=by constructor<;>exact PySem.W.mg_none_of X G (by kernel_rfl)
 exact⟨fnOf "law" "law" (Vb B2) (Yt B2) (Zm B2) .none .none .none (.str "law_forsworn_k32_whole_cases_refused" 1382) none (.ref 1114) .none,λs v=>.of_eq rfl,λZ _ _=>by
  have l:=eR (P:=d) (w:=w) (Z:=Z) (hQ "_law_next" LU 938 937 pm6 X G) T;have g:=XJ (P:=d) (w:=w) (Z:=Z) (hQ "check_day" IJ 359 358 pm1 X G) ⟨_,(mg_of X G (by kernel_rfl):mg "LAST_DAY"=some (.int 9999 602))⟩ i;have z:=NA (P:=d) (w:=w) (Z:=Z) (hQ "check_weight" L5 366 365 pm1 X G) ⟨_,(mg_of X G (by kernel_rfl):mg "MOST_WEIGHT"=some (.int 1000 604))⟩ i;have A:=Ql (P:=d) (w:=w) (Z:=Z) (hQ "check_money" GK 380 379 pm1 X G) ⟨_,(mg_of X G (by kernel_rfl):mg "MOST_MONEY"=some (.int 1000000 608))⟩ i;have u:=dF (P:=d) (w:=w) (Z:=Z) (hQ "check_need" Mb 373 372 pm1 X G) ⟨_,(mg_of X G (by kernel_rfl):mg "MOST_NEED"=some (.int 12000 606))⟩ i;have B:=XY (P:=d) (w:=w) (Z:=Z) (hMQ (K:=KK w.params) 545 "check_known" "Folk.check_known" Im 521 520 pm3) b i;have E:=OV (P:=d) (w:=w) (Z:=Z) (hMQ (K:=KK w.params) 545 "check_there" "Folk.check_there" Li 528 527 pm3) b i;have F:=OO (hMQ (K:=KK w.params) 545 "check_living" "Folk.check_living" HY 535 534 pm3) b i (Xx (P:=d) (w:=w) (mg:=mg) (Z:=Z) (hMQ (K:=KK w.params) 545 "died_by" "Folk.died_by" LN 479 478 pm3) b);have J:=Nd (P:=d) (w:=w) (Z:=Z) (hMQ (K:=KK w.params) 545 "check_untold" "Folk.check_untold" Iv 542 541 pm3) b i;have L:=Nn (hMQ (K:=KK w.params) 545 "check_coming" "Folk.check_coming" KR 500 499 pm3) T b ⟨_,(mg_of X G (by kernel_rfl):mg "MOST_FOLK"=some (.int 40 656))⟩ i (cV (P:=d) (w:=w) (Z:=Z) (hQ "is_name" Ld 385 384 pm2 X G) T ⟨_,(mg_of X G (by kernel_rfl):mg "LONGEST_NAME"=some (.int 12 640))⟩) g z;have M:=Ss (hMQ (K:=KK w.params) 545 "check_rise" "Folk.check_rise" Hx 507 506 pm3) b g z B E F;have N:=N9 (hMQ (K:=KK w.params) 545 "check_death" "Folk.check_death" HR 514 513 pm3) b i g B E J;have H:=Oo (hQ "settled" KA 556 555 pm4 X G) T (SA (hQ "settled_with" KN 563 562 pm4 X G) T ⟨_,e⟩ (RJ (hQ "margin_without" IA 601 600 pm4 X G) T ⟨_,k⟩ ⟨_,j⟩ ⟨_,(mg_of X G (by kernel_rfl):mg "NEED"=some (.int 2 869))⟩ (eS (P:=d) (w:=w) (Z:=Z) (hQ "kept_weight" DD 606 605 pm4 X G) T)));have I:=OI (hQ "check_oath" Ma 594 593 pm4 X G) T ⟨_,k⟩ ⟨_,j⟩ i (fD (P:=d) (w:=w) (Z:=Z) (hQ "check_case" Mp 589 588 pm4 X G) T i);have j:=λC=>X9 (P:=d) (w:=w) (Z:=Z) (C:=C) (hMQ (K:=KK w.params) 920 "check_moments" "Moot.check_moments" Ht 917 916 pm5) T a i ⟨_,(mg_of X G (by kernel_rfl):mg "MOST_MOMENTS"=some (.int 400 957))⟩;have z:=λC=>eV (P:=d) (w:=w) (Z:=Z) (C:=C) (hMQ (K:=KK w.params) 920 "check_thing" "Moot.check_thing" HL 903 902 pm5) T a i;have k:=Pc (hMQ (K:=KK w.params) 920 "check_named" "Moot.check_named" LB 896 895 pm5) b a i B E F (z _) I;have z:=PM (hMQ (K:=KK w.params) 920 "weighed" "Moot.weighed" Du 882 881 pm5) b a (dQ (hMQ (K:=KK w.params) 545 "weight" "Folk.weight" Ez 444 443 pm3) T b g B E);have F:=λC=>Pq (P:=d) (w:=w) (mg:=mg) (Z:=Z) (C:=C) (hMQ (K:=KK w.params) 920 "forsworn_names" "Moot.forsworn_names" Md 877 876 pm5) T a ⟨_,e⟩;have E:=Nr (hMQ (K:=KK w.params) 920 "check_sides" "Moot.check_sides" LR 910 909 pm5) T a i ⟨_,(mg_of X G (by kernel_rfl):mg "MOST_CASES"=some (.int 60 953))⟩ ⟨_,(mg_of X G (by kernel_rfl):mg "MOST_SWEARERS"=some (.int 12 955))⟩ (j _) (F _) z (bS (P:=d) (w:=w) (Z:=Z) (hQ "total" LW 390 389 pm2 X G) T);have F:=MC (hMQ (K:=KK w.params) 920 "try_case" "Moot.try_case" Hm 889 888 pm5) T a z H;have z:=PV (hQ "done" EU 352 351 pm0 X G) a i (Oj (hMQ (K:=KK w.params) 920 "come" "Moot.come" KG 627 626 pm5) b a L (fL (hMQ (K:=KK w.params) 545 "come" "Folk.come" Ik 411 410 pm3) b L) (j _)) (Xf (hMQ (K:=KK w.params) 920 "rise" "Moot.rise" IG 634 633 pm5) b a M (bE (hMQ (K:=KK w.params) 545 "rise" "Folk.rise" IX 418 417 pm3) b M) (j _)) (Qu (hMQ (K:=KK w.params) 920 "die" "Moot.die" Ia 641 640 pm5) b a N (dA (hMQ (K:=KK w.params) 545 "die" "Folk.die" KU 425 424 pm3) b N) (j _)) (NX (hMQ (K:=KK w.params) 920 "penance" "Moot.penance" HM 648 647 pm5) T b a B J (j _)) (Oa (hMQ (K:=KK w.params) 920 "bring" "Moot.bring" GL 655 654 pm5) T a ⟨_,(mg_of X G (by kernel_rfl):mg "MOST_THINGS"=some (.int 40 951))⟩ i g k (j _)) (M6 (hMQ (K:=KK w.params) 920 "give" "Moot.give" Lc 662 661 pm5) a g k (j _)) (Xc (hMQ (K:=KK w.params) 920 "pay" "Moot.pay" LC 669 668 pm5) a A g k (j _)) (MZ (hMQ (K:=KK w.params) 920 "claim" "Moot.claim" Gx 676 675 pm5) T a g u k E F) (Qv (hMQ (K:=KK w.params) 920 "wergild" "Moot.wergild" IB 683 682 pm5) T a A g u k E F) (MN (hMQ (K:=KK w.params) 920 "accuse" "Moot.accuse" IS 690 689 pm5) T a i g u k E (Fn.alias (OX (hQ "breakers" ID 570 569 pm4 X G) T I (bN (hQ "breaking" GD 575 574 pm4 X G) T H (SU (P:=d) (w:=w) (Z:=Z) (hQ "naming" Lw 582 581 pm4 X G) T ⟨_,e⟩))) c) F);have A:=dE (P:=d) (w:=w) (Z:=Z) (hQ "_law_hand" IP 997 996 pm6 X G) T;have R2:=SJ (hQ "_law_try" Fl 1002 1001 pm6 X G) T i A z;have e:=cN (hQ "_law_one" LJ 1028 1027 pm6 X G) T l;have g:=OH (P:=d) (w:=w) (Z:=Z) (hQ "_law_weighs" KZ 985 984 pm6 X G) T;have j:=MI (P:=d) (w:=w) (Z:=Z) (hQ "_law_is_case" Ml 1009 1008 pm6 X G) T;have B:=P0 (hQ "_law_keep" Bg 1014 1013 pm6 X G) T j g;have E:=λC=>Pr (P:=d) (w:=w) (mg:=mg) (Z:=Z) (C:=C) (hMQ (K:=KK w.params) 920 "now" "Moot.now" Ip 697 696 pm5) T a;have k:=RT (P:=d) (w:=w) (Z:=Z) (hQ "_law_settled" Ai 1053 1052 pm6 X G) T;have u:=SC (P:=d) (w:=w) (Z:=Z) (hQ "_law_folk_of" KQ 1072 1071 pm6 X G) T;have c:=bV (hQ "_law_due" Dd 1082 1081 pm6 X G) T (O0 (hQ "_law_early_due" B6 1077 1076 pm6 X G) T u (OJ (P:=d) (w:=w) (Z:=Z) (hQ "_law_came" Hn 964 963 pm6 X G) T)) u (MU (hQ "_law_is_dead" Ki 978 977 pm6 X G) T (ON (P:=d) (w:=w) (Z:=Z) (hQ "_law_death" Gp 971 970 pm6 X G) T)) (bA (hQ "_law_is_forsworn" Hh 1065 1064 pm6 X G) T j k) g (Pk (hQ "_law_lost" C8 1058 1057 pm6 X G) T k)
  exact(dP y T a (E _) (PD (P:=d) (w:=w) (Z:=Z) (hQ "_law_src" HS 931 930 pm6 X G) T) l (XC (hQ "_law_names" La 957 956 pm6 X G) T l (PR (hQ "_law_word" CA 950 949 pm6 X G) T l) (MS (P:=d) (w:=w) (Z:=Z) (hQ "_law_unlike" HQ 945 944 pm6 X G) T)) ((XI (hMQ (K:=KK w.params) 920 "__init__" "Moot.__init__" KD 620 619 pm5) a ((Qz (P:=d) (w:=w) (mg:=mg) (Z:=Z) (hMQ (K:=KK w.params) 545 "__init__" "Folk.__init__" Kx 404 403 pm3) b).mks r o m)).mks t p n) (fP (hQ "_law_start" GA 1021 1020 pm6 X G) T l R2 B) (RK (hQ "_law_deed" IC 1048 1047 pm6 X G) T l e (Qo (hQ "_law_case_deed" LF 1043 1042 pm6 X G) T l e (Rj (hQ "_law_sides" DR 1033 1032 pm6 X G) T l (Rt (hQ "_law_pick" Lu 992 991 pm6 X G) T l) g) (Qx (hQ "_law_accused" Ds 1038 1037 pm6 X G) T l))) R2 B j (OK (hQ "_law_wild" Ie 1108 1107 pm6 X G) T l (Np (hQ "_law_odd_row" Mi 1101 1100 pm6 X G) T l e)) c A (XG (hQ "_law_kinds" K4 1089 1088 pm6 X G) T i z) (Xn (P:=d) (w:=w) (Z:=Z) (hQ "_law_kinds_of" Eg 1094 1093 pm6 X G) T)).mono aA⟩
end Law
end
open PySem PySem.W PyProof.Rows
set_option maxRecDepth 100000 in
set_option maxHeartbeats 0 in
theorem PySem.Challenge.cw_forsworn_k32_whole_cases_refused_holds : PySem.Challenge.rw_forsworn_k32_whole_cases_refused.Holds := by
 w_on;o_law
 refine holds_open (q:=Law.q) (loose:=["breakers_stands"]) (Xt:=λs=>xlAt Law.q [] s&&recOk (RowW.records PySem.Challenge.rw_forsworn_k32_whole_cases_refused.row.toRowW) s) (XP:=XL Law.q []) (Yf:=Law.HK.obs) (Ya:=Law.HK.val) (YP:=Law.HK.says) (N:=12584) Law.left Law.HK.of Law.HK.keeps (λs e=>xl_of s (Bool.and_eq_true_iff.mp e).1) XL.keeps (by rfl) (by rfl) (by rfl) (λs e=>recFacts_of (Bool.and_eq_true_iff.mp e).2) (by rfl) (by first | assumption | decide +kernel) (by decide +kernel) ⟨rfl,rfl,rfl,rfl,rfl,by decide +kernel⟩ ?hw ?hc
 case hw=>w_witness2
 refine L2.walkLaw (l:=PySem.Challenge.rw_forsworn_k32_whole_cases_refused) rfl rfl (λw h Y=>PySem.W.kIn_of (K:=Law.KK) Y) λw mg fa h KX G hmg=>Law.all_mk KX G hmg
namespace Law
end Law
