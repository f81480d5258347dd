import PyProof.Rows.All
import Wide.All
import OpenK.AllK
import Wide.FinOn
import Lean
import PyProof.EqAt
import PyProof.EqKinds
import PyProof.TupleCall
import KE.KSortTup
import PyProof.NeKinds
import KE.KDictSum
import KE.KLam
import KE.KNestM
import KE.KSortKey
import PyProof.Rows.TupAdd
import KE.KRevIter
import PyProof.Rows.TupDisplay
import KE.KDictOf
import PyProof.ExcArgsOwn
import PyProof.ExcAttrAll.ValueError
import KE.KIsAll
import KE.KIntText
import PyProof.Rows.StrNews
import PyProof.Rows.StrSplitCount
import PyProof.Rows.SetFrom
import PyProof.Conv_int_bool
import PySem.Challenge.RW_forsworn_k61_whole_sixty_cases_in_a_line
set_option Elab.async false
set_option linter.all false
set_option maxRecDepth 100000
set_option maxHeartbeats 4000000
theorem aA{p:Prop}[Decidable p](h:decide p=true:=by kernel_rfl):p:=of_decide_eq_true h
abbrev aD:=@PySem.F.plainAttrs_list
abbrev aE:=@PySem.F.slot_list_append
abbrev aF:=@PySem.F.type_list_append
abbrev dD:=PySem.Value->PySem.Shared->Prop
abbrev dE:=PySem.Str->Option PySem.Value
abbrev dF:=List PySem.Str
abbrev dG:=List PySem.Value
abbrev dH:=PySem.Str->PySem.Addr
abbrev dI:=List PySem.Addr
abbrev dJ:=PySem.Shared
abbrev dM:=PySem.Value
abbrev dN:=PySem.Addr
abbrev dO:=PySem.Program
abbrev dP:=PySem.World
abbrev dQ:=PySem.Around
abbrev xA:=@PySem.Heap.get?_push_of_some
abbrev xB:=@List.length_map
abbrev xC:=@List.getElem?_eq_getElem
abbrev xD:=@Nat.le_refl
abbrev xE:=@List.getElem?_eq_some_iff
abbrev xF:=@List.mem_cons
abbrev xG:=@PySem.Heap.get?_push_size
abbrev xH:=@PySem.Heap.lt_size
abbrev xI:=@Bool.false_ne_true
abbrev xJ:=@List.getElem?_map
abbrev xK:=@List.length_append
abbrev xL:=@List.getD_eq_getElem?_getD
abbrev xM:=@List.mem_append_right
abbrev xN:=@decide_eq_true
abbrev xO:=@List.mem_of_getElem?
abbrev xP:=@List.map_append
abbrev xQ:=@List.mem_singleton
abbrev xR:=@List.mem_append
abbrev xS:=@List.size_toArray
abbrev xT:=@decide_eq_false
abbrev xU:=@List.mem_cons_self
abbrev xV:=@List.length_take
abbrev xW:=@Nat.le_trans
abbrev xX:=@List.length_cons
abbrev xY:=@Nat.ne_of_lt
abbrev xZ:=@Nat.zero_le
abbrev yC:=@List.mem_cons_of_mem
abbrev yD:=@Option.map_eq_some_iff
abbrev yE:=@List.not_mem_nil
abbrev yF:=@List.map_cons
abbrev yG:=@List.take_add_one
abbrev yH:=@List.cons_append
abbrev yI:=@Nat.lt_of_lt_of_le
abbrev yJ:=@List.take_length
abbrev yK:=@List.nodup_cons
abbrev yL:=@List.append_nil
abbrev yM:=@Int.toNat_natCast
abbrev yN:=@Nat.le_of_lt
abbrev yO:=@Nat.le_of_ble_eq_true
abbrev yP:=@Array.length_toList
abbrev yQ:=@List.mem_map
abbrev yR:=@List.mem_range
abbrev yS:=@Nat.lt_of_le_of_lt
abbrev yT:=@List.replicate_succ
abbrev yU:=@of_decide_eq_true
abbrev yV:=@List.lookup_cons
abbrev yW:=@List.getElem?_append_left
abbrev yX:=@PySem.Heap.size_push
abbrev yY:=@List.Pairwise.imp_of_mem
abbrev yZ:=@Nat.lt_irrefl
abbrev zA:=@List.take_of_length_le
abbrev zB:=@Nat.lt_succ_of_lt
abbrev zC:=@PySem.Heap.get?_update_ne
abbrev zD:=@List.length_reverse
abbrev zE:=@Bool.eq_iff_iff
abbrev zF:=@Array.getElem?_eq_getElem
abbrev zG:=@List.getElem?_zip_eq_some
abbrev zH:=@PySem.Heap.get?_update_self
abbrev zI:=@List.length_filter_le
abbrev zJ:=@List.getElem_mem
abbrev zK:=@Bool.false_eq_true
abbrev zL:=@List.mem_append_left
abbrev zM:=@List.getElem?_cons_succ
abbrev zN:=@List.append_assoc
abbrev zO:=@List.length_range
abbrev zP:=@Nat.le_succ_of_le
abbrev zQ:=@List.of_mem_zip
abbrev zR:=@List.nil_append
abbrev zS:=@decide_eq_true_iff
abbrev zT:=@Array.getElem?_toList
abbrev zU:=@Nat.ne_of_gt
abbrev zV:=@Option.map_some
abbrev zW:=@List.mem_of_mem_take
abbrev zX:=@List.pairwise_map
abbrev zY:=@Int.eq_ofNat_of_zero_le
abbrev zZ:=@List.filterMap_cons
abbrev wA:=@Bool.and_eq_true
abbrev wB:=@PySem.Heap.get?_update_other
abbrev wC:=@Array.getD_eq_getD_getElem?
abbrev wD:=@List.getElem?_concat_length
abbrev wE:=@List.find?_cons
abbrev wF:=@List.length_singleton
abbrev wG:=@Option.or_eq_none_iff
abbrev wH:=@List.findSome?_eq_none_iff
abbrev wI:=@List.flatten_cons
abbrev wJ:=@Bool.false_and
abbrev wK:=@List.map_map
abbrev wL:=@List.length_filterMap_le
abbrev wM:=@List.map_congr_left
abbrev wN:=@List.getElem?_range
abbrev wO:=@Bool.true_and
abbrev wP:=@List.range_succ
abbrev wQ:=@List.filter_append
abbrev wR:=@List.mem_filter
abbrev wS:=@Nat.le_succ
abbrev wT:=@List.filterMap_append
abbrev wU:=@List.getElem?_eq_none
abbrev wV:=@Int.not_lt
abbrev uFg:=PySem.W.Frag
namespace L2
open PySem PySem.W
def topRunT(tb:String->Option Builtin)(p:dO)(w:dP)(m:Nat)(ann:Option dM):Nat->SharedT->Thread->Option SharedT
 | 0,_,_=>none
 | n+1,s,t=>match through t with
  | true=>some s
  | false=>match stepOk m ann t with
   | false=>none
   | true=>match stepT (denote tb) p w s t with
    | some x=>topRunT tb p w m ann n x.1 x.2
    | none=>none
theorem DB{tb:String->Option Builtin}{p:dO}{w:dP}{m:Nat}{ann:Option dM}:∀{n:Nat}{s r:SharedT}{t:Thread},topRunT tb p w m ann n s t=some r->topRun tb p w m ann n s.abs t=some r.abs
 | 0,s,r,t,h=>by cases h
 | n+1,s,r,t,h=>by
  unfold topRunT at h;unfold topRun;cases a:through t with
  | true=>rw[a] at h;cases h;rfl
  | false =>
   rw[a] at h;cases b:stepOk m ann t with
   | false=>rw[b] at h;cases h
   | true =>
    rw[b] at h;cases c:stepT (denote tb) p w s t with
    | none=>rw[c] at h;cases h
    | some x=>obtain⟨s2,t2⟩:=x;rw[c] at h;dsimp only at h ⊢;rw[stepT_spec c];exact DB h
def Dl:List Obj->Nat->BT->BT
 | [],_,t=>t
 | o::r,i,t=>Dl r (i+1) (t.ins i o)
noncomputable def s0T (P:Params) (os:OsState):SharedT:=⟨Dl (boot_heap P).objs.toList 0 .nil,11,(boot_heap P).life,#[],boot_drawn,boot_toks,os⟩
noncomputable def seenT {α:Type}(p q:dO) (loose:dF) (Xt:dJ->Bool) (Yf:dJ->α) (P:Params) (s:dJ) :=
 (staticsOk (importedModules p.main.body) (boot_heap P) s.heap&&namesBound p s.heap&&gensDone s&&laidKept (boot_heap P) s.heap,openSeen q loose (importedModules p.main.body) Xt true s,Yf s)
theorem Lg(P:Params)(os:OsState):(s0T P os).abs=⟨boot_heap P,#[],boot_drawn,boot_toks,os⟩:=by kernel_rfl
theorem Ft(P:Params):((boot_heap P).isNs mainGlobals&&(#[]:Array GenState).size==0,(boot_heap P).objs.size,(boot_heap P).nsMap mainGlobals "__annotations__")=(true,11,some (.ref 6)):=by kernel_rfl
theorem dA{p q:dO}{loose:dF}{Xt:dJ->Bool}{α:Type}{Yf:dJ->α}{Ya:dP->α}{N:Nat}(e:opening p=plainProg p.main.scope.names)(hN:Nat.ble 600 N=true)(f:∀s,fenceModules? p s=some s)(run:∀ (w:dP) (os:OsState),(topRunT treeTable p w 11 (some (.ref 6)) N (s0T w.params os) (topStub p)).map (fun s=>seenT p q loose Xt Yf w.params s.abs)=some (true,openGood q loose,Ya w)):LeftO p q loose Xt Yf Ya N:=fun w=>by
 obtain⟨⟨h,gs,d,k,os⟩,e1,e2⟩:=yD.mp (boot_open e hN f w);obtain⟨rfl,rfl,rfl,rfl⟩:h=boot_heap w.params/\gs=#[]/\d=boot_drawn/\k=boot_toks:=by simpa using e2
 obtain⟨s,r1,r2⟩:=yD.mp (run w os);unfold seenT at r2;obtain⟨l1,l2,l3⟩:_/\_/\_:=by simpa only [Prod.mk.injEq] using r2
 have r:=DB r1;rw[Lg] at r;obtain⟨z1,z2,z3⟩:_/\_/\_:=by simpa only [Prod.mk.injEq] using Ft w.params
 have t:topFrom treeTable p w N ⟨boot_heap w.params,#[],boot_drawn,boot_toks,os⟩=some s.abs:=by
  unfold topFrom;dsimp only;rw[z1,z2,z3,r];show (match staticsOk (importedModules p.main.body) (boot_heap w.params) s.abs.heap&&namesBound p s.abs.heap&&gensDone s.abs&&laidKept (boot_heap w.params) s.abs.heap with | true=>some s.abs | false=>none)=_;rw[l1]
 unfold openEnds;rw[e1];show (topFrom treeTable p w N _).map _=_;rw[t];exact congrArg some (Prod.ext l2 l3)
def Zl(p:dO)(i:Nat):Stmt:=p.main.body.getD i (.Pass ⟨0,0,0,0⟩)
def hIn(s:Stmt)(j:Nat):Stmt:=match s with
 | .ClassDef _ _ _ b _ _ _ _ _ _ _=>b.getD j (.Pass ⟨0,0,0,0⟩)
 | _=>s
def Im(s:Stmt):Arguments:=match s with
 | .FunctionDef _ a _ _ _ _ _ _ _ _=>a
 | _=>⟨[],[],none,[],[],none,[]⟩
def GS(s:Stmt):List Stmt:=match s with
 | .FunctionDef _ _ b _ _ _ _ _ _ _=>b
 | _=>[]
def Lb(s:Stmt):Scope:=match s with
 | .FunctionDef _ _ _ _ _ _ c _ _ _=>c
 | _=>{kind:=.function,names:=[],isGenerator:=false,isCoroutine:=false }
def de(P:Params)(n:Str)(t:Tok)(v:dM):DictEntry:=⟨PyData.keyHash P n,.str n t,v⟩
def kFn(n q:Str)(st:Stmt)(pm:dM)(c:dN):Obj:=⟨.type "function", none,.func (PySem.W.fnOf n q (Im st) (GS st) (Lb st) .none .none .none pm none (.ref c) .none),#[]⟩
def kC(n q:Str)(t l a u:Nat)(r s v x y:dM):Obj:=⟨.type "code", none,.fields #[.str n t,.str q (t+1),.str "/claim/cut.py" (t+2),.int l 0,.int a 0,.int 0 0,.int 0 0,.int 3 0,r,.bool true,.int 181 0,s,.none,v,x,y,.int u 0,.int l 0,.str "/claim/cut.py" (u+1)],#[]⟩
def kg(c:Nat)(n q:Str)(t l a u:Nat)(st:Stmt)(pm:dM)(r:uFg):uFg:=(c,kC n q t l a u (.ref (c - 5)) (.ref (c - 4)) (.ref (c - 3)) (.ref (c - 2)) (.ref (c - 1)))::(c+1,kFn n q st pm c)::r
def kg0(c:Nat)(n q:Str)(t l a u:Nat)(st:Stmt)(pm:dM)(r:uFg):uFg:=(c,kC n q t l a u (.ref (c - 3)) (.ref (c - 2)) .none .none (.ref (c - 1)))::(c+1,kFn n q st pm c)::r
def kE(P:Params)(a:Nat)(n:Str)(l t:Nat)(r:uFg):uFg:=(a,⟨.type "dict", none,.dict #[de P "__module__" t (.str "forsworn.errors" 194),de P "__firstlineno__" (t+4) (.int l (t+3)),de P "called" (t+11) (.ref (a - 2)),de P "__static_attributes__" (t+12) (.ref (a - 1)),de P "__doc__" (t+13) .none] 2,#[]⟩)::(a+1,⟨.type "type", none,.cls {name:=n,bases:=[.ref 38],mro:=[.ref (a+1),.ref 38,.type "ValueError", .type "Exception", .type "BaseException", .type "object"],ns:=a,qualname:=n,hasDict:=true,slotNames:=[],subclasses:=[],abstract:=false,collection:=none,hasDel:=false },#[some (.ref (a - 15)),none,some (.str n (t - 7)),some (.str n (t+1)),some (.builtin "ValueError.__new__"),some (.bool true)]⟩)::r
def kpO(x:dN×Obj)(r:uFg):uFg:=x::r
def kf(c:Nat)(n:Str):=kg c n n
def kf0(c:Nat)(n:Str):=kg0 c n n
end L2
namespace PySem.W.Fast
noncomputable def tw14598715356260435866:PySem.Params->PySem.Obj:=PySem.W.boot_o_0
theorem te14598715356260435866:PySem.W.boot_o_0=tw14598715356260435866:=rfl
end PySem.W.Fast
lay_quick L2.topRunT L2.s0T L2.seenT
namespace L2
open PySem PySem.W PyProof.Rows
abbrev p0:Pos:=⟨0,0,0,0⟩
def BQ(p:dO):Env:={scope:=p.main.scope,locals:=mainNs,globals:=mainNs,cells:=[],code:=.ref 13,frame:=some 14 }
def cP(p:dO):Code:=.body (behindTheImports p) (BQ p)
def C9(tb:String->Option Builtin)(p:dO)(w:dP)(m:Nat)(ann:Option dM):Nat->SharedT->Thread->Option (SharedT×Thread)
 | 0,s,t=>some (s,t)
 | n+1,s,t=>match through t with
  | true=>none
  | false=>match stepOk m ann t with
   | false=>none
   | true=>match stepT (denote tb) p w s t with
    | some x=>C9 tb p w m ann n x.1 x.2
    | none=>none
theorem KI{tb:String->Option Builtin}{p:dO}{w:dP}{m:Nat}{ann:Option dM}:∀{n:Nat}{s r:SharedT}{t u:Thread},C9 tb p w m ann n s t=some (r,u)->topGo tb p w m ann n s.abs t=some (r.abs,u)
 | 0,s,r,t,u,h=>by cases h;rfl
 | n+1,s,r,t,u,h=>by
  unfold C9 at h;unfold topGo;cases a:through t with
  | true=>rw[a] at h;cases h
  | false =>
   rw[a] at h;cases b:stepOk m ann t with
   | false=>rw[b] at h;cases h
   | true =>
    rw[b] at h;cases c:stepT (denote tb) p w s t with
    | none=>rw[c] at h;cases h
    | some x=>obtain⟨s2,t2⟩:=x;rw[c] at h;dsimp only at h ⊢;rw[stepT_spec c];exact KI h
def preP(p:dO)(w:dP)(s:SharedT):Option (SharedT×Thread):=C9 treeTable p w 11 (some (.ref 6)) 12 s (topStub p)
def stubT(p:dO):Thread:=⟨denote treeTable (cP p),cP p,p0,[topFrame p0]⟩
def blkP(p:dO)(w:dP)(s:SharedT):Option (Flow×SharedT×Code×Pos):=segRunT treeTable p w 11 (some (.ref 6)) 1 1 s (blockOf (behindTheImports p) (BQ p) (cP p) p0 [topFrame p0])
def segP(p:dO)(w:dP)(n k j:Nat)(pos:Pos)(s:SharedT):Option (Flow×SharedT×Code×Pos):=segRunT treeTable p w 11 (some (.ref 6)) 1 n s (piecesOf (((behindTheImports p).drop k).take j) (BQ p) (cP p) pos [topFrame p0])
def topQ(p:dO)(w:dP)(n k:Nat)(pos:Pos)(s:SharedT):Option SharedT:=topRunT treeTable p w 11 (some (.ref 6)) n s (restOf ((behindTheImports p).drop k) (BQ p) (cP p) pos [topFrame p0])
def vI(n:Nat):dM:=.int n 0
def tuO(l:dG):Obj:=⟨.type "tuple", none,.seq l.toArray 0,#[]⟩
def fdO(c:dM)(l:dG):Obj:=⟨c,none,.fields l.toArray,#[]⟩
def diO(l:List DictEntry)(n:Nat):Obj:=⟨.type "dict", none,.dict l.toArray n,#[]⟩
def cut(t:Nat):dM:=.str "/claim/cut.py" t
def mdl:dM:=.str "forsworn.errors" 194
def cdO(n q:Str)(b l:Nat)(ar fl:Nat)(fn:Bool)(a:Nat)(r:dG):Obj:=fdO (.type "code") ([.str n b,.str q (b+1),cut (b+2),vI l,vI ar,vI 0,vI 0,vI fl,.ref a,.bool fn,vI 181,.ref (a+1)]++r ++ [vI (if fn then b+4 else b+3),vI l,cut (if fn then b+5 else b+4)])
def fn0(n q:Str)(st:Stmt):Obj:=⟨.none,none,.func {name:=n,qualname:=q,params:=Im st,body:=.stmts (GS st),scope:=Lb st,globals:=0,closure:=[],defaults:=.none,kwdefaults:=.none },#[]⟩
def Lj(P:Params)(a b l:Nat)(st:Stmt)(bs:dM)(dc:Nat)(more:List DictEntry)(cl:Obj)(n q:Str)(hd:List Obj)(tl:List Obj):List Obj :=
 let one:=[de P "__module__" (b+7) mdl]
 let two:=[de P "__firstlineno__" (b+11) (.int l (b+10)),de P "called" (b+18) (.ref (a+13)),de P "__static_attributes__" (b+19) (.ref (a+14))]
 hd ++ [tuO [bs],fdO (.type "builtin_function_or_method") [.builtin "type.__prepare__", .type "type"],diO (one ++ [de P "__qualname__" (b+9) (.str n (b+8))]++two) 5,tuO [],fdO .none [vI (l+2),vI 4,.ref (a+12)],
  cdO n n (b+2) l 0 0 false (a+3) [.none,.none,.none,.none],⟨.type "frame", none,.plain,#[some (.ref (a+5)),some (.ref 3),some (.ref (a+2)),none,some mdl,none,some (.ref 0)]⟩,
  tuO [],fdO .none [],tuO [.str "self" (b+15)],tuO [],fn0 "called" q st,cdO "called" q (b+12) (l+2) 1 3 true (a+7) [.none,.ref (a+9),.ref (a+10),.ref (a+11)],
  kFn "called" q st mdl (a+12),tuO [],diO (one++two++more) dc,cl]++tl ++ [fdO (.type "super") [.ref (a+16),.ref (a+16),.ref (a+16)],fdO (.type "builtin_function_or_method") [.builtin "object.__init_subclass__", .ref (a+16)]]
def tyO(a b:Nat)(n:Str)(bs:dG)(mro:dG)(sub:dG):Obj:=⟨.type "type", none,.cls {name:=n,bases:=bs,mro:=.ref (a+16)::mro,ns:=a+15,qualname:=n,hasDict:=true,slotNames:=[],subclasses:=sub,abstract:=false,collection:=none,hasDel:=false },
 #[some (.ref a),none,some (.str n b),some (.str n (b+8)),some (.builtin "ValueError.__new__"),some (.bool true)]⟩
def Kj:List dM:=[.type "ValueError", .type "Exception", .type "BaseException", .type "object"]
def bS(P:Params)(p:dO)(j:Nat)(x:Str×Str):List Obj:=let a:=42+19 * j;let b:=221+23 * j;let l:=9+4 * j
 Lj P a b l (hIn (Zl p (3+j)) 0) (.ref 38) 2 [de P "__doc__" (b+20) .none] (tyO a b x.1 [.ref 38] (.ref 38::Kj) []) x.1 x.2 [] []
def num{α:Type}:Nat->List α->List (Nat × α)
 | _,[]=>[]
 | i,x::r=>(i,x)::num (i+1) r
noncomputable def Qt (p:dO) (P:Params) (ns:List (Str×Str)):List Obj:=let w:=Zl p 0
  [boot_o_0 P,boot_o_1 P,boot_o_2 P,
   diO ([de P "__name__" 165 mdl,de P "__doc__" 166 .none,de P "__package__" 167 .none,de P "__loader__" 168 (.builtin "__main__.__loader__#opaque"),de P "__spec__" 169 .none,de P "__annotations__" 170 (.ref 6),de P "__builtins__" 171 (.ref 4),de P "__file__" 173 (cut 172),de P "__cached__" 174 .none,de P "_wall" 193 (.ref 21),de P "MootError" 220 (.ref 38)]++(num 0 ns).map fun x=>de P x.2.1 (243+23 * x.1) (.ref (58+19 * x.1))) (11+ns.length),
   boot_o_4 P,boot_o_5 P,boot_o_6 P,boot_o_7 P,boot_o_8 P,boot_o_9 P,boot_o_10 P,tuO [],fdO .none ([vI 1,vI 0,.ref 20,vI 5,vI 0,.ref 27]++((num 0 ns).map fun x=>[vI (9+4 * x.1),vI 0,.ref (47+19 * x.1)]).flatten),
   cdO "<module>" "<module>" 182 1 0 0 false 11 [.none,.none,.none,.none],⟨.type "frame", none,.plain,#[some (.ref 13),some (.ref 3),some (.ref 3),none,some (.str "__main__" 164),none,some (.ref 0)]⟩,
   tuO [],fdO .none [],tuO [.str "k" 190],tuO [],fn0 "_wall" "_wall" w,cdO "_wall" "_wall" 187 1 1 3 true 15 [.none,.ref 17,.ref 18,.ref 19],kFn "_wall" "_wall" w (.str "__main__" 164) 20] ++
  Lj P 22 196 5 (hIn (Zl p 2) 0) (.type "ValueError") 3 [de P "__weakref__" 217 (.ref 39),de P "__doc__" 218 .none] (tyO 22 196 "MootError" [.type "ValueError"] Kj ((num 0 ns).map fun x=>.ref (58+19 * x.1))) "MootError" "MootError.called" [] [fdO (.type "getset_descriptor") [.str "__weakref__" 216,.ref 38,.builtin "ExceptionGroup.__weakref__", .none]] ++
  ((num 0 ns).map fun x=>bS P p x.1 x.2).flatten
noncomputable def errS (p:dO) (ns:List (Str×Str)) (P:Params) (os:OsState):SharedT:=⟨Dl (Qt p P ns) 0 .nil,42+19 * ns.length,(boot_heap P).life,#[],boot_drawn,221+23 * ns.length,os⟩
noncomputable def stubS (P:Params) (os:OsState):SharedT:=⟨Dl ((boot_heap P).objs.toList ++ [tuO [],fdO .none [],cdO "<module>" "<module>" 182 1 0 0 false 11 [.none,.none,.none,.none],⟨.type "frame", none,.plain,#[some (.ref 13),some (.ref 3),some (.ref 3),none,some (.str "__main__" 164),none,some (.ref 0)]⟩]) 0 .nil,15,(boot_heap P).life,#[],boot_drawn,187,os⟩
def WW(p:dO)(w:dP)(os:OsState)(M:Nat)(s:SharedT)(k:Nat)(pos:Pos):Prop:=∀(N:Nat)(r:dJ),
 topRun treeTable p w 11 (some (.ref 6)) N s.abs (restOf ((behindTheImports p).drop k) (BQ p) (cP p) pos [topFrame p0])=some r->topRun treeTable p w 11 (some (.ref 6)) (M+N) (s0T w.params os).abs (topStub p)=some r
theorem WW.zero{p:dO}{w:dP}{os:OsState}(h:preP p w (s0T w.params os)=some (stubS w.params os,stubT p))(b:blkP p w (stubS w.params os)=some (.next,stubS w.params os,cP p,p0)):WW p w os 13 (stubS w.params os) 0 p0:=fun N r k=>by
 have k':=go_top (KI h) (piece_block (segRun_of b) k)
 rwa [← Nat.add_assoc] at k'
theorem WW.step{p:dO}{w:dP}{os:OsState}{M k:Nat}{s s':SharedT}{pos pos':Pos}(R:WW p w os M s k pos)(n j:Nat)(h:segP p w n k j pos s=some (.next,s',cP p,pos')):WW p w os (M+n) s' (k+j) pos':=fun N r x=>by
 rw[Nat.add_assoc];refine R _ r ?_;rw[← List.take_append_drop j ((behindTheImports p).drop k),List.drop_drop];exact piece_app (segRun_of h) x
section
variable(p q:dO)(loose:dF)(Xt:dJ->Bool)
noncomputable def sn0 (P:Params) (s:SharedT):Bool:=staticsOk (importedModules p.main.body) (boot_heap P) s.abs.heap&&namesBound p s.abs.heap&&gensDone s.abs&&laidKept (boot_heap P) s.abs.heap
def sn1(s:SharedT):=(seen ((recsOf q).map (·.name)) (ownsOf q) [] {s.abs with gens:=#[] },s.abs.heap.bltView)
def sn2(s:SharedT):Bool:=s.abs.heap.keysOk (looseW q loose) ((recsOf q).map (·.name)) ((litsOf q).map (·.1)) ((clssOf q (looseW q loose)).map (·.name))&&s.abs.heap.accountedOkI (importedModules p.main.body)&&s.abs.heap.isNs mainGlobals&&s.abs.heap.isNs builtinsNs&&tablesOk q s.abs.heap&&Xt s.abs&&(if true then s.abs.gens.size==0 else !leftWithCleanup s.abs.gens)
def sn3(s:SharedT):Bool:=tabsOk q s.abs
def sn4(s:SharedT):=pinSeenD q (drecsOf q) s.abs
def sn9(i:Nat)(s:SharedT):=(((plainsOf q (looseW q loose)).drop i).take 1).map fun c=>s.abs.heap.plainShapeAt c.withCmp
def snA(i:Nat)(s:SharedT):=((plainsOf q (looseW q loose)).drop i).map fun c=>s.abs.heap.plainShapeAt c.withCmp
def sn5(s:SharedT):=plainSeenD q loose s.abs
def sn8(s:SharedT):=wideSeen q s.abs
def sn6(s:SharedT):=clsSeenW q loose s.abs
end
def gd9(q:dO)(loose:dF)(i:Nat):=(((plainsOf q (looseW q loose)).drop i).take 1).map fun c=>some c.withCmp.plainShape
def gdA(q:dO)(loose:dF)(i:Nat):=((plainsOf q (looseW q loose)).drop i).map fun c=>some c.withCmp.plainShape
theorem Ig{α β:Type}(f:α->β)(l:List α):l.map f=((l.drop 0).take 1).map f++(((l.drop 1).take 1).map f++(l.drop 2).map f):=by
 rcases l with _ | ⟨a,_ | ⟨b,l⟩⟩<;>rfl
theorem PC{p q:dO}{loose:dF}{Xt:dJ->Bool}{α:Type}{Yf:dJ->α}{Ya:dP->α}{M N k:Nat}{s:dP->OsState->SharedT}{pos:Pos}(e:opening p=plainProg p.main.scope.names)(hN:Nat.ble 600 (M+N)=true)(f:∀s,fenceModules? p s=some s)(R:∀ (w:dP) (os:OsState),WW p w os M (s w os) k pos)(r0:∀ (w:dP) (os:OsState),(topQ p w N k pos (s w os)).map (sn0 p w.params)=some true)(r1:∀ (w:dP) (os:OsState),(topQ p w N k pos (s w os)).map (sn1 q)=some (expectedOf q,bltViewBooted))(r2:∀ (w:dP) (os:OsState),(topQ p w N k pos (s w os)).map (sn2 p q loose Xt)=some true)(r3:∀ (w:dP) (os:OsState),(topQ p w N k pos (s w os)).map (sn3 q)=some true)(r4:∀ (w:dP) (os:OsState),(topQ p w N k pos (s w os)).map (sn4 q)=some (pinGoodD (drecsOf q)))(r9:∀ (w:dP) (os:OsState),(topQ p w N k pos (s w os)).map (sn9 q loose 0)=some (gd9 q loose 0))(rB:∀ (w:dP) (os:OsState),(topQ p w N k pos (s w os)).map (sn9 q loose 1)=some (gd9 q loose 1))(rA:∀ (w:dP) (os:OsState),(topQ p w N k pos (s w os)).map (snA q loose 2)=some (gdA q loose 2))(r5:∀ (w:dP) (os:OsState),(topQ p w N k pos (s w os)).map (sn5 q loose)=some (plainGoodD q loose))(r8:∀ (w:dP) (os:OsState),(topQ p w N k pos (s w os)).map (sn8 q)=some (wideGood q))(r6:∀ (w:dP) (os:OsState),(topQ p w N k pos (s w os)).map (sn6 q loose)=some (clsGoodW q loose))(r7:∀ (w:dP) (os:OsState),(topQ p w N k pos (s w os)).map (fun s=>Yf s.abs)=some (Ya w)):LeftO p q loose Xt Yf Ya (M+N):=fun w=>by
 obtain⟨⟨h,gs,d,k,os⟩,e1,e2⟩:=yD.mp (boot_open e hN f w);obtain⟨rfl,rfl,rfl,rfl⟩:h=boot_heap w.params/\gs=#[]/\d=boot_drawn/\k=boot_toks:=by simpa using e2
 obtain⟨s,x,y0⟩:=yD.mp (r0 w os);have y1:=r1 w os;have y2:=r2 w os;have y3:=r3 w os;have y4:=r4 w os;have y5:=r5 w os;have y9:=r9 w os;have yA:=rA w os;have yB:=rB w os;have y8:=r8 w os;have y6:=r6 w os;have y7:=r7 w os;rw[x,zV,Option.some_inj] at y1 y2 y3 y4 y5 y6 y7 y8 y9 yA yB;have r:=R w os N _ (DB x);rw[Lg] at r;obtain⟨z1,z2,z3⟩:_/\_/\_:=by simpa only [Prod.mk.injEq] using Ft w.params
 have t:topFrom treeTable p w (M+N) ⟨boot_heap w.params,#[],boot_drawn,boot_toks,os⟩=some s.abs:=by
  unfold topFrom;dsimp only;rw[z1,z2,z3,r];show (match staticsOk (importedModules p.main.body) (boot_heap w.params) s.abs.heap&&namesBound p s.abs.heap&&gensDone s.abs&&laidKept (boot_heap w.params) s.abs.heap with | true=>some s.abs | false=>none)=_;unfold sn0 at y0;rw[y0]
 unfold openEnds;rw[e1];show (topFrom treeTable p w (M+N) _).map _=_;rw[t];refine congrArg some (Prod.ext ?_ y7);have a1:=congrArg Prod.fst y1;have b1:=congrArg Prod.snd y1;exact Prod.ext a1 (Prod.ext b1 (Prod.ext y2 (Prod.ext y3 (Prod.ext y4 (Prod.ext ((Ig _ _).trans ((congr (congrArg _ y9) (congr (congrArg _ yB) yA)).trans (Ig _ _).symm)) (Prod.ext y5 (Prod.ext y8 y6)))))))
end L2
lay_quick L2.preP L2.blkP L2.segP L2.topQ L2.errS L2.stubS L2.stubT L2.sn0 L2.sn1 L2.sn2 L2.sn3 L2.sn4 L2.sn5 L2.sn6 L2.sn8 L2.sn9 L2.snA L2.gd9 L2.gdA
namespace Law
open PySem L2
def pm0:dM:=(.str "forsworn.deeds" 589)
def pm1:dM:=(.str "forsworn.dues" 606)
def pm2:dM:=(.str "forsworn.measures" 633)
def pm3:dM:=(.str "forsworn.oaths" 671)
def pm4:dM:=(.str "forsworn.folk" 687)
def pm5:dM:=(.str "forsworn.goods" 896)
def pm6:dM:=(.str "forsworn.stands" 951)
def pm7:dM:=(.str "forsworn.moot" 1055)
def pm8:dM:=(.str "forsworn.strike" 1485)
def pm9:dM:=(.str "law_forsworn_k61_whole_sixty_cases_in_a_line" 1514)
def Kp(p:dO)(P:Params):uFg :=
 kpO (3,⟨(.type "dict"),none,(.dict #[de P "__name__" 165 (.str "law_forsworn_k61_whole_sixty_cases_in_a_line" 1514),de P "__doc__" 166 .none,de P "__package__" 167 .none,de P "__loader__" 168 (.builtin "__main__.__loader__#opaque"),de P "__spec__" 169 .none,de P "__annotations__" 170 (.ref 6),de P "__builtins__" 171 (.ref 4),de P "__file__" 173 (.str "/claim/cut.py" 172),de P "__cached__" 174 .none,de P "_wall" 193 (.ref 21),de P "MootError" 220 (.ref 38),de P "NoName" 243 (.ref 58),de P "NoMeasure" 266 (.ref 77),de P "Unknown" 289 (.ref 96),de P "Taken" 312 (.ref 115),de P "NoThing" 335 (.ref 134),de P "NoCase" 358 (.ref 153),de P "NoOath" 381 (.ref 172),de P "NotYet" 404 (.ref 191),de P "Dead" 427 (.ref 210),de P "NoHeir" 450 (.ref 229),de P "TooMany" 473 (.ref 248),de P "SwornTwice" 496 (.ref 267),de P "Forsworn" 519 (.ref 286),de P "TooLight" 542 (.ref 305),de P "Broken" 565 (.ref 324),de P "NoDeed" 588 (.ref 343),de P "done" 599 (.ref 352),de P "copied" 605 (.ref 357),de P "owed" 613 (.ref 362),de P "owed_dues" 614 (.ref 362),de P "set_against" 624 (.ref 369),de P "triple" 632 (.ref 376),de P "LAST_DAY" 636 (.int (9999) 635),de P "MOST_WEIGHT" 638 (.int (1000) 637),de P "MOST_NEED" 640 (.int (12000) 639),de P "MOST_MONEY" 642 (.int (1000000) 641),de P "check_day" 649 (.ref 383),de P "check_weight" 656 (.ref 390),de P "check_need" 663 (.ref 397),de P "check_money" 670 (.ref 404),de P "LONGEST_NAME" 674 (.int (12) 673),de P "is_name" 680 (.ref 409),de P "total" 686 (.ref 414),de P "MOST_FOLK" 690 (.int (40) 689),de P "Folk" 895 (.ref 569),de P "DAY" 899 (.int (0) 898),de P "WORD" 901 (.int (1) 900),de P "GIVER" 903 (.int (2) 902),de P "TAKER" 905 (.int (3) 904),de P "road" 911 (.ref 578),de P "holder" 922 (.ref 585),de P "holder_goods" 923 (.ref 585),de P "by_day" 930 (.ref 592),de P "leave_on" 941 (.ref 599),de P "pass_on" 950 (.ref 606),de P "ONES" 954 (.int (0) 953),de P "OTHERS" 956 (.int (1) 955),de P "NEED" 958 (.int (2) 957),de P "NAMED" 960 (.int (3) 959),de P "settled" 967 (.ref 613),de P "settled_with" 979 (.ref 620),de P "broken" 986 (.ref 627),de P "breakers" 995 (.ref 634),de P "breakers_stands" 996 (.ref 634),de P "chain" 1006 (.ref 641),de P "chain_stands" 1007 (.ref 641),de P "breaking" 1013 (.ref 646),de P "naming" 1024 (.ref 653),de P "check_case" 1032 (.ref 660),de P "check_oath" 1038 (.ref 665),de P "margin_without" 1048 (.ref 672),de P "kept_weight" 1054 (.ref 677),de P "MOST_THINGS" 1058 (.int (40) 1057),de P "MOST_CASES" 1060 (.int (60) 1059),de P "MOST_SWEARERS" 1062 (.int (12) 1061),de P "MOST_MOMENTS" 1064 (.int (400) 1063),de P "Moot" 1484 (.ref 987),de P "struck" 1498 (.ref 998),de P "with_kept_names" 1507 (.ref 1005),de P "kept_names" 1513 (.ref 1010),de P "_law_src" 1522 (.ref 1017),de P "_law_next" 1532 (.ref 1024),de P "_law_whole" 1539 (.ref 1031),de P "_law_same" 1549 (.ref 1038),de P "_law_unlike" 1560 (.ref 1045),de P "_law_word" 1566 (.ref 1050),de P "_law_names" 1580 (.ref 1057),de P "_law_forsworn" 1594 (.ref 1064),de P "_law_right" 1600 (.ref 1069),de P "law" 1606 (.ref 1074)] 91),#[]⟩)<|
 kpO (4,⟨(.type "module"),(some 0),.plain,#[]⟩)<|
 kf 351 "done" 591 74 2 597 (Zl p 20) pm0<|
 kf0 356 "copied" 600 97 1 603 (Zl p 21) pm0<|
 kf0 361 "owed" 608 100 3 611 (Zl p 23) pm1<|
 kf 368 "set_against" 615 107 4 622 (Zl p 25) pm1<|
 kf 375 "triple" 625 112 2 630 (Zl p 26) pm1<|
 kf 382 "check_day" 643 121 1 647 (Zl p 32) pm2<|
 kf 389 "check_weight" 650 124 1 654 (Zl p 33) pm2<|
 kf 396 "check_need" 657 127 1 661 (Zl p 34) pm2<|
 kf 403 "check_money" 664 130 1 668 (Zl p 35) pm2<|
 kf0 408 "is_name" 675 135 1 678 (Zl p 38) pm3<|
 kf0 413 "total" 681 137 1 684 (Zl p 39) pm3<|
 kg 427 "__init__" "Folk.__init__" 703 143 1 707 (hIn (Zl p 42) 0) pm4<|
 kg 434 "come" "Folk.come" 710 149 4 717 (hIn (Zl p 42) 1) pm4<|
 kg0 467 "weight" "Folk.weight" 755 169 3 758 (hIn (Zl p 42) 6) pm4<|
 kg 495 "stand_in" "Folk.stand_in" 786 187 3 792 (hIn (Zl p 42) 10) pm4<|
 kg 502 "died_by" "Folk.died_by" 795 192 3 801 (hIn (Zl p 42) 11) pm4<|
 kg 509 "death_day" "Folk.death_day" 804 195 2 809 (hIn (Zl p 42) 12) pm4<|
 kg 516 "heir_of" "Folk.heir_of" 812 198 2 817 (hIn (Zl p 42) 13) pm4<|
 kg 523 "check_coming" "Folk.check_coming" 820 201 4 827 (hIn (Zl p 42) 14) pm4<|
 kg 544 "check_known" "Folk.check_known" 850 228 2 855 (hIn (Zl p 42) 17) pm4<|
 kg 551 "check_there" "Folk.check_there" 858 232 3 864 (hIn (Zl p 42) 18) pm4<|
 kg 558 "check_living" "Folk.check_living" 867 236 3 873 (hIn (Zl p 42) 19) pm4<|
 kg 565 "check_untold" "Folk.check_untold" 876 240 2 881 (hIn (Zl p 42) 20) pm4<|
 kpO (568,⟨(.type "dict"),none,(.dict #[de P "__module__" 698 (.str "forsworn.folk" 687),de P "__firstlineno__" 702 (.int (141) 701),de P "__init__" 709 (.ref 428),de P "come" 719 (.ref 435),de P "rise" 729 (.ref 442),de P "die" 739 (.ref 449),de P "names" 746 (.ref 456),de P "came" 754 (.ref 463),de P "weight" 760 (.ref 468),de P "dead" 769 (.ref 475),de P "stands_for" 778 (.ref 482),de P "twin" 785 (.ref 489),de P "stand_in" 794 (.ref 496),de P "died_by" 803 (.ref 503),de P "death_day" 811 (.ref 510),de P "heir_of" 819 (.ref 517),de P "check_coming" 829 (.ref 524),de P "check_rise" 839 (.ref 531),de P "check_death" 849 (.ref 538),de P "check_known" 857 (.ref 545),de P "check_there" 866 (.ref 552),de P "check_living" 875 (.ref 559),de P "check_untold" 883 (.ref 566),de P "__static_attributes__" 888 (.ref 567),de P "__dict__" 890 (.ref 570),de P "__weakref__" 892 (.ref 571),de P "__doc__" 893 .none] 4),#[]⟩)<|
 kpO (569,⟨(.type "type"),none,(.cls {name:="Folk", bases:=[(.type "object")],mro:=[(.ref 569),(.type "object")],ns:=568,qualname:="Folk", hasDict:=true,slotNames:=[],subclasses:=[],abstract:=false,collection:=none,hasDel:=false }),#[none,none,some (.str "Folk" 691),some (.str "Folk" 699),some (.builtin "object.__new__"),some (.bool true)]⟩)<|
 kf0 577 "road" 906 248 4 909 (Zl p 48) pm5<|
 kf 584 "holder" 912 258 4 920 (Zl p 49) pm5<|
 kf 591 "by_day" 924 262 1 928 (Zl p 51) pm5<|
 kf 598 "leave_on" 931 264 3 939 (Zl p 52) pm5<|
 kf 605 "pass_on" 942 269 2 948 (Zl p 53) pm5<|
 kf 612 "settled" 961 278 1 965 (Zl p 59) pm6<|
 kf 619 "settled_with" 968 280 2 977 (Zl p 60) pm6<|
 kf 626 "broken" 980 290 1 984 (Zl p 61) pm6<|
 kf 633 "breakers" 987 292 3 993 (Zl p 62) pm6<|
 kf 640 "chain" 997 296 2 1004 (Zl p 64) pm6<|
 kf0 645 "breaking" 1008 305 1 1011 (Zl p 66) pm6<|
 kf 652 "naming" 1014 307 2 1022 (Zl p 67) pm6<|
 kf 659 "check_case" 1025 314 2 1030 (Zl p 68) pm6<|
 kf0 664 "check_oath" 1033 317 3 1036 (Zl p 69) pm6<|
 kf 671 "margin_without" 1039 321 3 1046 (Zl p 70) pm6<|
 kf0 676 "kept_weight" 1049 324 3 1052 (Zl p 71) pm6<|
 kg 690 "__init__" "Moot.__init__" 1077 333 1 1081 (hIn (Zl p 77) 0) pm7<|
 kg 697 "come" "Moot.come" 1084 344 4 1091 (hIn (Zl p 77) 1) pm7<|
 kg 718 "penance" "Moot.penance" 1114 362 2 1119 (hIn (Zl p 77) 4) pm7<|
 kg 725 "bring" "Moot.bring" 1122 369 3 1128 (hIn (Zl p 77) 5) pm7<|
 kg 746 "claim" "Moot.claim" 1153 395 7 1164 (hIn (Zl p 77) 8) pm7<|
 kg 753 "wergild" "Moot.wergild" 1167 405 8 1179 (hIn (Zl p 77) 9) pm7<|
 kg 760 "accuse" "Moot.accuse" 1182 416 7 1192 (hIn (Zl p 77) 10) pm7<|
 kg0 772 "roll" "Moot.roll" 1202 429 1 1205 (hIn (Zl p 77) 12) pm7<|
 kg 786 "weight" "Moot.weight" 1215 435 3 1221 (hIn (Zl p 77) 14) pm7<|
 kg 814 "cases" "Moot.cases" 1249 447 1 1253 (hIn (Zl p 77) 18) pm7<|
 kg0 819 "suits" "Moot.suits" 1256 450 1 1259 (hIn (Zl p 77) 19) pm7<|
 kg 826 "standing" "Moot.standing" 1262 453 1 1266 (hIn (Zl p 77) 20) pm7<|
 kg 854 "chain" "Moot.chain" 1294 466 2 1299 (hIn (Zl p 77) 24) pm7<|
 kg 882 "forsworn" "Moot.forsworn" 1326 478 2 1331 (hIn (Zl p 77) 28) pm7<|
 kg 889 "holder" "Moot.holder" 1334 482 3 1340 (hIn (Zl p 77) 29) pm7<|
 kg 910 "owed" "Moot.owed" 1361 493 2 1366 (hIn (Zl p 77) 32) pm7<|
 kg0 936 "counting" "Moot.counting" 1393 506 2 1396 (hIn (Zl p 77) 36) pm7<|
 kg 943 "forsworn_names" "Moot.forsworn_names" 1399 509 1 1407 (hIn (Zl p 77) 37) pm7<|
 kg0 948 "weighed" "Moot.weighed" 1410 517 3 1413 (hIn (Zl p 77) 38) pm7<|
 kg 955 "try_case" "Moot.try_case" 1416 520 6 1425 (hIn (Zl p 77) 39) pm7<|
 kg 962 "check_named" "Moot.check_named" 1428 526 5 1437 (hIn (Zl p 77) 40) pm7<|
 kg 969 "check_thing" "Moot.check_thing" 1440 542 2 1445 (hIn (Zl p 77) 41) pm7<|
 kg 976 "check_sides" "Moot.check_sides" 1448 546 5 1458 (hIn (Zl p 77) 42) pm7<|
 kg 983 "check_moments" "Moot.check_moments" 1461 561 1 1465 (hIn (Zl p 77) 43) pm7<|
 kpO (986,⟨(.type "dict"),none,(.dict #[de P "__module__" 1072 (.str "forsworn.moot" 1055),de P "__firstlineno__" 1076 (.int (331) 1075),de P "__init__" 1083 (.ref 691),de P "come" 1093 (.ref 698),de P "rise" 1103 (.ref 705),de P "die" 1113 (.ref 712),de P "penance" 1121 (.ref 719),de P "bring" 1130 (.ref 726),de P "give" 1141 (.ref 733),de P "pay" 1152 (.ref 740),de P "claim" 1166 (.ref 747),de P "wergild" 1181 (.ref 754),de P "accuse" 1194 (.ref 761),de P "now" 1201 (.ref 768),de P "roll" 1207 (.ref 773),de P "names" 1214 (.ref 780),de P "weight" 1223 (.ref 787),de P "dead" 1232 (.ref 794),de P "stands_for" 1241 (.ref 801),de P "things" 1248 (.ref 808),de P "cases" 1255 (.ref 815),de P "suits" 1261 (.ref 820),de P "standing" 1268 (.ref 827),de P "stands" 1276 (.ref 834),de P "margin" 1284 (.ref 841),de P "breakers" 1293 (.ref 848),de P "chain" 1301 (.ref 855),de P "bearing" 1309 (.ref 862),de P "paper" 1317 (.ref 869),de P "fewest" 1325 (.ref 876),de P "forsworn" 1333 (.ref 883),de P "holder" 1342 (.ref 890),de P "road" 1351 (.ref 897),de P "holds" 1360 (.ref 904),de P "owed" 1368 (.ref 911),de P "balance" 1377 (.ref 918),de P "twin" 1384 (.ref 925),de P "then" 1392 (.ref 932),de P "counting" 1398 (.ref 937),de P "forsworn_names" 1409 (.ref 944),de P "weighed" 1415 (.ref 949),de P "try_case" 1427 (.ref 956),de P "check_named" 1439 (.ref 963),de P "check_thing" 1447 (.ref 970),de P "check_sides" 1460 (.ref 977),de P "check_moments" 1467 (.ref 984),de P "__static_attributes__" 1477 (.ref 985),de P "__dict__" 1479 (.ref 988),de P "__weakref__" 1481 (.ref 989),de P "__doc__" 1482 .none] 4),#[]⟩)<|
 kpO (987,⟨(.type "type"),none,(.cls {name:="Moot", bases:=[(.type "object")],mro:=[(.ref 987),(.type "object")],ns:=986,qualname:="Moot", hasDict:=true,slotNames:=[],subclasses:=[],abstract:=false,collection:=none,hasDel:=false }),#[none,none,some (.str "Moot" 1065),some (.str "Moot" 1073),some (.builtin "object.__new__"),some (.bool true)]⟩)<|
 kf 997 "struck" 1487 565 1 1496 (Zl p 79) pm8<|
 kf 1004 "with_kept_names" 1499 578 3 1505 (Zl p 80) pm8<|
 kf0 1009 "kept_names" 1508 580 3 1511 (Zl p 81) pm8<|
 kf 1016 "_law_src" 1516 583 1 1520 (Zl p 83) pm9<|
 kf 1023 "_law_next" 1523 585 2 1530 (Zl p 84) pm9<|
 kf 1030 "_law_whole" 1533 600 1 1537 (Zl p 85) pm9<|
 kf 1037 "_law_same" 1540 602 2 1547 (Zl p 86) pm9<|
 kf 1044 "_law_unlike" 1550 619 2 1558 (Zl p 87) pm9<|
 kf0 1049 "_law_word" 1561 627 2 1564 (Zl p 88) pm9<|
 kf 1056 "_law_names" 1567 630 2 1578 (Zl p 89) pm9<|
 kf 1063 "_law_forsworn" 1581 643 3 1592 (Zl p 90) pm9<|
 kf0 1068 "_law_right" 1595 651 4 1598 (Zl p 91) pm9<|
 kf0 1073 "law" 1601 673 1 1604 (Zl p 92) pm9<|[]
def KK(P:Params):uFg:=Kp PySem.Challenge.pw_forsworn_k61_whole_sixty_cases_in_a_line P
def Nk:uFg:=[(587,⟨.none,none,.fields #[],#[]⟩)]
def Kh(p:dO)(P:Params):uFg:=(Kp p P++Nk:List (dN×Obj))
def CD(P:Params):uFg:=Kh PySem.Challenge.pw_forsworn_k61_whole_sixty_cases_in_a_line P
def askd:List dN:=[3,4,351,352,356,357,361,362,368,369,375,376,382,383,389,390,396,397,403,404,408,409,413,414,427,428,434,435,467,468,495,496,502,503,509,510,516,517,523,524,544,545,551,552,558,559,565,566,568,569,577,578,584,585,591,592,598,599,605,606,612,613,619,620,626,627,633,634,640,641,645,646,652,653,659,660,664,665,671,672,676,677,690,691,697,698,718,719,725,726,746,747,753,754,760,761,772,773,786,787,814,815,819,820,826,827,854,855,882,883,889,890,910,911,936,937,943,944,948,949,955,956,962,963,969,970,976,977,983,984,986,987,997,998,1004,1005,1009,1010,1016,1017,1023,1024,1030,1031,1037,1038,1044,1045,1049,1050,1056,1057,1063,1064,1068,1069,1073,1074,587]
def HK:PySem.W.Hook:=PySem.W.kHook CD askd fun _=>by kernel_rfl
def q:dO:=PySem.W.view PySem.Challenge.pw_forsworn_k61_whole_sixty_cases_in_a_line [0,2,3,4,5,6,7,8,9,10,11,12,13,14,15,16,17,18,20,21,23,24,25,26,28,29,30,31,32,33,34,35,37,38,39,41,42,44,45,46,47,48,49,50,51,52,53,55,56,57,58,59,60,61,62,63,64,65,66,67,68,69,70,71,73,74,75,76,77,79,80,81,83,84,85,86,87,88,89,90,91,92]
def ens:List (Str×Str):=[("NoName","NoName.called"),("NoMeasure","NoMeasure.called"),("Unknown","Unknown.called"),("Taken","Taken.called"),("NoThing","NoThing.called"),("NoCase","NoCase.called"),("NoOath","NoOath.called"),("NotYet","NotYet.called"),("Dead","Dead.called"),("NoHeir","NoHeir.called"),("TooMany","TooMany.called"),("SwornTwice","SwornTwice.called"),("Forsworn","Forsworn.called"),("TooLight","TooLight.called"),("Broken","Broken.called"),("NoDeed","NoDeed.called")]
end Law
namespace PySem.W.Fast
noncomputable def tw8806405388430410581:PySem.Program:=PySem.Challenge.pw_forsworn_k61_whole_sixty_cases_in_a_line
theorem te8806405388430410581:PySem.Challenge.pw_forsworn_k61_whole_sixty_cases_in_a_line=tw8806405388430410581:=rfl
end PySem.W.Fast
lay_quick PySem.Challenge.rw_forsworn_k61_whole_sixty_cases_in_a_line Law.q Law.ens
namespace Law
open PySem L2 PySem.W.Fast
set_option maxRecDepth 1000000
noncomputable abbrev zqP:=(tw2368527892694137696 tw4852835707292765459).prog
theorem MX(w:dP)(os:PySem.OsState):tw14574945829899846032 zqP w (tw15095419895629540892 w.params os)=some (tw17173385231801463501 w.params os,tw17649063868247884333 zqP):=by
 kernel_rfl
theorem Qz(w:dP)(os:PySem.OsState):tw897522592586576512 zqP w (tw17173385231801463501 w.params os)=some (.next,tw17173385231801463501 w.params os,cP zqP,p0):=by
 kernel_rfl
theorem OO(w:dP)(os:PySem.OsState):tw3364177927453363911 zqP w 2199 0 11 p0 (tw17173385231801463501 w.params os)=some (.next,(tw15053072615319938550 zqP (tw2665081048563830263.take 8) w.params os),cP zqP,⟨37,0,40,23⟩):=by
 kernel_rfl
theorem Xl(w:dP)(os:PySem.OsState):tw3364177927453363911 zqP w 1945 11 8 ⟨37,0,40,23⟩ (tw15053072615319938550 zqP (tw2665081048563830263.take 8) w.params os)=some (.next,(tw15053072615319938550 zqP (tw2665081048563830263.take 16) w.params os),cP zqP,⟨69,0,72,23⟩):=by
 kernel_rfl
abbrev zqL:List PySem.Str:=["owed_dues","holder_goods","breakers_stands","chain_stands"]
noncomputable abbrev zqS(w:PySem.World)(os:PySem.OsState):=tw9491608239551792999 zqP w 8184 19 ⟨69,0,72,23⟩ (tw15053072615319938550 zqP (tw2665081048563830263.take 16) w.params os)
theorem On(w:dP)(os:PySem.OsState):Option.map (tw5166864615210023351 zqP w.params) (zqS w os)=some true:=by
 kernel_rfl
theorem Rp(w:dP)(os:PySem.OsState):Option.map (tw9146811602139678113 tw2797900513057943271) (zqS w os)=some (PyProof.Rows.expectedOf tw2797900513057943271,bltViewBooted):=by
 kernel_rfl
theorem Pd(w:dP)(os:PySem.OsState):Option.map (tw4330636226384752446 zqP tw2797900513057943271 zqL (fun s=>PySem.W.xlAt tw2797900513057943271 [] s&&PySem.W.recOk (tw2368527892694137696 tw4852835707292765459).records s)) (zqS w os)=some true:=by
 kernel_rfl
theorem bX(w:dP)(os:PySem.OsState):Option.map (tw290884773970851577 tw2797900513057943271) (zqS w os)=some true:=by
 kernel_rfl
theorem LM(w:dP)(os:PySem.OsState):Option.map (tw9020109020722589832 tw2797900513057943271) (zqS w os)=some (pinGoodD (PyProof.Rows.drecsOf tw2797900513057943271)):=by
 kernel_rfl
theorem SO(w:dP)(os:PySem.OsState):Option.map (tw1658975667393823239 tw2797900513057943271 zqL 0) (zqS w os)=some (tw10258256380655884400 tw2797900513057943271 zqL 0):=by
 kernel_rfl
theorem Nt(w:dP)(os:PySem.OsState):Option.map (tw1658975667393823239 tw2797900513057943271 zqL 1) (zqS w os)=some (tw10258256380655884400 tw2797900513057943271 zqL 1):=by
 kernel_rfl
theorem Mu(w:dP)(os:PySem.OsState):Option.map (tw1671388014868620310 tw2797900513057943271 zqL 2) (zqS w os)=some (tw2047387775680494199 tw2797900513057943271 zqL 2):=by
 kernel_rfl
theorem RO(w:dP)(os:PySem.OsState):Option.map (tw11153056314078912757 tw2797900513057943271 zqL) (zqS w os)=some (PyProof.Rows.plainGoodD tw2797900513057943271 zqL):=by
 kernel_rfl
theorem Pg(w:dP)(os:PySem.OsState):Option.map (tw1743938642414776662 tw2797900513057943271) (zqS w os)=some (PySem.W.wideGood tw2797900513057943271):=by
 kernel_rfl
theorem Nr(w:dP)(os:PySem.OsState):Option.map (tw15055011524645977279 tw2797900513057943271 zqL) (zqS w os)=some (PySem.W.clsGoodW tw2797900513057943271 zqL):=by
 kernel_rfl
theorem OC(w:dP)(os:PySem.OsState):Option.map (fun s=>askd.map s.abs.heap.get?) (zqS w os)=some ((Kh tw8806405388430410581 w.params).map fun p=>some p.2):=by
 kernel_rfl
local macro_rules | `(tactic| walk_at "q")=>`(tactic| (intro h;simp only[zqS,← te14574945829899846032,← te897522592586576512,← te3364177927453363911,← te9491608239551792999,← te15053072615319938550,← te17173385231801463501,← te17649063868247884333,← te2665081048563830263,← te5166864615210023351,← te9146811602139678113,← te4330636226384752446,← te290884773970851577,← te9020109020722589832,← te11153056314078912757,← te15055011524645977279,← te1743938642414776662,← te1658975667393823239,← te1671388014868620310,← te10258256380655884400,← te2047387775680494199,← te15095419895629540892,← te2797900513057943271,← te2368527892694137696,← te4852835707292765459,← te14364793385576792824,← te8806405388430410581] at h;exact h))
theorem left:PySem.W.LeftO PySem.Challenge.rw_forsworn_k61_whole_sixty_cases_in_a_line.row.prog q zqL (fun s=>PySem.W.xlAt q [] s&&PySem.W.recOk (PySem.W.RowW.records PySem.Challenge.rw_forsworn_k61_whole_sixty_cases_in_a_line.row.toRowW) s) HK.obs HK.val 12341:=by
 refine PC (M:=4157) (N:=8184) (k:=19) (pos:=⟨69,0,72,23⟩) (s:=fun w os=>errS PySem.Challenge.rw_forsworn_k61_whole_sixty_cases_in_a_line.row.prog (ens.take 16) w.params os) (by kernel_rfl) aA (fun s=>by kernel_rfl) (fun w os=>?_)
  (fun w os=>(by have h:=On w os;revert h;walk_at "q"))
  (fun w os=>(by have h:=Rp w os;revert h;walk_at "q"))
  (fun w os=>(by have h:=Pd w os;revert h;walk_at "q"))
  (fun w os=>(by have h:=bX w os;revert h;walk_at "q"))
  (fun w os=>(by have h:=LM w os;revert h;walk_at "q"))
  (fun w os=>(by have h:=SO w os;revert h;walk_at "q"))
  (fun w os=>(by have h:=Nt w os;revert h;walk_at "q"))
  (fun w os=>(by have h:=Mu w os;revert h;walk_at "q"))
  (fun w os=>(by have h:=RO w os;revert h;walk_at "q"))
  (fun w os=>(by have h:=Pg w os;revert h;walk_at "q"))
  (fun w os=>(by have h:=Nr w os;revert h;walk_at "q"))
  (fun w os=>(by have h:=OC w os;revert h;walk_at "q"))
 have R:=WW.zero (p:=PySem.Challenge.rw_forsworn_k61_whole_sixty_cases_in_a_line.row.prog) (w:=w) (os:=os) (by have h:=MX w os;revert h;walk_at "q") (by have h:=Qz w os;revert h;walk_at "q");have R:=R.step 2199 11 (by have h:=OO w os;revert h;walk_at "q");have R:=R.step 1945 8 (by have h:=Xl w os;revert h;walk_at "q");exact R
end Law
section
namespace L2
open PySem PySem.Spec PyProof.Rows
theorem aB{n:Nat}(h:Nat.ble n 5000=true):n<=sizeLine:=Nat.le_trans (Nat.le_of_ble_eq_true h) (by decide)
theorem aC:(5000:Nat)<=sizeLine:=by decide
abbrev ZM:=Sum Int Str
def AK:ZM->dM->Bool
 | .inl k,v=>Value.isInt k v
 | .inr x,v=>Value.isStrOf x v
def Su(w:dP):ZM->Int
 | .inl k=>hashInt k
 | .inr x=>hashStr w x
theorem Jr:∀{k:ZM}{v:dM},AK k v=true->(∃i t,k=Sum.inl i/\v=Value.int i t)\/(∃x t,k=Sum.inr x/\v=Value.str x t)
 | .inl i,v,h=>by
  obtain⟨t,e⟩:=Value.isInt_shape (k:=i) (v:=v) h;exact .inl ⟨i,t,rfl,e⟩
 | .inr x,v,h=>by
  obtain⟨t,e⟩:=Value.isStrOf_shape (x:=x) (v:=v) h;exact .inr ⟨x,t,rfl,e⟩
theorem OW(i:Int)(t:Tok):AK (.inl i) (.int i t)=true:=by simp[AK,Value.isInt]
theorem P9(x:Str)(t:Tok):AK (.inr x) (.str x t)=true:=by simp[AK,Value.isStrOf]
theorem Of(a b:Int):decide ((Sum.inl a:ZM)=Sum.inl b)=(a==b):=by grind
theorem XS(a b:Str):decide ((Sum.inr a:ZM)=Sum.inr b)=decide (a=b):=by grind
theorem Nd(a:Int)(b:Str):decide ((Sum.inl a:ZM)=Sum.inr b)=false:=xT (fun q=>nomatch q)
theorem X7(a:Str)(b:Int):decide ((Sum.inr a:ZM)=Sum.inl b)=false:=xT (fun q=>nomatch q)
def Yx(prog:dO)(w:dP):PySem.KeyKind prog w ZM where
 is:=AK
 hash:=Su w
 inj:=fun v a b ha hb=>by
  rcases Jr ha with⟨i,t,rfl,rfl⟩ | ⟨x,t,rfl,rfl⟩
  ·rcases Jr hb with⟨j,u,rfl,e⟩ | ⟨y,u,rfl,e⟩
   ·injection e with e1 _;rw[e1]
   ·exact nomatch e
  ·rcases Jr hb with⟨j,u,rfl,e⟩ | ⟨y,u,rfl,e⟩
   ·exact nomatch e
   ·injection e with e1 _;rw[e1]
 byValue:=fun k v h=>by
  rcases Jr h with⟨i,t,rfl,rfl⟩ | ⟨x,t,rfl,rfl⟩<;>rfl
 pyHash:=fun hv h=>by
  rcases Jr hv with⟨i,t,rfl,rfl⟩ | ⟨x,t,rfl,rfl⟩
  ·exact wpAny_pyHash_int h
  ·exact wpAny_pyHash_str h
 eqBool:=fun hu hv h=>by
  rcases Jr hu with⟨i,t,rfl,rfl⟩ | ⟨x,t,rfl,rfl⟩
  ·rcases Jr hv with⟨j,u,rfl,rfl⟩ | ⟨y,u,rfl,rfl⟩
   ·rw[Of] at h;exact wpAny_eqBool_int h
   ·rw[Nd] at h;exact SeqAt.EqAt.int_str i t y u _ _ _ _ h
  ·rcases Jr hv with⟨j,u,rfl,rfl⟩ | ⟨y,u,rfl,rfl⟩
   ·rw[X7] at h;exact SeqAt.EqAt.str_int x t j u _ _ _ _ h
   ·rw[XS] at h;exact wpAny_eqBool_str h
 «strs»:=fun k x t v h=>by
  rcases Jr h with⟨i,u,rfl,e⟩ | ⟨y,u,rfl,e⟩
  ·exact nomatch e
  ·injection e with e1 _
   subst e1
   cases v<;>rfl
theorem Ra(prog:dO)(w:dP)(i:Int)(t:Tok):(Yx prog w).is (.inl i) (.int i t)=true:=OW i t
theorem Ma(prog:dO)(w:dP)(x:Str)(t:Tok):(Yx prog w).is (.inr x) (.str x t)=true:=P9 x t
inductive V where
 | non | bl (b:Bool) | int (i:Int) | str (x:Str) | byt (b:Array UInt8) | flt (b:UInt64) | ref (a:dN) | ty (n:String)
 deriving DecidableEq
abbrev aG:=List V
def ZF:V->dM->Prop
 | .non,u=>u=Value.none
 | .bl b,u=>u=Value.bool b
 | .int i,u=>∃t,u=Value.int i t
 | .str x,u=>∃t,u=Value.str x t
 | .byt b,u=>∃t,u=Value.bytes b t
 | .flt b,u=>∃t,u=Value.float b t
 | .ref a,u=>u=Value.ref a
 | .ty n,u=>u=Value.type n
abbrev ZH:List V->List dM->Prop:=Paired ZF
theorem ZH.length(r:ZH xs us):xs.length=us.length:=Paired.length r
theorem ZH.get:∀{xs:aG}{us:dG}{i:Nat}{x:V},ZH xs us->xs[i]?=some x->∃u,us[i]?=some u/\ZF x u
 | _,_,_,_,.nil,e=>by simp at e
 | _,_,0,_,.cons r _,e=>by simp at e;subst e;exact⟨_,rfl,r⟩
 | _,_,i+1,x,.cons _ t,e=>by
  obtain⟨u,h1,h2⟩:=ZH.get (i:=i) (x:=x) t (by simpa using e);exact⟨u,by simpa using h1,h2⟩
theorem ZH.set(r:ZF x u):∀{xs:aG}{us:dG}(i:Nat),ZH xs us->ZH (xs.set i x) (us.set i u)
 | _,_,_,.nil=>.nil
 | _,_,0,.cons _ t=>.cons r t
 | _,_,i+1,.cons q t=>.cons q (ZH.set r i t)
theorem ZH.append:∀{xs ys:aG}{us ws:dG},ZH xs us->ZH ys ws->ZH (xs++ys) (us++ws)
 | _,_,_,_,.nil,s=>s
 | _,_,_,_,.cons r t,s=>.cons r (ZH.append t s)
theorem ZH.take:∀{xs:aG}{us:dG}(n:Nat),ZH xs us->ZH (xs.take n) (us.take n)
 | _,_,0,_=>.nil
 | _,_,_+1,.nil=>.nil
 | _,_,n+1,.cons r t=>.cons r (ZH.take n t)
theorem ZH.drop:∀{xs:aG}{us:dG}(n:Nat),ZH xs us->ZH (xs.drop n) (us.drop n)
 | _,_,0,r=>r
 | _,_,_+1,.nil=>.nil
 | _,_,n+1,.cons _ t=>ZH.drop n t
theorem ZH.none_of:∀{xs:aG}{us:dG}{i:Nat},ZH xs us->xs[i]?=none->us[i]?=none:=fun {xs us i} r e=>by
 have h1:=r.length;have h2:xs.length<=i:=List.getElem?_eq_none_iff.mp e;exact List.getElem?_eq_none_iff.mpr (by lia)
def YM:Option V->Option dM->Prop
 | some v,some u=>ZF v u
 | none,none=>True
 | _,_=>False
def KV{κ:Type}:List (κ×V)->List (κ×dM)->Prop:=Paired fun(p:κ×V) (q:κ×dM)=>p.1=q.1/\ZF p.2 q.2
def kV:ZM->V
 | .inl i=>.int i
 | .inr x=>.str x
inductive HO where
 | lst (xs:aG)
 | tup (xs:aG)
 | dK (kvs:List (ZM×V)) | dT (kvs:List (List ZM×V))
 | set (S:Int->Bool) (n:Nat)
 | ins (C dx:dN) (fs:List (Str×V))
 | own (x:dN)
 | xd (fs:List (Str×V))
 | met (f x:dN)
 | rng (lo hi:Int)
 | frz (o:Obj) (u:HO)
 | tbl (ps:Array dM)
 | ext (φ:Heap->Prop)
abbrev Hp:=dN->Option HO
def upd(H:Hp)(a:dN)(o:HO):Hp:=fun b=>if b=a then some o else H b
theorem Zg:upd H a o a=some o:=by unfold upd;rw[if_pos rfl]
theorem Zc(h:b≠a):upd H a o b=H b:=by unfold upd;rw[if_neg h]
theorem GF{H:Hp}{a b:dN}{o u:HO}(h:H a=some o)(h':H b=some u)(d:o≠u):a≠b:=by
 intro e;subst e;rw[h] at h';exact d (Option.some.inj h')
theorem Zi{H:Hp}{a b:dN}{o:HO}(h:H a=some o)(h':H b=none):a≠b:=by
 intro e;subst e;rw[h] at h';cases h'
section
variable(P:dO)(w:dP)
def ZL(H:Hp)(h:Heap)(a:dN):HO->Prop
 | .lst xs=>xs.length<=sizeLine/\∃(its:dG)(n:Nat),ZH xs its/\h.get? a=some {cls:=.type "list", data:=.seq its.toArray n }
 | .tup xs=>xs.length<=sizeLine/\∃its:List dM,ZH xs its/\IsTup h a its.toArray
 | .dK kvs=>kvs.length<=sizeLine/\(a==sysModules)=false/\∃vs,KV kvs vs/\h.DictOf (Yx P w) a vs
 | .dT kvs=>kvs.length<=sizeLine/\(a==sysModules)=false/\∃xs:List (List ZM×dN×dM),
   Paired (fun(p:List ZM×V) (q:List ZM×dN×dM)=>p.1=q.1/\H q.2.1=some (.tup (p.1.map kV))/\ZF p.2 q.2.2) kvs xs /\
   ∃o es ep,h.get? a=some o/\o.ExactDict/\o.data=.dict es ep/\es.toList=xs.map (entryOfKey (tupleKind (Yx P w)))/\(xs.map (·.1)).Nodup
 | .set S n=>h.SetOf (intKind P w) a S n
 | .ins C dx fs=>H dx=some (.own a)/\fs.length<=1000/\dx≠a/\h.get? a=some (PySem.W.instObj C dx)/\
   ∃mA,h.Ns1 dx mA/\(∀f,YM (fs.lookup f) (mA f))/\PySem.Within mA (fs.map (·.1))
 | .own _=>∃o,h.get? a=some o
 | .xd fs=>∃mA,h.Ns1 a mA/\∀f,YM (fs.lookup f) (mA f)
 | .rng lo hi=>∃t u v,h.get? a=some {cls:=.type "range", data:=.fields #[.int lo t,.int hi u,.int 1 v] }
 | .frz o u=>h.get? a=some o/\ZL H h a u
 | .tbl ps=>∃qs nm t,h.get? a=some {cls:=.none,data:=.fields qs }/\TriplesOk qs.toList/\ps[0]?=some (.str nm t)/\∀pos cv,codeAmong pos qs.toList=some cv->∃c,cv=.ref c/\H c=some (.own a)/\h.CodeRec (.ref c) nm
 | .met f x=>h.get? a=some (PySem.W.methodObj (.ref f) (.ref x))
 | .ext φ=>φ h/\(∃o,h.get? a=some o)/\∀h1 h2:Heap,φ h1->(∀o,h1.get? a=some o->h2.get? a=some o)->φ h2
def YN(H:Hp)(h:Heap):Prop:=∀a o,H a=some o->ZL P w H h a o
end
section
variable{P:dO}{w:dP}{H:Hp}{h h':Heap}{a:dN}{o:HO}
theorem ZL.lt(x:ZL P w H h a o):a<h.objs.size:=by
 cases o with
 | lst xs=>obtain⟨_,_,_,_,e⟩:=x;exact xH e
 | tup xs=>obtain⟨_,_,_,p⟩:=x;exact p.lt
 | dK kvs=>obtain⟨_,_,_,_,o,_,_,e,_⟩:=x;exact xH e
 | dT kvs=>obtain⟨_,_,_,_,o,_,_,e,_⟩:=x;exact xH e
 | set S n=>obtain⟨o,_,_,_,e,_⟩:=x;exact xH e
 | ins C dx fs=>obtain⟨_,_,_,e,_⟩:=x;exact xH e
 | own y=>obtain⟨_,e⟩:=x;exact xH e
 | xd fs=>obtain⟨_,⟨_,_,_,e,_⟩,_⟩:=x;exact xH e
 | rng lo hi=>obtain⟨_,_,_,e⟩:=x;exact xH e
 | frz ob u=>obtain⟨e,_⟩:=x;exact xH e
 | tbl ps=>obtain⟨_,_,_,e,_⟩:=x;exact xH e
 | met f y=>exact xH (show h.get? a=some _ from x)
 | ext φ=>obtain⟨_,⟨_,e⟩,_⟩:=x;exact xH e
theorem Paired.mapP{α β:Type}{F G:α->β->Prop}:∀{l₁:List α}{l₂:List β},Paired F l₁ l₂->(∀a b,F a b->G a b)->Paired G l₁ l₂
 | _,_,.nil,_=>.nil
 | _,_,.cons r t,f=>.cons (f _ _ r) (Paired.mapP t f)
theorem ZL.stay(x:ZL P w H h a o)(k:∀b u,(b=a\/H b=some (.own a))->h.get? b=some u->h'.get? b=some u)(ho:∀b,H b=some (.own a)->H' b=some (.own a))(ht:∀b xs,H b=some (.tup xs)->H' b=some (.tup xs)):ZL P w H' h' a o:=by
 induction o with
 | lst xs=>obtain⟨z,its,n,r,e⟩:=x;exact⟨z,its,n,r,k _ _ (.inl rfl) e⟩
 | tup xs=>obtain⟨z,its,r,ob,e,c⟩:=x;exact⟨z,its,r,ob,k _ _ (.inl rfl) e,c⟩
 | dK kvs=>obtain⟨z,y,vs,r,ob,es,ep,e,c⟩:=x;exact⟨z,y,vs,r,ob,es,ep,k _ _ (.inl rfl) e,c⟩
 | dT kvs =>
  obtain⟨z,y,xs,r,ob,es,ep,e,c⟩:=x;exact⟨z,y,xs,Paired.mapP r fun p q z=>⟨z.1,ht _ _ z.2.1,z.2.2⟩,ob,es,ep,k _ _ (.inl rfl) e,c⟩
 | set S n=>obtain⟨ob,es,ep,t,e,c⟩:=x;exact⟨ob,es,ep,t,k _ _ (.inl rfl) e,c⟩
 | ins C dx fs =>
  obtain⟨d,z,ne,e,mA,⟨od,es,ep,e2,c⟩,r⟩:=x;exact⟨ho _ d,z,ne,k _ _ (.inl rfl) e,mA,⟨od,es,ep,k _ _ (.inr d) e2,c⟩,r⟩
 | own y=>obtain⟨ob,e⟩:=x;exact⟨ob,k _ _ (.inl rfl) e⟩
 | xd fs=>obtain⟨mA,⟨od,es,ep,e,c⟩,r⟩:=x;exact⟨mA,⟨od,es,ep,k _ _ (.inl rfl) e,c⟩,r⟩
 | rng lo hi=>obtain⟨t,u,v,e⟩:=x;exact⟨t,u,v,k _ _ (.inl rfl) e⟩
 | frz ob u ih=>obtain⟨e,q⟩:=x;exact⟨k _ _ (.inl rfl) e,ih q⟩
 | tbl ps =>
  obtain⟨qs,nm,t,e,z1,z2,z3⟩:=x;refine⟨qs,nm,t,k a _ (.inl rfl) e,z1,z2,fun pos cv ec=>?_⟩;obtain⟨c,e1,e2,c2,oc,vs,tt,e3,e4,e5⟩:=z3 pos cv ec;cases e3;exact⟨c,e1,ho _ e2,c,oc,vs,tt,rfl,k _ _ (.inr e2) e4,e5⟩
 | met f y =>
  have e:h.get? a=some (PySem.W.methodObj (.ref f) (.ref y)):=x;show h'.get? a=some (PySem.W.methodObj (.ref f) (.ref y));exact k a _ (.inl rfl) e
 | ext φ=>obtain⟨p,⟨o,e⟩,st⟩:=x;exact⟨st _ _ p fun o q=>k _ _ (.inl rfl) q,⟨o,k _ _ (.inl rfl) e⟩,st⟩
theorem YN.lt(x:YN P w H h)(e:H a=some o):a<h.objs.size:=(x a o e).lt
theorem YN.fresh(x:YN P w H h)(e:h.objs.size<=a):H a=none:=by
 cases q:H a with
 | none=>rfl
 | some u=>exact absurd (yI (x.lt q) e) (yZ _)
theorem YN.kept(x:YN P w H h)(k:∀b u,h.get? b=some u->h'.get? b=some u):YN P w H h':=fun a o e =>
 (x a o e).stay (fun b u _ q=>k b u q) (fun _ q=>q) fun _ _ q=>q
theorem YN.laid(x:YN P w H h)(k:∀b u,h.get? b=some u->h'.get? b=some u)(hp:h.objs.size<=a)(new:ZL P w (upd H a o) h' a o):YN P w (upd H a o) h':=fun b u e=>by
 have hn:=x.fresh hp
 by_cases hb:b=a
 ·subst hb;rw[Zg] at e;cases e;exact new
 ·rw[Zc hb] at e;exact(x b u e).stay (fun c v _ q=>k c v q) (fun c q=>by rw[Zc (Zi q hn)];exact q) fun c xs q=>by rw[Zc (Zi q hn)];exact q
end
def Rd(H:Hp)(a:dN)(u:HO):Prop:=H a=some u\/∃o,H a=some (.frz o u)
theorem Rd.ok(r:Rd H a u)(x:YN P w H h):ZL P w H h a u:=by
 rcases r with r | ⟨o,r⟩
 ·exact x a u r
 ·obtain⟨_,q⟩:=x a _ r;exact q
def BB:Option HO->Prop
 | some (.lst _)=>True
 | some (.dK _)=>True
 | some (.dT _)=>True
 | some (.set _ _)=>True
 | some (.ins _ _ _)=>True
 | some (.ext _)=>True
 | _=>False
theorem YN.write(ok:YN P w H h)(mu:BB (H x))(he:e=x\/H e=some (.own x))(k:∀b u,b≠e->h.get? b=some u->h'.get? b=some u)(heo:∃u,h'.get? e=some u)(new:ZL P w (upd H x o') h' x o'):YN P w (upd H x o') h':=fun b u q=>by
 have nown:∀c y,H c=some (.own y)->c≠x:=fun c y r z=>by subst z;rw[r] at mu;exact mu
 have ntup:∀c xs,H c=some (.tup xs)->c≠x:=fun c xs r z=>by subst z;rw[r] at mu;exact mu
 by_cases hb:b=x
 ·subst hb;rw[Zg] at q;cases q;exact new
 ·rw[Zc hb] at q
  by_cases hbe:b=e
  ·have q':H b=some (.own x):=by
    rcases he with z | z
    ·exact absurd (hbe.trans z) hb
    ·rw[hbe];exact z
   rw[q] at q';cases q';obtain⟨v,hv⟩:=heo;exact⟨v,by rw[hbe];exact hv⟩
  ·refine(ok b u q).stay (fun c v hc r=>k c v ?_ r) (fun c r=>by rw[Zc (nown c b r)];exact r) fun c xs r=>by rw[Zc (ntup c xs r)];exact r
   rcases hc with rfl | hc
   ·exact hbe
   ·grind
structure Un (fs ex:dI) (H H':Hp) (h h':Heap):Prop where
 keep:∀b o,h.get? b=some o->H b=none->b∉fs->b∉ex->h'.get? b=some o
 slot:∀b o,h.get? b=some o->H b=none->b∈fs->b∉ex->∃sl,h'.get? b=some {o with slots:=sl }
 free:∀b o,h.get? b=some o->H b=none->b∉ex->H' b=none
 there:∀b o,h.get? b=some o->b∉ex->∃o',h'.get? b=some o'
 tups:∀b xs,H b=some (.tup xs)->H' b=some (.tup xs)
 frzs:∀b o u,H b=some (.frz o u)->H' b=some (.frz o u)
 tbls:∀b ps,H b=some (.tbl ps)->∃more,H' b=some (.tbl (ps++more))
section
variable{fs ex:dI}{H:Hp}{h h':Heap}{a:dN}{o:HO}
theorem Un.any(u:Un fs ex H H1 h h1)(q:h.get? b=some ob)(n:H b=none)(hx:b∉ex):∃sl,h1.get? b=some {ob with slots:=sl }:=by
 by_cases hb:b∈fs
 ·exact u.slot b ob q n hb hx
 ·exact⟨ob.slots,u.keep b ob q n hb hx⟩
theorem Un.kept(k:∀b u,h.get? b=some u->h'.get? b=some u):Un fs ex H H h h' :=
 ⟨fun b ob q _ _ _=>k b ob q,fun b ob q _ _ _=>⟨ob.slots,k b ob q⟩,fun _ _ _ n _=>n,fun b ob q _=>⟨ob,k b ob q⟩,fun _ _ q=>q,fun _ _ _ q=>q,fun _ ps q=>⟨#[],by rw[q];simp⟩⟩
theorem Un.refl:Un fs ex H H h h:=Un.kept fun _ _ q=>q
theorem Un.laid(k:∀b u,h.get? b=some u->h'.get? b=some u)(hp:h.objs.size<=a)(hn:H a=none):Un fs ex H (upd H a o) h h' where
 keep:=fun b u q _ _ _=>k b u q
 slot:=fun b u q _ _ _=>⟨u.slots,k b u q⟩
 free:=fun b u q n _=>by rw[Zc (xY (yI (xH q) hp))];exact n
 there:=fun b u q _=>⟨u,k b u q⟩
 tups:=fun b xs q=>by rw[Zc (Zi q hn)];exact q
 frzs:=fun b u xs q=>by rw[Zc (Zi q hn)];exact q
 tbls:=fun b ps q=>⟨#[],by rw[Zc (Zi q hn),q];simp⟩
theorem Un.write(mu:BB (H x))(he:e=x\/H e=some (.own x))(k:∀b u,b≠e->h.get? b=some u->h'.get? b=some u)(heo:∃u,h'.get? e=some u):Un fs ex H (upd H x o) h h':=by
 have hx:∀b,H b=none->b≠x:=fun b n z=>by subst z;rw[n] at mu;exact mu
 have hb:∀b,H b=none->b≠e:=fun b n z=>by
  subst z;rcases he with r | r
  ·exact hx b n r
  ·rw[n] at r;cases r
 have hm:∀b u,H b=some u->¬BB (some u)->b≠x:=fun b u q nm z=>by subst z;rw[q] at mu;exact nm mu
 refine⟨fun b u q n _ _=>k b u (hb b n) q,fun b u q n _ _=>⟨u.slots,k b u (hb b n) q⟩,fun b u q n _=>by rw[Zc (hx b n)];exact n,fun b u q _=>?_,
  fun b xs q=>by rw[Zc (hm b _ q fun z=>z)];exact q,fun b u xs q=>by rw[Zc (hm b _ q fun z=>z)];exact q,fun b ps q=>⟨#[],by rw[Zc (hm b _ q fun z=>z),q];simp⟩⟩
 by_cases hbe:b=e
 ·subst hbe;exact heo
 ·exact⟨u,k b u hbe q⟩
end
def trk(h:Heap)(H:Hp):List dN:=(List.range h.objs.size).filter fun a=>(H a).isSome
def Jj(h:Heap)(H:Hp):Heap:=PySem.W.hideAll h (trk h H)
theorem O3(h:Heap)(H:Hp):(Jj h H).objs.size=h.objs.size:=PySem.W.hideAll_size _ _
theorem Qs(e:h.get? b=some o)(n:H b=none):(Jj h H).get? b=some o :=
 PySem.W.hideAll_get _ e fun hm=>by
  have q:(H b).isSome=true:=(wR.mp hm).2;rw[n] at q;simp at q
theorem Mz(e:(Jj h H).get? b=some o):h.get? b=some o/\H b=none:=by
 have e':h.get? b=some o:=PySem.W.of_hideAll (trk h H) e;refine⟨e',?_⟩;cases q:H b with
 | none=>rfl
 | some x =>
  have hm:b∈trk h H:=wR.mpr ⟨yR.mpr (xH e'),by simp[q]⟩;have z:(Jj h H).get? b=none:=PySem.W.hideAll_none (trk h H) hm;rw[z] at e;cases e
structure Mod (K:uFg) (mg:dE) (base:Heap):Prop where
 kin:K.In base
 glob:base.Ns mainGlobals mg
 blt:∃mb,base.Ns builtinsNs mb/\∀x:Str,x ≠ "__name__" -> mb x=bootBuiltins x
 nolimit:base.NoLimit
structure Cx where
 prog:dO
 w:dP
 K:uFg
 mg:Str->Option dM
 base:Heap
 A:dQ
 N:List Str
 s₀:dJ
 H₀:Hp
 env:Env
 outer:List Env
 stack:List Env
 ex:List dN
 fn:Str->Bool
 calm:Bool
 pn:List (dN×Obj)
 xe:dM->dJ->Prop
def frs(l:List Env):List dN:=l.filterMap (·.frame)
abbrev Cx.fs(X:Cx):List dN:=frs X.outer
def BV(sc:Scope)(x:Str):Prop:=sc.names.lookup x=some .local\/sc.names.lookup x=some .cell\/sc.names.lookup x=some .free
def Bd(sc:Scope)(x:Str):Prop:=sc.names.lookup x=some .local\/sc.names.lookup x=some .cell
def MG(env:Env)(h:Heap)(m:dE)(x:Str)(u:dM):Prop :=
 (env.kindOf x=some .local/\m x=some u)\/((env.kindOf x=some .cell\/env.kindOf x=some .free)/\∃c,env.cells.lookup x=some c/\h.IsCell c (some u))
structure Cx.Ok (X:Cx):Prop where
 mod:Mod X.K X.mg X.base
 kind:X.env.scope.kind=.function
 glob:X.env.globals=mainGlobals
 blt:X.env.builtins=builtinsNs
 above:X.s₀.heap.objs.size<=X.env.locals
 inj:∀x y c,X.env.cells.lookup x=some c->X.env.cells.lookup y=some c->x=y
 has:∀x,(X.env.kindOf x=some .cell\/X.env.kindOf x=some .free)->∃c,X.env.cells.lookup x=some c
 cab:∀x c,X.fn x=true->X.env.cells.lookup x=some c->X.s₀.heap.objs.size<=c
 hd:X.calm=true->X.A.handled=none
 frames:X.A.frames=some X.stack
 stk:X.stack=X.outer\/(X.stack=X.env::X.outer/\X.env.frame=some X.env.locals)
 exf:∀b∈X.ex,b≠X.env.locals/\∀x c,X.env.cells.lookup x=some c->c≠b
 bs:∀b o,X.base.get? b=some o->X.s₀.heap.get? b=some o/\X.H₀ b=none
 bsz:X.base.objs.size<=X.s₀.heap.objs.size
 noex:∀b o,X.base.get? b=some o->b∉X.ex
 exfs:∀b∈X.ex,b∉X.fs
 funs:X.s₀.heap.FunFrames X.base X.outer
 frf:∀b∈X.fs,X.H₀ b=none
structure ZE (X:Cx) (pins:List (dN×Obj)) (U:List (Option V)) (H:Hp) (s:dJ):Prop where
 ok:X.Ok
 os:s.os=X.s₀.os
 bare:AllBare s.gens
 base:Un X.fs X.ex X.H₀ H X.s₀.heap s.heap
 loc:∃m,s.heap.Ns X.env.locals m/\∀(i:Nat)(x:Str)(v:V),X.N[i]?=some x->U[i]?=some (some v)->BV X.env.scope x->∃u,ZF v u/\MG X.env s.heap m x u
 cell:∀x c,X.env.cells.lookup x=some c->∃v,s.heap.IsCell c v
 free:H X.env.locals=none
 freeC:∀x c,X.env.cells.lookup x=some c->H c=none
 pin:∀p∈X.pn++pins,s.heap.get? p.1=some p.2/\H p.1=none/\p.1≠X.env.locals/\p.1∉X.fs/\∀v,p.2.data ≠ .cell v
 hok:YN X.prog X.w H s.heap
 len:U.length=X.N.length
section
variable{X:Cx}
theorem Cx.Ok.nofr(ok:X.Ok){b:dN}{o:Obj}(e:X.base.get? b=some o):b∉X.fs:=fun hb=>by
 have:=(ok.funs.mem hb).1;rw[e] at this;cases this
theorem ZE.bs(I:ZE X pins U H s):∀b o,X.base.get? b=some o->s.heap.get? b=some o/\H b=none:=fun b o e =>
 ⟨I.base.keep b o (I.ok.bs b o e).1 (I.ok.bs b o e).2 (I.ok.nofr e) (I.ok.noex b o e),I.base.free b o (I.ok.bs b o e).1 (I.ok.bs b o e).2 (I.ok.noex b o e)⟩
theorem ZE.bk(I:ZE X pins U H s):∀b o,X.base.get? b=some o->s.heap.get? b=some o:=fun b o e=>(I.bs b o e).1
theorem ZE.mod(I:ZE X pins U H s):Mod X.K X.mg X.base:=I.ok.mod
theorem ZE.kIn(I:ZE X pins U H s):X.K.In s.heap:=I.ok.mod.kin.keeps I.bk
theorem ZE.lt(I:ZE X pins U H s):X.env.locals<s.heap.objs.size:=let ⟨_,hn,_⟩:=I.loc;hn.lt
theorem ZE.sz(I:ZE X pins U H s):X.s₀.heap.objs.size<=s.heap.objs.size:=xW I.ok.above (yN I.lt)
theorem ZE.nofs(I:ZE X pins U H s){a:dN}(h:s.heap.objs.size<=a):a∉X.fs:=fun hb=>by
 obtain⟨_,o,ho,_⟩:=I.ok.funs.mem hb;exact absurd (yI (xH ho) (xW I.sz h)) (yZ _)
theorem ZE.cne(I:ZE X pins U H s):∀x c,X.env.cells.lookup x=some c->c≠X.env.locals:=fun x c e z=>by
 obtain⟨v,o,ho,hd⟩:=I.cell x c e;obtain⟨m,⟨o',es,ep,ho',hd',_⟩,_⟩:=I.loc;rw[z,ho'] at ho;cases ho;rw[hd'] at hd;cases hd
theorem ZE.funs(I:ZE X pins U H s):s.heap.FunFrames X.base X.outer:=by
 have all:∀(l:List Env),(∀b∈frs l,b∈X.fs)->X.s₀.heap.FunFrames X.base l->s.heap.FunFrames X.base l:=by
  intro l
  induction l with
  | nil=>intro _ _;trivial
  | cons env r ih =>
   intro hs hl;obtain⟨hk,⟨L,o,hf,hn,ho,hd⟩,hr⟩:=hl;have hL:L∈X.fs:=hs L (by unfold frs;rw[zZ,hf];exact xU);obtain⟨sl,e⟩:=I.base.slot L o ho (I.ok.frf L hL) hL fun z=>I.ok.exfs L z hL;exact⟨hk,⟨L,_,hf,hn,e,hd⟩,ih (fun b hb=>hs b (by unfold frs;rw[zZ,hf];exact yC _ hb)) hr⟩
 exact all X.outer (fun _ hb=>hb) I.ok.funs
theorem ZE.stack(I:ZE X pins U H s):s.heap.FunFrames X.base X.stack:=by
 rcases I.ok.stk with e | ⟨e,hf⟩
 ·rw[e];exact I.funs
 ·rw[e];obtain⟨m,hn,_⟩:=I.loc;refine .cons (by rw[I.ok.kind];decide) hf hn ?_ I.funs;exact Heap.get?_none_of_le (xW I.ok.bsz I.ok.above)
theorem ZE.stkSub(I:ZE X pins U H s):∀b∈frs X.stack,b∈X.env.locals::X.fs:=fun b hb=>by
 rcases I.ok.stk with e | ⟨e,hf⟩
 ·rw[e] at hb;exact yC _ hb
 ·rw[e] at hb;unfold frs at hb;rw[zZ,hf] at hb;exact hb
theorem ZE.stkFree(I:ZE X pins U H s):∀b∈frs X.stack,H b=none:=fun b hb=>by
 rcases xF.mp (I.stkSub b hb) with e | hb
 ·rw[e];exact I.free
 ·obtain⟨_,o,ho,_⟩:=I.ok.funs.mem hb;exact I.base.free b o ho (I.ok.frf b hb) fun z=>I.ok.exfs b z hb
theorem ZE.step{g':Array GenState}{t':Nat}{d':Drawn}{ch:dI}(I:ZE X pins U H s)(hch:∀b∈ch,(b∈X.ex\/X.s₀.heap.objs.size<=b)/\b≠X.env.locals/\(∀x c,X.env.cells.lookup x=some c->c≠b)/\∀p∈X.pn++pins,p.1≠b)(keep:∀b o,b≠X.env.locals->b∉X.fs->b∉ch->s.heap.get? b=some o->H b=none->h'.get? b=some o)(slot:∀b o,b≠X.env.locals->b∈X.fs->b∉ch->s.heap.get? b=some o->H b=none->∃sl,h'.get? b=some {o with slots:=sl })(free:∀b o,b∉ch->s.heap.get? b=some o->H b=none->H' b=none)(there:∀b o,b∉ch->s.heap.get? b=some o->∃o',h'.get? b=some o')(tups:∀b xs,H b=some (.tup xs)->H' b=some (.tup xs))(frzs:∀b o u,H b=some (.frz o u)->H' b=some (.frz o u))(tbls:∀b ps,H b=some (.tbl ps)->∃more,H' b=some (.tbl (ps++more)))(ns:∀m,s.heap.Ns X.env.locals m->h'.Ns X.env.locals m)(hok:YN X.prog X.w H' h')(hg:AllBare g') :
  ZE X pins U H' {s with heap:=h',gens:=g',drawn:=d',toks:=t' }:=by
 have neL:∀b o,X.s₀.heap.get? b=some o->b≠X.env.locals:=fun b o e=>xY (yI (xH e) I.ok.above);have neC:∀b o,X.s₀.heap.get? b=some o->b∉X.ex->b∉ch:=fun b o e hx hb=>by
  rcases(hch b hb).1 with z | z
  ·exact hx z
  ·exact absurd (yI (xH e) z) (yZ _)
 have cellK:∀x c,X.env.cells.lookup x=some c->∀v,s.heap.IsCell c v->h'.IsCell c v:=fun x c e v ⟨o,ho,hd⟩=>by
  have nch:c∉ch:=fun z=>(hch c z).2.2.1 x c e rfl
  by_cases hc:c∈X.fs
  ·obtain⟨sl,q⟩:=slot c o (I.cne x c e) hc nch ho (I.freeC x c e);exact⟨_,q,hd⟩
  ·exact⟨o,keep c o (I.cne x c e) hc nch ho (I.freeC x c e),hd⟩
 refine⟨I.ok,I.os,hg,⟨fun b o e n hb hx=>?_,fun b o e n hb hx=>?_,fun b o e n hx=>?_,fun b o e hx=>?_,fun b xs e=>tups b xs (I.base.tups b xs e),fun b o xs e=>frzs b o xs (I.base.frzs b o xs e),fun b ps e=>?_⟩,?_,fun x c e=>?_,?_,fun x c e=>?_,fun p hp=>?_,hok,I.len⟩
 ·exact keep b o (neL b o e) hb (neC b o e hx) (I.base.keep b o e n hb hx) (I.base.free b o e n hx)
 ·obtain⟨sl,e1⟩:=I.base.slot b o e n hb hx;obtain⟨sl',e2⟩:=slot b _ (neL b o e) hb (neC b o e hx) e1 (I.base.free b o e n hx);exact⟨sl',e2⟩
 ·obtain⟨o',e1⟩:=I.base.there b o e hx;exact free b o' (neC b o e hx) e1 (I.base.free b o e n hx)
 ·obtain⟨o',e1⟩:=I.base.there b o e hx;exact there b o' (neC b o e hx) e1
 ·obtain⟨m1,e1⟩:=I.base.tbls b ps e;obtain⟨m2,e2⟩:=tbls b _ e1;exact⟨m1++m2,by rw[e2,Array.append_assoc]⟩
 ·obtain⟨m,hn,hl⟩:=I.loc;refine⟨m,ns m hn,fun i x v e1 e2 e3=>?_⟩;obtain⟨u,r,l⟩:=hl i x v e1 e2 e3;refine⟨u,r,?_⟩;rcases l with l | ⟨k,c,e,z⟩
  ·exact .inl l
  ·exact .inr ⟨k,c,e,cellK x c e _ z⟩
 ·obtain⟨v,z⟩:=I.cell x c e;exact⟨v,cellK x c e v z⟩
 ·obtain⟨m,⟨o,_,_,ho,_⟩,_⟩:=I.loc;exact free _ o (fun z=>(hch _ z).2.1 rfl) ho I.free
 ·obtain⟨v,o,ho,hd⟩:=I.cell x c e;exact free c o (fun z=>(hch c z).2.2.1 x c e rfl) ho (I.freeC x c e)
 ·obtain⟨e,n,ne,nf,d⟩:=I.pin p hp;have nch:p.1∉ch:=fun z=>(hch p.1 z).2.2.2 p hp rfl;exact⟨keep p.1 p.2 ne nf nch e n,free p.1 p.2 nch e n,ne,nf,d⟩
theorem ZE.un(I:ZE X pins U H s)(u:Un X.fs [] H H' s.heap h')(hok:YN X.prog X.w H' h'):ZE X pins U H' {s with heap:=h',toks:=t' }:=by
 obtain⟨m,⟨o,es,ep,ho,r⟩,_⟩:=id I.loc;obtain⟨sl,hL⟩:=u.any ho I.free (by simp)
 exact I.step (g':=s.gens) (d':=s.drawn) (ch:=[]) (fun _ z=>nomatch z) (fun b o _ hb _ e n=>u.keep b o e n hb (by simp)) (fun b o _ hb _ e n=>u.slot b o e n hb (by simp)) (fun b o _ e n=>u.free b o e n (by simp)) (fun b o _ e=>u.there b o e (by simp)) u.tups u.frzs u.tbls (fun m' hm=>by
  obtain⟨o',es',ep',ho',r'⟩:=hm;rw[ho] at ho';cases ho'
  exact⟨_,es',ep',hL,r'⟩) hok I.bare
theorem ZE.call(I:ZE X pins U H s)(u:Un (frs X.stack) ch H H' s.heap h')(hok:YN X.prog X.w H' h')(hg:AllBare g')(hch:∀b∈ch,(b∈X.ex\/X.s₀.heap.objs.size<=b)/\b≠X.env.locals/\(∀x c,X.env.cells.lookup x=some c->c≠b)/\∀p∈X.pn++pins,p.1≠b) :
  ZE X pins U H' {s with heap:=h',gens:=g',drawn:=d',toks:=t' }:=by
 obtain⟨m,⟨o,es,ep,ho,r⟩,_⟩:=id I.loc;obtain⟨sl,hL⟩:=u.any ho I.free fun z=>(hch _ z).2.1 rfl
 exact I.step (ch:=ch) hch (fun b o hL hb hc e n=>u.keep b o e n (fun z=>(xF.mp (I.stkSub b z)).elim hL hb) hc) (fun b o _ _ hc e n=>u.any e n hc) (fun b o hc e n=>u.free b o e n hc) (fun b o hc e=>u.there b o e hc) u.tups u.frzs u.tbls (fun m' hm=>by
  obtain⟨o',es',ep',ho',r'⟩:=hm;rw[ho] at ho';cases ho'
  exact⟨_,es',ep',hL,r'⟩) hok hg
theorem ZE.turned(I:ZE X pins U H s)(k:∀b o,b≠it->s.heap.get? b=some o->h'.get? b=some o)(hn:H it=none)(hL:it≠X.env.locals)(h1:it∈X.ex\/X.s₀.heap.objs.size<=it)(h2:∀x c,X.env.cells.lookup x=some c->c≠it)(h3:∀p∈X.pn++pins,p.1≠it):ZE X pins U H {s with heap:=h',toks:=t' }:=by
 have nit:∀b u,H b=some u->b≠it:=fun b u e z=>by rw[z,hn] at e;cases e
 refine I.step (g':=s.gens) (d':=s.drawn) (ch:=[it]) (fun b hb=>?_) (fun b o _ _ hc e _=>k b o (fun z=>hc (by simp[z])) e) (fun b o _ _ hc e _=>⟨o.slots,k b o (fun z=>hc (by simp[z])) e⟩) (fun _ _ _ _ n=>n)
  (fun b o hc e=>⟨o,k b o (fun z=>hc (by simp[z])) e⟩) (fun _ _ e=>e) (fun _ _ _ e=>e) (fun b ps e=>⟨#[],by rw[e];simp⟩) (fun m hm=>?_) (fun b u e=>?_) I.bare
 ·have e:b=it:=by simpa using hb
  subst e;exact⟨h1,hL,h2,h3⟩
 ·obtain⟨o,es,ep,ho,r⟩:=hm;exact⟨o,es,ep,k _ o (Ne.symm hL) ho,r⟩
 ·refine(I.hok b u e).stay (fun c v hc q=>k c v ?_ q) (fun _ q=>q) fun _ _ q=>q;rcases hc with z | z
  ·rw[z];exact nit b u e
  ·exact nit c _ z
theorem ZE.tok(I:ZE X pins U H s)(t:Nat):ZE X pins U H {s with toks:=t }:=I.un (h':=s.heap) (t':=t) Un.refl I.hok
theorem ZE.kept(I:ZE X pins U H s)(k:∀b u,s.heap.get? b=some u->h'.get? b=some u):ZE X pins U H {s with heap:=h',toks:=t' }:=I.un (Un.kept k) (I.hok.kept k)
theorem ZE.laid{a:dN}{o:HO}{t':Nat}(I:ZE X pins U H s)(k:∀b u,s.heap.get? b=some u->h'.get? b=some u)(hp:s.heap.objs.size<=a)(new:ZL X.prog X.w (upd H a o) h' a o) :
  ZE X pins U (upd H a o) {s with heap:=h',toks:=t' }:=I.un (Un.laid k hp (I.hok.fresh hp)) (I.hok.laid k hp new)
theorem ZE.write(I:ZE X pins U H s)(mu:BB (H x))(he:e=x\/H e=some (.own x))(k:∀b u,b≠e->s.heap.get? b=some u->h'.get? b=some u)(heo:∃u,h'.get? e=some u)(new:ZL X.prog X.w (upd H x o) h' x o):ZE X pins U (upd H x o) {s with heap:=h',toks:=t' }:=I.un (Un.write mu he k heo) (I.hok.write mu he k heo new)
theorem ZE.pins_of(I:ZE X pins U H s)(h:∀p∈pins',s.heap.get? p.1=some p.2/\H p.1=none/\p.1≠X.env.locals/\p.1∉X.fs/\∀v,p.2.data ≠ .cell v):ZE X pins' U H s :=
 ⟨I.ok,I.os,I.bare,I.base,I.loc,I.cell,I.free,I.freeC,fun p hp=>(xR.mp hp).elim (fun z=>I.pin p (zL _ z)) (h p),I.hok,I.len⟩
theorem IR{N:dF}(hN:N.Nodup){i j:Nat}{x:Str}(a:N[i]?=some x)(b:N[j]?=some x):i=j:=by
 obtain⟨h1,e1⟩:=xE.mp a;obtain⟨h2,e2⟩:=xE.mp b;exact(List.getElem_inj hN).mp (e1.trans e2.symm)
theorem PH(I:ZE X pins U H s)(hN:X.N.Nodup)(hi:X.N[i]?=some x)(hx:Bd X.env.scope x)(r:ZF v u)(h:∀s',ZE X pins (U.set i (some v)) H s'->(∃a,Heap.SameBut a s.heap s'.heap/\(a=X.env.locals\/X.env.cells.lookup x=some a))->Q () s')(hf:X.fn x=true\/X.env.scope.names.lookup x=some .local:=by first | exact .inl rfl | exact .inr rfl | assumption):wpAny M A (storeName X.env x u) Q E s:=by
 obtain⟨m,hn,hl⟩:=id I.loc;have hcls:(X.env.scope.kind==.class || (X.env.scope.kind==.module&&X.env.locals != X.env.globals))=false:=by rw[I.ok.kind];rfl
 have hiσ:i<U.length:=by rw[I.len];exact(xE.mp hi).1
 have cne:=I.cne;have tracked:∀{a:dN}{h':Heap},(∃o,s.heap.get? a=some o/\H a=none)->Heap.SameBut a s.heap h'->YN X.prog X.w H h':=fun {a h'} ha hs b ob e=>by
  obtain⟨_,_,hfree⟩:=ha;refine(I.hok b ob e).stay (fun c w' hc q=>(hs.2 c ?_).trans q) (fun _ q=>q) fun _ _ q=>q;rintro rfl;rcases hc with rfl | hc
  ·rw[hfree] at e;cases e
  ·rw[hfree] at hc;cases hc
 rcases hx with hk | hk
 ·refine wpAny_storeName_local hk hn (fun h' hn' hs=>?_) hcls;obtain⟨oL,_,_,hoL,_⟩:=id hn;refine h _ ⟨I.ok,I.os,I.bare,⟨fun b o e n hb hx=>?_,fun b o e n hb hx=>?_,I.base.free,fun b o e hx=>?_,I.base.tups,I.base.frzs,I.base.tbls⟩,⟨_,hn',fun j y v' e1 e2 e3=>?_⟩,fun y c e=>?_,I.free,I.freeC,fun p hp=>?_,tracked ⟨oL,hoL,I.free⟩ hs,by simpa using I.len⟩ ⟨_,hs,.inl rfl⟩
  ·exact(hs.2 b (xY (yI (xH e) I.ok.above))).trans (I.base.keep b o e n hb hx)
  ·obtain⟨sl,e1⟩:=I.base.slot b o e n hb hx;exact⟨sl,(hs.2 b (xY (yI (xH e) I.ok.above))).trans e1⟩
  ·obtain⟨o',e1⟩:=I.base.there b o e hx;exact⟨o',(hs.2 b (xY (yI (xH e) I.ok.above))).trans e1⟩
  ·by_cases hj:j=i
   ·subst hj;rw[hi] at e1;cases e1;rw[List.getElem?_set_self hiσ] at e2;cases e2;exact⟨u,r,.inl ⟨hk,by simp⟩⟩
   ·rw[List.getElem?_set_ne (Ne.symm hj)] at e2;obtain⟨u',r',q⟩:=hl j y v' e1 e2 e3;refine⟨u',r',?_⟩;rcases q with⟨k,e⟩ | ⟨k,c,e,z⟩
    ·refine .inl ⟨k,?_⟩;have:y≠x:=fun e=>hj (IR hN e1 (e▸hi));simp[this,e]
    ·exact .inr ⟨k,c,e,z.sameBut hs (cne y c e)⟩
  ·obtain⟨w',z⟩:=I.cell y c e;exact⟨w',z.sameBut hs (cne y c e)⟩
  ·obtain⟨e,n,ne,nf,d⟩:=I.pin p hp;exact⟨(hs.2 p.1 ne).trans e,n,ne,nf,d⟩
 ·have hfn:X.fn x=true:=by
   rcases hf with z | z
   ·exact z
   ·rw[z] at hk;cases hk
  obtain⟨c,hc⟩:=I.ok.has x (.inl hk);obtain⟨w',z⟩:=I.cell x c hc;refine wpAny_storeName_cell I.ok.kind hk hc z (fun h' hc' hs=>?_);obtain⟨oc,hoc,hocd⟩:=id z;refine h {s with heap:=h' } ⟨I.ok,I.os,I.bare,⟨fun b o e n hb hx=>?_,fun b o e n hb hx=>?_,I.base.free,fun b o e hx=>?_,I.base.tups,I.base.frzs,I.base.tbls⟩,⟨m,hn.sameBut hs (Ne.symm (cne x c hc)),fun j y v' e1 e2 e3=>?_⟩,fun y c' e=>?_,I.free,I.freeC,fun p hp=>?_,tracked ⟨oc,hoc,I.freeC x c hc⟩ hs,by simpa using I.len⟩ ⟨c,hs,.inr hc⟩
  ·exact(hs.2 b (xY (yI (xH e) (I.ok.cab x c hfn hc)))).trans (I.base.keep b o e n hb hx)
  ·obtain⟨sl,e1⟩:=I.base.slot b o e n hb hx;exact⟨sl,(hs.2 b (xY (yI (xH e) (I.ok.cab x c hfn hc)))).trans e1⟩
  ·obtain⟨o',e1⟩:=I.base.there b o e hx;exact⟨o',(hs.2 b (xY (yI (xH e) (I.ok.cab x c hfn hc)))).trans e1⟩
  ·by_cases hj:j=i
   ·subst hj;rw[hi] at e1;cases e1;rw[List.getElem?_set_self hiσ] at e2;cases e2;exact⟨u,r,.inr ⟨.inl hk,c,hc,hc'⟩⟩
   ·rw[List.getElem?_set_ne (Ne.symm hj)] at e2;obtain⟨u',r',q⟩:=hl j y v' e1 e2 e3;refine⟨u',r',?_⟩;rcases q with q | ⟨k,c',e,z'⟩
    ·exact .inl q
    ·refine .inr ⟨k,c',e,z'.sameBut hs ?_⟩;rintro rfl;exact hj (IR hN e1 (I.ok.inj _ _ _ e hc▸hi))
  ·by_cases hcc:c'=c
   ·subst hcc;exact⟨_,hc'⟩
   ·obtain⟨w2,z2⟩:=I.cell y c' e;exact⟨w2,z2.sameBut hs hcc⟩
  ·obtain⟨e,n,ne,nf,d⟩:=I.pin p hp;refine⟨(hs.2 p.1 ?_).trans e,n,ne,nf,d⟩;intro q;rw[q,hoc] at e;have q':oc=p.2:=Option.some.inj e;exact d w' (by rw[← q'];exact hocd)
theorem C6(I:ZE X pins U H s)(hN:X.N.Nodup)(hi:X.N[i]?=some x)(hx:Bd X.env.scope x)(r:ZF v u)(h:∀s',ZE X pins (U.set i (some v)) H s'->Q () s')(hf:X.fn x=true\/X.env.scope.names.lookup x=some .local:=by first | exact .inl rfl | exact .inr rfl | assumption):wpAny M A (storeName X.env x u) Q E s :=
 PH I hN hi hx r (fun s' I' _=>h s' I') hf
theorem ZE.call'(I:ZE X pins U H s)(ho:s'.os=s.os)(u:Un (frs X.stack) ch H H' s.heap s'.heap)(hok:YN X.prog X.w H' s'.heap)(hg:AllBare s'.gens)(hch:∀b∈ch,(b∈X.ex\/X.s₀.heap.objs.size<=b)/\b≠X.env.locals/\(∀x c,X.env.cells.lookup x=some c->c≠b)/\∀p∈X.pn++pins,p.1≠b):ZE X pins U H' s':=by
 obtain⟨h',g',d',t',o'⟩:=s';have e:o'=s.os:=ho;subst e;exact I.call (g':=g') (t':=t') (d':=d') u hok hg hch
end
abbrev XK:=dM->Option dN->Hp->Prop
abbrev St:=List (Option V)
abbrev VK:=V->Hp->Prop
abbrev TE:=St->Hp->VK->Prop
abbrev TT:=St->Hp->(Bool->Hp->Prop)->Prop
abbrev TA:=St->Hp->(List V->Hp->Prop)->Prop
structure YK where
 nx:St->Hp->Prop
 rt:VK
 bk:St->Hp->Prop:=fun _ _=>False
 ct:St->Hp->Prop:=fun _ _=>False
abbrev TS:=YK->St->Hp->Prop
def EP(X:Cx)(pins:List (dN×Obj))(U:St)(Q:VK)(u:dM)(s':dJ):Prop:=∃v H',ZE X pins U H' s'/\ZF v u/\Q v H'
def TP(X:Cx)(pins:List (dN×Obj))(U:St)(Q:Bool->Hp->Prop)(b:Bool)(s':dJ):Prop:=∃H',ZE X pins U H' s'/\Q b H'
def AP(X:Cx)(pins:List (dN×Obj))(U:St)(Q:List V->Hp->Prop)(us:dG)(s':dJ):Prop:=∃vs H',ZE X pins U H' s'/\ZH vs us/\Q vs H'
def SP(X:Cx)(pins:List (dN×Obj))(D:YK)(f:Flow)(s':dJ):Prop :=
 match f with
 | .next=>∃ σ' H',ZE X pins σ' H' s'/\D.nx σ' H'
 | .brk=>∃ σ' H',ZE X pins σ' H' s'/\D.bk σ' H'
 | .cont=>∃ σ' H',ZE X pins σ' H' s'/\D.ct σ' H'
 | .ret u=>∃v σ' H',ZE X pins σ' H' s'/\ZF v u/\D.rt v H'
def PE(X:Cx)(e:Expr)(t:TE):Prop :=
 ∀(pins:List (dN×Obj))(s:dJ)(U:St)(H:Hp)(Q:VK),ZE X pins U H s->t U H Q->wpAny (model X.prog X.w) X.A (eval e X.env) (EP X pins U Q) X.xe s
def PT(X:Cx)(e:Expr)(t:TT):Prop :=
 ∀(pins:List (dN×Obj))(s:dJ)(U:St)(H:Hp)(Q:Bool->Hp->Prop),ZE X pins U H s->t U H Q->wpAny (model X.prog X.w) X.A (isTrue e X.env (eval e X.env)) (TP X pins U Q) X.xe s
def PW(X:Cx)(e:Expr)(t:TT):Prop :=
 ∀(whole:Sem dM)(pins:List (dN×Obj))(s:dJ)(U:St)(H:Hp)(Q:Bool->Hp->Prop),ZE X pins U H s->t U H Q->wpAny (model X.prog X.w) X.A (isTrue e X.env whole) (TP X pins U Q) X.xe s
theorem PW.pt(h:PW X e t):PT X e t:=h _
def PA(X:Cx)(es:List Expr)(t:TA):Prop :=
 ∀(pos:Pos)(pins:List (dN×Obj))(s:dJ)(U:St)(H:Hp)(Q:List V->Hp->Prop),ZE X pins U H s->t U H Q->wpAny (model X.prog X.w) X.A (spliced (backTo pos (starEach es X.env))) (AP X pins U Q) X.xe s
def PS(X:Cx)(st:Stmt)(t:TS):Prop :=
 ∀(pins:List (dN×Obj))(s:dJ)(U:St)(H:Hp)(D:YK),ZE X pins U H s->t D U H->wpAny (model X.prog X.w) X.A (exec st X.env) (SP X pins D) X.xe s
def Ap(X:Cx)(st:List Stmt)(t:TS):Prop :=
 ∀(pins:List (dN×Obj))(s:dJ)(U:St)(H:Hp)(D:YK),ZE X pins U H s->t D U H->wpAny (model X.prog X.w) X.A (execs st X.env) (SP X pins D) X.xe s
theorem thn{α:Type}{t:Sem α}{Q Q':α->dJ->Prop}(h:wpAny M A t Q E s)(hQ:∀a s,Q a s->Q' a s):wpAny M A t Q' E s:=wpAny_mono h hQ fun _ _ x=>x
section
variable{X:Cx}
inductive YD(i:Nat)(U:St)(H:Hp)(Q:VK):Prop
 |mk(v)(_:U[i]?=some (some v))(_:Q v H)
def tC(v:V):TE:=fun _ H Q=>Q v H
theorem CO{i:Nat}{x:Str}{pos:Pos}(hN:X.N[i]?=some x)(hv:BV X.env.scope x)(hd:(x==("__debug__":Str))=false:=by decide)(hcd:(x==("__classdict__":Str))=false:=by decide):PE X (.Name x pos) (YD i):=by
 intro pins s U H Q I h;obtain⟨v,e,h⟩:=h;obtain⟨m,hn,hl⟩:=I.loc;obtain⟨u,r,l⟩:=hl i x v hN e hv;have fin:EP X pins U Q u s:=⟨v,H,I,r,h⟩;rcases l with⟨hk,hm⟩ | ⟨hk,c,hc,hcell⟩
 ·exact wpAny_Name (wpAny_loadName_local I.ok.kind hk hn hm fin) hd
 ·rcases hk with hk | hk
  ·exact wpAny_Name (wpAny_loadName_cell I.ok.kind hk hc hcell fin) hd
  ·exact wpAny_Name (wpAny_loadName_free I.ok.kind hk hc hcell fin hcd) hd
def Gl(X:Cx)(x:Str):Prop:=X.env.kindOf x=some .globalImplicit
theorem Ew{E:dD}{pins:List (dN×Obj)}{s:dJ}{U:St}{H:Hp}{x:Str}{u:dM}{pos:Pos}{Q:dD}(I:ZE X pins U H s)(hg:Gl X x)(hm:X.mg x=some u)(h:Q u s)(hd:(x==("__debug__":Str))=false:=by decide):wpAny (model X.prog X.w) X.A (eval (.Name x pos) X.env) Q E s :=
 Calls.Name_function_global I.ok.kind hg (Calls.loadGlobal_global (by rw[I.ok.glob];exact I.mod.glob.keeps I.bk) hm h) hd
theorem Vi{E:dD}{pins:List (dN×Obj)}{s:dJ}{U:St}{H:Hp}{x:Str}{u:dM}{pos:Pos}{Q:dD}(I:ZE X pins U H s)(hg:Gl X x)(hm:X.mg x=none)(hv:bootBuiltins x=some u)(h:Q u s)(hn:x ≠ "__name__" := by decide)(hd:(x==("__debug__":Str))=false:=by decide):wpAny (model X.prog X.w) X.A (eval (.Name x pos) X.env) Q E s:=by
 obtain⟨mb,h1,h2⟩:=I.mod.blt;exact Calls.Name_function_global I.ok.kind hg (Calls.loadGlobal_builtin (by rw[I.ok.glob];exact I.mod.glob.keeps I.bk) hm (by rw[I.ok.blt];exact h1.keeps I.bk) ((h2 x hn).trans hv) h) hd
theorem Nj(hg:Gl X x)(hm:X.mg x=some u)(r:ZF v u)(hd:(x==("__debug__":Str))=false:=by decide):PE X (.Name x pos) (tC v) :=
 fun _ _ _ H _ I h=>Ew I hg hm ⟨v,H,I,r,h⟩ hd
theorem Rt{x:Str}{v:V}{u:dM}{pos:Pos}(hg:Gl X x)(hm:X.mg x=none)(hv:bootBuiltins x=some u)(r:ZF v u)(hn:x ≠ "__name__" := by decide)(hd:(x==("__debug__":Str))=false:=by decide):PE X (.Name x pos) (tC v) :=
 fun _ _ _ H _ I h=>Vi I hg hm hv ⟨v,H,I,r,h⟩ hn hd
variable{a b:Expr}{ta tb:TE}{pos:Pos}
inductive Oa(Q:Bool->Hp->Prop)(x:V)(H1:Hp):Prop
 |mk(c)(_:x=.bl c)(_:Q c H1)
def tB(t:TE):TT:=fun U H Q=>t U H fun x H1=>Oa Q x H1
variable{tA tB':TT}{rest:List Expr}
def LV(t u:TT):TT:=fun U H Q=>t U H fun c H1=>if c=true then u U H1 Q else Q false H1
def OI(t u:TT):TT:=fun U H Q=>t U H fun c H1=>if c=true then Q true H1 else u U H1 Q
def LA(t:TT):TT:=fun U H Q=>t U H fun c H1=>Q (!c) H1
inductive A7(tb:TE)(U:St)(Q:VK)(x:V)(H1:Hp):Prop
 |mk(c)(_:x=.bl c)(_:if c=true then tb U H1 Q else Q (.bl false) H1)
def RI(ta tb:TE):TE:=fun U H Q=>ta U H fun x H1=>A7 tb U Q x H1
inductive Ah(Q:VK)(x:V)(H1:Hp):Prop
 |mk(c)(_:x=.bl c)(_:Q (.bl (!c)) H1)
def Py(ta:TE):TE:=fun U H Q=>ta U H fun x H1=>Ah Q x H1
theorem Qy {op} (h:PE X a t):PE X (.BoolOp op [a] pos) t:=fun pins s U H Q I hw=>BoolOp_one (h pins s U H Q I hw)
def bK(t:TT)(ta tb:TE):TE:=fun U H Q=>t U H fun c H1=>if c=true then ta U H1 Q else tb U H1 Q
end
def ZG(K:uFg)(H:Hp)(a:dN)(xs:aG):Prop :=
 Rd H a (.lst xs)\/
  ∃o its n,K.lookup a=some o/\o.cls=.type "list" /\ o.dict=none/\o.data=.seq its n/\its.size<=sizeLine/\ZH xs its.toList
def ZP(K:uFg)(H:Hp)(a:dN)(xs:aG):Prop :=
 Rd H a (.tup xs)\/
  ∃o its n,K.lookup a=some o/\o.cls=.type "tuple" /\ o.data=.seq its n/\its.size<=sizeLine/\ZH xs its.toList
def Mp:dM->Option V
 | .none=>some .non
 | .bool b=>some (.bl b)
 | .int i _=>some (.int i)
 | .str x _=>some (.str x)
 | .bytes b _=>some (.byt b)
 | .float b _=>some (.flt b)
 | .ref a=>some (.ref a)
 | .type n=>some (.ty n)
 | _=>none
theorem ZF.abs(r:ZF x u):Mp u=some x:=by
 cases x with
 | non=>cases r;rfl
 | bl _=>cases r;rfl
 | int _=>obtain⟨t,rfl⟩:=r;rfl
 | str _=>obtain⟨t,rfl⟩:=r;rfl
 | byt _=>obtain⟨t,rfl⟩:=r;rfl
 | flt _=>obtain⟨t,rfl⟩:=r;rfl
 | ref _=>cases r;rfl
 | ty _=>cases r;rfl
theorem ZF.inj(r:ZF x u)(q:ZF y u):x=y:=Option.some.inj (r.abs.symm.trans q.abs)
theorem ZH.inj:∀{xs ys:aG}{us:dG},ZH xs us->ZH ys us->xs=ys
 | _,_,_,.nil,.nil=>rfl
 | _,_,_,.cons r t,.cons r' t'=>by rw[r.inj r',ZH.inj t t']
section
variable{X:Cx}{pins:List (dN×Obj)}{U:St}{H:Hp}{s:dJ}{a:dN}{xs ys:aG}
theorem ZG.of{K:uFg}(h:H a=some (.lst xs)):ZG K H a xs:=.inl (.inl h)
theorem ZP.of{K:uFg}(h:H a=some (.tup xs)):ZP K H a xs:=.inl (.inl h)
theorem ZE.list(I:ZE X pins U H s)(h:ZG X.K H a xs):∃its:List dM,ZH xs its/\PlainL s.heap a its.toArray/\xs.length<=sizeLine:=by
 rcases h with h | ⟨o,its,n,hk,hc,hd,hs,hz,r⟩
 ·obtain⟨z,its,n,r,e⟩:=h.ok I.hok;exact⟨its,r,⟨_,n,e,rfl,rfl,rfl⟩,z⟩
 ·refine⟨its.toList,r,⟨o,n,I.kIn a o hk,hc,hd,by simpa using hs⟩,?_⟩;have e:=r.length;simp only[yP] at e;lia
theorem ZE.tuple(I:ZE X pins U H s)(h:ZP X.K H a xs):∃its:List dM,ZH xs its/\IsTup s.heap a its.toArray/\xs.length<=sizeLine:=by
 rcases h with h | ⟨o,its,n,hk,hc,hs,hz,r⟩
 ·obtain⟨z,its,r,p⟩:=h.ok I.hok;exact⟨its,r,p,z⟩
 ·refine⟨its.toList,r,⟨o,I.kIn a o hk,hc,n,by simpa using hs⟩,?_⟩;have e:=r.length;simp only[yP] at e;lia
theorem ZE.list_inj(I:ZE X pins U H s)(h:ZG X.K H a xs)(h':ZG X.K H a ys):xs=ys:=by
 obtain⟨its,r,⟨o,n,e,_,_,d⟩,_⟩:=I.list h;obtain⟨its',r',⟨o',n',e',_,_,d'⟩,_⟩:=I.list h';rw[e] at e';cases e';rw[d] at d';injection d' with d1 _
 have:its=its':=by simpa using congrArg Array.toList d1
 subst this;exact r.inj r'
theorem ZE.tuple_inj(I:ZE X pins U H s)(h:ZP X.K H a xs)(h':ZP X.K H a ys):xs=ys:=by
 obtain⟨its,r,⟨o,e,_,n,d⟩,_⟩:=I.tuple h;obtain⟨its',r',⟨o',e',_,n',d'⟩,_⟩:=I.tuple h';rw[e] at e';cases e';rw[d] at d';injection d' with d1 _
 have:its=its':=by simpa using congrArg Array.toList d1
 subst this;exact r.inj r'
end
abbrev Cx.wish(X:Cx)(E:dD):Cx:={X with xe:=E }
abbrev Cx.nox(X:Cx):Cx:=X.wish fun _ _=>False
theorem Cx.Ok.wish{X:Cx}(ok:X.Ok)(E:dD):(X.wish E).Ok :=
 ⟨ok.mod,ok.kind,ok.glob,ok.blt,ok.above,ok.inj,ok.has,ok.cab,ok.hd,ok.frames,ok.stk,ok.exf,ok.bs,ok.bsz,ok.noex,ok.exfs,ok.funs,ok.frf⟩
theorem Cx.Ok.unwish{X:Cx}{E:dD}(ok:(X.wish E).Ok):X.Ok :=
 ⟨ok.mod,ok.kind,ok.glob,ok.blt,ok.above,ok.inj,ok.has,ok.cab,ok.hd,ok.frames,ok.stk,ok.exf,ok.bs,ok.bsz,ok.noex,ok.exfs,ok.funs,ok.frf⟩
section
variable{X:Cx}{pins:List (dN×Obj)}{U:St}{H:Hp}{s:dJ}{E:dD}
theorem ZE.wish(I:ZE X pins U H s)(E:dD):ZE (X.wish E) pins U H s:=⟨I.ok.wish E,I.os,I.bare,I.base,I.loc,I.cell,I.free,I.freeC,I.pin,I.hok,I.len⟩
theorem ZE.unwish(I:ZE (X.wish E) pins U H s):ZE X pins U H s:=⟨I.ok.unwish,I.os,I.bare,I.base,I.loc,I.cell,I.free,I.freeC,I.pin,I.hok,I.len⟩
theorem SP.unwish(h:SP (X.wish E) pins D f s'):SP X pins D f s':=by
 cases f with
 | next=>obtain⟨σ',H',I,q⟩:=h;exact⟨σ',H',I.unwish,q⟩
 | brk=>obtain⟨σ',H',I,q⟩:=h;exact⟨σ',H',I.unwish,q⟩
 | cont=>obtain⟨σ',H',I,q⟩:=h;exact⟨σ',H',I.unwish,q⟩
 | ret u=>obtain⟨v,σ',H',I,r,q⟩:=h;exact⟨v,σ',H',I.unwish,r,q⟩
theorem Ap.nox{st:List Stmt}{t:TS}(h:Ap X.nox st t):Ap X st t:=fun pins s U H D I hw =>
 wpAny_mono (h pins s U H D (I.wish _) hw) (fun _ _ q=>q.unwish) fun _ _ z=>False.elim z
end
section
variable{X:Cx}{st:Stmt}{rest:List Stmt}{t u:TS}{te:TE}
def Yb:TS:=fun D U H=>D.nx U H
def Ua(t u:TS):TS:=fun D U H=>t {D with nx:=u D } U H
def MR:TS:=fun D U H=>D.ct U H
theorem ZE.quiet{pins:List (dN×Obj)}{U:St}{H:Hp}{s:dJ}(I:ZE X pins U H s):interactive X.env=false:=by simp[interactive,I.ok.kind]
def EK(te:TE):TS:=fun D U H=>te U H fun _ H1=>D.nx U H1
def PX(te:TE):TS:=fun D U H=>te U H D.rt
def Dp(c:TT)(t u:TS):TS:=fun D U H=>c U H fun b H1=>if b=true then t D U H1 else u D U H1
end
abbrev TG:=V->St->Hp->(St->Hp->Prop)->Prop
abbrev Jk:=List V->St->Hp->(St->Hp->Prop)->Prop
def PG(X:Cx)(target:Expr)(t:TG):Prop :=
 ∀(pins:List (dN×Obj))(s:dJ)(U:St)(H:Hp)(v:V)(u:dM)(Q:St->Hp->Prop),ZE X pins U H s->ZF v u->t v U H Q ->
  wpAny (model X.prog X.w) X.A (assign target X.env u) (fun _ s'=>∃ σ' H',ZE X pins σ' H' s'/\Q σ' H') X.xe s
def IK(X:Cx)(ts:List Expr)(t:Jk):Prop :=
 ∀(pins:List (dN×Obj))(s:dJ)(U:St)(H:Hp)(vs:aG)(us:dG)(Q:St->Hp->Prop),ZE X pins U H s->ZH vs us->t vs U H Q ->
  wpAny (model X.prog X.w) X.A (assignInOrder ((assignEach ts X.env).map (·.2)) us) (fun _ s'=>∃ σ' H',ZE X pins σ' H' s'/\Q σ' H') X.xe s
abbrev Co:=V->V->V->Hp->(Hp->Prop)->Prop
def RQ(X:Cx)(t:Co):Prop :=
 ∀(pins:List (dN×Obj))(s:dJ)(U:St)(H:Hp)(o i v:V)(ov iv u:dM)(Q:Hp->Prop),ZE X pins U H s->ZF o ov->ZF i iv->ZF v u->t o i v H Q ->
  wpAny (model X.prog X.w) X.A (setItem ov iv u) (fun _ s'=>∃H',ZE X pins U H' s'/\Q H') X.xe s
abbrev Df:=V->V->Hp->VK->Prop
def EA(X:Cx)(op:Operator)(t:Df):Prop :=
 ∀(pins:List (dN×Obj))(s:dJ)(U:St)(H:Hp)(x y:V)(v u:dM)(Q:VK),ZE X pins U H s->ZF x v->ZF y u->t x y H Q ->
  wpAny (model X.prog X.w) X.A (inplaceOp op v u) (EP X pins U Q) X.xe s
section
variable{X:Cx}{pos:Pos}
def Wb(i:Nat):TG:=fun v U H Q=>Q (U.set i (some v)) H
theorem Fs(hN:X.N.Nodup)(hi:X.N[i]?=some x)(hx:Bd X.env.scope x)(hf:X.fn x=true\/X.env.scope.names.lookup x=some .local:=by first | exact .inl rfl | exact .inr rfl | assumption):PG X (.Name x pos) (Wb i):=by
 intro pins s U H v u Q I r h;exact wpAny_assign_Name (C6 I hN hi hx r (fun s' I'=>⟨_,H,I',h⟩) hf)
def DC:Jk:=fun vs U H Q=>vs=[]/\Q U H
inductive UF(t:TG)(u:Jk)(vs:aG)(U:St)(H:Hp)(Q:St->Hp->Prop):Prop
 |mk(v r)(_:vs=v::r)(_:t v U H fun σ' H'=>u r σ' H' Q)
inductive Je(K:uFg)(n:Nat)(t:Jk)(v:V)(U:St)(H:Hp)(Q:St->Hp->Prop):Prop
 |mk(a xs)(_:v=.ref a)(_:ZP K H a xs)(_:xs.length=n)(_:t xs U H Q)
theorem FB{es:List Expr}{k:Nat}{t:Jk}{n:Nat}(hc:X.calm=true)(h:IK X es t)(hn:(assignEach es X.env).length=n:=by rfl)(hst:(assignEach es X.env).findIdx? (·.1)=none:=by rfl):PG X (.Tuple es k pos) (Je X.K n t):=by
 intro pins s U H v u Q I r hw;obtain⟨a,xs,e1,hq,hl,hw⟩:=hw;subst e1;cases r;obtain⟨its,rv,ht,hz⟩:=I.tuple hq;refine assign_Tuple_tuple (I.ok.hd hc) ht (by simp[hn,← hl,rv.length]) hst fun h' hx=>?_;have I1:ZE X pins U H {s with heap:=h' }:=I.kept (t':=s.toks) fun b o e=>hx b o (xY (xH e)) e;exact h pins _ U H xs _ Q I1 (by simpa using rv) hw
def SF(to ti:TE)(t:Co):TG:=fun v U H Q=>to U H fun o H1=>ti U H1 fun i H2=>t o i v H2 fun H3=>Q U H3
def Ju(te:TE)(g:TG):TS:=fun D U H=>te U H fun x H1=>g x U H1 D.nx
theorem Gb{i:Nat}{x:Str}{e:Expr}{te:TE}{pos':Pos}(hN:X.N.Nodup)(hi:X.N[i]?=some x)(hx:Bd X.env.scope x)(he:PE X e te)(hs:swapsWith e (some (.Name x pos')) pos.line X.env=pure false:=by rfl)(hf:X.fn x=true\/X.env.scope.names.lookup x=some .local:=by first | exact .inl rfl | exact .inr rfl | assumption) :
  PS X (.Assign [.Name x pos'] e pos) (Ju te (Wb i)):=by
 intro pins s U H D I h;refine wpAny_Assign_Name (thn (he pins s U H _ I h) fun v s1 ⟨y,H1,I1,r1,q1⟩=>?_) hs;exact C6 I1 hN hi hx r1 (fun s2 I2=>⟨_,H1,I2,q1⟩) hf
def EF(i:Nat)(te:TE)(ti:Df):TS:=fun D U H=>∃x,U[i]?=some (some x)/\te U H fun y H1=>ti x y H1 fun z H2=>D.nx (U.set i (some z)) H2
theorem Od(hN:X.N.Nodup)(hi:X.N[i]?=some x)(hx:Bd X.env.scope x)(he:PE X e te)(ho:EA X op ti)(hf:X.fn x=true\/X.env.scope.names.lookup x=some .local:=by first | exact .inl rfl | exact .inr rfl | assumption) :
  PS X (.AugAssign (.Name x pos') op e pos) (EF i te ti):=by
 intro pins s U H D I h;obtain⟨v,e1,h⟩:=h;obtain⟨m,hn,hl⟩:=I.loc;have vis:BV X.env.scope x:=by rcases hx with k | k;exact .inl k;exact .inr (.inl k)
 obtain⟨u,r,l⟩:=hl i x v hi e1 vis;refine wpAny_AugAssign_Name ?_;have go:wpAny (model X.prog X.w) X.A (eval e X.env) (fun w s₂=>wpAny (model X.prog X.w) X.A (inplaceOp op u w) (fun r s₃=>wpAny (model X.prog X.w) X.A (storeName X.env x r) (fun _=>SP X pins D .next) X.xe s₃) X.xe s₂) X.xe s:=by
  refine thn (he pins s U H _ I h) fun w s1 ⟨y,H1,I1,r1,q1⟩=>?_;refine thn (ho pins s1 U H1 v y u w _ I1 r r1 q1) fun z s2 ⟨zv,H2,I2,r2,q2⟩=>?_;exact C6 I2 hN hi hx r2 (fun s3 I3=>⟨_,H2,I3,q2⟩) hf
 rcases l with⟨hk,hm⟩ | ⟨hk,c,hc,hcell⟩
 ·exact wpAny_loadName_local I.ok.kind hk hn hm go
 ·rcases hk with hk | hk
  ·exact wpAny_loadName_cell I.ok.kind hk hc hcell go
  ·rcases hx with k | k
   ·have:X.env.scope.names.lookup x=some .free:=hk;rw[k] at this;cases this
   ·have:X.env.scope.names.lookup x=some .free:=hk;rw[k] at this;cases this
inductive ipI(f:Int->Int->Int)(x y:V)(H:Hp)(Q:VK):Prop
 |mk(i j)(_:x=.int i)(_:y=.int j)(_:Q (.int (f i j)) H)
end
def Mc(c:TT)(tb:TS):TS:=fun D U H=>∃W:Nat->St->Hp->Prop,(∃m,W m U H)/\∀m U H,W m U H ->
 c U H fun b H1=>if b=true then ∃N:St->Hp->Prop,(∀ σ' H',N σ' H'->∃m',m'<m/\W m' σ' H')/\tb {D with nx:=N,ct:=N,bk:=D.nx } U H1 else D.nx U H1
structure It where
 go:Nat->Hp->Prop
 yld:Nat->Hp->V->Hp->Prop
 stop:Nat->Hp->Prop
def Yr(X:Cx)(pins:List (dN×Obj))(H:Hp)(b:dN):Prop :=
 H b=none/\b≠X.env.locals/\b∉X.fs/\(b∈X.ex\/X.s₀.heap.objs.size<=b)/\(∀x c,X.env.cells.lookup x=some c->c≠b)/\∀p∈X.pn++pins,p.1≠b
theorem ZE.fpOk{X:Cx}{pins:List (dN×Obj)}{U:St}{H H':Hp}{s:dJ}{b:dN}(I:ZE X pins U H s)(hb:s.heap.objs.size<=b)(hn:H' b=none):Yr X pins H' b:=by
 refine⟨hn,zU (yI I.lt hb),I.nofs hb,.inr (xW I.sz hb),fun x c e z=>?_,fun p hp z=>?_⟩
 ·obtain⟨v,q⟩:=I.cell x c e;exact absurd (yI q.lt (by rw[z];exact hb)) (yZ _)
 ·exact absurd (yI (xH (I.pin p hp).1) (by rw[z];exact hb)) (yZ _)
structure WZ (P:dO) (w:dP) (K:uFg) (tg:Expr) (J:It) (fp:dI) (it:dN) (tn:Nat->Heap->Prop):Prop where
 mem:it∈fp
 obj:∀i h,tn i h->∀b∈fp,∃o,h.get? b=some o/\∀v,o.data ≠ .cell v
 keep:∀i h h',tn i h->(∀b∈fp,∀o,h.get? b=some o->h'.get? b=some o)->tn i h'
 item:∀(X:Cx),X.prog=P->X.w=w->X.K=K->X.calm=true->∀(i:Nat)(pins:List (dN×Obj))(s:dJ)(U:St)(H:Hp)(E:dD),ZE X pins U H s->(∀b∈fp,Yr X pins H b)->tn i s.heap->J.go i H ->
  wpAny (model P w) X.A (pyNext (.ref it)) (fun r s1=>∃u,r=some u /\
   wpAny (model P w) X.A (letOwnedTupleGo tg (.ref it) u) (fun _ s2=>∃x H',ZE X pins U H' s2/\ZF x u/\J.yld i H x H'/\tn (i+1) s2.heap/\∀b∈fp,H' b=none) E s1) E s
 done:∀(X:Cx),X.prog=P->X.w=w->X.K=K->X.calm=true->∀(i:Nat)(pins:List (dN×Obj))(s:dJ)(U:St)(H:Hp)(E:dD),ZE X pins U H s->(∀b∈fp,Yr X pins H b)->tn i s.heap->J.stop i H ->
  wpAny (model P w) X.A (pyNext (.ref it)) (fun r s1=>r=none/\ZE X pins U H s1) E s
 self:∀(A:dQ)(i:Nat)(s:dJ)(Q:dD)(E:dD),tn i s.heap->Q (.ref it) s->wpAny (model P w) A (pyIter (.ref it)) Q E s
abbrev TI:=St->Hp->(It->Hp->Prop)->Prop
def CB(X:Cx)(pins:List (dN×Obj))(U:St)(tg:Expr)(R:It->Hp->Prop)(itv:dM)(s2:dJ):Prop :=
 ∃it fp tn J H',itv=.ref it/\ZE X pins U H' s2/\WZ X.prog X.w X.K tg J fp it tn/\tn 0 s2.heap/\(∀b∈fp,Yr X pins H' b)/\R J H'
def PI(X:Cx)(tg iter:Expr)(wi:TI):Prop :=
 ∀(pins:List (dN×Obj))(s:dJ)(U:St)(H:Hp)(R:It->Hp->Prop),ZE X pins U H s->wi U H R ->
  wpAny (model X.prog X.w) X.A (eval iter X.env) (fun v s1=>wpAny (model X.prog X.w) X.A (pyIter v) (CB X pins U tg R) X.xe s1) X.xe s
theorem Ba(ho:s.heap.get? it=some o)(hc:o.cls=.type n)(hd:o.data=.fields vs)(hn:["enumerate","zip","dict_itemiterator","dict_reverseitemiterator","odict_iterator","itertools.zip_longest","itertools.pairwise"].contains n=false)(hQ:Q () s):wpAny M A (letOwnedTupleGo tg (.ref it) u) Q E s:=by
  unfold letOwnedTupleGo;cases tg<;>first
    | exact wpAny_pure hQ
    | (cases u<;>first
        | exact wpAny_pure hQ
        | (refine wpAny_bind (wpAny_load ho ?_)
           rw[hc,hd];show wpAny M A (if (["enumerate","zip","dict_itemiterator","dict_reverseitemiterator","odict_iterator","itertools.zip_longest","itertools.pairwise"].contains n&&vs[0]?==some (rawInt _))=true then _ else _) Q E s;rw[if_neg (by intro h;rw[hn,wJ] at h;cases h)]
           exact wpAny_pure hQ))
def Jm(K:uFg)(a:dN):It :=
 ⟨fun i H=>∃xs x,ZG K H a xs/\xs[i]?=some x,fun i H x H'=>H'=H/\∀xs,ZG K H a xs->xs[i]?=some x,fun i H=>∃xs,ZG K H a xs/\xs.length<=i⟩
def EM(K:uFg)(a:dN):It :=
 ⟨fun i H=>∃xs x,ZP K H a xs/\xs[i]?=some x,fun i H x H'=>H'=H/\∀xs,ZP K H a xs->xs[i]?=some x,fun i H=>∃xs,ZP K H a xs/\xs.length<=i⟩
def Jo(lo:Int)(n:Nat):It:=⟨fun i _=>i<n,fun i H x H'=>H'=H/\x=.int (lo+i),fun i _=>n<=i⟩
theorem Rv{P:dO}{w:dP}{K:uFg}{tg:Expr}(a it:dN):WZ P w K tg (Jm K a) [it] it (fun i h=>h.IsListIter it a i) where
 mem:=by simp
 obj:=fun i h st b hb=>by
  have e:b=it:=by simpa using hb
  subst e;obtain⟨o,e,c,d⟩:=st;exact⟨o,e,fun v z=>by rw[d] at z;cases z⟩
 keep:=fun i h h' st k=>st.at fun o e=>k it (by simp) o e
 item:=by
  intro X hP hw hK hc i pins s U H E I hf st hg;subst hP hw hK;obtain⟨xs,x,hq,hx⟩:=hg;obtain⟨its,rv,p,hz⟩:=I.list hq;obtain⟨u,hu,ru⟩:=rv.get hx;obtain⟨f0,f1,f2,f3,f4,f5⟩:=hf it (by simp);refine wpAny_pyNext_list_item st p.isList (x:=u) (by simpa using hu) fun h' st' sb=>?_;have I1:ZE X pins U H {s with heap:=h' }:=I.turned (t':=s.toks) (fun b o hb e=>(sb.2 b hb).trans e) f0 f1 f3 f4 f5;obtain⟨o,e,c,d⟩:=id st';exact⟨u,rfl,Ba (s:={s with heap:=h' }) e c d aA ⟨x,H,I1,ru,⟨rfl,fun ys hy=>by rw[I.list_inj hy hq];exact hx⟩,st',fun b hb=>(hf b hb).1⟩⟩
 done:=by
  intro X hP hw hK hc i pins s U H E I hf st hg;subst hP hw hK;obtain⟨xs,hq,hx⟩:=hg;obtain⟨its,rv,p,hz⟩:=I.list hq;obtain⟨f0,f1,f2,f3,f4,f5⟩:=hf it (by simp);have hl:=rv.length;exact wpAny_pyNext_list_end (I.ok.hd hc) st p.isList (by simp;lia) fun h' eb=>⟨rfl,I.turned (t':=s.toks) (fun b o hb e=>eb b o hb e) f0 f1 f3 f4 f5⟩
 self:=fun _ _ _ _ _ st h=>wpAny_pyIter_listiter st h
theorem Sw{P:dO}{w:dP}{K:uFg}{tg:Expr}(a it:dN):WZ P w K tg (EM K a) [it] it (fun i h=>h.IsTupleIter it a i) where
 mem:=by simp
 obj:=fun i h st b hb=>by
  have e:b=it:=by simpa using hb
  subst e;obtain⟨o,e,c,d⟩:=st;exact⟨o,e,fun v z=>by rw[d] at z;cases z⟩
 keep:=fun i h h' st k=>st.at fun o e=>k it (by simp) o e
 item:=by
  intro X hP hw hK hc i pins s U H E I hf st hg;subst hP hw hK;obtain⟨xs,x,hq,hx⟩:=hg;obtain⟨its,rv,p,hz⟩:=I.tuple hq;obtain⟨u,hu,ru⟩:=rv.get hx;obtain⟨f0,f1,f2,f3,f4,f5⟩:=hf it (by simp);refine wpAny_pyNext_tuple_item st (show s.heap.IsTuple a its.toArray from p) (x:=u) (by simpa using hu) fun h' st' sb=>?_;have I1:ZE X pins U H {s with heap:=h' }:=I.turned (t':=s.toks) (fun b o hb e=>(sb.2 b hb).trans e) f0 f1 f3 f4 f5;obtain⟨o,e,c,d⟩:=id st';exact⟨u,rfl,Ba (s:={s with heap:=h' }) e c d aA ⟨x,H,I1,ru,⟨rfl,fun ys hy=>by rw[I.tuple_inj hy hq];exact hx⟩,st',fun b hb=>(hf b hb).1⟩⟩
 done:=by
  intro X hP hw hK hc i pins s U H E I hf st hg;subst hP hw hK;obtain⟨xs,hq,hx⟩:=hg;obtain⟨its,rv,p,hz⟩:=I.tuple hq;obtain⟨f0,f1,f2,f3,f4,f5⟩:=hf it (by simp);have hl:=rv.length;exact wpAny_pyNext_tuple_end (I.ok.hd hc) st (show s.heap.IsTuple a its.toArray from p) (by simp;lia) fun h' eb=>⟨rfl,I.turned (t':=s.toks) (fun b o hb e=>eb b o hb e) f0 f1 f3 f4 f5⟩
 self:=fun _ _ _ _ _ st h=>wpAny_pyIter_tupleiter st h
theorem Mx{P:dO}{w:dP}{K:uFg}{tg:Expr}(it:dN)(lo:Int)(n:Nat):WZ P w K tg (Jo lo n) [it] it (fun i h=>IsRangeIter h it (lo+(i:Nat) * 1) ((n:Int) - (i:Nat)) 1) where
 mem:=by simp
 obj:=fun i h st b hb=>by grind
 keep:=fun i h h' st k=>k it (by simp) _ st
 item:=by
  intro X hP hw hK hc i pins s U H E I hf st hg;subst hP hw hK;obtain⟨f0,f1,f2,f3,f4,f5⟩:=hf it (by simp);have W:=Walks.range (prog:=X.prog) (w:=X.w) (I.ok.hd hc) it lo 1 n;refine W.item i s _ _ hg st fun v h' tk hv st' kk=>?_;obtain⟨t,rfl⟩:=hv;have I1:ZE X pins U H {s with heap:=h',toks:=tk }:=I.turned (fun b o hb e=>kk b o (by simpa using hb) e) f0 f1 f3 f4 f5;refine⟨_,rfl,Ba (s:={s with heap:=h',toks:=tk }) (n:="range_iterator") st' rfl rfl aA ⟨.int (lo+i),H,I1,⟨t,?_⟩,⟨rfl,rfl⟩,st',fun b hb=>(hf b hb).1⟩⟩;rw[Int.mul_one]
 done:=by
  intro X hP hw hK hc i pins s U H E I hf st hg;subst hP hw hK;obtain⟨f0,f1,f2,f3,f4,f5⟩:=hf it (by simp);exact wpAny_pyNext_range_end (I.ok.hd hc) st (by have:n<=i:=hg;lia) fun h' eb=>⟨rfl,I.turned (t':=s.toks) (fun b o hb e=>eb b o hb e) f0 f1 f3 f4 f5⟩
 self:=fun _ _ _ _ _ st h=>wpAny_pyIter_rangeiter st h
section
variable{X:Cx}{tg:Expr}
inductive A5(K:uFg)(R:It->Hp->Prop)(x:V)(H1:Hp):Prop
 |mk(a)(_:x=.ref a)(_:(∃xs,ZG K H1 a xs))(_:R (Jm K a) H1)
def RE(K:uFg)(tl:TE):TI:=fun U H R=>tl U H fun x H1=>A5 K R x H1
inductive B6(K:uFg)(R:It->Hp->Prop)(x:V)(H1:Hp):Prop
 |mk(a)(_:x=.ref a)(_:(∃xs,ZP K H1 a xs))(_:R (EM K a) H1)
def XA(K:uFg)(tl:TE):TI:=fun U H R=>tl U H fun x H1=>B6 K R x H1
theorem Xw{pins:List (dN×Obj)}{U:St}{H:Hp}{s:dJ}{R:It->Hp->Prop}{E:dD}{lo hi:Int}{t u v:Tok}{tk:Nat}(I:ZE X pins U H s)(h1 : -(2^62)<=lo)(h2:lo<2^62)(h3 : -(2^62)<=hi)(h4:hi<2^62)(q:R (Jo lo (hi - lo).toNat) H):wpAny (model X.prog X.w) X.A (pyIter (.ref s.heap.objs.size)) (CB X pins U tg R) E {s with heap:=s.heap.push {cls:=.type "range", data:=.fields #[.int lo t,.int hi u,.int 1 v] },toks:=tk }:=by
 refine wpAny_pyIter_range (IsRange.new ..) (small_one h1 h2 h3 h4) ?_;have I1:ZE X pins U H {s with heap:=s.heap.push {cls:=.type "range", data:=.fields #[.int lo t,.int hi u,.int 1 v] },toks:=tk }:=I.kept fun b o e=>xA _ e;refine⟨(s.heap.push {cls:=.type "range", data:=.fields #[.int lo t,.int hi u,.int 1 v] }).objs.size,[(s.heap.push {cls:=.type "range", data:=.fields #[.int lo t,.int hi u,.int 1 v] }).objs.size],_,_,H,rfl, I1.kept (t':=tk) fun b o e=>xA _ e,Mx _ lo (hi - lo).toNat,?_,fun b hb=>?_,q⟩
 ·have e1:lo+((0:Nat):Int) * 1=lo:=by simp
  have e2:(((hi - lo).toNat:Nat):Int) - ((0:Nat):Int)=Builtin.Range.rangeSize lo hi 1:=by rw[rangeSize_one];split<;>lia
  show IsRangeIter _ _ (lo+((0:Nat):Int) * 1) ((((hi - lo).toNat:Nat):Int) - ((0:Nat):Int)) 1;rw[e1,e2];exact xG _ rfl
 ·have e:b=(s.heap.push {cls:=.type "range", data:=.fields #[.int lo t,.int hi u,.int 1 v] }).objs.size:=by simpa using hb
  subst e;exact I1.fpOk (xD _) (I1.hok.fresh (xD _))
inductive JY(R:It->Hp->Prop)(vs:aG)(H1:Hp):Prop
 |mk(j)(_:vs=[.int j])(_:-(2^62)<=j)(_:j<2^62)(_:R (Jo 0 j.toNat) H1)
def XG(ta:TA):TI:=fun U H R=>ta U H fun vs H1=>JY R vs H1
def dB(wi:TI)(g:TG)(tb:TS):TS:=fun D U H=>wi U H fun J H1=>∃W:Nat->Nat->St->Hp->Prop,(∃m,W 0 m U H1)/\∀i m U H,W i m U H ->
 (J.stop i H/\D.nx U H)\/(J.go i H/\∃N:St->Hp->Prop,(∀ σ' H',N σ' H'->∃m',m'<m/\W (i+1) m' σ' H')/\∀x H',J.yld i H x H'->g x U H' fun σ2 H2=>tb {D with nx:=N,ct:=N,bk:=D.nx } σ2 H2)
def Ao(fp:dI)(h:Heap):List (dN×Obj):=fp.filterMap fun b=>(h.get? b).map fun o=>(b,o)
theorem Bw(hb:b∈fp)(e:h.get? b=some o):(b,o)∈Ao fp h:=List.mem_filterMap.mpr ⟨b,hb,by rw[e];rfl⟩
theorem IT(hp:p∈Ao fp h):p.1∈fp/\h.get? p.1=some p.2:=by
 obtain⟨b,hb,e⟩:=List.mem_filterMap.mp hp;cases q:h.get? b with
 | none=>rw[q] at e;cases e
 | some o =>
  rw[q] at e;have e':(b,o)=p:=Option.some.inj e;subst e';exact⟨hb,q⟩
theorem ZE.pinned{pins:List (dN×Obj)}{U:St}{H:Hp}{s:dJ}{fp:dI}(I:ZE X pins U H s)(hf:∀b∈fp,Yr X pins H b)(ho:∀b∈fp,∃o,s.heap.get? b=some o/\∀v,o.data ≠ .cell v):ZE X (pins++Ao fp s.heap) U H s :=
 I.pins_of fun p hp=>(xR.mp hp).elim (fun z=>I.pin p (xM _ z)) fun z=>by
  obtain⟨hb,e⟩:=IT z;obtain⟨f0,f1,f2,_⟩:=hf p.1 hb;obtain⟨o,e',d⟩:=ho p.1 hb;rw[e] at e';cases e';exact⟨e,f0,f1,f2,d⟩
theorem ZE.unpinned{pins pl:List (dN×Obj)}{U:St}{H:Hp}{s:dJ}(I:ZE X (pins++pl) U H s):ZE X pins U H s:=I.pins_of fun p hp=>I.pin p (xM _ (zL _ hp))
end
theorem Xn{K:uFg}{a:dN}{xs:aG}{g:TG}{tb:TS}{D:YK}{U:St}{H:Hp}(Pv:Nat->St->Hp->Prop)(h0:Pv 0 U H)(hl:∀i U H,i<=xs.length->Pv i U H->ZG K H a xs)(hs:∀i x U H,xs[i]?=some x->Pv i U H->g x U H fun σ2 H2=>tb {D with nx:=Pv (i+1),ct:=Pv (i+1),bk:=D.nx } σ2 H2)(hd:∀ U H,Pv xs.length U H->D.nx U H) :
  ∃W:Nat->Nat->St->Hp->Prop,(∃m,W 0 m U H)/\∀i m U H,W i m U H ->
   ((Jm K a).stop i H/\D.nx U H)\/((Jm K a).go i H/\∃N:St->Hp->Prop,(∀ σ' H',N σ' H'->∃m',m'<m/\W (i+1) m' σ' H')/\∀x H',(Jm K a).yld i H x H'->g x U H' fun σ2 H2=>tb {D with nx:=N,ct:=N,bk:=D.nx } σ2 H2):=by
 refine⟨fun i m U H=>m=xs.length - i/\i<=xs.length/\Pv i U H,⟨xs.length,by simp,xZ _,h0⟩,?_⟩;rintro i m U H ⟨rfl,hi,p⟩;have q:=hl i U H hi p
 by_cases hlt:i<xs.length
 ·refine .inr ⟨⟨xs,xs[i],q,by simp[hlt]⟩,Pv (i+1),fun σ' H' p'=>⟨xs.length - (i+1),by lia,rfl,hlt,p'⟩,fun x H' y=>?_⟩;obtain⟨e,y⟩:=y;subst e;exact hs i x U _ (y xs q) p
 ·have e:i=xs.length:=by lia
  subst e;exact .inl ⟨⟨xs,q,xD _⟩,hd U H p⟩
theorem Rf{lo:Int}{n:Nat}{g:TG}{tb:TS}{D:YK}{U:St}{H:Hp}(Pv:Nat->St->Hp->Prop)(h0:Pv 0 U H)(hs:∀i U H,i<n->Pv i U H->g (.int (lo+i)) U H fun σ2 H2=>tb {D with nx:=Pv (i+1),ct:=Pv (i+1),bk:=D.nx } σ2 H2)(hd:∀ U H,Pv n U H->D.nx U H) :
  ∃W:Nat->Nat->St->Hp->Prop,(∃m,W 0 m U H)/\∀i m U H,W i m U H ->
   ((Jo lo n).stop i H/\D.nx U H)\/((Jo lo n).go i H/\∃N:St->Hp->Prop,(∀ σ' H',N σ' H'->∃m',m'<m/\W (i+1) m' σ' H')/\∀x H',(Jo lo n).yld i H x H'->g x U H' fun σ2 H2=>tb {D with nx:=N,ct:=N,bk:=D.nx } σ2 H2):=by
 refine⟨fun i m U H=>m=n - i/\i<=n/\Pv i U H,⟨n,by simp,xZ _,h0⟩,?_⟩;rintro i m U H ⟨rfl,hi,p⟩
 by_cases hlt:i<n
 ·refine .inr ⟨hlt,Pv (i+1),fun σ' H' p'=>⟨n - (i+1),by lia,rfl,hlt,p'⟩,fun x H' y=>?_⟩;obtain⟨e,y⟩:=y;subst e y;exact hs i U _ hlt p
 ·have e:i=n:=by lia
  subst e;exact .inl ⟨xD _,hd U H p⟩
abbrev R2:=V->V->Hp->VK->Prop
def Jn(X:Cx)(f:dM->dM->Sem dM)(r:R2):Prop :=
 ∀(pins:List (dN×Obj))(s:dJ)(U:St)(H:Hp)(x y:V)(v u:dM)(Q:VK),ZE X pins U H s->ZF x v->ZF y u->r x y H Q ->
  wpAny (model X.prog X.w) X.A (f v u) (EP X pins U Q) X.xe s
def MV(X:Cx)(f:dM->Sem dM)(r:V->Hp->VK->Prop):Prop :=
 ∀(pins:List (dN×Obj))(s:dJ)(U:St)(H:Hp)(x:V)(v:dM)(Q:VK),ZE X pins U H s->ZF x v->r x H Q ->
  wpAny (model X.prog X.w) X.A (f v) (EP X pins U Q) X.xe s
def Uj(X:Cx)(f:dM)(r:List V->Hp->VK->Prop):Prop :=
 ∀(pins:List (dN×Obj))(s:dJ)(U:St)(H:Hp)(xs:aG)(us:dG)(Q:VK),ZE X pins U H s->ZH xs us->r xs H Q ->
  wpAny (model X.prog X.w) X.A (call f us) (EP X pins U Q) X.xe s
def X9(X:Cx)(r:V->Hp->(Bool->Hp->Prop)->Prop):Prop :=
 ∀(pins:List (dN×Obj))(s:dJ)(U:St)(H:Hp)(x:V)(v:dM)(Q:Bool->Hp->Prop),ZE X pins U H s->ZF x v->r x H Q ->
  wpAny (model X.prog X.w) X.A (truthy v) (TP X pins U Q) X.xe s
def J0(r:R2)(ta tb:TE):TE:=fun U H Q=>ta U H fun x H1=>tb U H1 fun y H2=>r x y H2 Q
def O4(r:V->Hp->VK->Prop)(ta:TE):TE:=fun U H Q=>ta U H fun x H1=>r x H1 Q
inductive rI(C:Int->Int->Prop)(g:Int->Int->V)(x y:V)(H:Hp)(Q:VK):Prop
 |mk(i j)(_:x=.int i)(_:y=.int j)(_:C i j)(_:Q (g i j) H)
inductive Jv(g:Int->Int->V)(x y:V)(H:Hp)(Q:VK):Prop
 |mk(i j)(_:x=.int i)(_:y=.int j)(_:Q (g i j) H)
inductive rU(g:Int->V)(x:V)(H:Hp)(Q:VK):Prop
 |mk(i)(_:x=.int i)(_:Q (g i) H)
theorem DT(ha:PE X a ta)(hb:PE X b tb){pins:List (dN×Obj)}{s:dJ}{U:St}{H:Hp}{R:V->V->Hp->Prop}(I:ZE X pins U H s)(h:ta U H fun x H1=>tb U H1 fun y H2=>R x y H2){Q:dD}{f:dM->dM->Sem dM}(hf:∀v u s2 x y H2,ZE X pins U H2 s2->ZF x v->ZF y u->R x y H2->wpAny (model X.prog X.w) X.A (f v u) Q X.xe s2) :
  wpAny (model X.prog X.w) X.A (eval a X.env) (fun v s₁=>wpAny (model X.prog X.w) X.A (eval b X.env) (fun u s₂=>wpAny (model X.prog X.w) X.A (f v u) Q X.xe s₂) X.xe s₁) X.xe s:=by
 refine thn (ha pins s U H _ I h) fun v s1 ⟨x,H1,I1,r1,q1⟩=>?_;refine thn (hb pins s1 U H1 _ I1 q1) fun u s2 ⟨y,H2,I2,r2,q2⟩=>?_;exact hf v u s2 x y H2 I2 r1 r2 q2
theorem opI{f:dM->dM->Sem dM}{C:Int->Int->Prop}{g:Int->Int->Int}(rule:∀i j t u s Q E,C i j->Q (.int (g i j) s.toks) {s with toks:=s.toks+1 }->wpAny (model X.prog X.w) X.A (f (.int i t) (.int j u)) Q E s) :
  Jn X f (rI C fun i j=>.int (g i j)):=by
 intro pins s U H x y v u Q I rx ry h;obtain⟨i,j,rfl,rfl,hc,q⟩:=h;obtain⟨t,rfl⟩:=rx;obtain⟨t',rfl⟩:=ry;exact rule i j t t' s _ _ hc ⟨.int (g i j),H,I.tok _,⟨_,rfl⟩,q⟩
theorem KW{f:dM->dM->Sem dM}{g:Int->Int->Int}(rule:∀i j t u s Q E,Q (.int (g i j) s.toks) {s with toks:=s.toks+1 }->wpAny (model X.prog X.w) X.A (f (.int i t) (.int j u)) Q E s) :
  Jn X f (Jv fun i j=>.int (g i j)):=by
 intro pins s U H x y v u Q I rx ry h;obtain⟨i,j,rfl,rfl,q⟩:=h;obtain⟨t,rfl⟩:=rx;obtain⟨t',rfl⟩:=ry;exact rule i j t t' s _ _ ⟨.int (g i j),H,I.tok _,⟨_,rfl⟩,q⟩
theorem CP{f:dM->dM->Sem dM}{g:Int->Int->Bool}(rule:∀i j t u s Q E,Q (.bool (g i j)) s->wpAny (model X.prog X.w) X.A (f (.int i t) (.int j u)) Q E s) :
  Jn X f (Jv fun i j=>.bl (g i j)):=by
 intro pins s U H x y v u Q I rx ry h;obtain⟨i,j,rfl,rfl,q⟩:=h;obtain⟨t,rfl⟩:=rx;obtain⟨t',rfl⟩:=ry;exact rule i j t t' s _ _ ⟨.bl (g i j),H,I,rfl,q⟩
def Hu(i j:Int):Prop:=0<j/\j<1073741824
def Ly(i j:Int):Prop:=0<=j/\j<=1000000/\i.natAbs<2^64
def Jx(i j:Int):Prop:=(-(2^64)<i/\i<2^64)\/(-(2^64)<j/\j<2^64)
theorem Jx.ok(h:Jx i j):IntMulOk i j:=by
 rcases h with⟨h1,h2⟩ | ⟨h1,h2⟩
 ·exact .of_left (intBits_le_64 h1 h2)
 ·exact .of_right (intBits_le_64 h1 h2)
def IY:V->V->Bool
 | .non,.non=>true | .non,.int _=>true | .int _,.non=>true | .non,.bl _=>true | .bl _,.non=>true | .non,.str _=>true | .str _,.non=>true
 | .int _,.int _=>true | .bl _,.bl _=>true | .str _,.str _=>true | .byt _,.byt _=>true
 | .int _,.str _=>true | .str _,.int _=>true | .bl _,.str _=>true | .str _,.bl _=>true
 | _,_=>false
def CL:R2:=fun x y H Q=>IY x y=true/\Q (.bl (decide (x=y))) H
def Rn:R2:=fun x y H Q=>IY x y=true/\Q (.bl (!decide (x=y))) H
theorem Iu:decide (V.int i=V.int j)=(i==j):=by
 rw[zE];simp
theorem HV:decide (V.bl i=V.bl j)=(i==j):=by
 rw[zE];simp
theorem FC:decide (V.str i=V.str j)=(i==j):=by
 rw[zE];simp
theorem Lq:decide (V.byt i=V.byt j)=(i.toList==j.toList):=by
 rw[zE];cases i;cases j;simp
section
variable{b:Expr}{ta tb tc:TE}
theorem Yh{pins:List (dN×Obj)}{U:St}{H:Hp}{s:dJ}{Q:VK}{k k':Bool}(I:ZE X pins U H s)(q:Q (.bl k) H)(e:k=k'):EP X pins U Q (.bool k') s:=by
 subst e;exact⟨.bl k,H,I,rfl,q⟩
theorem Zu(b:Expr)(h:op ≠ .In:=by decide)(h2:op ≠ .NotIn:=by decide):behindInMarks op b=false:=by
 have e1:(op==CmpOp.In)=false:=by cases op<;>first | rfl | exact absurd rfl h
 have e2:(op==CmpOp.NotIn)=false:=by cases op<;>first | rfl | exact absurd rfl h2
 cases b<;>simp[behindInMarks,e1,e2]
def BK(t:TE):TT:=fun U H Q=>t U H fun x H'=>∃k,x=.bl k/\Q k H'
inductive Js(r':R2)(tc:TE)(U:St)(Q:VK)(y z:V)(H3:Hp):Prop
 |mk(k)(_:z=.bl k)(_:(if k=true then tc U H3 fun w' H4=>r' y w' H4 Q else Q (.bl false) H3))
def Km(r r':R2)(ta tb tc:TE):TE:=fun U H Q=>ta U H fun x H1=>tb U H1 fun y H2=>r x y H2 fun z H3=>Js r' tc U Q y z H3
def GD(K:uFg)(x:V)(H:Hp)(k:Bool):Prop :=
 match x with
 | .non=>k=false
 | .bl b=>k=b
 | .int i=>k=(i != 0)
 | .str y=>y.length<=sizeLine/\k=((y.length:Int) != 0)
 | .byt y=>y.size<=sizeLine/\k=((y.size:Int) != 0)
 | .ref p=>(∃xs,ZG K H p xs/\k = !xs.isEmpty)\/(∃xs,ZP K H p xs/\k = !xs.isEmpty)\/∃kvs,H p=some (.dK kvs)/\k = !kvs.isEmpty
 | _=>False
theorem X4{κ:Type}{kvs:List (κ×V)}{vs:List (κ×dM)}(r:KV kvs vs):(!vs.isEmpty)= !kvs.isEmpty:=by
 cases r<;>rfl
theorem Lh(r:ZH xs its):(!its.toArray.isEmpty)= !xs.isEmpty:=by
 cases r<;>simp
theorem A8:(sizeLine:Nat)<2^63:=by rw[sizeLine_eq];decide
theorem RH:X9 X (fun x H Q=>∃k,GD X.K x H k/\Q k H):=by
 intro pins s U H x v Q I rx h;obtain⟨k,e,q⟩:=h;have hl:=A8;have hs:sizeLine=16777216:=sizeLine_eq;cases x with
 | non =>
  cases rx;have e':k=false:=e;subst e';exact truthy_none ⟨H,I,q⟩
 | bl b =>
  cases rx;have e':k=b:=e;subst e';exact wpAny_truthy_bool ⟨H,I,q⟩
 | int i =>
  obtain⟨t,rfl⟩:=rx;have e':k=(i != 0):=e;subst e';exact PySem.P.truthy_int ⟨H,I,q⟩
 | str y =>
  obtain⟨t,rfl⟩:=rx;obtain⟨hy,e'⟩:y.length<=sizeLine/\k=((y.length:Int) != 0):=e;subst e';exact PySem.P.truthy_str (by lia) ⟨H,I.tok _,q⟩
 | byt y =>
  obtain⟨t,rfl⟩:=rx;obtain⟨hy,e'⟩:y.size<=sizeLine/\k=((y.size:Int) != 0):=e;subst e';exact PySem.W.truthy_bytes (by lia) ⟨H,I.tok _,q⟩
 | ref p =>
  cases rx;have e':(∃xs,ZG X.K H p xs/\k = !xs.isEmpty)\/(∃xs,ZP X.K H p xs/\k = !xs.isEmpty)\/∃kvs,H p=some (.dK kvs)/\k = !kvs.isEmpty:=e;rcases e' with⟨xs,hx,e'⟩ | ⟨xs,hx,e'⟩ | ⟨kvs,hx,e'⟩
  ·subst e';obtain⟨its,r,pl,hz⟩:=I.list hx;have hlen:=r.length;exact wpAny_truthy_list pl.isList (by simp only[xS];lia) ⟨H,I.tok _,by rw[Lh r];exact q⟩
  ·subst e';obtain⟨its,r,pl,hz⟩:=I.tuple hx;have hlen:=r.length;exact truthy_tuple pl (by simp only[xS];lia) ⟨H,I.tok _,by rw[Lh r];exact q⟩
  ·subst e';obtain⟨hz,hS,vs,r,m⟩:kvs.length<=sizeLine/\(p==sysModules)=false/\∃vs,KV kvs vs/\s.heap.DictOf (Yx X.prog X.w) p vs:=I.hok p _ hx;have hlen:kvs.length=vs.length:=Paired.length r;exact wpAny_truthy_dict hS m (by lia) ⟨H,I.tok _,by rw[X4 r];exact q⟩
 | _=>exact(show False from e).elim
theorem Vg(r:ZH [x] us):∃u,us=[u]/\ZF x u:=by
 cases r with
 | cons r1 r2=>cases r2;exact⟨_,rfl,r1⟩
theorem DN(r:ZH [x,y] us):∃u w',us=[u,w']/\ZF x u/\ZF y w':=by
 cases r with
 | cons r1 r2 =>
  cases r2 with
  | cons r3 r4=>cases r4;exact⟨_,_,rfl,r1,r3⟩
end
structure UO (h:Heap) (x dx C:dN) (mA:dE):Prop where
 obj:h.get? x=some (PySem.W.instObj C dx)
 ns:h.Ns1 dx mA
 ne:dx≠x
theorem Sn{h:Heap}{dx:dN}{mA:dE}(n:h.Ns1 dx mA):∃od,h.get? dx=some od/\∀name,PySem.W.lookIn name od=some (mA name):=by
 obtain⟨o,es,ep,ho,hd,hk,_,hm⟩:=n;refine⟨o,ho,fun name=>?_⟩;have e:=hm name;unfold nsFind findBy at e;rw[← Array.find?_toList] at e;unfold PySem.W.lookIn;rw[hd];dsimp only;split
 ·rename_i y q;rw[q] at e;exact congrArg some e
 ·rename_i q;rw[q] at e;have a:es.toList.any (·.refKey)=false:=by
   rw[List.any_eq_false];intro y hy;obtain⟨z,t,hkey⟩:=hk y (Array.mem_toList_iff.mp hy);simp[DictEntry.refKey,hkey]
  have a':¬es.toList.any (·.refKey)=true:=by rw[a];exact xI
  rw[if_neg a'];exact congrArg some e
theorem UO.look(I:UO h x dx C mA):∃od,PySem.W.InstAt h x (PySem.W.instObj C dx) C (some od)/\∀name,PySem.W.lookIn name od=some (mA name) :=
 let ⟨od,ho,hl⟩:=Sn I.ns
 ⟨od,⟨I.obj,rfl,rfl,ho⟩,hl⟩
section
variable{prog:dO}{w:dP}{A:dQ}{E:dD}{s:dJ}{K:uFg}{x dx C f:dN}{mA:dE}{name:Str}{v:dM}
theorem cN{expr:Bool}{Q:dD}(X:K.In s.heap)(I:UO s.heap x dx C mA)(hg:PySem.W.plainGet K C name=true)(hh:PySem.W.hasDictIn K C=true)(ha:PySem.W.findIn K (.ref C) name=some none)(hv:mA name=some v)(hv':PySem.W.handedIn v=true)(h:Q v {s with toks:=s.toks+1 }) :
  wpAny (model prog w) A (getAttr (.ref x) name expr) Q E s:=by
 obtain⟨od,J,hl⟩:=I.look;exact PySem.W.get_value X J (PySem.W.plainGet_of hg).1 (PySem.W.findObj_own hh ha rfl (by rw[hl,hv])) hv' h
theorem NW{pl:Sem Bool}{Q:dM×List dM->dJ->Prop}(X:K.In s.heap)(I:UO s.heap x dx C mA)(hg:PySem.W.plainGet K C name=true)(hf:PySem.W.findIn K (.ref C) name=some (some (.ref f)))(ht:PySem.W.isFn K (.ref f)=true)(hv:mA name=none)(h:Q (.ref f,[.ref x]) s) :
  wpAny (model prog w) A (getMethod (.ref x) name pl) Q E s:=by
 obtain⟨od,J,hl⟩:=I.look;exact PySem.W.method_fn X J (PySem.W.plainGet_of hg).1 (PySem.W.plainGet_of hg).2 hf (beq_iff_eq.mp ht) (by show (PySem.W.lookIn name od).map (·.isSome)=some false;rw[hl,hv];rfl) h
theorem bW{ns:dF}{Q:Unit->dJ->Prop}(X:K.In s.heap)(I:UO s.heap x dx C mA)(hs:PySem.W.findIn K (.ref C) "__setattr__"=some (some (.builtin "object.__setattr__")))(hp:PySem.W.plainOver K C=true)(ht:PySem.W.takerIn K C name=some none)(hh:PySem.W.hasDictIn K C=true)(hw:PySem.Within mA ns)(hsz:ns.length<=sizeLine)(h:∀h',UO h' x dx C (fun y=>if y=name then some v else mA y)->Heap.SameBut dx s.heap h'->Q () {s with heap:=h',toks:=s.toks+2 }) :
  wpAny (model prog w) A (setAttr (.ref x) name v) Q E s:=by
 obtain⟨od,J,hl⟩:=I.look;refine PySem.W.set_plain X J hs (PySem.W.osa_open (s:={s with toks:=s.toks+1 }) (r:=none) X J hp ht fun b=>?_);obtain⟨cd,hc,hd'⟩:=PySem.W.any_some hh;have hx:s.heap.get? x=some ⟨.ref C,some dx,.plain,#[]⟩:=I.obj;refine wpAny_bind (wpAny_pure (wpAny_bind (wpAny_bind (wpAny_loadPart hx (wpAny_bind (PySem.W.Looks.here (s:={s with toks:=s.toks+1 }) (PySem.W.looks_clsIn X hc) ?_))))));rw[hd'];refine wpAny_pure (a:=some dx) (wpAny_bind (wpAny_pure (wpAny_bind ?_)));refine wpAny_nsSet1 (s:={s with toks:=s.toks+1 }) I.ns fun h' hn2 hs2=>?_;obtain⟨oD,esD,epD,hoD,hdD,hcD⟩:=hn2.count (PySem.Within.cons name v hw);refine wpAny_bind (wpAny_lookBehind hoD (by rw[hdD];exact pastItsLine_dict (xW hcD (by rw[xX];lia))) ?_);exact wpAny_pure (h _ ⟨(hs2.2 _ (Ne.symm I.ne)).trans I.obj,hn2,I.ne⟩ hs2)
theorem Ri{R:Result->dJ->Prop}{vs:dG}{kw:List (Str×dM)}(X:K.In s.heap)(hm:PySem.W.makesIn K C=true)(hi:PySem.W.findIn K (.ref C) "__init__"=some (some (.ref f)))(hf:PySem.W.typeIn K (.ref f)=some (.type "function"))(h:codeAny (model prog w) (A.under (.builtin "type.__call__" ⟨.ref C::vs,kw⟩)) (.call (.ref f) ⟨.ref (s.heap.objs.size+1)::vs,kw⟩) (PySem.W.InitBack (s.heap.objs.size+1) R) {s with heap:=(s.heap.push PySem.W.emptyDict).push (PySem.W.instObj C s.heap.objs.size) }) :
  codeAny (model prog w) A (.call (.ref C) ⟨vs,kw⟩) R s:=by
 obtain⟨hh,g,d,t,os⟩:=s;exact PySem.W.make_core (PySem.W.makes_of X hm) (PySem.W.looks_findIn X hi) (fun self=>PySem.W.bind_fn X self hf) (.inl rfl) h
end
def Zj(f:Str)(v:V):List (Str×V)->List (Str×V)
 | []=>[(f,v)]
 | (g,x)::r=>if g=f then (g,v)::r else (g,x)::Zj f v r
theorem Yt(f g:Str)(v:V):∀fs:List (Str×V),(Zj f v fs).lookup g=if g=f then some v else fs.lookup g
 | []=>by
  show List.lookup g [(f,v)]=_
  by_cases h:g=f
  ·grind
  ·grind
 | (k,x)::r=>by
  have ih:=Yt f g v r;rw[show Zj f v ((k,x)::r)=(if k=f then (k,v)::r else (k,x)::Zj f v r) from rfl]
  by_cases hk:k=f
  ·grind
  ·grind
theorem EV(f:Str)(v:V):∀fs:List (Str×V),f∈(Zj f v fs).map (·.1)/\∀g,g∈fs.map (·.1)->g∈(Zj f v fs).map (·.1)
 | []=>⟨by simp[Zj],fun g h=>by simp at h⟩
 | (k,x)::r=>by
  obtain⟨i1,i2⟩:=EV f v r;rw[show Zj f v ((k,x)::r)=(if k=f then (k,v)::r else (k,x)::Zj f v r) from rfl]
  by_cases hk:k=f
  ·rw[if_pos hk];subst hk;exact⟨by simp,fun g h=>by simpa using h⟩
  ·grind
theorem Ag(f:Str)(v:V):∀fs:List (Str×V),(Zj f v fs).length<=fs.length+1
 | []=>by simp[Zj]
 | (k,x)::r=>by
  have ih:=Ag f v r;rw[show Zj f v ((k,x)::r)=(if k=f then (k,v)::r else (k,x)::Zj f v r) from rfl]
  by_cases hk:k=f
  ·rw[if_pos hk,xX,xX];lia
  ·rw[if_neg hk,xX,xX];lia
theorem YM.some_of(r:YM (some v) o):∃u,o=some u/\ZF v u:=by
 cases o with
 | none=>exact(show False from r).elim
 | some u=>exact⟨u,rfl,r⟩
theorem YM.none_of(r:YM none o):o=none:=by
 cases o with
 | none=>rfl
 | some u=>exact(show False from r).elim
theorem Nx(r:ZF v u):PySem.W.handedIn u=true:=by
 cases v with
 | non=>cases (show u=Value.none from r);rfl
 | bl b=>cases (show u=Value.bool b from r);rfl
 | int i=>obtain⟨t,e⟩:=(show ∃t,u=Value.int i t from r);cases e;rfl
 | str x=>obtain⟨t,e⟩:=(show ∃t,u=Value.str x t from r);cases e;rfl
 | byt b=>obtain⟨t,e⟩:=(show ∃t,u=Value.bytes b t from r);cases e;rfl
 | flt b=>obtain⟨t,e⟩:=(show ∃t,u=Value.float b t from r);cases e;rfl
 | ref a=>cases (show u=Value.ref a from r);rfl
 | ty n=>cases (show u=Value.type n from r);rfl
theorem Cm(hok:YN P w H h)(e:H a=some (.ins C dx fs)):∃mA,UO h a dx C mA/\(∀f,YM (fs.lookup f) (mA f))/\PySem.Within mA (fs.map (·.1))/\fs.length<=1000/\H dx=some (.own a):=by
 obtain⟨d,z,ne,ob,mA,n,r,q⟩:=(show ZL P w H h a (.ins C dx fs) from hok a _ e);exact⟨mA,⟨ob,n,ne⟩,r,q,z,d⟩
structure Tg (K:uFg) (C:dN):Prop where
 pg:PySem.W.plainGet K C Str.empty=true
 hd:PySem.W.hasDictIn K C=true
 po:PySem.W.plainOver K C=true
 sa:PySem.W.findIn K (.ref C) "__setattr__"=some (some (.builtin "object.__setattr__"))
theorem Tg.get{K:uFg}{C:dN}(c:Tg K C)(f:Str):PySem.W.plainGet K C f=true:=c.pg
def ZV(K:uFg)(C:dN)(f:Str):Prop:=PySem.W.findIn K (.ref C) f=some none
theorem ZV.taker{K:uFg}{C:dN}{f:Str}(n:ZV K C f):PySem.W.takerIn K C f=some none:=by
 unfold PySem.W.takerIn;rw[show PySem.W.findIn K (.ref C) f=some none from n];rfl
structure Jd (K:uFg) (C:dN) (m:Str) (f:dN):Prop where
 at_:PySem.W.findIn K (.ref C) m=some (some (.ref f))
 fn:PySem.W.isFn K (.ref f)=true
 kp:PySem.W.keepIn K (.ref f)=true
section
variable{X:Cx}{pins:List (dN×Obj)}{U:St}{H:Hp}{s:dJ}{a C dx:dN}{fs:List (Str×V)}{f:Str}{v:V}{A:dQ}{E:dD}
theorem XN{b:Bool}{Q:dD}(I:ZE X pins U H s)(e:H a=some (.ins C dx fs))(c:Tg X.K C)(n:ZV X.K C f)(l:fs.lookup f=some v)(h:∀u s',ZE X pins U H s'->ZF v u->Q u s'):wpAny (model X.prog X.w) A (getAttr (.ref a) f b) Q E s:=by
 obtain⟨mA,O,r,_,_,_⟩:=Cm I.hok e;obtain⟨u,hu,ru⟩:=YM.some_of (v:=v) (o:=mA f) (by rw[← l];exact r f);exact cN I.kIn O (c.get f) c.hd n hu (Nx ru) (h u _ (I.tok _) ru)
theorem Hm{m:Str}{g:dN}{pl:Sem Bool}{Q:dM×List dM->dJ->Prop}(I:ZE X pins U H s)(e:H a=some (.ins C dx fs))(c:Tg X.K C)(k:Jd X.K C m g)(l:fs.lookup m=none)(h:Q (.ref g,[.ref a]) s):wpAny (model X.prog X.w) A (getMethod (.ref a) m pl) Q E s:=by
 obtain⟨mA,O,r,_,_,_⟩:=Cm I.hok e;have hn:mA m=none:=YM.none_of (by rw[← l];exact r m);exact NW I.kIn O (c.get m) k.at_ k.fn hn h
theorem OE{y:V}{u:dM}{Q:Unit->dJ->Prop}(I:ZE X pins U H s)(e:H a=some (.ins C dx fs))(c:Tg X.K C)(n:ZV X.K C f)(hl:fs.length<1000)(ry:ZF y u)(h:∀s',ZE X pins U (upd H a (.ins C dx (Zj f y fs))) s'->Q () s'):wpAny (model X.prog X.w) A (setAttr (.ref a) f u) Q E s:=by
 obtain⟨mA,O,r,wi,_,ho⟩:=Cm I.hok e;have hz:(fs.map (·.1)).length<=sizeLine:=by rw[xB,sizeLine_eq];lia
 refine bW I.kIn O c.sa c.po n.taker c.hd wi hz fun h' O' sb=>h _ ?_;have hd:∃o,h'.get? dx=some o:=let ⟨o,_,_,e',_⟩:=O'.ns;⟨o,e'⟩
 refine I.write (x:=a) (e:=dx) (by rw[e];exact True.intro) (.inr ho) (fun b q hb z=>(sb.2 b hb).trans z) hd ?_;refine⟨by rw[Zc O.ne];exact ho,?_,O.ne,O'.obj,_,O'.ns,fun g=>?_,fun g hg=>?_⟩
 ·have:=Ag f y fs;lia
 ·show YM ((Zj f y fs).lookup g) (if g=f then some u else mA g);rw[Yt]
  by_cases q:g=f
  ·rw[if_pos q,if_pos q];exact ry
  ·rw[if_neg q,if_neg q];exact r g
 ·by_cases q:g=f
  ·rw[q];exact(EV f y fs).1
  ·refine(EV f y fs).2 g (wi g fun z=>hg ?_);show (if g=f then some u else mA g)=none;rw[if_neg q];exact z
theorem ZE.made(I:ZE X pins U H s):ZE X pins U (upd (upd H s.heap.objs.size (.own (s.heap.objs.size+1))) (s.heap.objs.size+1) (.ins C s.heap.objs.size []))
  {s with heap:=(s.heap.push PySem.W.emptyDict).push (PySem.W.instObj C s.heap.objs.size) }:=by
 have e1:(s.heap.push PySem.W.emptyDict).get? s.heap.objs.size=some PySem.W.emptyDict:=xG s.heap rfl;have e2:((s.heap.push PySem.W.emptyDict).push (PySem.W.instObj C s.heap.objs.size)).get? (s.heap.objs.size+1)=some (PySem.W.instObj C s.heap.objs.size):=by
  have:=xG (s.heap.push PySem.W.emptyDict) (o:=PySem.W.instObj C s.heap.objs.size) rfl
  rwa [yX] at this
 have e3:(s.heap.push PySem.W.emptyDict).Ns s.heap.objs.size (fun _=>none):=⟨PySem.W.emptyDict,#[],_,e1,rfl,(fun e he=>absurd he (by simp)),fun _=>rfl⟩;have I1:=I.laid (a:=s.heap.objs.size) (o:=.own (s.heap.objs.size+1)) (h':=s.heap.push PySem.W.emptyDict) (t':=s.toks) (fun b u q=>xA _ q) (xD _) ⟨_,e1⟩;refine I1.laid (a:=s.heap.objs.size+1) (o:=.ins C s.heap.objs.size []) (t':=s.toks) (fun b u q=>xA _ q) (Nat.le_of_eq (yX _ _)) ?_;have ne:s.heap.objs.size≠s.heap.objs.size+1:=xY (Nat.lt_succ_self _);refine⟨by rw[Zc ne,Zg],xZ _,ne,e2,fun _=>none,(Heap.Ns1.of_empty e3).at fun o q=>xA _ q,fun _=>True.intro,fun y hy=>absurd rfl hy⟩
theorem SB(hb:attributeBase e f env (eval e env)=eval e env)(h:wpAny (model prog w) A (eval e env) (fun o s₁=>wpAny (model prog w) A (getAttr o f true) Q E s₁) E s):wpAny (model prog w) A (eval (.Attribute e f pos) env) Q E s :=
 Attribute_any_ h (by rw[arm_eval_Attribute,hb])
end
inductive BA(K:uFg)(f:Str)(Q:VK)(x:V)(H1:Hp):Prop
 |mk(a C dx fs v)(_:x=.ref a)(_:H1 a=some (.ins C dx fs))(_:Tg K C)(_:ZV K C f)(_:fs.lookup f=some v)(_:Q v H1)
def DF(K:uFg)(ta:TE)(f:Str):TE:=fun U H Q=>ta U H fun x H1=>BA K f Q x H1
inductive sFld_(K:uFg)(f:Str)(D:YK)(U:St)(y x:V)(H2:Hp):Prop
 |mk(a C dx fs)(_:x=.ref a)(_:H2 a=some (.ins C dx fs))(_:Tg K C)(_:ZV K C f)(_:fs.length<1000)(_:D.nx U (upd H2 a (.ins C dx (Zj f y fs))))
def NI(K:uFg)(ta tv:TE)(f:Str):TS:=fun D U H=>tv U H fun y H1=>ta U H1 fun x H2=>sFld_ K f D U y x H2
theorem IX(he:PE X e ta)(hb:attributeBase e f X.env (eval e X.env)=eval e X.env):PE X (.Attribute e f pos) (DF X.K ta f):=by
 intro pins s U H Q I h;refine SB hb (thn (he pins s U H _ I h) fun u s1 ⟨x,H1,I1,rx,a,C,dx,fs,v,ex,ea,c,n,l,q⟩=>?_);subst ex;obtain rfl:u=Value.ref a:=rx;exact XN I1 ea c n l fun u' s2 I2 ru=>⟨v,H1,I2,ru,q⟩
section
variable{X:Cx}{pins:List (dN×Obj)}{U:St}{H:Hp}{s:dJ}{A:dQ}{E:dD}{Q:dD}{c:dM}{b:Bool}
inductive YT (K:uFg) (H:Hp):V->dM->Prop where
 | non:YT K H .non (.type "NoneType")
 | bl (x:Bool):YT K H (.bl x) (.type "bool")
 | int (i:Int):YT K H (.int i) (.type "int")
 | str (x:Str):YT K H (.str x) (.type "str")
 | flt (x:UInt64):YT K H (.flt x) (.type "float")
 | lst {a:dN}{xs:aG}(e:H a=some (.lst xs)):YT K H (.ref a) (.type "list")
 | frz {a:dN}{o:Obj}{xs:aG}(e:H a=some (.frz o (.lst xs))):YT K H (.ref a) (.type "list")
 | tup {a:dN}{xs:aG}(e:H a=some (.tup xs)):YT K H (.ref a) (.type "tuple")
 | dK {a:dN}{kvs:List (ZM×V)}(e:H a=some (.dK kvs)):YT K H (.ref a) (.type "dict")
 | dT {a:dN}{kvs:List (List ZM×V)}(e:H a=some (.dT kvs)):YT K H (.ref a) (.type "dict")
 | ins {a C dx:dN}{fs:List (Str×V)}(e:H a=some (.ins C dx fs)) (cl:Tg K C) (ha:PySem.W.findIn K (.ref C) "__class__"=some (some (.builtin "object.__class__")))
   (hn:PySem.W.specialIn K (.builtin "object.__class__") "__get__"=some (some (.builtin "getset_descriptor.__get__"))) (htk:PySem.W.takesIn K (.builtin "object.__class__")=some true)
   (hm:PySem.W.mroIn K C (.type "object")=some true):YT K H (.ref a) (.ref C)
theorem NX{x:V}{u t:dM}(I:ZE X pins U H s)(rx:ZF x u)(ty:YT X.K H x t)(e:PySem.W.kitOne X.K t c=some b)(h:∀tk,Q (.bool b) {s with toks:=tk }) :
  wpAny (model X.prog X.w) A (call (.builtin "isinstance") [u,c]) Q E s:=by
 cases ty with
 | non=>cases (show u=Value.none from rx);exact PySem.W.kia_one PySem.W.kitx_none I.kIn True.intro e (fun z=>nomatch z) h
 | bl y=>cases (show u=Value.bool y from rx);exact PySem.W.kia_one PySem.W.kitx_bool I.kIn True.intro e (fun z=>nomatch z) h
 | int i=>obtain⟨t,q⟩:=(show ∃t,u=Value.int i t from rx);cases q;exact PySem.W.kia_one PySem.W.kitx_int I.kIn True.intro e (fun z=>nomatch z) h
 | str y=>obtain⟨t,q⟩:=(show ∃t,u=Value.str y t from rx);cases q;exact PySem.W.kia_one PySem.W.kitx_str I.kIn True.intro e (fun z=>nomatch z) h
 | flt y=>obtain⟨t,q⟩:=(show ∃t,u=Value.float y t from rx);cases q;exact PySem.W.kia_one PySem.W.kitx_float I.kIn True.intro e (fun z=>nomatch z) h
 | @lst a xs ea =>
  cases (show u=Value.ref a from rx);obtain⟨_,_,n,_,h1⟩:=(show ZL X.prog X.w H s.heap a (.lst xs) from I.hok a _ ea);exact PySem.W.kia_one PySem.W.kitx_list I.kIn ⟨_,h1,rfl⟩ e (fun z=>nomatch z) h
 | @frz a ob xs ea =>
  cases (show u=Value.ref a from rx);obtain⟨_,_,_,n,_,h1⟩:=(show ZL X.prog X.w H s.heap a (.frz ob (.lst xs)) from I.hok a _ ea);exact PySem.W.kia_one PySem.W.kitx_list I.kIn ⟨_,h1,rfl⟩ e (fun z=>nomatch z) h
 | @tup a xs ea =>
  cases (show u=Value.ref a from rx);obtain⟨_,_,_,p⟩:=(show ZL X.prog X.w H s.heap a (.tup xs) from I.hok a _ ea);obtain⟨o,h1,h2,_⟩:=p;exact PySem.W.kia_one PySem.W.kitx_tuple I.kIn ⟨o,h1,h2⟩ e (fun z=>nomatch z) h
 | @dK a kvs ea =>
  cases (show u=Value.ref a from rx);obtain⟨_,_,vs,_,p⟩:=(show ZL X.prog X.w H s.heap a (.dK kvs) from I.hok a _ ea);obtain⟨o,es,ep,h1,h2,_⟩:=p;exact PySem.W.kia_one PySem.W.kitx_dict I.kIn ⟨o,h1,h2.1⟩ e (fun z=>nomatch z) h
 | @dT a kvs ea =>
  cases (show u=Value.ref a from rx);obtain⟨_,_,xs,_,o,es,ep,h1,h2,_⟩:=(show ZL X.prog X.w H s.heap a (.dT kvs) from I.hok a _ ea);exact PySem.W.kia_one PySem.W.kitx_dict I.kIn ⟨o,h1,h2.1⟩ e (fun z=>nomatch z) h
 | @ins a C dx fs ea cl ha hn htk hm =>
  cases (show u=Value.ref a from rx);obtain⟨mA,O,_⟩:=Cm I.hok ea;obtain⟨od,J,_⟩:=O.look;exact PySem.W.kia_one (PySem.W.kitx_own (cl.get _) cl.hd ha hn htk hm) I.kIn J e (fun z=>nomatch z) h
end
structure ZN (k:Nat) (A:dQ):Prop where
 hd:A.handled=none
 dp:A.depth+3 * k+5<recursionLimit
 un:A.units+16 * k+200<cLine
theorem ZN.mono(r:ZN k A)(h:j<=k):ZN j A:=⟨r.hd,by have:=r.dp;lia,by have:=r.un;lia⟩
theorem ZN.deeper(r:ZN (k+1) A)(env:Env):ZN k (A.deeper env) :=
 ⟨r.hd,by have:=r.dp;show A.depth+1+3 * k+5<_;lia,by have:=r.un;show A.units+3+16 * k+200<_;lia⟩
theorem ZN.in1(r:ZN (k+1) A):ZN k A.in1 :=
 ⟨r.hd,by have:=r.dp;show A.depth+3 * k+5<_;lia,by have:=r.un;show A.units+1+16 * k+200<_;lia⟩
theorem Ru{A:dQ}{C:dN}{us:dG}{kw:List (Str×dM)}:(A.under (.builtin "type.__call__" ⟨.ref C::us,kw⟩)).depth=A.depth+1:=by
 first | rfl | simp[Around.under,Code.weight,Code.isCreation,Code.isGuard,Code.isCaller,Code.frames,Code.isFrame,guardIds]
theorem Qe{A:dQ}{C:dN}{us:dG}{kw:List (Str×dM)}:(A.under (.builtin "type.__call__" ⟨.ref C::us,kw⟩)).units=A.units+1:=by
 first | rfl | simp[Around.under,Code.cUnits,Code.frames,Code.isFrame]
theorem ZN.make(r:ZN (k+1) A)(C:dN)(us:dG)(kw:List (Str×dM)):ZN k (A.under (.builtin "type.__call__" ⟨.ref C::us,kw⟩)) :=
 ⟨r.hd,by have:=r.dp;rw[Ru];lia,by have:=r.un;rw[Qe];lia⟩
theorem ZN.depth(r:ZN k A):A.depth<recursionLimit:=by have:=r.dp;lia
theorem ZN.units(r:ZN k A):A.units+64<cLine:=by have:=r.un;lia
def Ub:TA:=fun _ H Q=>Q [] H
def Vr(ta:TE)(tr:TA):TA:=fun U H Q=>ta U H fun x H1=>tr U H1 fun xs H2=>Q (x::xs) H2
section
variable{t:TA}
def MJ(t:TA):TE:=fun U H Q=>t U H fun xs H1=>xs.length<=sizeLine/\∀p,H1 p=none->Q (.ref p) (upd H1 p (.tup xs))
def MA(t:TA):TE:=fun U H Q=>t U H fun xs H1=>xs.length<=sizeLine/\∀p,H1 p=none->Q (.ref p) (upd H1 p (.lst xs))
end
abbrev Sp:=List V->Hp->VK->XK->Prop
abbrev Tx:=List Env->Hp->dJ->XK->dM->dJ->Prop
structure VL (P:dO) (w:dP) (K:uFg) (mg:dE) (base:Heap) (A:dQ) (outer:List Env) (s:dJ) (H:Hp):Prop where
 frames:A.frames=some outer
 mod:Mod K mg base
 bs:∀b o,base.get? b=some o->s.heap.get? b=some o/\H b=none
 bsz:base.objs.size<=s.heap.objs.size
 funs:s.heap.FunFrames base outer
 frf:∀b∈frs outer,H b=none
 hok:YN P w H s.heap
 bare:AllBare s.gens
def CE(outer:List Env)(P:dO)(w:dP)(H:Hp)(s:dJ)(Q:VK)(u:dM)(s':dJ):Prop :=
 ∃v H',s'.os=s.os/\AllBare s'.gens/\Un (frs outer) [] H H' s.heap s'.heap/\YN P w H' s'.heap/\ZF v u/\Q v H'
def CR(CX:Tx)(outer:List Env)(P:dO)(w:dP)(H:Hp)(s:dJ)(Q:VK)(E:XK)(r:Result)(s':dJ):Prop :=
 match r with
 | .ok (.ret u)=>CE outer P w H s Q u s'
 | .ok _=>False
 | .error e=>CX outer H s E e s'
structure YG (P:dO) (w:dP) (K:uFg) (mg:dE) (base:Heap) (CX:Tx) (k:Nat) (f:dN) (fd:FuncData) (ps:dF) (sp:Sp):Prop where
 len:∀vs H Q E,sp vs H Q E->vs.length=ps.length
 run:∀(A:dQ)(outer:List Env)(s:dJ)(H:Hp)(args:Args)(us:dG)(vs:aG)(Q:VK)(E:XK),ZN k A->VL P w K mg base A outer s H->BindsTo s fd args (ps.zip us)->ZH vs us->sp vs H Q E ->
  codeAny (model P w) A (.call (.ref f) args) (CR CX outer P w H s Q E) s
theorem YG.mono{P:dO}{w:dP}{K:uFg}{mg:dE}{base:Heap}{CX:Tx}{j k:Nat}{f:dN}{fd:FuncData}{ps:dF}{sp:Sp}(F:YG P w K mg base CX j f fd ps sp)(h:j<=k) :
  YG P w K mg base CX k f fd ps sp:=⟨F.len,fun A outer s H args us vs Q E hr=>F.run A outer s H args us vs Q E (hr.mono h)⟩
theorem YG.imp{P:dO}{w:dP}{K:uFg}{mg:dE}{base:Heap}{CX:Tx}{k:Nat}{f:dN}{fd:FuncData}{ps:dF}{sp sp':Sp}(F:YG P w K mg base CX k f fd ps sp)(h:∀vs H Q E,sp' vs H Q E->sp vs H Q E):YG P w K mg base CX k f fd ps sp' :=
 ⟨fun vs H Q E q=>F.len vs H Q E (h _ _ _ _ q),fun A outer s H args us vs Q E hr he hb hv hs=>F.run A outer s H args us vs Q E hr he hb hv (h _ _ _ _ hs)⟩
theorem VL.make{P:dO}{w:dP}{K:uFg}{mg:dE}{base:Heap}{A:dQ}{outer:List Env}{s:dJ}{H:Hp}(e:VL P w K mg base A outer s H)(C:dN)(us:dG)(kw:List (Str×dM)) :
  VL P w K mg base (A.under (.builtin "type.__call__" ⟨.ref C::us,kw⟩)) outer s H:=⟨by first | exact e.frames | (simpa [Around.under,Code.envs,Code.isFrame,pushEnvs] using e.frames),e.mod,e.bs,e.bsz,e.funs,e.frf,e.hok,e.bare⟩
section
variable{X:Cx}{pins:List (dN×Obj)}{U:St}{H:Hp}{s s':dJ}
theorem ZE.env0(I:ZE X pins U H s):VL X.prog X.w X.K X.mg X.base X.A X.stack s H :=
 ⟨I.ok.frames,I.ok.mod,I.bs,xW I.ok.bsz I.sz,I.stack,I.stkFree,I.hok,I.bare⟩
theorem ZE.after{Q:VK}{u:dM}(I:ZE X pins U H s)(h:CE X.stack X.prog X.w H s Q u s'):EP X pins U Q u s':=by
 obtain⟨v,H',os,bare,un,hok,r,q⟩:=h;obtain⟨hh,g,d,t,os'⟩:=s';obtain rfl:os'=s.os:=os;exact⟨v,H',I.call (h':=hh) (g':=g) (d':=d) (t':=t) (ch:=[]) un hok bare (fun b z=>absurd z (by simp)),r,q⟩
end
def DG(sp:Sp)(dvs:aG)(E:XK)(t:TA):TE:=fun U H Q=>t U H fun vs H1=>sp (vs++dvs) H1 Q E
inductive A2(C:dN)(m:Str)(sp:Sp)(dvs:aG)(E:XK)(t:TA)(U:St)(Q:VK)(x:V)(H1:Hp):Prop
 |mk(a dx fs)(_:x=.ref a)(_:H1 a=some (.ins C dx fs))(_:fs.lookup m=none)(_:t U H1 fun vs H2=>sp (x::(vs++dvs)) H2 Q E)
def Dd(C:dN)(m:Str)(sp:Sp)(dvs:aG)(E:XK)(ta:TE)(t:TA):TE:=fun U H Q=>ta U H fun x H1=>A2 C m sp dvs E t U Q x H1
def KF(C:dN)(sp:Sp)(dvs:aG)(E:XK)(t:TA):TE:=fun U H Q=>t U H fun vs H1=>∀x dx,H1 x=none->H1 dx=none->dx≠x ->
 sp (.ref x::(vs++dvs)) (upd (upd H1 dx (.own x)) x (.ins C dx [])) (fun v H2=>v=.non/\Q (.ref x) H2) E
def YL(K:uFg)(fd:FuncData)(ps:dF)(ds:dG):Prop :=
 ∀s us,K.In s.heap->(us++ds).length=ps.length->BindsTo s fd ⟨us,[]⟩ (ps.zip (us++ds))
theorem YL.all{K:uFg}{fd:FuncData}{ps:dF}(h:∀us:List dM,us.length=ps.length->bindArgs fd ⟨us,[]⟩=pure (ps.zip us)):YL K fd ps []:=fun s us _ hl=>by
 rw[yL] at hl ⊢;exact .of_eq (h us hl)
def Aw(CX:Tx)(X:Cx)(E:XK):Prop:=∀(pins:List (dN×Obj))(U:St)(H:Hp)(s:dJ)(e:dM)(s':dJ),ZE X pins U H s->CX X.stack H s E e s'->X.xe e s'
section
variable{X:Cx}{CX:Tx}{k:Nat}{f C:dN}{fd:FuncData}{ps:dF}{sp:Sp}{dvs:aG}{ds:dG}{E:XK}{x m:Str}{p pos apos:Pos}{e o:Expr}{es:List Expr}{ta:TE}{t:TA}
theorem Em{pins:List (dN×Obj)}{U:St}{H:Hp}{s:dJ}{Q:VK}{us:dG}{vs:aG}(F:YG X.prog X.w X.K X.mg X.base CX k f fd ps sp)(hr:ZN k X.A)(hb:YL X.K fd ps ds)(hd:ZH dvs ds)(hx:Aw CX X E)(I:ZE X pins U H s)(r:ZH vs us)(h:sp (vs++dvs) H Q E):wpAny (model X.prog X.w) X.A (call (.ref f) us) (EP X pins U Q) X.xe s:=by
 have r2:ZH (vs++dvs) (us++ds):=r.append hd;have hl:(us++ds).length=ps.length:=by rw[← r2.length];exact F.len _ _ _ _ h
 refine wpAny_call (codeAny_mono (F.run X.A X.stack s H ⟨us,[]⟩ (us++ds) (vs++dvs) Q E hr I.env0 (hb s us I.kIn hl) r2 h) fun r s' hq=>?_);cases r with
 | error e=>exact hx pins U H s e s' I hq
 | ok fl =>
  cases fl with
  | ret u=>exact I.after hq
  | next=>exact False.elim hq
  | brk=>exact False.elim hq
  | cont=>exact False.elim hq
abbrev sEq(X:Cx)(e:Expr)(es:List Expr):Prop:=starEach (e::es) X.env=(false,eval e X.env)::starEach es X.env
abbrev sFq(X:Cx)(pos:Pos)(es:List Expr):Prop:=(backTo pos (starEach es X.env)).any (·.1)=false
theorem Xg(F:YG X.prog X.w X.K X.mg X.base CX k f fd ps sp)(hr:ZN k X.A)(hg:Gl X x)(hm:X.mg x=some (.ref f))(hk:PySem.W.keepIn X.K (.ref f)=true)(hb:YL X.K fd ps ds)(hd:ZH dvs ds)(hx:Aw CX X E)(ha:PA X (e::es) t)(hdb:(x==("__debug__":Str))=false:=by decide)(he:sEq X e es:=by rfl)(hpl:sFq X pos es:=by rfl) :
  PE X (.Call (.Name x p) (e::es) [] pos) (DG sp dvs E t):=by
 intro pins s U H Q I h;refine wpAny_Call_Name_kw (Ew I hg hm ?_ hdb);refine PySem.W.callWith_K (h₀:=X.base) I.ok.mod.kin hk (thn (ha pos pins s U H _ I h) fun us s1 ⟨vs,H1,I1,r,q⟩=>⟨I1.kIn,?_⟩) he hpl;exact Em F hr hb hd hx I1 r q
theorem Qq{pl:Sem Bool}(he:PE X o ta)(c:Tg X.K C)(hm:Jd X.K C m f)(F:YG X.prog X.w X.K X.mg X.base CX k f fd ps sp)(hr:ZN k X.A)(hb:YL X.K fd ps ds)(hd:ZH dvs ds)(hx:Aw CX X E)(ha:PA X (e::es) t)(hst:sEq X e es:=by rfl)(hpl:sFq X pos es:=by rfl)(ht:eval (.Call (.Attribute o m apos) (e::es) [] pos) X.env=(do
   let ov ← eval o X.env
   standAt apos.atName
   let (f,first) ← holding [ov] (getMethod ov m pl)
   callWith pos f first (backTo pos (starEach (e::es) X.env)) (backToKw pos (keywordEach [] X.env))):=by rfl) :
  PE X (.Call (.Attribute o m apos) (e::es) [] pos) (Dd C m sp dvs E ta t):=by
 intro pins s U H Q I h;refine PySem.W.methodCall_KW (pl:=pl) (thn (he pins s U H _ I h) fun u s1 ⟨x,H1,I1,rx,a,dx,fs,ex,ea,l,q⟩=>?_) ht;subst ex;obtain rfl:u=Value.ref a:=rx;refine Hm I1 ea c hm l ?_;refine PySem.W.callWith_K (first:=[.ref a]) (h₀:=X.base) I.ok.mod.kin hm.kp (thn (ha pos pins s1 U H1 _ I1 q) fun us s2 ⟨vs,H2,I2,r,q2⟩=>⟨I2.kIn,?_⟩) hst hpl;exact Em (us:=.ref a::us) (vs:=.ref a::vs) F hr hb hd hx I2 (.cons rfl r) q2
theorem cF(he:PE X o ta)(c:Tg X.K C)(hm:Jd X.K C m f)(F:YG X.prog X.w X.K X.mg X.base CX k f fd ps sp)(hr:ZN k X.A)(hb:YL X.K fd ps ds)(hd:ZH dvs ds)(hx:Aw CX X E)(ht:eval (.Call (.Attribute o m apos) [] [] pos) X.env=(do
   let ov ← eval o X.env
   standAt apos.atName
   let (f,first) ← holding [ov] (getMethod ov m pl)
   callWith pos f first (backTo pos (starEach [] X.env)) (backToKw pos (keywordEach [] X.env))):=by rfl) :
  PE X (.Call (.Attribute o m apos) [] [] pos) (Dd C m sp dvs E ta Ub):=by
 intro pins s U H Q I h;refine PySem.W.methodCall_KW (pl:=pl) (thn (he pins s U H _ I h) fun u s1 ⟨x,H1,I1,rx,a,dx,fs,ex,ea,l,q⟩=>?_) ht;subst ex;obtain rfl:u=Value.ref a:=rx;refine Hm I1 ea c hm l ?_;exact PySem.W.callWith_K0 (first:=[.ref a]) I1.kIn hm.kp (Em (us:=[.ref a]) (vs:=[.ref a]) F hr hb hd hx I1 (.cons rfl .nil) q)
structure Mk (K:uFg) (C f:dN):Prop where
 makes:PySem.W.makesIn K C=true
 init:PySem.W.findIn K (.ref C) "__init__"=some (some (.ref f))
 fn:PySem.W.isFn K (.ref f)=true
 kp:PySem.W.keepIn K (.ref C)=true
theorem OS{pins:List (dN×Obj)}{U:St}{H:Hp}{s:dJ}{Q:VK}{us:dG}{vs:aG}(M:Mk X.K C f)(F:YG X.prog X.w X.K X.mg X.base CX k f fd ps sp)(hr:ZN (k+1) X.A)(hb:YL X.K fd ps ds)(hd:ZH dvs ds)(hx:Aw CX X E)(I:ZE X pins U H s)(r:ZH vs us)(h:∀x dx,H x=none->H dx=none->dx≠x->sp (.ref x::(vs++dvs)) (upd (upd H dx (.own x)) x (.ins C dx [])) (fun v H2=>v=.non/\Q (.ref x) H2) E) :
  wpAny (model X.prog X.w) X.A (call (.ref C) us) (EP X pins U Q) X.xe s:=by
 have hq:=h (s.heap.objs.size+1) s.heap.objs.size (I.hok.fresh (wS _)) (I.hok.fresh (xD _)) (xY (Nat.lt_succ_self _));have I2:=ZE.made (C:=C) I;have r2:ZH (V.ref (s.heap.objs.size+1)::(vs++dvs)) (Value.ref (s.heap.objs.size+1)::(us++ds)):=.cons rfl (r.append hd);have hl:(Value.ref (s.heap.objs.size+1)::us++ds).length=ps.length:=by
  have e:=r2.length;rw[F.len _ _ _ _ hq] at e;exact e.symm
 refine wpAny_call (Ri (f:=f) I.kIn M.makes M.init (beq_iff_eq.mp M.fn) (codeAny_mono (F.run _ X.stack _ _ ⟨Value.ref (s.heap.objs.size+1)::us,[]⟩ (Value.ref (s.heap.objs.size+1)::(us++ds)) _ _ E (hr.make C us []) (I2.env0.make C us []) (hb _ (Value.ref (s.heap.objs.size+1)::us) I2.kIn hl) r2 hq) fun r s' hq'=>?_));cases r with
 | error e=>exact hx pins U _ _ e s' I2 hq'
 | ok fl =>
  cases fl with
  | ret u =>
   obtain⟨v,H',I3,rv,ev,q3⟩:=I2.after hq';subst ev;exact⟨rv,⟨V.ref (s.heap.objs.size+1),H',I3,rfl,q3⟩⟩
  | next=>exact False.elim hq'
  | brk=>exact False.elim hq'
  | cont=>exact False.elim hq'
theorem Pr(M:Mk X.K C f)(F:YG X.prog X.w X.K X.mg X.base CX k f fd ps sp)(hr:ZN (k+1) X.A)(hg:Gl X x)(hm:X.mg x=some (.ref C))(hb:YL X.K fd ps ds)(hd:ZH dvs ds)(hx:Aw CX X E)(hdb:(x==("__debug__":Str))=false:=by decide):PE X (.Call (.Name x p) [] [] pos) (KF C sp dvs E Ub):=by
 intro pins s U H Q I h;refine wpAny_Call_Name_kw (Ew I hg hm ?_ hdb);exact PySem.W.callWith_K0 I.kIn M.kp (OS (us:=[]) M F hr hb hd hx I .nil h)
end
section
variable{X:Cx}{CX:Tx}{k:Nat}{f:dN}{fd:FuncData}{ps ks:dF}{sp:Sp}{E:XK}{x:Str}{p pos:Pos}{e:Expr}{es:List Expr}{kws:List Keyword}{t tk:TA}
variable{g:List dM->List dM->List dM}{gV:List V->List V->List V}
end
structure ZR (N P:dF) (sc:Scope):Prop where
 kind:sc.kind=.function
 co:sc.isCoroutine=false
 gen:sc.isGenerator=false
 nd:N.Nodup
 pre:N.take P.length=P
 par:∀x∈P,sc.names.lookup x=some .local\/sc.names.lookup x=some .cell
 nofree:∀y∈sc.names,y.2 ≠ .free
theorem Fw{kindOf:Str->Option NameKind}{x:Str}:∀{binds:List (Str×dM)}{m:dE},(∀v,(x,v)∉binds)->bindL kindOf binds m x=m x
 | [],_,_=>rfl
 | (n,v)::r,m,h=>by
  unfold bindL;rw[Fw fun w hw=>h w (yC _ hw)];split
  ·have:x≠n:=by rintro rfl;exact h v xU
   simp[this]
  ·rfl
theorem Kq{kindOf:Str->Option NameKind}{x:Str}:∀{binds:List (Str×dM)}{m:dE},(∀v,(x,v)∉binds)->bindC kindOf binds m x=m x
 | [],_,_=>rfl
 | (n,v)::r,m,h=>by
  unfold bindC;rw[Kq fun w hw=>h w (yC _ hw)];split
  ·rfl
  ·have:x≠n:=by rintro rfl;exact h v xU
   simp[this]
theorem Ks{kindOf:Str->Option NameKind}{x:Str}{v:dM}:∀{P:dF}{vs:dG}{i:Nat}{m:dE},P.Nodup->P[i]?=some x->vs[i]?=some v->kindOf x=some .local ->
  bindL kindOf (P.zip vs) m x=some v
 | [],_,_,_,_,h,_,_=>by simp at h
 | _::_,[],_,_,_,_,h,_=>by simp at h
 | p::P,w::vs,0,m,nd,h1,h2,hk=>by
  simp at h1 h2;subst h1;subst h2;show bindL kindOf ((p,w)::P.zip vs) m p=_;unfold bindL;rw[Fw fun v hv=>(yK.mp nd).1 (zQ hv).1,if_pos hk];simp
 | p::P,w::vs,i+1,m,nd,h1,h2,hk=>by
  show bindL kindOf ((p,w)::P.zip vs) m x=_;unfold bindL;exact Ks (i:=i) (yK.mp nd).2 (by simpa using h1) (by simpa using h2) hk
theorem Gy{kindOf:Str->Option NameKind}{x:Str}{v:dM}:∀{P:dF}{vs:dG}{i:Nat}{m:dE},P.Nodup->P[i]?=some x->vs[i]?=some v->kindOf x≠some .local ->
  bindC kindOf (P.zip vs) m x=some v
 | [],_,_,_,_,h,_,_=>by simp at h
 | _::_,[],_,_,_,_,h,_=>by simp at h
 | p::P,w::vs,0,m,nd,h1,h2,hk=>by
  simp at h1 h2;subst h1;subst h2;show bindC kindOf ((p,w)::P.zip vs) m p=_;unfold bindC;rw[Kq fun v hv=>(yK.mp nd).1 (zQ hv).1,if_neg hk];simp
 | p::P,w::vs,i+1,m,nd,h1,h2,hk=>by
  show bindC kindOf ((p,w)::P.zip vs) m x=_;unfold bindC;exact Gy (i:=i) (yK.mp nd).2 (by simpa using h1) (by simpa using h2) hk
def start(N:dF)(vs:aG):St:=vs.map some++List.replicate (N.length - vs.length) none
def Y2(CX:Tx)(P:dO)(w:dP)(K:uFg)(mg:dE)(base:Heap)(N:dF)(qual:Str)(scope:Scope)(f:dN)(cd:dM)(A:dQ)(outer:List Env)(s:dJ)(H:Hp)(E:XK):Cx where
 prog:=P
 w:=w
 K:=K
 mg:=mg
 base:=base
 A:=A.deeper (envOfC qual scope s.heap.objs.size f cd)
 N:=N
 s₀:=s
 H₀:=H
 env:=envOfC qual scope s.heap.objs.size f cd
 outer:=outer
 stack:=envOfC qual scope s.heap.objs.size f cd::outer
 ex:=[]
 calm:=true
 fn:=fun _=>true
 pn:=[]
 xe:=fun e s'=>wpAny (model P w) (A.deeper (envOfC qual scope s.heap.objs.size f cd)) (leaving (envOfC qual scope s.heap.objs.size f cd) e) (fun _ s''=>CX outer H s E e s'') (fun e' s''=>CX outer H s E e' s'') s'
theorem Gh{sc:Scope}{n:Nat}{x:Str}(h:sc.names.lookup x=some .cell):∃c,(cellsFrom n sc.names []).lookup x=some c:=by
 have q:=PySem.W.cellsFrom_some sc.names n [] (.inl h);exact Option.isSome_iff_exists.mp q
theorem Kt{CX:Tx}{P:dO}{w:dP}{K:uFg}{mg:dE}{base:Heap}{N ps:dF}{qual:Str}{scope:Scope}{f:dN}{cd:dM}{A:dQ}{outer:List Env}{s s1:dJ}{H:Hp}{E:XK}{us:dG}{vs:aG}(S:ZR N ps scope)(hd:A.handled=none)(e0:VL P w K mg base A outer s H)(hl:vs.length=ps.length)(r:ZH vs us)(x:InCallC s s.heap.objs.size (bindL (envOfC qual scope s.heap.objs.size f cd).kindOf (ps.zip us) fun _=>none) (cellsFrom (s.heap.objs.size+1) scope.names []) (bindC (envOfC qual scope s.heap.objs.size f cd).kindOf (ps.zip us) fun _=>none) s1) :
  ZE (Y2 CX P w K mg base N qual scope f cd A outer s H E) [] (start N vs) H s1:=by
 have hpl:ps.length<=N.length:=by have:=congrArg List.length S.pre;rw[xV] at this;lia
 obtain⟨h1,tk,rfl,hk⟩:=x.done;have noA:∀b:dN,b∉(Y2 CX P w K mg base N qual scope f cd A outer s H E).ex:=fun b z=>absurd (show b∈([]:dI) from z) (by simp);refine⟨⟨e0.mod,S.kind,rfl,rfl,xD _,fun y z c h1 h2=>?_,fun y hy=>?_,fun y c _ h=>?_,fun _=>hd,Around.frames_deeper e0.frames,.inr ⟨rfl,rfl⟩,fun b z=>absurd z (noA b),e0.bs,e0.bsz,fun b _ _=>noA b,fun b z=>absurd z (noA b),e0.funs,e0.frf⟩, rfl,e0.bare,Un.kept hk,⟨_,x.toInCall.ns,fun i y v h1 h2 h3=>?_⟩,fun y c h=>⟨_,x.cell y c h⟩,e0.hok.fresh (xD _),fun y c h=>?_,fun p hp=>absurd (show p∈([]:List (dN×Obj)) from hp) (by simp),e0.hok.kept hk,?_⟩
 ·exact name_of_addr x.apart (PySem.mem_of_lookup h1) (PySem.mem_of_lookup h2)
 ·have hy:scope.names.lookup y=some .cell\/scope.names.lookup y=some .free:=hy;rcases hy with hy | hy
  ·exact Gh hy
  ·exact absurd rfl (S.nofree _ (PySem.mem_of_lookup hy))
 ·exact yN (x.above y c (PySem.mem_of_lookup h))
 ·have hi:i<vs.length:=by
   unfold start at h2
   by_cases hi:i<vs.length
   ·exact hi
   ·grind
  have ha:vs[i]?=some v:=by
   unfold start at h2;rw[yW (by simpa using hi),xJ] at h2;cases e:vs[i]? with
   | none=>rw[e] at h2;cases h2
   | some a=>rw[e] at h2;cases h2;rfl
  obtain⟨u,hu,rv⟩:=r.get ha;have hp:ps[i]?=some y:=by
   rw[← S.pre,List.getElem?_take_of_lt (by lia)];exact h1
  have ndP:ps.Nodup:=by rw[← S.pre];exact S.nd.sublist (List.take_sublist _ _)
  refine⟨u,rv,?_⟩;rcases S.par y (xO hp) with k | k
  ·exact .inl ⟨k,Ks ndP hp hu k⟩
  ·obtain⟨c,e⟩:=Gh (n:=s.heap.objs.size+1) k;refine .inr ⟨.inl k,c,e,?_⟩;have q:=x.cell y c e;rw[Gy ndP hp hu (by show scope.names.lookup y≠_;rw[k];decide)] at q;exact q
 ·exact e0.hok.fresh (yN (x.above y c (PySem.mem_of_lookup h)))
 ·unfold start;show _=N.length;rw[xK,xB,List.length_replicate];lia
theorem Ko{CX:Tx}{P:dO}{w:dP}{K:uFg}{mg:dE}{base:Heap}{k:Nat}{f:dN}{name qual:Str}{params:Arguments}{body:List Stmt}{scope:Scope}{dV kV doc pm cdv ct oc:dM}{an od:Option dN}{osl:Array (Option dM)}{N ps:dF}{sp:Sp}(lk:K.lookup f=some ⟨oc,od,.func (PySem.W.fnOf name qual params body scope dV kV doc pm an cdv ct),osl⟩)(hcd:PySem.W.codeIn K cdv qual=true)(S:ZR N ps scope)(len:∀vs H Q E,sp vs H Q E->vs.length=ps.length)(hbody:∀A outer s H vs Q E,ZN k (A.deeper (envOfC qual scope s.heap.objs.size f cdv))->sp vs H Q E -> ∃t,Ap (Y2 CX P w K mg base N qual scope f cdv A outer s H E) body t/\t {nx:=fun _ H'=>Q .non H',rt:=Q } (start N vs) H) :
  YG P w K mg base CX (k+1) f (PySem.W.fnOf name qual params body scope dV kV doc pm an cdv ct) ps sp:=by
 refine⟨len,fun A outer s H args us vs Q E hr e0 hb r hsp=>?_⟩;have hl:=len _ _ _ _ hsp;have KX:K.In s.heap:=e0.mod.kin.keeps fun b o e=>(e0.bs b o e).1;have lim:s.heap.NoLimit:=e0.mod.nolimit.keeps fun b o e=>(e0.bs b o e).1;have hkind:∀y∈ps.zip us,scope.names.lookup y.1=some .local\/(scope.names.lookup y.1=some .cell/\((cellsFrom (s.heap.objs.size+1) scope.names []).lookup y.1).isSome=true):=fun⟨n,v⟩ hy=>by
  rcases S.par n (zQ hy).1 with q | q
  ·exact .inl q
  ·exact .inr ⟨q,PySem.W.cellsFrom_some _ _ _ (.inl q)⟩
 refine codeAny_call_function hr.depth (KX _ _ lk) rfl S.co S.gen rfl (PySem.W.codeRec_of KX hcd) (hb _ _ _ _ ?_);refine wpAny_newFunctionEnv_cells S.kind hkind fun env he s1 x=>?_;subst he;refine⟨lim.keeps x.toInCall.keep,codeAny_func ?_⟩;obtain⟨t,ht,hq⟩:=hbody A outer s H vs Q E (hr.deeper _) hsp;have I:ZE (Y2 CX P w K mg base N qual scope f cdv A outer s H E) [] (start N vs) H s1:=Kt S hr.hd e0 hl r x;refine wpAny_mono (ht [] s1 (start N vs) H _ I hq) (fun fl s' hs=>?_) fun e s' hs=>hs;have fin:∀{σ':St}{H':Hp}{v:V}{u:dM},ZE (Y2 CX P w K mg base N qual scope f cdv A outer s H E) [] σ' H' s'->ZF v u->Q v H'->CE outer P w H s Q u s' :=
  fun {σ' H' v u} J rv q=>⟨v,H',J.os,J.bare,J.base,J.hok,rv,q⟩
 cases fl with
 | ret u =>
  obtain⟨v,σ',H',J,rv,q⟩:=hs;exact fin J rv q
 | next =>
  obtain⟨σ',H',J,q⟩:=hs;exact fin (v:=V.non) (u:=Value.none) J rfl q
 | brk =>
  obtain⟨_,_,_,q⟩:=hs;exact False.elim q
 | cont =>
  obtain⟨_,_,_,q⟩:=hs;exact False.elim q
section
variable{X:Cx}{x:Str}{p pos:Pos}{e:Expr}{es:List Expr}{t:TA}{id:String}{r:List V->Hp->VK->Prop}
def Az(r:List V->Hp->VK->Prop)(t:TA):TE:=fun U H Q=>t U H fun vs H1=>r vs H1 Q
theorem RT(hc:Uj X (.builtin id) r)(hg:Gl X x)(hm:X.mg x=none)(hv:bootBuiltins x=some (.builtin id))(ha:PA X (e::es) t)(hn:x ≠ "__name__" := by decide)(hdb:(x==("__debug__":Str))=false:=by decide)(he:sEq X e es:=by rfl)(hpl:sFq X pos es:=by rfl):PE X (.Call (.Name x p) (e::es) [] pos) (Az r t):=by
 intro pins s U H Q I h;refine wpAny_Call_Name_kw (Vi I hg hm hv ?_ hn hdb);exact PyProof.Rows.callWith_builtin1 (thn (ha pos pins s U H _ I h) fun us s1 ⟨vs,H1,I1,r1,q1⟩=>hc pins s1 U H1 vs us Q I1 r1 q1) he hpl
theorem PR(hc:Uj X (.type T) r)(hg:Gl X x)(hm:X.mg x=none)(hv:bootBuiltins x=some (.type T))(ha:PA X (e::es) t)(hn:x ≠ "__name__" := by decide)(hdb:(x==("__debug__":Str))=false:=by decide)(he:sEq X e es:=by rfl)(hpl:sFq X pos es:=by rfl):PE X (.Call (.Name x p) (e::es) [] pos) (Az r t):=by
 intro pins s U H Q I h;refine wpAny_Call_Name_kw (Vi I hg hm hv ?_ hn hdb);exact PyProof.Rows.callWith_type1 (thn (ha pos pins s U H _ I h) fun us s1 ⟨vs,H1,I1,r1,q1⟩=>hc pins s1 U H1 vs us Q I1 r1 q1) he hpl
end
end L2
namespace HT
open PySem PyProof.Rows
section
open PySem.SeqAt
open PySem.AutoSeq1 (wpAny_loadPart')
open PySem.MeetsSeq PySem.MeetsSeq2 PySem.MeetsSeq3
end
theorem cat_tup(ht:IsTup s.heap t vs.toArray)(hb:IsTup s.heap b ws.toArray)(hv:vs ≠ [])(h1:ws=[]->Q (.ref t) s)(h2:ws ≠ []->Q (.ref s.heap.objs.size) {s with heap:=s.heap.push {cls:=.type "tuple", data:=.seq (vs++ws).toArray } })(hsz:vs.length+ws.length<=sizeLine):wpAny (model prog w) A (binaryOp .Add (.ref t) (.ref b)) Q E s:=by
 obtain⟨⟨cls,dd,data,sl⟩,ho,hc,n,hd⟩:=id ht;obtain⟨⟨cls2,dd2,data2,sl2⟩,ho2,hc2,n2,hd2⟩:=id hb;simp only at hc hd hc2 hd2;subst hc hd hc2 hd2;have e:vs.toArray++ws.toArray=(vs++ws).toArray:=by simp
 by_cases hw:ws=[]
 ·exact concat_meets ⟨_,ho,rfl⟩ ⟨_,ho2,rfl⟩ noFill_tuple_add seq_tuple_add PySem.F.slot_tuple_add PySem.F.entry_tuple_add (PySem.F.args_tuple_add_2 _ _)
   (tuple_addW1 t b vs.toArray ws.toArray n n2 dd dd2 sl sl2 (by simpa using hv) (by simp[hw])) ⟨ho,ho2,h1 hw⟩
 ·refine concat_meets ⟨_,ho,rfl⟩ ⟨_,ho2,rfl⟩ noFill_tuple_add seq_tuple_add PySem.F.slot_tuple_add PySem.F.entry_tuple_add (PySem.F.args_tuple_add_2 _ _)
   (tuple_addW2 t b vs.toArray ws.toArray n n2 dd dd2 sl sl2 (by simpa using hv) (by simpa using hw) (by rw[xS,xS];exact hsz)) ⟨ho,ho2,?_⟩
  rw[e];exact h2 hw
def sIx(n d:Nat):Option Int->Nat
 | none=>d
 | some v=>if v<0 then (v+(n:Int)).toNat else min v.toNat n
theorem sIx_none(n d:Nat):sIx n d none=d:=rfl
theorem sIx_nat(n d k:Nat):sIx n d (some (k:Int))=min k n:=by
 show (if (k:Int)<0 then ((k:Int)+(n:Int)).toNat else min (k:Int).toNat n)=min k n;rw[if_neg (by lia),yM]
theorem LJ(n d:Nat)(hd:d<=n)(o:Option Int):sIx n d o<=n:=by
 cases o with
 | none=>exact hd
 | some v =>
  show (if v<0 then (v+(n:Int)).toNat else min v.toNat n)<=n
  by_cases hv:v<0
  ·rw[if_pos hv];lia
  ·rw[if_neg hv];exact Nat.min_le_right _ _
theorem KS(v:Int)(n d:Nat):(if v<0 then max (v+(n:Int)) 0 else min v (n:Int))=((sIx n d (some v):Nat):Int):=by
 show (if v<0 then max (v+(n:Int)) 0 else min v (n:Int))=(((if v<0 then (v+(n:Int)).toNat else min v.toNat n):Nat):Int)
 by_cases hv:v<0
 ·simp only[if_pos hv];lia
 ·simp only[if_neg hv];lia
theorem Ro(lo hi:Option Int)(n:Nat):Builtin.Slice.sliceAdjust lo hi 1 (n:Int)=(((sIx n 0 lo:Nat):Int),((sIx n n hi:Nat):Int)):=by
 have h1:¬((1:Int)<0):=by lia
 unfold Builtin.Slice.sliceAdjust;simp only[h1,if_false];refine Prod.ext ?_ ?_
 ·cases lo with
  | none=>rfl
  | some v=>exact KS v n 0
 ·cases hi with
  | none=>rfl
  | some v=>exact KS v n n
theorem NK(i j:Nat):Builtin.Slice.slicePlaces (i:Int) (j:Int) 1=j - i:=by
 unfold Builtin.Slice.slicePlaces;have h1:(1:Int) > 0:=by lia
 simp only[h1,if_true,Int.ediv_one];split<;>lia
theorem FY(p:IsPart v o)(h:Q o s):wpAny (model prog w) A (Builtin.Slice.slicePartIndex v) Q E s:=by
 cases p with
 | none=>exact slicePart_none h
 | int i t=>exact slicePart_int h
theorem cD{sl:dN}{vl vu:dM}{lo hi:Option Int}{n:Nat}{Q:Int×Int×Nat->dJ->Prop}(hs:s.heap.IsSliceOf sl vl vu .none)(pl:IsPart vl lo)(pu:IsPart vu hi)(h:Q (((sIx n 0 lo:Nat):Int),1,sIx n n hi - sIx n 0 lo) s):wpAny (model prog w) A (Builtin.Slice.sliceApplied (.ref sl) (pure (n:Int))) Q E s:=by
 obtain⟨os,hos,hcs,hds⟩:=id hs;unfold Builtin.Slice.sliceApplied Builtin.Slice.sliceFields;refine wpAny_bind (wpAny_bind (wpAny_field hos hds (x:=vl) rfl (wpAny_bind (wpAny_field hos hds (x:=vu) rfl (wpAny_bind (wpAny_field hos hds (x:=.none) rfl (wpAny_pure ?_)))))));refine wpAny_bind (slicePart_none ?_);show wpAny _ _ (if ((1:Int)== 0)=true then _ else _) _ _ s;rw[if_neg aA];refine wpAny_bind (FY pl (wpAny_bind (FY pu (wpAny_bind (wpAny_pure ?_)))));show wpAny _ _ (match Builtin.Slice.sliceAdjust lo hi 1 (n:Int) with | (lo,hi)=>pure (lo,(1:Int),Builtin.Slice.slicePlaces lo hi 1)) _ _ s;rw[Ro lo hi n];show wpAny _ _ (pure (((sIx n 0 lo:Nat):Int),(1:Int),Builtin.Slice.slicePlaces ((sIx n 0 lo:Nat):Int) ((sIx n n hi:Nat):Int) 1)) _ _ s;rw[NK];exact wpAny_pure h
theorem Nw(xs:Array dM)(i k:Nat):((List.range k).filterMap fun(m:Nat)=>xs[((i:Int)+(m:Int) * 1).toNat]?).toArray=((xs.toList.drop i).take k).toArray:=by
 have e:(fun(m:Nat)=>xs[((i:Int)+(m:Int) * 1).toNat]?)=fun m=>xs[i+m]?:=by grind
 rw[e];have:=pick_run xs i k;rw[List.filterMap_map] at this;have e2:((fun x=>xs[x]?)∘fun x=>i+x)=fun m=>xs[i+m]?:=rfl;rw[e2] at this;rw[this]
theorem getItem_tuple_cut{t sl:dN}{items:Array dM}{vl vu:dM}{lo hi:Option Int}{Q:dD}(ht:IsTup s.heap t items)(hs:s.heap.IsSliceOf sl vl vu .none)(pl:IsPart vl lo)(pu:IsPart vu hi)(hw:¬(sIx items.size 0 lo=0/\sIx items.size items.size hi=items.size))(h:Q (.ref s.heap.objs.size) {s with heap:=s.heap.push {cls:=.type "tuple", data:=.seq ((items.toList.drop (sIx items.size 0 lo)).take (sIx items.size items.size hi - sIx items.size 0 lo)).toArray } })(hsz:items.size<=sizeLine):wpAny (model prog w) A (getItem (.ref t) (.ref sl)) Q E s:=by
 have htake:sizeOk (.seq ((items.toList.drop (sIx items.size 0 lo)).take (sIx items.size items.size hi - sIx items.size 0 lo)).toArray):=by
  show ((items.toList.drop (sIx items.size 0 lo)).take (sIx items.size items.size hi - sIx items.size 0 lo)).toArray.size<=sizeLine;rw[xS,xV,List.length_drop,yP];lia
 have hj:sIx items.size items.size hi<=items.size:=LJ _ _ (xD _) hi;obtain⟨os,hos,hcs,hds⟩:=id hs;have hTs:s.TypeIs (.ref sl) "slice" := ⟨os,hos,hcs⟩;unfold getItem
 try with_reducible refine wpAny_holding ?_
 first | refine wpAny_bind (wpAny_pure ?_) | skip
 refine wpAny_bind (wpAny_sequenceKey ht.typeIs aA ?_);refine wpAny_bind (wpAny_callSpecial?_slot (name:=Str.ofString "__getitem__") ht.typeIs PyProof.Rows.slot_tuple_getitem (wpAny_call_entry PyProof.Rows.slot_tuple_getitem ht.typeIs entry_tuple_getitem ?_ (args_tuple_getitem _ _)));show wpAny _ _ (Builtin.Tuple.tupleItemsOf (.ref t) >>= _) _ _ s;refine wpAny_bind (tupleItemsOf_ ht ?_);refine wpAny_bind (wpAny_typeOf hTs ?_);rw[if_pos aA];refine wpAny_bind (cD hs pl pu ?_);have hno:¬((((sIx items.size 0 lo:Nat):Int)== 0&&(1:Int)== 1&&(sIx items.size items.size hi - sIx items.size 0 lo)== items.size)=true):=by grind
 show wpAny _ _ (if (((sIx items.size 0 lo:Nat):Int)== 0&&(1:Int)== 1&&(sIx items.size items.size hi - sIx items.size 0 lo)== items.size)=true then _ else _) _ _ s;rw[if_neg hno,Nw]
 first
  | exact wpAny_bind (m:=Builtin.Tuple.tupleExact _) (wpAny_newObj_type (wpAny_pure ⟨_,rfl,wpAny_pure h⟩) htake)
  | exact wpAny_bind (m:=Builtin.Tuple.tupleExact _) (wpAny_newObj_type (wpAny_bind (wpAny_pure (wpAny_pure ⟨_,rfl,wpAny_pure h⟩))) htake)
  | exact wpAny_bind (wpAny_bind (m:=Builtin.Tuple.tupleExact _) (wpAny_newObj_type (wpAny_pure (wpAny_pure ⟨_,rfl,wpAny_pure h⟩)) htake))
  | exact wpAny_bind (wpAny_bind (m:=Builtin.Tuple.tupleExact _) (wpAny_newObj_type (wpAny_pure ⟨_,rfl,wpAny_pure h⟩) htake))
end HT
namespace L2
open PySem PySem.Spec PyProof.Rows
abbrev TO:=St->Hp->(Option Int->Hp->Prop)->Prop
def PO(X:Cx)(e:Option Expr)(t:TO):Prop :=
 ∀(pins:List (dN×Obj))(s:dJ)(U:St)(H:Hp)(Q:Option Int->Hp->Prop),ZE X pins U H s->t U H Q ->
  wpAny (model X.prog X.w) X.A (evalPart e X.env) (fun u s'=>∃o H',ZE X pins U H' s'/\IsPart u o/\Q o H') X.xe s
def LS:TO:=fun _ H Q=>Q none H
inductive JW(Q:Option Int->Hp->Prop)(x:V)(H1:Hp):Prop
 |mk(i)(_:x=.int i)(_:Q (some i) H1)
def LN(t:TE):TO:=fun U H Q=>t U H fun x H1=>JW Q x H1
section
variable{X:Cx}{te:TE}{lo hi:Option Expr}{tl th:TO}
def FS(X:Cx)(r:V->Option Int->Option Int->Hp->VK->Prop):Prop :=
 ∀(pins:List (dN×Obj))(s:dJ)(U:St)(H:Hp)(x:V)(v vl vu:dM)(lo hi:Option Int)(sl:dN)(Q:VK),ZE X pins U H s->ZF x v->s.heap.IsSliceOf sl vl vu .none->IsPart vl lo->IsPart vu hi->r x lo hi H Q ->
  ∃T id,typeLookup (.type T) "__getitem__"=pure (some (.builtin id))/\s.TypeIs v T/\wpAny (model X.prog X.w) X.A (getItem v (.ref sl)) (EP X pins U Q) X.xe s
def RM(r:V->Option Int->Option Int->Hp->VK->Prop)(te:TE)(tl th:TO):TE:=fun U H Q=>te U H fun x H1=>tl U H1 fun l H2=>th U H2 fun u H3=>r x l u H3 Q
def Vb(xs:aG)(lo hi:Option Int):List V:=(xs.drop (HT.sIx xs.length 0 lo)).take (HT.sIx xs.length xs.length hi - HT.sIx xs.length 0 lo)
theorem Lk(xs:aG)(lo hi:Option Int):(Vb xs lo hi).length<=xs.length:=by
 unfold Vb;rw[xV,List.length_drop];lia
inductive EO(K:uFg)(x:V)(lo hi:Option Int)(H:Hp)(Q:VK):Prop
 |mk(a xs)(_:x=.ref a)(_:ZP K H a xs)(_:¬(HT.sIx xs.length 0 lo=0/\HT.sIx xs.length xs.length hi=xs.length))(_:∀p,H p=none->Q (.ref p) (upd H p (.tup (Vb xs lo hi))))
inductive JC(K:uFg)(x y:V)(H:Hp)(Q:VK):Prop
 |mk(a b xs ys)(_:x=.ref a)(_:y=.ref b)(_:ZP K H a xs)(_:ZP K H b ys)(_:xs ≠ [])(_:xs.length+ys.length<=sizeLine)(_:(ys=[]->Q (.ref a) H))(_:(ys ≠ []->∀p,H p=none->Q (.ref p) (upd H p (.tup (xs++ys)))))
theorem ZH.nil_iff(r:ZH xs us):us=[]↔xs=[]:=by
 cases r with
 | nil=>simp
 | cons _ _=>simp
theorem QP:Jn X (binaryOp .Add) (JC X.K):=by
 intro pins s U H x y v u Q I rx ry h;obtain⟨a,b,xs,ys,rfl,rfl,ha,hb,hx,hz,q1,q2⟩:=h;cases rx;cases ry;obtain⟨its,r1,p1,_⟩:=I.tuple ha;obtain⟨its2,r2,p2,_⟩:=I.tuple hb;refine HT.cat_tup p1 p2 (fun z=>hx (r1.nil_iff.mp z)) (fun z=>⟨.ref a,H,I,rfl,q1 (r2.nil_iff.mp z)⟩) (fun z=>?_) (by rw[← r1.length,← r2.length];exact hz);refine⟨.ref s.heap.objs.size,_,I.laid (t':=s.toks) (o:=.tup (xs++ys)) (fun b ob q=>xA _ q) (xD _) ?_,rfl,q2 (fun w=>z (r2.nil_iff.mpr w)) _ (I.hok.fresh (xD _))⟩;exact⟨by rw[xK];exact hz,_,r1.append r2,IsTup.new _ _⟩
end
def ixN(n:Nat)(i:Int):Option Nat:=if 0<=i then (if i<n then some i.toNat else none) else if -(n:Int)<=i then some (i+n).toNat else none
def atI{α:Type}(xs:List α)(i:Int):Option α:=(ixN xs.length i).bind fun j=>xs[j]?
theorem Hi(h:ixN n i=some j):seqIndex? i n=some j/\j<n /\ -(n:Int)<=i/\i<n:=by
 unfold ixN at h
 by_cases h0:0<=i
 ·rw[if_pos h0] at h
  by_cases h1:i<n
  ·rw[if_pos h1] at h;have e:i.toNat=j:=Option.some.inj h;exact⟨by rw[seqIndex_of h0 h1,e],by lia,by lia,h1⟩
  ·rw[if_neg h1] at h;cases h
 ·rw[if_neg h0] at h
  by_cases h1 : -(n:Int)<=i
  ·rw[if_pos h1] at h;have e:(i+n).toNat=j:=Option.some.inj h;exact⟨by rw[seqIndex_neg (by lia) h1,e],by lia,h1,by lia⟩
  ·rw[if_neg h1] at h;cases h
theorem Fb{α:Type}{xs:List α}{v:α}(h:atI xs i=some v):∃j,seqIndex? i xs.length=some j/\xs[j]?=some v/\j<xs.length /\ -(xs.length:Int)<=i/\i<xs.length:=by
 unfold atI at h;cases e:ixN xs.length i with
 | none=>rw[e] at h;cases h
 | some j =>
  rw[e] at h;obtain⟨h1,h2,h3,h4⟩:=Hi e;exact⟨j,h1,h,h2,h3,h4⟩
theorem Yl{α:Type}{xs:List α}{j:Nat}{v:α}(h:xs[j]?=some v):atI xs (j:Int)=some v:=by
 have hj:j<xs.length:=(xE.mp h).1;have e:ixN xs.length (j:Int)=some j:=by
  unfold ixN;rw[if_pos (by lia),if_pos (by lia)];simp
 unfold atI;rw[e];exact h
def NN(b:Expr):Prop:=∀o i,subscripted b false o i=operate [o,i] (getItem o i)
def BY(X:Cx)(r:R2):Prop :=
 ∀(value slice:Expr)(pins:List (dN×Obj))(s:dJ)(U:St)(H:Hp)(x y:V)(v u:dM)(Q:VK),ZE X pins U H s->ZF x v->ZF y u->r x y H Q ->
  subscripted slice false v u=operate [v,u] (getItem v u)->wpAny (model X.prog X.w) X.A (subscriptTail value slice v u) (EP X pins U Q) X.xe s
def Ku(X:Cx)(id:String)(r:V->List V->Hp->VK->Prop):Prop :=
 ∀(pins:List (dN×Obj))(s:dJ)(U:St)(H:Hp)(x:V)(xs:aG)(v:dM)(us:dG)(Q:VK),ZE X pins U H s->ZF x v->ZH xs us->r x xs H Q ->
  wpAny (model X.prog X.w) X.A (call (.builtin id) (v::us)) (EP X pins U Q) X.xe s
section
variable{X:Cx}{a b:Expr}
inductive Al(K:uFg)(x y:V)(H:Hp)(Q:VK):Prop
 |mk(p xs i v)(_:x=.ref p)(_:y=.int i)(_:ZG K H p xs)(_:atI xs i=some v)(_:Q v H)
inductive TZ(K:uFg)(x y:V)(H:Hp)(Q:VK):Prop
 |mk(p xs i v)(_:x=.ref p)(_:y=.int i)(_:ZP K H p xs)(_:atI xs i=some v)(_:Q v H)
inductive BM(x y:V)(H:Hp)(Q:VK):Prop
 |mk(z i c)(_:x=.str z)(_:y=.int i)(_:z.length<=sizeLine)(_:atI z.cps.toList i=some c)(_:Q (.str ⟨#[c]⟩) H)
theorem Ik:BY X (Al X.K):=by
 intro value slice pins s U H x y v u Q I rx ry h hs;obtain⟨p,xs,i,z,rfl,rfl,hq,he,q⟩:=h;cases rx;obtain⟨t,rfl⟩:=ry;obtain⟨its,r,pl,hz⟩:=I.list hq;obtain⟨j,h1,h2,h3,h4,h5⟩:=Fb he;obtain⟨w,ew,rw'⟩:=r.get h2;have hl:=r.length;have hn:=A8;have fin:EP X pins U Q w s:=⟨z,H,I,rw',q⟩
 by_cases h0:0<=i
 ·have hj:i.toNat=j:=by
   rw[seqIndex_of h0 h5] at h1;exact Option.some.inj h1
  exact item_listR pl.isList h0 (by lia) (by rw[hj];simpa using ew) fin hs
 ·have hj:(i+(its.toArray.size:Int)).toNat=j:=by
   rw[seqIndex_neg (by lia) h4] at h1;rw[xS,← hl];exact Option.some.inj h1
  exact subscriptTail_builtinR (x:=w) pl.isList.typeIs slot_list_getitem.lookup
   (wpAny_getItem_list_neg (Q:=fun r s'=>r=w/\EP X pins U Q r s') pl.isList (by lia) (by rw[xS]<;>lia) (by lia) (by rw[hj];simpa using ew) ⟨rfl,fin⟩) hs
theorem EI:BY X (TZ X.K):=by
 intro value slice pins s U H x y v u Q I rx ry h hs;obtain⟨p,xs,i,z,rfl,rfl,hq,he,q⟩:=h;cases rx;obtain⟨t,rfl⟩:=ry;obtain⟨its,r,pl,hz⟩:=I.tuple hq;obtain⟨j,h1,h2,h3,h4,h5⟩:=Fb he;obtain⟨w,ew,rw'⟩:=r.get h2;have hl:=r.length;have hn:=A8;have fin:EP X pins U Q w s:=⟨z,H,I,rw',q⟩;exact subscriptTail_builtinR (x:=w) pl.typeIs slot_tuple_getitem.lookup
  (getItem_tuple (j:=j) (Q:=fun r s'=>r=w/\EP X pins U Q r s') pl (by lia) (by lia) (by rw[xS,← hl];exact h1) (by simpa using ew) ⟨rfl,fin⟩) hs
theorem Pt:BY X BM:=by
 intro value slice pins s U H x y v u Q I rx ry h hs;obtain⟨z,i,c,rfl,rfl,hz,he,q⟩:=h;obtain⟨t,rfl⟩:=rx;obtain⟨t',rfl⟩:=ry;obtain⟨j,h1,h2,h3,h4,h5⟩:=Fb he;have hl:z.cps.toList.length=z.length:=by simp[Str.length]
 rw[hl] at h1 h4 h5;have hn:=A8
 exact tail_any (typeIs_str s z t) slot_str_getitem.lookup (getItem_str (c:=c) (by
  have e1:decide (i < -(2^63:Int))=false:=xT (by lia);have e2:decide (i>=2^63)=false:=xT (by lia)
  rw[e1,e2,Bool.or_false]) (by rw[h1];simpa using h2) ⟨.str ⟨#[c]⟩,H,I.tok _,⟨_,rfl⟩,q⟩) hs
theorem LY(its:dG)(n j:Nat)(u:dM):Obj.mapSeq (·.setIfInBounds j u) {cls:=.type "list", data:=.seq its.toArray n }={cls:=.type "list", data:=.seq (its.set j u).toArray n }:=by
 simp[Obj.mapSeq]
theorem ZE.lst{pins:List (dN×Obj)}{U:St}{H:Hp}{s:dJ}{p:dN}{xs:aG}(I:ZE X pins U H s)(h:H p=some (.lst xs)) :
  ∃its n,ZH xs its/\s.heap.get? p=some {cls:=.type "list", data:=.seq its.toArray n }/\xs.length<=sizeLine:=by
 obtain⟨z,its,n,r,e⟩:=I.hok p _ h;exact⟨its,n,r,e,z⟩
theorem ZE.lstUpd{pins:List (dN×Obj)}{U:St}{H:Hp}{s:dJ}{p:dN}{xs ys:aG}{its its':dG}{n n':Nat}{f:Obj->Obj}(I:ZE X pins U H s)(h:H p=some (.lst xs))(ho:s.heap.get? p=some {cls:=.type "list", data:=.seq its.toArray n })(hf:f {cls:=.type "list", data:=.seq its.toArray n }={cls:=.type "list", data:=.seq its'.toArray n' })(r:ZH ys its')(hz:ys.length<=sizeLine)(t:Nat) :
  ZE X pins U (upd H p (.lst ys)) {s with heap:=s.heap.update p f,toks:=t }:=by
 have e:(s.heap.update p f).get? p=some {cls:=.type "list", data:=.seq its'.toArray n' }:=by
  rw[zH f ho (by rw[hf]<;>rfl),hf]
 refine I.write (x:=p) (e:=p) (by rw[h];trivial) (.inl rfl) (fun b u hb q=>(wB _ _ (Ne.symm hb)).trans q) ⟨_,e⟩ ?_;exact⟨hz,its',n',r,e⟩
inductive Bq(o i v:V)(H:Hp)(Q:Hp->Prop):Prop
 |mk(p xs k j)(_:o=.ref p)(_:i=.int k)(_:H p=some (.lst xs))(_:ixN xs.length k=some j)(_:Q (upd H p (.lst (xs.set j v))))
theorem XM(lo hi:Option Int)(n:Nat):(sliceBounds lo hi none n).1=((HT.sIx n 0 lo:Nat):Int)/\(sliceBounds lo hi none n).2.1=((HT.sIx n n hi:Nat):Int)/\(sliceBounds lo hi none n).2.2=1:=by
 refine⟨?_,?_,rfl⟩
 ·cases lo with
  | none=>simp[sliceBounds,HT.sIx]
  | some i =>
   simp only[sliceBounds,HT.sIx,Option.getD_none,show (1:Int) > 0 by decide,if_true]
   by_cases h:i<0
   ·simp only[h,if_true]<;>lia
   ·simp only[h,if_false]<;>lia
 ·cases hi with
  | none=>simp[sliceBounds,HT.sIx]
  | some i =>
   simp only[sliceBounds,HT.sIx,Option.getD_none,show (1:Int) > 0 by decide,if_true]
   by_cases h:i<0
   ·simp only[h,if_true]<;>lia
   ·simp only[h,if_false]<;>lia
theorem Rr(its:dG)(lo hi:Option Int):slicePick its.toArray lo hi none=((its.drop (HT.sIx its.length 0 lo)).take (HT.sIx its.length its.length hi - HT.sIx its.length 0 lo)).toArray:=by
 obtain⟨h1,h2,h3⟩:=XM lo hi its.toArray.size;unfold slicePick;rw[h1,h2,h3];simp only[sliceRange_one,pick_run,xS]<;>rfl
inductive Br(K:uFg)(x:V)(lo hi:Option Int)(H:Hp)(Q:VK):Prop
 |mk(a xs)(_:x=.ref a)(_:ZG K H a xs)(_:∀p,H p=none->Q (.ref p) (upd H p (.lst (Vb xs lo hi))))
theorem Nn:FS X (Br X.K):=by
 intro pins s U H x v vl vu lo hi sl Q I rx hs pl pu h;obtain⟨a,xs,rfl,hx,q⟩:=h;cases rx;obtain⟨its,r,ht,hz⟩:=I.list hx;have hlen:=r.length;refine⟨"list", _,slot_list_getitem.lookup,ht.isList.typeIs,?_⟩;refine wpAny_getItem_list_slice ht.isList hs pl pu .none (by simp) ?_ (by rw[xS]<;>lia);rw[Rr,← hlen];refine⟨.ref s.heap.objs.size,_,I.laid (t':=s.toks) (o:=.lst (Vb xs lo hi)) (fun b ob q=>xA _ q) (xD _) ?_,rfl,q _ (I.hok.fresh (xD _))⟩;exact⟨xW (Lk xs lo hi) hz,_,0,(r.drop (HT.sIx xs.length 0 lo)).take (HT.sIx xs.length xs.length hi - HT.sIx xs.length 0 lo),xG _ rfl⟩
def Uv:V->Bool
 | .non=>true
 | .bl _=>true
 | .int _=>true
 | .str _=>true
 | _=>false
def eqV:V->V->Bool
 | .non,.non=>true
 | .bl a,.bl b=>a==b
 | .bl a,.int b=>(if a then 1 else 0)== b
 | .int a,.bl b=>a==(if b then 1 else 0)
 | .int a,.int b=>a==b
 | .str a,.str b=>a==b
 | _,_=>false
theorem LU(ry:ZF y u)(rx:ZF x v)(fy:Uv y=true)(fx:Uv x=true):SeqAt.EqAt A s u v (eqV y x):=by
 cases y with
 | non =>
  cases ry;cases x with
  | non=>cases rx;exact SeqAt.EqAt.same _
  | bl b=>cases rx;exact SeqAt.EqAt.none_bool b
  | int b=>obtain⟨t,rfl⟩:=rx;exact SeqAt.EqAt.none_int b t
  | str b=>obtain⟨t,rfl⟩:=rx;exact SeqAt.EqAt.none_str b t
  | _=>exact absurd (show false=true from fx) xI
 | bl a =>
  cases ry;cases x with
  | non=>cases rx;exact SeqAt.EqAt.bool_none a
  | bl b=>cases rx;exact SeqAt.EqAt.bool_bool a b
  | int b=>obtain⟨t,rfl⟩:=rx;exact SeqAt.EqAt.bool_int a b t
  | str b=>obtain⟨t,rfl⟩:=rx;exact SeqAt.EqAt.bool_str a b t
  | _=>exact absurd (show false=true from fx) xI
 | int a =>
  obtain⟨t',rfl⟩:=ry;cases x with
  | non=>cases rx;exact SeqAt.EqAt.int_none a t'
  | bl b=>cases rx;exact SeqAt.EqAt.int_bool a t' b
  | int b=>obtain⟨t,rfl⟩:=rx;exact SeqAt.EqAt.int_int a t' b t
  | str b=>obtain⟨t,rfl⟩:=rx;exact SeqAt.EqAt.int_str a t' b t
  | _=>exact absurd (show false=true from fx) xI
 | str a =>
  obtain⟨t',rfl⟩:=ry;cases x with
  | non=>cases rx;exact SeqAt.EqAt.str_none a t'
  | bl b=>cases rx;exact SeqAt.EqAt.str_bool a t' b
  | int b=>obtain⟨t,rfl⟩:=rx;exact SeqAt.EqAt.str_int a t' b t
  | str b=>obtain⟨t,rfl⟩:=rx;exact SeqAt.EqAt.str_str a t' b t
  | _=>exact absurd (show false=true from fx) xI
 | _=>exact absurd (show false=true from fy) xI
def eqU(x:V)(u:dM):Bool:=match u with
 | .none=>eqV .non x
 | .bool b=>eqV (.bl b) x
 | .int i _=>eqV (.int i) x
 | .str z _=>eqV (.str z) x
 | _=>false
theorem IG(r:ZF y u)(f:Uv y=true):eqU x u=eqV y x:=by
 cases y with
 | non=>cases r;rfl
 | bl b=>cases r;rfl
 | int i=>obtain⟨t,rfl⟩:=r;rfl
 | str z=>obtain⟨t,rfl⟩:=r;rfl
 | _=>exact absurd (show false=true from f) xI
theorem DX:∀{xs:aG}{us:dG},ZH xs us->xs.all Uv=true->us.any (eqU x)=xs.any fun y=>eqV y x
 | _,_,.nil,_=>rfl
 | y::xs,u::us,.cons r t,f=>by
  rw[List.all_cons,wA] at f;rw[List.any_cons,List.any_cons,IG r f.1,DX t f.2]
theorem Ei(rx:ZF x v)(fx:Uv x=true):∀{xs:aG}{us:dG},ZH xs us->xs.all Uv=true->∀u∈us,SeqAt.EqAt A s u v (eqU x u)
 | _,_,.nil,_=>fun u hu=>by cases hu
 | y::xs,u::us,.cons r t,f=>fun u' hu=>by
  rw[List.all_cons,wA] at f;rcases xF.mp hu with rfl | hu
  ·rw[IG r f.1];exact LU r rx f.1 fx
  ·exact Ei rx fx t f.2 u' hu
def inV(x:V)(xs:aG):Bool:=xs.any fun y=>eqV y x
inductive HB(K:uFg)(neg:Bool)(x y:V)(H:Hp)(Q:VK):Prop
 |mk(p xs)(_:y=.ref p)(_:(ZG K H p xs\/ZP K H p xs))(_:Uv x=true)(_:xs.all Uv=true)(_:Q (.bl (if neg then !inV x xs else inV x xs)) H)
theorem Nc:Jn X (compareOp .NotIn) (HB X.K true):=by
 intro pins s U H x y v u Q I rx ry h;obtain⟨p,xs,rfl,hq,fx,fs,q⟩:=h;cases ry;rcases hq with hq | hq
 ·obtain⟨its,r,pl,hz⟩:=I.list hq;refine SeqAt.notIn_listAt (eqU x) pl.isList (fun w hw=>Ei rx fx r fs w (by simpa using hw)) ⟨.bl _,H,I,rfl,?_⟩;rw[show its.toArray.any (eqU x)=its.any (eqU x) by simp,DX r fs];exact q
 ·obtain⟨its,r,pl,hz⟩:=I.tuple hq;refine SeqAt.notIn_tupleAt (eqU x) pl (fun w hw=>Ei rx fx r fs w (by simpa using hw)) ⟨.bl _,H,I,rfl,?_⟩;rw[show its.toArray.any (eqU x)=its.any (eqU x) by simp,DX r fs];exact q
theorem PK:Uj X (.builtin "len") (fun xs H Q=>∃p ys,xs=[.ref p]/\(ZG X.K H p ys\/ZP X.K H p ys)/\Q (.int ys.length) H):=by
 intro pins s U H xs us Q I r h;obtain⟨p,ys,rfl,hq,q⟩:=h;obtain⟨u,rfl,rx⟩:=Vg r;cases rx;have hn:=A8;rcases hq with hq | hq
 ·obtain⟨its,r',pl,hz⟩:=I.list hq;have hlen:=r'.length;exact Calls.call_len_list pl.isList (by simp only[xS]<;>lia) ⟨.int ys.length,H,I.tok _,⟨s.toks+1,by rw[xS,hlen]⟩,q⟩
 ·obtain⟨its,r',pl,hz⟩:=I.tuple hq;have hlen:=r'.length;exact len_tuple pl (by simp only[xS]<;>lia) ⟨.int ys.length,H,I.tok _,⟨s.toks+1,by rw[xS,hlen]⟩,q⟩
theorem KC:Uj X (.type "list") (fun xs H Q=>∃p ys,xs=[.ref p]/\(ZG X.K H p ys\/ZP X.K H p ys)/\∀l,H l=none->Q (.ref l) (upd H l (.lst ys))):=by
 intro pins s U H xs us Q I r h;obtain⟨p,ys,rfl,hq,q⟩:=h;obtain⟨u,rfl,rx⟩:=Vg r;cases rx;have fin:∀(its:dG),ZH ys its->ys.length<=sizeLine->∀(h':Heap)(c':Nat),(∀b o',s.heap.get? b=some o'->h'.get? b=some o')->
   h'.get? s.heap.objs.size=some {cls:=.type "list", dict:=none,data:=.seq its.toArray c',slots:=#[] }->EP X pins U Q (.ref s.heap.objs.size) {s with heap:=h' }:=fun its r' hz h' c' kp e =>
  ⟨.ref s.heap.objs.size,_,I.laid (t':=s.toks) kp (xD _) (show ZL X.prog X.w _ h' _ (.lst ys) from⟨hz,its,c',r',e⟩),rfl,q _ (I.hok.fresh (xD _))⟩
 rcases hq with hq | hq
 ·obtain⟨its,r',pl,hz⟩:=I.list hq;have hlen:=r'.length;obtain⟨o,ho,hc,n,hd⟩:=pl.isList;exact call_list_seq p (.inl rfl) ho hc hd (fun h' c' kp e=>fin its r' hz h' c' kp e) (by simp only[xS]<;>lia)
 ·obtain⟨its,r',pl,hz⟩:=I.tuple hq;have hlen:=r'.length;obtain⟨o,ho,hc,n,hd⟩:=pl;exact call_list_seq p (.inr rfl) ho hc hd (fun h' c' kp e=>fin its r' hz h' c' kp e) (by simp only[xS]<;>lia)
theorem R0:Uj X (.type "tuple") (fun xs H Q=>∃p ys,xs=[.ref p]/\((ZG X.K H p ys/\∀l,H l=none->Q (.ref l) (upd H l (.tup ys)))\/(ZP X.K H p ys/\Q (.ref p) H))):=by
 intro pins s U H xs us Q I r h;obtain⟨p,ys,rfl,h⟩:=h;obtain⟨u,rfl,rx⟩:=Vg r;cases rx;rcases h with⟨hq,q⟩ | ⟨hq,q⟩
 ·obtain⟨its,r',pl,hz⟩:=I.list hq;have hlen:=r'.length;refine call_tuple_list pl.isList (fun h' kp=>?_) (by simp only[xS]<;>lia);have I1:ZE X pins U H {s with heap:=h' }:=I.kept (t':=s.toks) kp;have I2:ZE X pins U (upd H h'.objs.size (.tup ys)) {s with heap:=h'.push {cls:=.type "tuple", data:=.seq its.toArray } } :=
   I1.laid (t':=s.toks) (fun b o e=>xA _ e) (xD _) (show ZL X.prog X.w _ _ _ (.tup ys) from⟨hz,its,r',IsTup.new _ _⟩)
  exact⟨.ref h'.objs.size,_,I2,rfl,q _ (I1.hok.fresh (xD _))⟩
 ·obtain⟨its,r',pl,hz⟩:=I.tuple hq;exact call_tuple_same pl ⟨.ref p,H,I,rfl,q⟩
def tyV(K:uFg)(T:String)(x:V)(H:Hp):Prop:=match x with
 | .str _=>T="str"
 | .int _=>T="int"
 | .ref p=>(T="list" /\ ∃xs,ZG K H p xs)\/(T="tuple" /\ ∃o,K.lookup p=some o/\o.cls=.type "tuple" /\ o.dict=none)\/
   (T="dict" /\ ((∃kvs,H p=some (.dK kvs))\/∃kvs,H p=some (.dT kvs)))\/(T="set" /\ ∃S n,H p=some (.set S n))
 | _=>False
theorem O7{pins:List (dN×Obj)}{U:St}{H:Hp}{s:dJ}{T:String}{x:V}{v:dM}(I:ZE X pins U H s)(r:ZF x v)(ty:tyV X.K T x H) :
  s.TypeIs v T/\∀a,v=.ref a->∃ob,s.heap.get? a=some ob/\ob.dict=none:=by
 cases x with
 | str z =>
  obtain⟨t,rfl⟩:=r;cases (show T="str" from ty);exact⟨typeIs_str s z t,fun _ e=>nomatch e⟩
 | int i =>
  obtain⟨t,rfl⟩:=r;cases (show T="int" from ty);exact⟨typeIs_int s i t,fun _ e=>nomatch e⟩
 | ref p =>
  cases r;rcases ty with⟨rfl,xs,hq⟩ | ⟨rfl,o,hk,hc,hd⟩ | ⟨rfl,hk⟩ | ⟨rfl,S,n,hk⟩
  ·obtain⟨its,_,pl,_⟩:=I.list hq;refine⟨pl.isList.typeIs,fun a e=>?_⟩;cases e;obtain⟨o,n,e,c,hd,_⟩:=pl;exact⟨o,e,hd⟩
  ·refine⟨⟨o,I.kIn p o hk,hc⟩,fun a e=>?_⟩;cases e;exact⟨o,I.kIn _ o hk,hd⟩
  ·have z:∃o,s.heap.get? p=some o/\o.ExactDict:=by
    rcases hk with⟨kvs,hk⟩ | ⟨kvs,hk⟩
    ·obtain⟨_,_,_,_,o,_,_,e,ex,_⟩:=I.hok p _ hk;exact⟨o,e,ex⟩
    ·obtain⟨_,_,_,_,o,_,_,e,ex,_⟩:=I.hok p _ hk;exact⟨o,e,ex⟩
   obtain⟨o,e,ex⟩:=z;refine⟨⟨o,e,ex.1⟩,fun a e2=>?_⟩;cases e2;exact⟨o,e,ex.2.1⟩
  ·obtain⟨o,_,_,_,e,ex,_⟩:=I.hok p _ hk;refine⟨⟨o,e,ex.1⟩,fun a e2=>?_⟩;cases e2;exact⟨o,e,ex.2.1⟩
 | _=>exact False.elim ty
def DJ(K:uFg)(T:String)(r:V->List V->Hp->VK->Prop)(to:TE)(t:TA):TE:=fun U H Q=>to U H fun x H1=>tyV K T x H1/\t U H1 fun xs H2=>r x xs H2 Q
variable{o e:Expr}{es:List Expr}{to:TE}{t:TA}{name:Str}{apos cpos:Pos}{T id:String}{r:V->List V->Hp->VK->Prop}
end
def cZ(X:Cx)(id:String)(r:V->List V->Hp->VK->Prop):Prop :=
 ∀(pins:List (dN×Obj))(s:dJ)(U:St)(H:Hp)(x:V)(xs:aG)(v:dM)(us:dG)(Q:VK),ZE X pins U H s->ZF x v->ZH xs us->r x xs H Q ->
  wpAny (model X.prog X.w) X.A (call (.builtin id) (v::us)) (EP X pins U Q) X.xe s
theorem ZH.one:∀{x:V}{us:dG},ZH [x] us->∃u,us=[u]/\ZF x u
 | _,_,.cons r .nil=>⟨_,rfl,r⟩
theorem ZH.rep(h:ZH xs us):∀k:Nat,ZH (List.replicate k xs).flatten (List.replicate k us).flatten
 | 0=>.nil
 | k+1=>by
  rw[yT,yT,wI,wI];exact ZH.append h (ZH.rep h k)
theorem ID(its:dG):∀k acc,
  List.foldl (fun x1 x2=>x1++x2) acc.toArray (List.replicate k its.toArray)=(acc++(List.replicate k its).flatten).toArray
 | 0,acc=>by simp
 | k+1,acc=>by
  have e:acc.toArray++its.toArray=(acc++its).toArray:=by simp
  have e2:(acc++its)++(List.replicate k its).flatten=acc++(List.replicate (k+1) its).flatten:=by
   rw[yT,wI,zN]
  rw[← e2,← ID its k (acc++its),← e,yT,List.foldl_cons]
section
variable{X:Cx}{pins:List (dN×Obj)}{U:St}{H:Hp}{s:dJ}{l:dN}{xs ys:aG}
theorem ZE.lset{its its':dG}{n:Nat}{f:Array dM->Array dM}{t':Nat}(I:ZE X pins U H s)(hH:H l=some (.lst xs))(e:s.heap.get? l=some {cls:=.type "list", data:=.seq its.toArray n })(hf:f its.toArray=its'.toArray)(hv:ZH ys its')(hz:ys.length<=sizeLine) :
  ZE X pins U (upd H l (.lst ys)) {s with heap:=s.heap.update l (Obj.mapSeq f),toks:=t' }:=by
 have q:=PySem.IsL.update e f;rw[hf] at q;refine I.write (x:=l) (e:=l) (by rw[hH];exact trivial) (.inl rfl) (fun b' u hb hu=>(wB s.heap (Obj.mapSeq f) (Ne.symm hb)).trans hu) ⟨_,q⟩ ?_;exact⟨hz,its',_,hv,q⟩
theorem ZE.lnew{its:dG}{t':Nat}(I:ZE X pins U H s)(hv:ZH ys its)(hz:ys.length<=sizeLine) :
  ZE X pins U (upd H s.heap.objs.size (.lst ys)) {s with heap:=s.heap.push {cls:=.type "list", data:=.seq its.toArray },toks:=t' } :=
 I.laid (fun _ _ q=>xA _ q) (xD _) ⟨hz,its,0,hv,xG _ rfl⟩
theorem ZE.fresh(I:ZE X pins U H s):H s.heap.objs.size=none:=I.hok.fresh (xD _)
theorem ZE.lstM(I:ZE X pins U H s)(hH:H l=some (.lst xs)):xs.length<=sizeLine/\∃(its:dG)(n:Nat),ZH xs its/\xs.length=its.length/\s.heap.get? l=some {cls:=.type "list", data:=.seq its.toArray n }:=by
 obtain⟨z,its,n,r,e⟩:=I.hok l _ hH;exact⟨z,its,n,r,r.length,e⟩
theorem RC(h:n<=sizeLine):Builtin.List.listTooLong n=false:=by
 unfold Builtin.List.listTooLong;exact xT (by lia)
end
inductive VP(x:V)(vs:aG)(H:Hp)(Q:VK):Prop
 |mk(l xs y)(_:x=.ref l)(_:vs=[y])(_:H l=some (.lst xs))(_:xs.length<sizeLine)(_:Q .non (upd H l (.lst (xs ++ [y]))))
inductive EU(x y:V)(H:Hp)(Q:VK):Prop
 |mk(l b xs zs)(_:x=.ref l)(_:y=.ref b)(_:H l=some (.lst xs))(_:H b=some (.lst zs))(_:xs.length+zs.length<=sizeLine)(_:∀p,H p=none->Q (.ref p) (upd H p (.lst (xs++zs))))
inductive DA(x y:V)(H:Hp)(Q:VK):Prop
 |mk(l k xs)(_:x=.ref l)(_:y=.int k)(_:H l=some (.lst xs))(_:-(2^63)<=k)(_:k<2^63)(_:xs.length * k.toNat<=sizeLine)(_:∀p,H p=none->Q (.ref p) (upd H p (.lst (List.replicate k.toNat xs).flatten)))
theorem Xu{α:Type}(xs:List α)(k:Nat):(List.replicate k xs).flatten.length=k * xs.length:=by
 induction k with
 | zero=>simp
 | succ k ih=>rw[yT,wI,xK,ih,Nat.succ_mul,Nat.add_comm]
section
set_option maxRecDepth 100000 in
end
section
variable{κ:Type} [DecidableEq κ]
def Zr(kvs:List (κ×V))(k:κ):Option V:=(kvs.find? fun kv=>decide (kv.1=k)).map (·.2)
def Z2(kvs:List (κ×V))(k:κ)(v:V):List (κ×V) :=
 if (kvs.any fun kv=>decide (kv.1=k))=true then kvs.map (fun kv=>if kv.1=k then (kv.1,v) else kv) else kvs ++ [(k,v)]
theorem Vj{p:κ×V}{r:List (κ×V)}{k:κ}(e:p.1=k):Zr (p::r) k=some p.2:=by simp[Zr,wE,e]
theorem Vv{p:κ×V}{r:List (κ×V)}{k:κ}(e:¬p.1=k):Zr (p::r) k=Zr r k:=by simp[Zr,wE,e]
theorem JI(k:κ):∀kvs:List (κ×V),(kvs.any fun kv=>decide (kv.1=k))=(Zr kvs k).isSome
 | []=>rfl
 | p::r=>by
  rw[List.any_cons]
  by_cases e:p.1=k
  ·simp only[Vj e,xN e,Bool.true_or,Option.isSome_some]
  ·rw[Vv e,xT e,Bool.false_or];exact JI k r
theorem Ki(k j:κ)(y:V):∀kvs:List (κ×V),Zr (kvs.map fun kv=>if kv.1=k then (kv.1,y) else kv) j=(Zr kvs j).map fun x=>if j=k then y else x
 | []=>rfl
 | p::r=>by
  have ih:=Ki k j y r;rw[yF]
  by_cases h:p.1=k
  ·rw[if_pos h]
   by_cases e:p.1=j
   ·rw[Vj (p:=(p.1,y)) e,Vj e,zV,if_pos (e.symm.trans h)]
   ·rw[Vv (p:=(p.1,y)) e,Vv e,ih]
  ·rw[if_neg h]
   by_cases e:p.1=j
   ·rw[Vj (p:=p) e,Vj e,zV,if_neg (fun z=>h (e.trans z))]
   ·rw[Vv (p:=p) e,Vv e,ih]
theorem Ht(k j:κ)(y:V):∀kvs:List (κ×V),Zr kvs k=none->Zr (kvs ++ [(k,y)]) j=if j=k then some y else Zr kvs j
 | [],_=>by
  by_cases e:k=j
  ·rw[if_pos e.symm];exact Vj (p:=(k,y)) e
  ·rw[if_neg (fun z=>e z.symm)];exact Vv (p:=(k,y)) e
 | p::r,hn=>by
  rw[yH];have hk:¬p.1=k:=fun z=>by rw[Vj z] at hn;cases hn
  rw[Vv hk] at hn;have ih:=Ht k j y r hn
  by_cases e:p.1=j
  ·rw[Vj e,Vj e,if_neg (fun z=>hk (e.trans z))]
  ·rw[Vv e,Vv e,ih]
theorem Uq(kvs:List (κ×V))(k j:κ)(y:V):Zr (Z2 kvs k y) j=if j=k then some y else Zr kvs j:=by
 unfold Z2
 by_cases a:(kvs.any fun kv=>decide (kv.1=k))=true
 ·rw[if_pos a,Ki];rw[JI] at a
  by_cases e:j=k
  ·obtain⟨x,hx⟩:=Option.isSome_iff_exists.mp a;rw[if_pos e,e,hx,zV,if_pos rfl]
  ·rw[if_neg e];cases Zr kvs j with
   | none=>rfl
   | some x=>rw[zV,if_neg e]
 ·rw[if_neg a];refine Ht k j y kvs ?_;rw[JI] at a;cases q:Zr kvs k with
  | none=>rfl
  | some x=>rw[q] at a;exact(a rfl).elim
theorem Vw(kvs:List (κ×V))(k:κ)(v:V):(Z2 kvs k v).length<=kvs.length+1:=by
 unfold Z2;split
 ·rw[xB];lia
 ·rw[xK,xX,List.length_nil];lia
theorem GL{kvs:List (κ×V)}{k:κ}(v:V)(h:Zr kvs k=none):Z2 kvs k v=kvs ++ [(k,v)]:=by
 unfold Z2;rw[JI,h];exact if_neg aA
theorem YM.isSome_eq(r:YM o u):o.isSome=u.isSome:=by
 cases o with
 | none=>cases u with
  | none=>rfl
  | some _=>exact(show False from r).elim
 | some _=>cases u with
  | none=>exact(show False from r).elim
  | some _=>rfl
theorem YM.getD(r:YM o u)(rd:ZF d d'):ZF (o.getD d) (u.getD d'):=by
 cases o with
 | none=>cases u with
  | none=>exact rd
  | some _=>exact(show False from r).elim
 | some _=>cases u with
  | none=>exact(show False from r).elim
  | some _=>exact r
theorem KV.val(r:KV kvs vs)(k:κ):YM (Zr kvs k) (valueAt vs k):=by
 unfold KV at r
 induction r with
 | nil=>exact True.intro
 | @cons p q ps qs h t ih =>
  obtain⟨h1,h2⟩:=h
  by_cases e:p.1=k
  ·have e':q.1=k:=h1.symm.trans e;have b:valueAt (q::qs) k=some q.2:=by simp[valueAt,wE,e']
   rw[Vj e,b];exact h2
  ·have e':¬q.1=k:=fun z=>e (h1.trans z);have b:valueAt (q::qs) k=valueAt qs k:=by simp[valueAt,wE,e']
   rw[Vv e,b];exact ih
theorem KV.any(r:KV kvs vs)(k:κ):(kvs.any fun kv=>decide (kv.1=k))=vs.any fun kv=>decide (kv.1=k):=by
 unfold KV at r
 induction r with
 | nil=>rfl
 | cons h t ih=>rw[List.any_cons,List.any_cons,ih,h.1]
theorem KV.repl(r:KV kvs vs)(k:κ)(ry:ZF y u) :
  KV (kvs.map fun kv=>if kv.1=k then (kv.1,y) else kv) (vs.map fun kv=>if kv.1=k then (kv.1,u) else kv):=by
 unfold KV at r ⊢
 induction r with
 | nil=>exact .nil
 | @cons p q ps qs h t ih =>
  rw[yF,yF];refine .cons ?_ ih;obtain⟨h1,h2⟩:=h
  by_cases e:p.1=k
  ·rw[if_pos e,if_pos (h1.symm.trans e)];exact⟨h1,ry⟩
  ·rw[if_neg e,if_neg (fun z=>e (h1.trans z))];exact⟨h1,h2⟩
theorem KV.put(r:KV kvs vs)(k:κ)(ry:ZF y u):KV (Z2 kvs k y) (stored vs k u):=by
 unfold Z2 stored;rw[r.any k]
 by_cases e:(vs.any fun kv=>decide (kv.1=k))=true
 ·rw[if_pos e,if_pos e];exact r.repl k ry
 ·rw[if_neg e,if_neg e];exact Paired.snoc r ⟨rfl,ry⟩
theorem KV.length{kvs:List (κ×V)}{vs:List (κ×dM)}(r:KV kvs vs):kvs.length=vs.length:=Paired.length r
end
theorem An(r:ZF (kV k) u):(Yx P w).is k u=true:=by
 cases k with
 | inl i=>obtain⟨t,e⟩:=(show ∃t,u=Value.int i t from r);subst e;exact Ra P w i t
 | inr x=>obtain⟨t,e⟩:=(show ∃t,u=Value.str x t from r);subst e;exact Ma P w x t
theorem Lv:∀{ks:List ZM}{us:dG},ZH (ks.map kV) us->ItemsAre (Yx P w) ks us
 | [],_,r=>by rw[List.map_nil] at r;cases r;exact .nil
 | k::ks,_,r=>by
  rw[yF] at r;cases r with
  | cons h t=>exact .cons (An h) (Lv t)
abbrev KT(H:Hp):List (List ZM×V)->List (List ZM×dN×dM)->Prop:=Paired fun p q=>p.1=q.1/\H q.2.1=some (.tup (p.1.map kV))/\ZF p.2 q.2.2
theorem KT.val(r:KT H kvs xs)(k:List ZM):YM (Zr kvs k) ((atKey xs k).map (·.2)):=by
 induction r with
 | nil=>exact True.intro
 | @cons p q ps qs h t ih =>
  obtain⟨h1,_,h2⟩:=h
  by_cases e:p.1=k
  ·have e':q.1=k:=h1.symm.trans e;have b:atKey (q::qs) k=some q.2:=by simp[atKey,wE,e']
   rw[Vj e,b];exact h2
  ·have e':¬q.1=k:=fun z=>e (h1.trans z);have b:atKey (q::qs) k=atKey qs k:=by simp[atKey,wE,e']
   rw[Vv e,b];exact ih
theorem KT.repl(r:KT H kvs xs)(k:List ZM)(ry:ZF y u) :
  KT H (kvs.map fun kv=>if kv.1=k then (kv.1,y) else kv) (xs.map (putAt k u)):=by
 induction r with
 | nil=>exact .nil
 | @cons p q ps qs h t ih =>
  rw[yF,yF];refine .cons ?_ ih;obtain⟨h1,h2,h3⟩:=h;unfold putAt
  by_cases e:p.1=k
  ·rw[if_pos e,if_pos (h1.symm.trans e)];exact⟨h1,h2,ry⟩
  ·rw[if_neg e,if_neg (fun z=>e (h1.trans z))];exact⟨h1,h2,h3⟩
theorem KT.put(r:KT H kvs xs)(k:List ZM)(hb:H b=some (.tup (k.map kV)))(ry:ZF y u) :
  KT H (Z2 kvs k y) (storedH xs k b u):=by
 have e:(kvs.any fun kv=>decide (kv.1=k))=(atKey xs k).isSome:=by
  rw[JI,(r.val k).isSome_eq,Option.isSome_map]
 unfold Z2 storedH;rw[e]
 by_cases q:(atKey xs k).isSome=true
 ·rw[if_pos q,if_pos q];exact r.repl k ry
 ·rw[if_neg q,if_neg q];exact Paired.snoc r ⟨rfl,hb,ry⟩
theorem KT.keeps(r:KT H kvs xs)(ht:∀b ys,H b=some (.tup ys)->H' b=some (.tup ys)):KT H' kvs xs :=
 Paired.mapP r fun _ _ z=>⟨z.1,ht _ _ z.2.1,z.2.2⟩
theorem GT(ok:YN P w H h)(e:Rd H a u):ZL P w H h a u:=e.ok ok
theorem JO(ok:YN P w H h)(e:Rd H a (.dK kvs)):kvs.length<=sizeLine/\(a==sysModules)=false/\∃vs,KV kvs vs/\h.DictOf (Yx P w) a vs :=
 show ZL P w H h a (.dK kvs) from GT ok e
theorem FK(ok:YN P w H h)(e:H a=some (.dK kvs)):kvs.length<=sizeLine/\(a==sysModules)=false/\∃vs,KV kvs vs/\h.DictOf (Yx P w) a vs:=JO ok (.inl e)
theorem Ar(ok:YN P w H h)(e:H a=some (.tup (ks.map kV))):(tupleKind (Yx P w)).is h ks a:=by
 obtain⟨_,its,r,o,h1,h2,n,h3⟩:=(show ZL P w H h a (.tup (ks.map kV)) from ok a _ e);exact⟨o,its.toArray,n,h1,h2,h3,by simpa using Lv r⟩
theorem Am(ok:YN P w H h)(e:Rd H a (.dT kvs)):kvs.length<=sizeLine/\(a==sysModules)=false /\
  ∃xs,KT H kvs xs/\h.DictOfH (tupleKind (Yx P w)) a xs:=by
 obtain⟨z,y,xs,r,o,es,ep,h1,h2,h3,h4,h5⟩:=(show ZL P w H h a (.dT kvs) from GT ok e);refine⟨z,y,xs,r,o,es,ep,h1,h2,h3,h4,fun x hx=>?_,h5⟩;have all:∀{l:List (List ZM×V)}{m:List (List ZM×dN×dM)},KT H l m->∀x∈m,(tupleKind (Yx P w)).is h x.1 x.2.1:=by
  intro l m q
  induction q with
  | nil=>intro x hx;exact nomatch hx
  | @cons p q ps qs hq t ih =>
   intro x hx;rcases xF.mp hx with e | hx
   ·subst e;exact Ar ok (by rw[← hq.1];exact hq.2.1)
   ·exact ih x hx
 exact all r x hx
theorem Ld(ok:YN P w H h)(e:H a=some (.dT kvs)):kvs.length<=sizeLine/\(a==sysModules)=false /\
  ∃xs,KT H kvs xs/\h.DictOfH (tupleKind (Yx P w)) a xs:=Am ok (.inl e)
def YA(H:Hp)(a:dN)(y:V)(r:Option V):Prop :=
 (∃kvs k,Rd H a (.dK kvs)/\y=kV k/\r=Zr kvs k)\/∃kvs k b,Rd H a (.dT kvs)/\y=.ref b/\H b=some (.tup (k.map kV))/\r=Zr kvs k
def WB(H:Hp)(a:dN)(y v:V)(H':Hp):Prop :=
 (∃kvs k,H a=some (.dK kvs)/\y=kV k/\kvs.length<sizeLine/\H'=upd H a (.dK (Z2 kvs k v)))\/
 ∃kvs k b,H a=some (.dT kvs)/\y=.ref b/\H b=some (.tup (k.map kV))/\kvs.length<sizeLine/\H'=upd H a (.dT (Z2 kvs k v))
theorem YA.k{H:Hp}{a:dN}{kvs:List (ZM×V)}{k:ZM}(e:H a=some (.dK kvs)):YA H a (kV k) (Zr kvs k):=.inl ⟨kvs,k,.inl e,rfl,rfl⟩
theorem YA.t{H:Hp}{a b:dN}{kvs:List (List ZM×V)}{k:List ZM}(e:H a=some (.dT kvs))(eb:H b=some (.tup (k.map kV))):YA H a (.ref b) (Zr kvs k):=.inr ⟨kvs,k,b,.inl e,rfl,eb,rfl⟩
theorem WB.k{H:Hp}{a:dN}{kvs:List (ZM×V)}{k:ZM}{v:V}(e:H a=some (.dK kvs))(hl:kvs.length<sizeLine):WB H a (kV k) v (upd H a (.dK (Z2 kvs k v))):=.inl ⟨kvs,k,e,rfl,hl,rfl⟩
theorem WB.t{H:Hp}{a b:dN}{kvs:List (List ZM×V)}{k:List ZM}{v:V}(e:H a=some (.dT kvs))(eb:H b=some (.tup (k.map kV)))(hl:kvs.length<sizeLine) :
  WB H a (.ref b) v (upd H a (.dT (Z2 kvs k v))):=.inr ⟨kvs,k,b,e,rfl,eb,hl,rfl⟩
section
variable{X:Cx}{pins:List (dN×Obj)}{U:St}{H:Hp}{s:dJ}{a:dN}{y v:V}{u r:dM}{o:Option V}{A:dQ}{E:dD}
theorem ZE.big(I:ZE X pins U H s):sysModules<s.heap.objs.size:=by
 have h:mainGlobals<s.heap.objs.size:=(I.mod.glob.keeps I.bk).lt;exact Nat.lt_trans aA h
theorem Qx{Q:dD}(hu:A.units+1<cLine)(I:ZE X pins U H s)(g:YA H a y (some v))(ry:ZF y u)(h:∀w' s',ZE X pins U H s'->ZF v w'->Q w' s') :
  wpAny (model X.prog X.w) A (getItem (.ref a) u) Q E s:=by
 rcases g with⟨kvs,k,e,ey,l⟩ | ⟨kvs,k,b,e,ey,eb,l⟩
 ·subst ey;obtain⟨z,hd,vs,rel,dd⟩:=JO I.hok e;obtain⟨w',hw,rw'⟩:=YM.some_of (v:=v) (o:=valueAt vs k) (by rw[l];exact rel.val k);exact wpAny_getItem_of (An ry) dd.mapOf hw (h w' _ (I.tok _) rw')
 ·subst ey;cases (show u=Value.ref b from ry);obtain⟨z,hd,xs,rel,dd⟩:=Am I.hok e;obtain⟨w',hw,rw'⟩:=YM.some_of (v:=v) (o:=(atKey xs k).map (·.2)) (by rw[l];exact rel.val k);obtain⟨p,hp,hp2⟩:=yD.mp hw;refine wpAny_getItem_heap (tupleKind_room_in1 hu) (Ar I.hok eb) dd hp ?_;rw[hp2];exact h w' _ (I.tok _) rw'
theorem RB{Q:dD}(hu:A.units+1<cLine)(I:ZE X pins U H s)(g:YA H a y o)(ry:ZF y u)(h:∀s',ZE X pins U H s'->Q (.bool o.isSome) s') :
  wpAny (model X.prog X.w) A (compareOp .In u (.ref a)) Q E s:=by
 rcases g with⟨kvs,k,e,ey,l⟩ | ⟨kvs,k,b,e,ey,eb,l⟩
 ·subst ey;obtain⟨z,hd,vs,rel,dd⟩:=JO I.hok e;refine wpAny_in_of (An ry) hd dd.mapOf ?_;rw[← (rel.val k).isSome_eq,← l];exact h _ (I.tok _)
 ·subst ey;cases (show u=Value.ref b from ry);obtain⟨z,hd,xs,rel,dd⟩:=Am I.hok e;refine wpAny_in_heap (tupleKind_room_in1 hu) (Ar I.hok eb) hd dd ?_;have q:=(rel.val k).isSome_eq;rw[Option.isSome_map] at q;rw[← q,← l];exact h _ (I.tok _)
theorem L4{Q:dD}(hu:A.units+1<cLine)(I:ZE X pins U H s)(g:YA H a y o)(ry:ZF y u)(h:∀s',ZE X pins U H s'->Q (.bool (!o.isSome)) s') :
  wpAny (model X.prog X.w) A (compareOp .NotIn u (.ref a)) Q E s:=by
 rcases g with⟨kvs,k,e,ey,l⟩ | ⟨kvs,k,b,e,ey,eb,l⟩
 ·subst ey;obtain⟨z,hd,vs,rel,dd⟩:=JO I.hok e;refine wpAny_notIn_of (An ry) hd dd.mapOf ?_;rw[← (rel.val k).isSome_eq,← l];exact h _ (I.tok _)
 ·subst ey;cases (show u=Value.ref b from ry);obtain⟨z,hd,xs,rel,dd⟩:=Am I.hok e;refine wpAny_notIn_heap (tupleKind_room_in1 hu) (Ar I.hok eb) hd dd ?_;have q:=(rel.val k).isSome_eq;rw[Option.isSome_map] at q;rw[← q,← l];exact h _ (I.tok _)
theorem C7{h':Heap}{t':Nat}{ob:HO}(I:ZE X pins U H s)(mu:BB (H a))(hs:Heap.SameBut a s.heap h')(he:∃q,h'.get? a=some q)(new:ZL X.prog X.w (upd H a ob) h' a ob) :
  ZE X pins U (upd H a ob) {s with heap:=h',toks:=t' } :=
 I.write (x:=a) (e:=a) mu (.inl rfl) (fun b q hb z=>(hs.2 b hb).trans z) he new
theorem Li(z:kvs.length<=sizeLine)(hd:(a==sysModules)=false)(rel:KV kvs vs)(dd:h'.DictOf (Yx P w) a vs) :
  ZL P w H' h' a (.dK kvs):=⟨z,hd,vs,rel,dd⟩
theorem OV{H':Hp}{Q:Unit->dJ->Prop}(hu:A.units+1<cLine)(I:ZE X pins U H s)(g:WB H a y v H')(ry:ZF y u)(rv:ZF v r)(h:∀s',ZE X pins U H' s'->Q () s') :
  wpAny (model X.prog X.w) A (setItem (.ref a) u r) Q E s:=by
 rcases g with⟨kvs,k,e,ey,l,eH⟩ | ⟨kvs,k,b,e,ey,eb,l,eH⟩
 ·subst ey eH;obtain⟨z,hd,vs,rel,dd⟩:=FK I.hok e;have hz:vs.length<=sizeLine:=by rw[← rel.length];exact z
  have hl:(Z2 kvs k v).length<=sizeLine:=by have:=Vw kvs k v;lia
  refine wpAny_setItem_pairs (hsz:=hz) (An ry) dd fun h' dd' hs=>h _ ?_;have he:∃q,h'.get? a=some q:=let ⟨q,_,_,hq,_⟩:=dd';⟨q,hq⟩
  exact C7 I (by rw[e];exact True.intro) hs he (Li hl hd (rel.put k rv) dd')
 ·subst ey eH;cases (show u=Value.ref b from ry);obtain⟨z,hd,xs,rel,dd⟩:=Ld I.hok e;have hz:xs.length<=sizeLine:=by rw[← Paired.length rel];exact z
  have hl:(Z2 kvs k v).length<=sizeLine:=by have:=Vw kvs k v;lia
  refine wpAny_setItem_heap (hsz:=hz) (tupleKind_room_in1 hu) (Ar I.hok eb) dd fun h' dd' hs=>h _ ?_;obtain⟨q,es,ep,hq,h2,h3,h4,_,h5⟩:=dd';refine C7 I (by rw[e];exact True.intro) hs ⟨q,hq⟩ ⟨hl,hd,_,(rel.put k eb rv).keeps fun c ys ec=>?_,q,es,ep,hq,h2,h3,h4,h5⟩;rw[Zc (GF ec e (fun z=>nomatch z))];exact ec
end
section
variable{X:Cx}{pins:List (dN×Obj)}{U:St}{H:Hp}{s:dJ}{a:dN}{kvs:List (ZM×V)}{k:ZM}{u:dM}{A:dQ}{E:dD}
theorem QB{Q:dD}(I:ZE X pins U H s)(e:Rd H a (.dK kvs))(h:∀t s',ZE X pins U H s'->Q (.int kvs.length t) s'):wpAny (model X.prog X.w) A (call (.builtin "len") [.ref a]) Q E s:=by
 obtain⟨z,hd,vs,rel,dd⟩:=JO I.hok e;refine call_len_dict hd dd (by rw[← rel.length];rw[sizeLine_eq] at z;lia) ?_;rw[← rel.length];exact h _ _ (I.tok _)
end
def DZ(i:Expr):Prop:=∀ov iv,subscripted i false ov iv=operate [ov,iv] (getItem ov iv)
theorem XH{prog:dO}{w:dP}{A:dQ}{E:dD}{s:dJ}{env:Env}{value slice:Expr}{pos:Pos}{T id:String}{Q:dD}(hl:typeLookup (.type T) "__getitem__"=pure (some (.builtin id)))(hs:DZ slice)(h:wpAny (model prog w) A (eval value env) (fun o s₁=>wpAny (model prog w) A (eval slice env) (fun i s₂=>s₂.TypeIs o T/\wpAny (model prog w) A (getItem o i) Q E s₂) E s₁) E s) :
  wpAny (model prog w) A (eval (.Subscript value slice pos) env) Q E s:=by
 refine Subscript_ (wpAny_mono h (fun o s₁ h₁=>wpAny_mono h₁ (fun i s₂ h₂=>?_) fun _ _ x=>x) fun _ _ x=>x);obtain⟨hT,h₂⟩:=h₂;unfold subscriptTail;refine wpAny_bind ?_;rw[getitemInPython_of_ne hT.not_modules];refine wpAny_bind (wpAny_specialOf hT hl ?_);have fin:wpAny (model prog w) A (subscripted slice false o i) (fun r s₃=>wpAny (model prog w) A (letTemporaryGo value o r >>= fun _=>pure r) Q E s₃) E s₂:=by
  rw[hs o i];exact wpAny_operating (wpAny_mono h₂ (fun r s₃ h₃=>wpAny_bind (wpAny_letTemporaryGo (wpAny_pure h₃))) fun _ _ x=>x)
 first
  | exact wpAny_pure (wpAny_bind fin)
  | exact wpAny_bind (wpAny_pure (wpAny_bind fin))
  | exact wpAny_bind fin
theorem NQ{X:Cx}{pins:List (dN×Obj)}{U:St}{H:Hp}{s:dJ}{a:dN}{y:V}{o:Option V}(I:ZE X pins U H s)(g:YA H a y o):s.TypeIs (.ref a) "dict" := by
 rcases g with⟨kvs,k,e,_,_⟩ | ⟨kvs,k,b,e,_,_,_⟩
 ·obtain⟨_,_,vs,_,dd⟩:=JO I.hok e;exact dd.typeIs
 ·obtain⟨_,_,xs,_,dd⟩:=Am I.hok e;exact dd.typeIs
inductive JS(Q:VK)(x y:V)(H2:Hp):Prop
 |mk(a v)(_:x=.ref a)(_:YA H2 a y (some v))(_:Q v H2)
def IS(td ty:TE):TE:=fun U H Q=>td U H fun x H1=>ty U H1 fun y H2=>JS Q x y H2
inductive sDPut_(D:YK)(U:St)(v x y:V)(H3:Hp):Prop
 |mk(a H4)(_:x=.ref a)(_:WB H3 a y v H4)(_:D.nx U H4)
def GV(td ty tv:TE):TS:=fun D U H=>tv U H fun v H1=>td U H1 fun x H2=>ty U H2 fun y H3=>sDPut_ D U v x y H3
theorem RS(hu:X.A.units+1<cLine)(ho:PE X o td)(hi:PE X i ty)(hs:DZ i):PE X (.Subscript o i pos) (IS td ty):=by
 intro pins s U H Q I h;refine XH PySem.F.slot_dict_getitem.lookup hs (thn (ho pins s U H _ I h) fun u s1 ⟨x,H1,I1,rx,q1⟩=>thn (hi pins s1 U H1 _ I1 q1) fun iv s2 ⟨y,H2,I2,ry,a,v,ex,g,q2⟩=>?_);subst ex;obtain rfl:u=Value.ref a:=rx;exact⟨NQ I2 g,Qx hu I2 g ry fun w' s3 I3 rw'=>⟨v,H2,I3,rw',q2⟩⟩
theorem OD(hu:X.A.units+1<cLine)(ho:PE X o td)(hi:PE X i ty)(hv:PE X value tv)(hs:swapsWith value (some (.Subscript o i pos')) pos.line X.env=pure false) :
  PS X (.Assign [.Subscript o i pos'] value pos) (GV td ty tv):=by
 intro pins s U H D I h;refine wpAny_Assign_Subscript (thn (hv pins s U H _ I h) fun r s1 ⟨v,H1,I1,rv,q1⟩=>thn (ho pins s1 U H1 _ I1 q1) fun u s2 ⟨x,H2,I2,rx,q2⟩=>thn (hi pins s2 U H2 _ I2 q2) fun iv s3 ⟨y,H3,I3,ry,a,H4,ex,g,q3⟩=>?_) hs;subst ex;obtain rfl:u=Value.ref a:=rx;exact OV hu I3 g ry rv fun s4 I4=>⟨U,H4,I4,q3⟩
theorem K3(h:Heap)(hb:sysModules<h.objs.size):ZL P w H (h.push {cls:=.type "dict", data:=.dict #[] }) h.objs.size (.dK []) :=
 ⟨xZ _,beq_eq_false_iff_ne.mpr (Ne.symm (xY hb)),[],.nil,Heap.DictOf.new h⟩
theorem OF(h:Heap)(hb:sysModules<h.objs.size):ZL P w H (h.push {cls:=.type "dict", data:=.dict #[] }) h.objs.size (.dT []) :=
 ⟨xZ _,beq_eq_false_iff_ne.mpr (Ne.symm (xY hb)),[],.nil,_,#[],0,xG _ rfl,⟨rfl,rfl,rfl⟩,rfl,rfl,List.nodup_nil⟩
def QY:TE:=fun _ H Q=>∀p,H p=none->Q (.ref p) (upd H p (.dK []))
def QJ:TE:=fun _ H Q=>∀p,H p=none->Q (.ref p) (upd H p (.dT []))
def E4:List (TE×TE)->St->Hp->(List (V×V)->Hp->Prop)->Prop
 | [],_,H,Q=>Q [] H
 | (tk,tv)::r,U,H,Q=>tk U H fun x H1=>tv U H1 fun y H2=>E4 r U H2 fun ps H3=>Q ((x,y)::ps) H3
abbrev VV:List (V×V)->List (dM×dM)->Prop:=Paired fun p q=>ZF p.1 q.1/\ZF p.2 q.2
def CG(X:Cx)(pos:Pos)(keys:List (Option Expr))(values:List Expr)(trs:List (TE×TE)):Prop :=
 ∀(pins:List (dN×Obj))(s:dJ)(U:St)(H:Hp)(Q:List (V×V)->Hp->Prop),ZE X pins U H s->E4 trs U H Q ->
  wpAny (model X.prog X.w) X.A (evalPairs (pairTrees keys values X.env pos)) (fun vs s'=>∃ps H',ZE X pins U H' s'/\VV ps vs/\Q ps H') X.xe s
theorem PF:CG X pos [] [] []:=fun pins s U H Q I h=>pairTrees_nil_walk ⟨[],H,I,.nil,h⟩
theorem Qm(hk:PE X k tk)(hv:PE X v tv)(hr:CG X pos ks vs trs) :
  CG X pos (some k::ks) (v::vs) ((tk,tv)::trs):=fun pins s U H Q I h =>
 pairTrees_cons_walk (thn (hk pins s U H _ I h) fun u s1 ⟨x,H1,I1,rx,q1⟩=>thn (hv pins s1 U H1 _ I1 q1) fun w2 s2 ⟨y,H2,I2,ry,q2⟩=> thn (hr pins s2 U H2 _ I2 q2) fun ws s3 ⟨ps,H3,I3,rel,q3⟩=>⟨(x,y)::ps,H3,I3,.cons ⟨rx,ry⟩ rel,q3⟩)
def JP(kvs more:List (ZM×V)):List (ZM×V):=more.foldl (fun acc kv=>Z2 acc kv.1 kv.2) kvs
theorem KV.merge:∀{more:List (ZM×V)}{rs:List (ZM×dM)}{kvs:List (ZM×V)}{vs:List (ZM×dM)},KV more rs->KV kvs vs->KV (JP kvs more) (merged vs rs):=by
 intro more rs kvs vs r;unfold KV at r
 induction r generalizing kvs vs with
 | nil=>intro q;exact q
 | @cons p q ps qs h t ih =>
  intro r0;have e:KV (Z2 kvs p.1 p.2) (stored vs q.1 q.2):=by
   have:=r0.put p.1 h.2;rw[← h.1];exact this
  exact ih e
theorem FE:∀more kvs,(JP kvs more).length<=kvs.length+more.length
 | [],kvs=>by show kvs.length<=kvs.length+0;lia
 | p::r,kvs=>by
  have h1:=FE r (Z2 kvs p.1 p.2);have h2:=Vw kvs p.1 p.2;show (JP (Z2 kvs p.1 p.2) r).length<=_;rw[xX];lia
theorem GW:∀{kvs:List (ZM×V)}{ws:List (dM×dM)},VV (kvs.map fun kv=>(kV kv.1,kv.2)) ws->∃rs,Carries (Yx P w) ws rs/\KV kvs rs
 | [],_,r=>by rw[List.map_nil] at r;cases r;exact⟨[],True.intro,.nil⟩
 | p::kvs,_,r=>by
  rw[yF] at r;cases r with
  | @cons a b as bs h t =>
   obtain⟨rs,c,q⟩:=GW (P:=P) (w:=w) t;obtain⟨b1,b2⟩:=b;exact⟨(p.1,b2)::rs,⟨An h.1,rfl,c⟩,.cons ⟨rfl,h.2⟩ q⟩
def IL(trs:List (TE×TE)):TE:=fun U H Q=>∀p,H p=none->E4 trs U (upd H p (.dK [])) fun ps H2=>H2 p=some (.dK [])/\∃kvs:List (ZM×V),ps=kvs.map (fun kv=>(kV kv.1,kv.2))/\kvs.length<=15/\Q (.ref p) (upd H2 p (.dK (JP [] kvs)))
theorem bE(h:CG X pos keys values trs)(hall:keys.all (·.isSome)=true)(hl:keys.length=values.length)(h0:keys ≠ [])(h15:keys.length<=15):PE X (.Dict keys values pos) (IL trs):=by
 intro pins s U H Q I q;have hn:=I.hok.fresh (xD s.heap.objs.size);have I1:=I.laid (a:=s.heap.objs.size) (o:=.dK []) (h':=s.heap.push {cls:=.type "dict", data:=.dict #[] }) (t':=s.toks) (fun _ _ q=>xA _ q) (xD _) (K3 s.heap I.big);refine wpAny_Dict_walk (knd:=Yx X.prog X.w) hall hl h0 h15 (thn (h pins _ U _ _ I1 (q _ hn)) fun ws s2 ⟨ps,H2,I2,rel,e,kvs,ep,lk,q2⟩=>?_);subst ep;obtain⟨rs,c,rk⟩:=GW (P:=X.prog) (w:=X.w) rel;obtain⟨z,hd,vs0,r0,dd⟩:=FK I2.hok e;cases r0;refine⟨rs,c,dd,fun h' dd' hs=>⟨.ref s.heap.objs.size,_,?_,rfl,q2⟩⟩;have hz:(JP [] kvs).length<=sizeLine:=by
  have h1:=FE kvs [];rw[List.length_nil] at h1;rw[sizeLine_eq];lia
 have he:∃q,h'.get? s.heap.objs.size=some q:=let ⟨q,_,_,hq,_⟩:=dd';⟨q,hq⟩
 exact C7 I2 (by rw[e];exact True.intro) hs he (Li hz hd (rk.merge .nil) dd')
structure M2 (X:Cx) (o:Expr) (m:Str) (apos:Pos) (e f:Expr) (cpos:Pos):Prop where
 base:attributeBase o m X.env (eval o X.env)=eval o X.env
 few:((backTo cpos (starEach [e,f] X.env)).all (fun x=>!x.1)&&(backToKw cpos (keywordEach [] X.env)).all (fun x=>x.1.isSome)
  && decide (([e,f]:List Expr).length+([]:List Keyword).length+(if ([]:List Keyword).isEmpty then 0 else 1)<30))=true
 line:(apos.endLine==cpos.line)=true
 trees:backTo cpos (starEach [e,f] X.env)= [(false,eval e X.env),(false,eval f X.env)]
def Dw(H:Hp)(a:dN):Prop:=(∃kvs,Rd H a (.dK kvs))\/∃kvs,Rd H a (.dT kvs)
theorem Lw{X:Cx}{pins:List (dN×Obj)}{U:St}{H:Hp}{s:dJ}{a:dN}(I:ZE X pins U H s)(d:Dw H a) :
  s.TypeIs (.ref a) "dict" /\ (∀b,Value.ref a=.ref b->∃ob,s.heap.get? b=some ob/\ob.dict=none)/\(a==sysModules)=false:=by
 rcases d with⟨kvs,e⟩ | ⟨kvs,e⟩
 ·obtain⟨_,hd,vs,_,dd⟩:=JO I.hok e;refine⟨dd.typeIs,fun b q=>?_,hd⟩;cases q;obtain⟨ob,_,_,h1,h2,_⟩:=dd;exact⟨ob,h1,h2.2.1⟩
 ·obtain⟨_,hd,xs,_,dd⟩:=Am I.hok e;refine⟨dd.typeIs,fun b q=>?_,hd⟩;cases q;obtain⟨ob,_,_,h1,h2,_⟩:=dd;exact⟨ob,h1,h2.2.1⟩
section
variable{X:Cx}{pins:List (dN×Obj)}{U:St}{H:Hp}{s:dJ}{a:dN}{y d:V}{u r:dM}{o:Option V}{A:dQ}{E:dD}
theorem Sx{Q:dD}(hu:A.units+1<cLine)(I:ZE X pins U H s)(g:YA H a y o)(ry:ZF y u)(rd:ZF d r)(h:∀w' s',ZE X pins U H s'->ZF (o.getD d) w'->Q w' s') :
  wpAny (model X.prog X.w) A (call (.builtin "dict.get") [.ref a,u,r]) Q E s:=by
 rcases g with⟨kvs,k,e,ey,l⟩ | ⟨kvs,k,b,e,ey,eb,l⟩
 ·subst ey;obtain⟨z,hd,vs,rel,dd⟩:=JO I.hok e;refine call_meetsIn PySem.F.slot_dict_get dd.typeIs PySem.F.entry_dict_get (PySem.F.args_dict_get_3 _ _ _) (meets_dict_get_default (Yx X.prog X.w) a (An ry) hd r) ⟨_,dd.mapOf,h _ _ (I.tok _) ?_⟩;rw[l];exact(rel.val k).getD rd
 ·subst ey;cases (show u=Value.ref b from ry);obtain⟨z,hd,xs,rel,dd⟩:=Am I.hok e;refine call_meetsIn PySem.F.slot_dict_get dd.typeIs PySem.F.entry_dict_get (PySem.F.args_dict_get_3 _ _ _) (meetsH_dict_get_default (tupleKind (Yx X.prog X.w)) a b hd r) ⟨tupleKind_room_in1 hu,k,xs,Ar I.hok eb,dd,h _ _ (I.tok _) ?_⟩;rw[l];exact(rel.val k).getD rd
end
inductive Jt(ty tx:TE)(U:St)(Q:VK)(x:V)(H1:Hp):Prop
 |mk(a)(_:x=.ref a)(_:Dw H1 a)(_:ty U H1 fun y H2=>tx U H2 fun z H3=>∃o,YA H3 a y o/\Q (o.getD z) H3)
def Fu(td ty tx:TE):TE:=fun U H Q=>td U H fun x H1=>Jt ty tx U Q x H1
theorem P7(hu:X.A.units+1<cLine)(ho:PE X o td)(he:PE X e ty)(hf:PE X f tx)(m:M2 X o "get" apos e f cpos):PE X (.Call (.Attribute o "get" apos) [e,f] [] cpos) (Fu td ty tx):=by
 intro pins s U H Q I h;refine wpAny_Call_method m.base m.few m.line PySem.F.plainAttrs_dict PySem.F.slot_dict_get PySem.F.type_dict_get (thn (ho pins s U H _ I h) fun u s1 ⟨x,H1,I1,rx,a,ex,d,q1⟩=>?_);subst ex;obtain rfl:u=Value.ref a:=rx;obtain⟨t1,t2,_⟩:=Lw I1 d;refine⟨t1,t2,?_⟩;rw[m.trees];refine Calls.callWith_builtin rfl (Calls.evalArgs_plain (Calls.spliced_cons (thn (he pins s1 U H1 _ I1 q1) fun iv s2 ⟨y,H2,I2,ry,q2⟩=> Calls.spliced_cons (thn (hf pins s2 U H2 _ I2 q2) fun fv s3 ⟨z,H3,I3,rz,ov,g,q3⟩=>Calls.spliced_nil ?_))));exact Sx hu I3 g ry rz fun w' s4 I4 rw'=>⟨_,H3,I4,rw',q3⟩
section
variable{X:Cx}{pins:List (dN×Obj)}{U:St}{H:Hp}{s:dJ}{a:dN}{kvs:List (ZM×V)}{A:dQ}{E:dD}
end
section
variable{X:Cx}{pins:List (dN×Obj)}{U:St}{H:Hp}{s:dJ}{a:dN}{y:V}{u:dM}{A:dQ}{E:dD}
end
end L2
namespace Att
open PySem PySem.W PySem.Calls PyProof.Rows
theorem LH:∀ns vs,WellAll P h vs (ns.map WData.int)->IntsAre vs ns:=by
 intro ns
 induction ns with
 | nil =>
  intro vs w;rw[List.map_nil] at w;cases w;exact .nil
 | cons n ns ih =>
  intro vs w;rw[yF] at w;cases w with
  | cons a b =>
   cases a;exact .cons _ _ (ih _ b)
theorem XR{l:OpenLaw}{n:Nat}(hn:l.most=some n){P:Params}{h:Heap}{args:List WData}{vals:dG}(hpre:l.row.toRowW.claim.pre args=true)(hwl:WellAll P h vals args) :
  ∃a vs ns,vals=[Value.ref a]/\args=[WData.list (ns.map WData.int)]/\h.get? a=some {cls:=.type "list", data:=.seq vs.toArray }/\IntsAre vs ns/\ns.length<=n:=by
 have hsh:WShape.hasAll [] args [.list .int]=true:=(pre_splitW hpre).1;have hc:l.pre.holds [] {args:=args }=true:=(pre_splitW hpre).2;obtain⟨d,r,rfl,h1,h2⟩:=hasAllW_cons hsh;obtain rfl:=hasAllW_nil h2;obtain⟨xs,rfl,h3⟩:=hasW_list h1;obtain⟨ns,rfl⟩:=items_int h3;have hlen:ns.length<=n:=by
  unfold OpenLaw.pre at hc;have h4:(WTm.not (.lt (.lit (.int (n:Int))) (.len (.arg 0)))).holds [] {args:=[.list (ns.map .int)] }=true:=by
   have h4:=(holds_andW hc).1;rw[hn] at h4;exact h4
  have h5:=condW_of h4 (w_not (w_lt w_lit (w_len_list (w_arg rfl))));rw[xB] at h5;refine Nat.le_of_not_lt fun q=>?_;have q':(n:Int)<((ns.length:Nat):Int):=by lia
  first
   | (rw[xN q'] at h5;exact absurd h5 aA)
   | (simp at h5;lia)
 cases hwl with
 | cons w1 w2 =>
  cases w2;cases w1 with
  | list ho hall=>exact⟨_,_,ns,rfl,rfl,ho,LH ns _ hall,hlen⟩
theorem SG(l:OpenLaw)(args:List WData):l.row.toRowW.claim.post args (.bool true) args=true :=
 postW_of (r:=l.row.toRowW) (X:=(true==true))
  (show WShape.has [] (.bool true) .bool=true by first | rfl | decide | simp[WShape.has,WShape.arms,WShape.armsAll])
  (show (WTm.eq .res (.lit (.bool true))).value [] {args:=args,res:=some (.bool true),after:=args }=some (.bool (true==true)) from w_eq_bool (w_res rfl) w_lit) rfl
theorem attach_call{l:OpenLaw}{n:Nat}{q:dO}{loose:dF}{XP:(dE)->Heap->Prop}{YP:dP->Heap->Prop}{d:DefRec}(hn:l.most=some n)(hdf:d.params.defaults=[])(call:∀w s₀ s₁ mg mb fa o pm cd doc a vs ns, Ground q loose [] XP w s₀ mg mb s₁.heap->YP w s₁.heap -> s₁.heap.get? fa=some o->o.data=.func (docDef d.name d.params d.body d.scope pm cd doc)->s₁.heap.CodeRec cd d.name->mg d.name=some (.ref fa)-> s₁.heap.get? a=some {cls:=.type "list", data:=.seq vs.toArray }->IntsAre vs ns->ns.length<=n->s₁.gens=#[]-> codeAny (model l.prog w) callerA (.call (.ref fa) ⟨[.ref a],[]⟩) (fun r s'=>r=.ok (.ret (.bool true))/\OldK s₁.heap s'.heap/\s'.os=s₁.os/\AllBare s'.gens) s₁) :
  WalkO q loose XP YP l.row.toRowW d [] (fun f vs=>PySem.call f vs):=by
 intro w s₀ s₁ mg mb G Y fa o pm cd doc dV kV ho hd hcd hD hmg hg args vals as hpre hlay hrd hwl hlo;obtain rfl:dV=.none:=Dflts.none hD hdf;obtain rfl:kV=.none:=Dflts.noKw hD;obtain⟨a,vs,ns,rfl,rfl,hobj,hints,hlen⟩:=XR hn hpre hwl;refine enter_call (codeAny_mono (call w s₀ s₁ mg mb fa o pm cd doc a vs ns G Y ho (fd_plain hd) hcd hmg hobj hints hlen hg) fun r s' hq=>?_);obtain⟨rfl,h2,h3,h4⟩:=hq;exact⟨.inl ⟨.bool true,.bool true,[],rfl,fun _=>rfl,.bool true,SG l _,fun _=>⟨List.Pairwise.nil,fun _ hm=>(nomatch hm)⟩⟩,h2,h3,h4⟩
section
variable{prog:dO}{w:dP}{A:dQ}{E:dD}{s:dJ}{K:Frag}
end
end Att
namespace L2
open PySem PySem.Spec PyProof.Rows
theorem GR:∀{vs:dG}{ns:List Int},IntsAre vs ns->ZH (ns.map V.int) vs
 | _,_,.nil=>.nil
 | _,_,.cons n t h=>.cons ⟨t,rfl⟩ (GR h)
def Yc(s:Stmt)(j:Nat):Stmt:=match s with
 | .ClassDef _ _ _ body _ _ _ _ _ _ _=>body.getD j (.Pass ⟨0,0,0,0⟩)
 | _=>.Pass ⟨0,0,0,0⟩
def Wo(s:Stmt):Arguments:=match s with
 | .FunctionDef _ a _ _ _ _ _ _ _ _=>a
 | _=>{posonlyargs:=[],args:=[],vararg:=none,kwonlyargs:=[],kw_defaults:=[],kwarg:=none,defaults:=[] }
def Yy(s:Stmt):List Stmt:=match s with
 | .FunctionDef _ _ b _ _ _ _ _ _ _=>b
 | _=>[]
def Zs(s:Stmt):Scope:=match s with
 | .FunctionDef _ _ _ _ _ _ sc _ _ _=>sc
 | _=>{kind:=.function,names:=[],isGenerator:=false,isCoroutine:=false }
abbrev YY:Tx:=fun _ _ _ _ _ _=>False
abbrev E0:XK:=fun _ _ _=>False
theorem CZ:Aw YY X E0:=fun _ _ _ _ _ _ _ h=>h.elim
structure Jh (K:uFg) (x qual:Str) (st:Stmt) (f:dN) (fd:FuncData):Prop where
 ex:∃(oc:dM)(od:Option dN)(kV doc pm:dM)(an:Option dN)(cdv ct:dM)(osl:Array (Option dM)),
  fd=PySem.W.fnOf x qual (Wo st) (Yy st) (Zs st) .none kV doc pm an cdv ct/\K.lookup f=some ⟨oc,od,.func fd,osl⟩/\PySem.W.codeIn K cdv qual=true
 kp:PySem.W.keepIn K (.ref f)=true
section
variable{P:dO}{w:dP}{K:uFg}{mg:dE}{base:Heap}
theorem Jh.ok{x qual:Str}{st:Stmt}{f:dN}{fd:FuncData}{N ps:dF}{k:Nat}{sp:Sp}(F:Jh K x qual st f fd)(S:ZR N ps (Zs st))(len:∀vs H Q E,sp vs H Q E->vs.length=ps.length)(hbody:∀ (cdv:dM) (A:dQ) (outer:List Env) (s:dJ) (H:Hp) (vs:aG) (Q:VK) (E:XK),ZN k (A.deeper (envOfC qual (Zs st) s.heap.objs.size f cdv))->sp vs H Q E -> ∃t,Ap (Y2 YY P w K mg base N qual (Zs st) f cdv A outer s H E).nox (Yy st) t/\t {nx:=fun _ H'=>Q .non H',rt:=Q } (start N vs) H):YG P w K mg base YY (k+1) f fd ps sp:=by
 obtain⟨oc,od,kV,doc,pm,an,cdv,ct,osl,rfl,lk,hcd⟩:=F.ex;refine Ko lk hcd S len fun A outer s H vs Q E hr hsp=>?_;obtain⟨t,h,q⟩:=hbody cdv A outer s H vs Q E hr hsp;exact⟨t,h.nox,q⟩
theorem Jh.binds{x qual:Str}{st:Stmt}{f:dN}{fd:FuncData}{ps:dF}(F:Jh K x qual st f fd)(h:∀ (kV doc pm:dM) (an:Option dN) (cdv ct:dM) (us:dG),us.length=ps.length->bindArgs (PySem.W.fnOf x qual (Wo st) (Yy st) (Zs st) .none kV doc pm an cdv ct) ⟨us,[]⟩=pure (ps.zip us)):YL K fd ps []:=by
 obtain⟨oc,od,kV,doc,pm,an,cdv,ct,osl,rfl,lk,hcd⟩:=F.ex;exact .all (h kV doc pm an cdv ct)
theorem Ek{x qual:Str}{st:Stmt}{f:dN}{oc:dM}{od an:Option dN}{osl:Array (Option dM)}{kV doc pm cdv ct:dM}(l:K.lookup f=some ⟨oc,od,.func (PySem.W.fnOf x qual (Wo st) (Yy st) (Zs st) .none kV doc pm an cdv ct),osl⟩)(c:PySem.W.codeIn K cdv qual=true)(k:PySem.W.keepIn K (.ref f)=true):Jh K x qual st f (PySem.W.fnOf x qual (Wo st) (Yy st) (Zs st) .none kV doc pm an cdv ct):=⟨⟨oc,od,kV,doc,pm,an,cdv,ct,osl,rfl,l,c⟩,k⟩
end
section
variable{X:Cx}
end
theorem Zp{A B:Prop}(h:B):if false=true then A else B:=by
 rw[if_neg xI];exact h
theorem Z6{A B:Prop}(h:A):if true=true then A else B:=by
 rw[if_pos rfl];exact h
def ZC(H H':Hp):Prop:=∀b o,H b=some o->H' b=some o
theorem ZC.refl(H:Hp):ZC H H:=fun _ _ h=>h
theorem ZC.trans(a:ZC H H1)(b:ZC H1 H2):ZC H H2:=fun c o h=>b c o (a c o h)
theorem ZC.free(e:ZC H H')(h:H' l=Option.none):H l=Option.none:=by
 cases q:H l with
 | none=>rfl
 | some o =>
  rw[e l o q] at h;cases h
theorem bQ:Uj X (.builtin "len") (fun xs H Q=>∃a kvs,xs=[V.ref a]/\H a=some (.dK kvs)/\Q (.int kvs.length) H):=by
 intro pins s U H xs us Q I r h;obtain⟨a,kvs,rfl,ha,q⟩:=h;obtain⟨u,rfl,ru⟩:=Vg r;cases ru;exact QB I (.inl ha) fun t s' I'=>⟨.int kvs.length,H,I',⟨t,rfl⟩,q⟩
section
variable{κ:Type} [DecidableEq κ]
theorem OB{kvs:List (κ×V)}{k:κ}(h:Zr kvs k=none):¬k∈kvs.map (·.1):=by
 intro m;obtain⟨p,hp,e⟩:=yQ.mp m;have q:(kvs.any fun kv=>decide (kv.1=k))=true:=List.any_eq_true.mpr ⟨p,hp,xN e⟩;rw[JI,h] at q;exact absurd q (by simp)
theorem Qg{kvs:List (κ×V)}{k:κ}{v:V}(h:Zr kvs k=some v):k∈kvs.map (·.1):=by
 have q:(kvs.any fun kv=>decide (kv.1=k))=true:=by
  rw[JI,h]
  all_goals rfl
 obtain⟨p,hp,e⟩:=List.any_eq_true.mp q;exact yQ.mpr ⟨p,hp,yU e⟩
theorem Eu:∀{l:List κ}{k:κ},l.Nodup->¬k∈l->(l ++ [k]).Nodup
 | [],k,_,_=>by simp
 | a::r,k,h,hk=>by
  obtain⟨h1,h2⟩:=yK.mp h;show (a::(r ++ [k])).Nodup;refine yK.mpr ⟨fun m=>?_,Eu h2 fun m=>hk (xF.mpr (Or.inr m))⟩;rcases xR.mp m with q | q
  ·exact h1 q
  ·exact hk (xF.mpr (Or.inl (xQ.mp q).symm))
theorem SJ{kvs:List (κ×V)}{k:κ}(v:V)(hn:(kvs.map (·.1)).Nodup)(h:Zr kvs k=none):((Z2 kvs k v).map (·.1)).Nodup:=by
 rw[GL v h,xP];exact Eu hn (OB h)
end
end L2
end
namespace L2
open PySem PySem.Spec PyProof.Rows
abbrev ccx(X:Cx)(scope:Scope)(cl:List (Str×dN))(C:dN)(N':dF)(s2:dJ)(H2:Hp)(ex:dI)(pn:List (dN×Obj)):Cx where
 prog:=X.prog
 w:=X.w
 K:=X.K
 mg:=X.mg
 base:=X.base
 A:=X.A
 N:=N'
 s₀:=s2
 H₀:=H2
 env:=compEnvC scope cl C X.env
 outer:=X.stack
 stack:=X.stack
 ex:=ex
 fn:=fun _=>false
 calm:=X.calm
 pn:=pn
 xe:=fun _ _=>False
theorem DK(env:Env):∀(l:List (Str×NameKind))(cs:List (Str×dN)),(∀p∈l,p.2=.free->∃c,env.cells.lookup p.1=some c)->
  ∃cl,(forIn l cs (fun(x:Str×NameKind) (r:List (Str×dN))=>if (x.2==NameKind.free)=true then (do let a ← cellOf env x.1;pure (ForInStep.yield ((x.1,a)::r)):Sem (ForInStep (List (Str×dN)))) else pure (ForInStep.yield r)):Sem _)=pure cl /\
   (∀x c,cl.lookup x=some c->env.cells.lookup x=some c\/cs.lookup x=some c)/\(∀x,((x,NameKind.free)∈l\/∃c,cs.lookup x=some c)->∃c,cl.lookup x=some c)
 | [],cs,_=>⟨cs,rfl,fun x c h=>.inr h,fun x h=>h.elim (fun z=>nomatch z) id⟩
 | (n,k)::r,cs,h=>by
  have hr:∀p∈r,p.2=.free->∃c,env.cells.lookup p.1=some c:=fun p hp=>h p (yC _ hp)
  by_cases hk:k=.free
  ·subst hk;obtain⟨c,hc⟩:=h (n,.free) xU rfl;obtain⟨cl,e,h1,h2⟩:=DK env r ((n,c)::cs) hr;refine⟨cl,?_,fun x d hx=>?_,fun x hx=>?_⟩
   ·rw[List.forIn_cons];have e2:cellOf env n=pure c:=by unfold cellOf;rw[hc]
    simp only[beq_self_eq_true,if_true,e2,pure_bind];exact e
   ·grind
   ·apply h2;rcases hx with hx | ⟨d,hx⟩
    ·grind
    ·grind
  ·obtain⟨cl,e,h1,h2⟩:=DK env r cs hr;refine⟨cl,?_,h1,fun x hx=>h2 x ?_⟩
   ·grind
   ·grind
theorem SM(h:∀p∈scope.names,p.2=.free->∃c,env.cells.lookup p.1=some c) :
  ∃cl,closureFor scope env=pure cl/\(∀x c,cl.lookup x=some c->env.cells.lookup x=some c)/\(∀x,(x,NameKind.free)∈scope.names->∃c,cl.lookup x=some c):=by
 obtain⟨cl,e,h1,h2⟩:=DK env scope.names [] h;refine⟨cl,?_,fun x c hx=>(h1 x c hx).elim id (fun z=>nomatch z),fun x hx=>h2 x (.inl hx)⟩;unfold closureFor;have e':=congrArg (fun m:Sem (List (Str×dN))=>m >>= fun r=>pure r) e;simp only[pure_bind] at e';exact e'
theorem Hv{env:Env}{kk:NameKind}(hkk:kk ≠ .free):∀{names:List (Str×NameKind)}{x:Str},names.lookup x=some kk ->
  (names.map fun(n,k)=>if (k==NameKind.free&&env.scope.kind==.function&&env.kindOf n==some .cell) then (n,NameKind.cell) else (n,k)).lookup x=some kk
 | [],_,h=>by simp at h
 | (n,k)::r,x,h=>by
  have ih:=@Hv env kk hkk r x;show List.lookup x ((if (k==NameKind.free&&env.scope.kind==.function&&env.kindOf n==some .cell)=true then (n,NameKind.cell) else (n,k))::_)=_;cases hx:x==n with
  | true =>
   simp only[yV,hx] at h;have h:some k=some kk:=h;have h':k=kk:=Option.some.inj h;subst h';have e:(k==NameKind.free)=false:=by simpa using hkk
   rw[e,wJ,wJ,if_neg xI,yV,hx]
  | false =>
   simp only[yV,hx] at h
   by_cases hc:(k==NameKind.free&&env.scope.kind==.function&&env.kindOf n==some .cell)=true
   ·rw[if_pos hc];simp only[yV,hx];exact ih h
   ·rw[if_neg hc];simp only[yV,hx];exact ih h
theorem DH{env:Env}:∀{names:List (Str×NameKind)}{x:Str},names.lookup x=some .free ->
  ((names.map fun(n,k)=>if (k==NameKind.free&&env.scope.kind==.function&&env.kindOf n==some .cell) then (n,NameKind.cell) else (n,k)).lookup x=some .cell)\/
  ((names.map fun(n,k)=>if (k==NameKind.free&&env.scope.kind==.function&&env.kindOf n==some .cell) then (n,NameKind.cell) else (n,k)).lookup x=some .free)
 | [],_,h=>by simp at h
 | (n,k)::r,x,h=>by
  have ih:=@DH env r x;show (List.lookup x ((if (k==NameKind.free&&env.scope.kind==.function&&env.kindOf n==some .cell)=true then (n,NameKind.cell) else (n,k))::_)=_)\/(List.lookup x ((if (k==NameKind.free&&env.scope.kind==.function&&env.kindOf n==some .cell)=true then (n,NameKind.cell) else (n,k))::_)=_);cases hx:x==n with
  | true =>
   simp only[yV,hx] at h;cases h
   by_cases hc:(NameKind.free==NameKind.free&&env.scope.kind==.function&&env.kindOf n==some .cell)=true
   ·rw[if_pos hc];simp[yV,hx]
   ·rw[if_neg hc];simp[yV,hx]
  | false =>
   simp only[yV,hx] at h
   by_cases hc:(k==NameKind.free&&env.scope.kind==.function&&env.kindOf n==some .cell)=true
   ·rw[if_pos hc];simp only[yV,hx];exact ih h
   ·rw[if_neg hc];simp only[yV,hx];exact ih h
theorem Ih(hcell:∀y∈scope.names,y.2 ≠ .cell)(h:(relabel scope env).names.lookup x=some .cell\/(relabel scope env).names.lookup x=some .free):(x,NameKind.free)∈scope.names:=by
 have m:∃k',(k'=NameKind.cell\/k'=NameKind.free)/\(x,k')∈(relabel scope env).names:=by
  rcases h with h | h
  ·exact⟨_,.inl rfl,PySem.mem_of_lookup h⟩
  ·exact⟨_,.inr rfl,PySem.mem_of_lookup h⟩
 obtain⟨k',hk,m⟩:=m;obtain⟨⟨n,k⟩,hm,e⟩:=yQ.mp m;have e:(if (k==NameKind.free&&env.scope.kind==.function&&env.kindOf n==some .cell)=true then (n,NameKind.cell) else (n,k))=(x,k'):=e
 by_cases hc:(k==NameKind.free&&env.scope.kind==.function&&env.kindOf n==some .cell)=true
 ·grind
 ·grind
theorem cU(I:Nat->dJ->Prop)(hEX:∀e s,EX e s->notedBy (model prog w) A env (fun x s'=>R (.error x) s') e s)(turn:∀n s,I n s->wpAny (model prog w) A (pyNext it) (fun r s₁=>match r with
   | none=>R (.ok .next) s₁
   | some v=>wpAny (model prog w) A (letOwnedTupleGo target it v) (fun _ s1=>wpAny (model prog w) A (assign target env v) (fun _ s₂ =>
     wpAny (model prog w) A (forIn ifs true fun c r=>if r=true then do let ok ← isTrue c env (eval c env);pure (ForInStep.yield ok) else pure (ForInStep.yield r)) (fun ok s₃ =>
      if ok=true then wpAny (model prog w) A (eval elt env) (fun x s₄ =>
       wpAny (model prog w) A (call (.builtin "list.append") [acc,x]) (fun _ s₅=>∃m,m<n/\I m s₅) (fun _ _=>False) s₄) EX s₃
      else ∃m,m<n/\I m s₃) (fun _ _=>False) s₂) (fun _ _=>False) s1) (fun _ _=>False) s₁) (fun _ _=>False) s)(n:Nat)(h:I n s) :
  codeAny (model prog w) A (.compLoop (.ListComp elt [⟨target,iter,ifs,0⟩] scope pos) 0 it acc env) R s:=by
 refine codeAny_loop rfl I (fun n s hI=>?_) n h;show wpAny _ A ((compTurn (.ListComp elt [⟨target,iter,ifs,0⟩] scope pos) 0 it acc env).onRaise (fun x=>do noteFrame x env;theTreesLotGoes x)) _ _ s;refine wpAny_noted ?_;rw[compTurn_list];refine wpAny_bind (wpAny_standAt (wpAny_bind (wpAny_mono (turn n s hI) (fun r s₁ h₁=>?_) fun _ _ h'=>h'.elim)));cases r with
 | none=>exact wpAny_pure h₁
 | some v =>
  refine wpAny_bind (wpAny_mono h₁ (fun _ s1 h1=>?_) fun _ _ h'=>h'.elim);refine wpAny_bind (wpAny_mono h1 (fun _ s₂ h₂=>wpAny_bind (wpAny_mono h₂ (fun ok s₃ h₃=>?_) fun _ _ h'=>h'.elim)) fun _ _ h'=>h'.elim);cases ok with
  | false=>exact wpAny_pure ⟨rfl,h₃⟩
  | true =>
   exact wpAny_bind (wpAny_bind (wpAny_mono h₃ (fun x s₄ h₄=>wpAny_bind (wpAny_mono h₄ (fun _ s₅ h₅=>wpAny_pure (wpAny_pure ⟨rfl,h₅⟩)) fun _ _ h'=>h'.elim)) fun e s h'=>hEX e s h'))
abbrev Tv:=St->Hp->(Bool->Hp->Prop)->Prop
def BE(X:Cx)(ifs:List Expr)(t:Tv):Prop :=
 ∀(pins:List (dN×Obj))(s:dJ)(U:St)(H:Hp)(Q:Bool->Hp->Prop),ZE X pins U H s->t U H Q ->
  wpAny (model X.prog X.w) X.A (forIn ifs true fun c r=>if r=true then do let ok ← isTrue c X.env (eval c X.env);pure (ForInStep.yield ok) else pure (ForInStep.yield r)) (TP X pins U Q) X.xe s
theorem Pa(h:PT X c t):BE X [c] t:=fun pins s U H Q I hw=>wpAny_tests_one (h pins s U H Q I hw)
structure YZ (X:Cx) (scope:Scope) (fr:List (Str×Nat)):Prop where
 slots:∀p∈fr,X.N[p.2]?=some p.1/\(X.env.kindOf p.1=some .cell\/X.env.kindOf p.1=some .free)
 kind:∀p∈fr,scope.names.lookup p.1=some .free
def inN(locs:dF)(fr:List (Str×Nat)):List Str:=locs++fr.map (·.1)
def inS(locs:dF)(fr:List (Str×Nat))(U:St):St:=List.replicate locs.length none++fr.map fun p=>(U[p.2]?).join
def inF(fr:List (Str×Nat))(U:St):St:=fr.map fun p=>(U[p.2]?).join
def Wh(n:Nat)(fv:St)(g:TG)(tt:Tv)(te:TE)(x:V)(H:Hp)(Y:V->Hp->Prop)(N:Hp->Prop):Prop :=
 ∀ls:St,ls.length=n->g x (ls++fv) H fun σ2 H2=>(∃l2:St,l2.length=n /\ σ2=l2++fv)/\tt σ2 H2 fun b H3=>if b=true then te σ2 H3 Y else N H3
def Vk(J:It)(n:Nat)(fv:St)(g:TG)(tt:Tv)(te:TE)(Q:VK)(H1:Hp):Prop:=∃W:Nat->Nat->List V->Hp->Prop,(∃m,W 0 m [] H1)/\∀i m ys H,W i m ys H ->
 (J.stop i H/\ys.length<=sizeLine/\∀l,H l=none->Q (.ref l) (upd H l (.lst ys)))\/
 (J.go i H/\ys.length<sizeLine/\∃m',m'<m/\∀x H',J.yld i H x H'->Wh n fv g tt te x H' (fun y H4=>W (i+1) m' (ys ++ [y]) H4) fun H3=>W (i+1) m' ys H3)
def Cq(n:Nat)(fr:List (Str×Nat))(wi:TI)(g:TG)(tt:Tv)(te:TE):TE:=fun U H Q=>wi U H fun J H1=>Vk J n (inF fr U) g tt te Q H1
theorem Iv(ok:YN P w H h)(hn:H D=none)(new:ZL P w (upd H D o) h D o):YN P w (upd H D o) h:=fun b u e=>by
 by_cases hb:b=D
 ·subst hb;rw[Zg] at e;cases e;exact new
 ·rw[Zc hb] at e;exact(ok b u e).stay (fun _ _ _ q=>q) (fun c q=>by rw[Zc (Zi q hn)];exact q) fun c xs q=>by rw[Zc (Zi q hn)];exact q
section
variable{X:Cx}{scope:Scope}{locs:dF}{fr:List (Str×Nat)}
theorem Kx{pins:List (dN×Obj)}{U:St}{H1:Hp}{s2:dJ}{it:dN}{fp:dI}{tn:Nat->Heap->Prop}{J:It}{cl:List (Str×dN)}{E:dD}{RR:dM->dN->Result->dJ->Prop}{QQ:List V->Hp->Prop}{EE:Hp->dM->dJ->Prop}(hc:X.calm=true)(hkind:scope.kind=.function)(hcell:∀y∈scope.names,y.2 ≠ .cell)(hlo:∀x∈locs,scope.names.lookup x=some .local)(F:YZ X scope fr)(hnd:(inN locs fr).Nodup)(cl1:∀x c,cl.lookup x=some c->X.env.cells.lookup x=some c)(cl2:∀x,(x,NameKind.free)∈scope.names->∃c,cl.lookup x=some c)(inner:∀ (C:dN) (s0:dJ) (H0:Hp) (ex:dI) (pn:List (dN×Obj)),PG (ccx X scope cl C (inN locs fr) s0 H0 ex pn) tg g/\BE (ccx X scope cl C (inN locs fr) s0 H0 ex pn) ifs tt)(hel:∀ (C:dN) (pE:List (dN×Obj)) (s:dJ) (σ':St) (H:Hp) (Y:VK),(∀b∈fp,∃o,(b,o)∈pE)->ZE (ccx X scope cl C (inN locs fr) s2 H1 fp (X.pn++pins)) pE σ' H s->te σ' H Y -> wpAny (model X.prog X.w) X.A (eval elt (compEnvC scope cl C X.env)) (EP (ccx X scope cl C (inN locs fr) s2 H1 fp (X.pn++pins)) pE σ' Y) (fun e s'=>∃pE' σ2 H',ZE (ccx X scope cl C (inN locs fr) s2 H1 fp (X.pn++pins)) pE' σ2 H' s'/\EE H' e s') s)(hER:∀ (D C:dN) (H':Hp) (e:dM) (s':dJ) (m:dE),ZE X pins U H' s'->Yr X pins H' C->s'.heap.Ns C m->EE H' e s'->notedBy (model X.prog X.w) X.A (compEnvC scope cl C X.env) (fun x s''=>RR (.ref D) C (.error x) s'') e s')(I:ZE X pins U H1 s2)(T:WZ X.prog X.w X.K tg J fp it tn)(st0:tn 0 s2.heap)(hf:∀b∈fp,Yr X pins H1 b){W:Nat->Nat->List V->Hp->Prop}(w0:∃m,W 0 m [] H1)(turn:∀i m ys H,W i m ys H -> (J.stop i H/\ys.length<=sizeLine/\QQ ys H)\/ (J.go i H/\ys.length<sizeLine/\∃m',m'<m/\∀x H',J.yld i H x H'->Wh locs.length (inF fr U) g tt te x H' (fun y H4=>W (i+1) m' (ys ++ [y]) H4) fun H3=>W (i+1) m' ys H3))(hRR:∀ (D C:dN) (ys:aG) (H':Hp) (s':dJ) (m:dE),H' D=none->D≠C->ZE X pins U (upd H' D (.lst ys)) s'->Yr X pins (upd H' D (.lst ys)) C->s'.heap.Ns C m->QQ ys H'->RR (.ref D) C (.ok .next) s') :
  wpAny (model X.prog X.w) X.A (newList []) (fun acc s₃=>wpAny (model X.prog X.w) X.A (newFunctionEnv scope X.env.globals cl [] X.env.qual none .none (some X.env)) (fun cenv s₄ => codeAny (model X.prog X.w) X.A (.compStart (.ListComp elt [⟨tg,iter,ifs,0⟩] scope pos) 0 (.ref it) acc {cenv with scope:=relabel scope X.env }) (RR acc cenv.locals) s₄) E s₃) E s2:=by
 refine wpAny_newObj_type (wpAny_newFunctionEnv hcell (by intro y hy;simp at hy) (fun h₁ hns₁ hsb₁=>?_) hkind);dsimp only at hns₁ hsb₁ ⊢;generalize hH2:s2.heap.push {cls:=.type "list", dict:=none,data:=.seq ([]:dG).toArray }=Hq at hns₁ hsb₁ ⊢;have hC:Hq.objs.size=s2.heap.objs.size+1:=by rw[← hH2,yX]
 generalize hDe:s2.heap.objs.size=D at hC ⊢;generalize hCe:Hq.objs.size=C at hC hns₁ hsb₁ ⊢;have hDC:D≠C:=by lia
 have below:∀b,b<D->b≠C/\b≠D:=fun b hb=>⟨by lia,by lia⟩;have ltD:∀{b:dN}{o:Obj},s2.heap.get? b=some o->b<D:=fun e=>hDe▸xH e;have old:∀b o,s2.heap.get? b=some o->h₁.get? b=some o:=fun b o e=>hsb₁.extBut b o (below b (ltD e)).1 (xA _ (hH2▸xA _ e));have hacc:h₁.PlainList D #[]:=⟨_,hsb₁.extBut _ _ hDC (xA _ (by subst hDe;exact hH2▸xG _ rfl))⟩
 let X':Cx:=ccx X scope cl C (inN locs fr) s2 H1 fp (X.pn++pins)
 have ltC:s2.heap.objs.size<=C:=by rw[hDe,hC];exact wS _
 have fpC:Yr X pins H1 C:=I.fpOk ltC (I.hok.fresh ltC);have fpD:Yr X pins H1 D:=I.fpOk (Nat.le_of_eq hDe) (I.hok.fresh (Nat.le_of_eq hDe));have stkN:∀b,b≠X.env.locals->b∉X.fs->b∉frs X.stack:=fun b h1 h2 z=>(xF.mp (I.stkSub b z)).elim h1 h2;have ok':X'.Ok:=by
  refine⟨I.ok.mod,hkind,I.ok.glob,I.ok.blt,ltC,fun x y c h1 h2=>I.ok.inj x y c (cl1 x c h1) (cl1 y c h2),fun x hx=>?_,fun x c h=>?_,I.ok.hd,I.ok.frames,.inl rfl,fun b hb=>?_,fun b o e=>I.bs b o e,xW I.ok.bsz I.sz,fun b o e hb=>?_,fun b hb=>?_,I.stack,I.stkFree⟩
  ·obtain⟨c,hcc⟩:=cl2 x (Ih hcell hx);exact⟨c,hcc⟩
  ·cases h
  ·refine⟨fun z=>?_,fun x c e=>(hf b hb).2.2.2.2.1 x c (cl1 x c e)⟩;obtain⟨o,ho,_⟩:=T.obj _ _ st0 b hb;have z':b=C:=z;exact(below b (ltD ho)).1 z'
  ·have hb':=hf b hb;rcases hb'.2.2.2.1 with z | z
   ·exact I.ok.noex b o e z
   ·exact absurd (yI (xH e) (xW I.ok.bsz z)) (yZ _)
  ·exact stkN b (hf b hb).2.1 (hf b hb).2.2.1
 have I1:ZE X' [] (inS locs fr U) H1 {s2 with heap:=h₁,toks:=s2.toks+([]:List (Str×dM)).length }:=by
  refine⟨ok',I.os.symm▸rfl,I.bare,Un.kept old,⟨_,hns₁,fun i x v h1 h2 h3=>?_⟩,fun x c e=>?_,I.hok.fresh ltC,fun x c e=>I.freeC x c (cl1 x c e),fun p hp=>?_,I.hok.kept old,?_⟩
  ·-- a slot of the block that has a value is a free name's
   have hge:locs.length<=i:=by
    by_cases hi:i<locs.length
    ·unfold inS at h2;rw[yW (by simpa using hi),List.getElem?_replicate,if_pos hi] at h2;cases h2
    ·lia
   have h1':(fr.map (·.1))[i - locs.length]?=some x:=by
    have h1:(inN locs fr)[i]?=some x:=h1;unfold inN at h1;rw[List.getElem?_append_right hge] at h1;exact h1
   have h2':(fr.map fun p=>(U[p.2]?).join)[i - locs.length]?=some (some v):=by
    unfold inS at h2;rw[List.getElem?_append_right (by simpa using hge),List.length_replicate] at h2;exact h2
   rw[xJ] at h1' h2';cases e:fr[i - locs.length]? with
   | none=>rw[e] at h1';cases h1'
   | some p =>
    rw[e] at h1' h2';have ex:p.1=x:=Option.some.inj h1';have ev:(U[p.2]?).join=some v:=Option.some.inj h2';obtain⟨f1,f2⟩:=F.slots p (xO e);have ev':U[p.2]?=some (some v):=by grind
    obtain⟨m0,hn0,hl0⟩:=I.loc;have vis0:BV X.env.scope p.1:=by
     rcases f2 with z | z
     ·exact .inr (.inl z)
     ·exact .inr (.inr z)
    obtain⟨u,ru,lk⟩:=hl0 p.2 p.1 v f1 ev' vis0;have hxm:x∉locs:=fun z=>by
     have hnd':=hnd;unfold inN at hnd';exact(List.nodup_append.mp hnd').2.2 x z x (yQ.mpr ⟨p,xO e,ex⟩) rfl
    refine⟨u,ru,?_⟩;rcases lk with⟨hk,_⟩ | ⟨hk,c,hcc,hce⟩
    ·rcases f2 with z | z
     ·rw[z] at hk;cases hk
     ·rw[z] at hk;cases hk
    ·-- in the block it is a cell or free name
     have h3:BV (relabel scope X.env) x:=h3;have hk':(compEnvC scope cl C X.env).kindOf x=some .cell\/(compEnvC scope cl C X.env).kindOf x=some .free:=by
      rcases h3 with z | z | z
      ·exfalso;have q:=DH (env:=X.env) (F.kind p (xO e));rw[ex] at q;rcases q with q | q
       ·have z':some NameKind.local=some NameKind.cell:=z.symm.trans q;cases z'
       ·have z':some NameKind.local=some NameKind.free:=z.symm.trans q;cases z'
      ·exact .inl z
      ·exact .inr z
     obtain⟨c',hc'⟩:=cl2 x (Ih hcell hk');have:=cl1 x c' hc';rw[← ex,hcc] at this;cases this;refine .inr ⟨hk',c,hc',?_⟩;obtain⟨o,ho,hd⟩:=hce;exact⟨o,old _ _ ho,hd⟩
  ·obtain⟨v,o,ho,hd⟩:=I.cell x c (cl1 x c e);exact⟨v,o,old _ _ ho,hd⟩
  ·have hp':p∈X.pn++pins:=(xR.mp hp).elim id fun z=>nomatch z;obtain⟨e,n,ne,nf,d⟩:=I.pin p hp';exact⟨old _ _ e,n,(below _ (ltD e)).1,stkN _ ne nf,d⟩
  ·show (inS locs fr U).length=(inN locs fr).length;unfold inS inN;simp
 have fpLt:∀b∈fp,b<D:=fun b hb=>by
  obtain⟨o,ho,_⟩:=T.obj _ _ st0 b hb;exact ltD ho
 obtain⟨m0,w0⟩:=w0
 let oD:List dM->Nat->Obj:=fun its k=>{cls:=.type "list", data:=.seq its.toArray k }
 have stat:∀{H':Hp}{ob:Obj},(∀b∈fp,H' b=none)->∀b∈fp,Yr X' [(D,ob)] H' b:=fun {H' ob} hn b hb=>by
  obtain⟨f0,f1,f2,f3,f4,f5⟩:=hf b hb;refine⟨hn b hb,(below b (fpLt b hb)).1,stkN b f1 f2,.inl hb,fun x c e=>f4 x c (cl1 x c e),fun p hp z=>?_⟩;rcases xR.mp hp with q | q
  ·exact f5 p q z
  ·grind
 have loop:∀s₃:dJ,s₃={s2 with heap:=h₁,toks:=s2.toks+([]:List (Str×dM)).length }->
   codeAny (model X.prog X.w) X.A (.compLoop (.ListComp elt [⟨tg,iter,ifs,0⟩] scope pos) 0 (.ref it) (.ref D) (compEnvC scope cl C X.env)) (RR (.ref D) C) s₃:=by
  rintro s₃ rfl;refine cU (fun n s'=>∃(i:Nat)(ls:St)(H':Hp)(ys:aG)(its:dG)(k:Nat),ls.length=locs.length/\ZE X' [(D,oD its k)] (ls++inF fr U) H' s'/\tn i s'.heap/\(∀b∈fp,H' b=none)/\ZH ys its/\W i n ys H') (EX:=fun e s'=>∃pE' σ2 H',ZE X' pE' σ2 H' s'/\EE H' e s') ?_ ?_ m0 ?_
  ·rintro e s4 ⟨pE',σ2,H3,I4,q⟩;obtain⟨mC,hnC,_⟩:=I4.loc;have hnC:s4.heap.Ns C mC:=hnC;have nC:H3 C=none:=I4.free;have I5:ZE X pins U H3 s4:=I.call' (ch:=fp) (show s4.os=s2.os from I4.os) I4.base I4.hok I4.bare fun b hb=>by
    obtain⟨f0,f1,f2,f3,f4,f5⟩:=hf b hb;exact⟨f3,f1,f4,f5⟩
   exact hER D C H3 e s4 mC I5 (I.fpOk ltC nC) hnC q
  ·rintro n s3 ⟨i,ls,H3,ys,its,k,hls,I3,st3,fr3,rv,w3⟩;rcases turn i n ys H3 w3 with⟨stop,hz,q⟩ | ⟨go,hz,m',hm,step⟩
   ·refine thn (T.done X' rfl rfl rfl hc i _ s3 _ H3 (fun _ _=>False) I3 (stat fr3) st3 stop) fun r s4 ⟨hr,I4⟩=>?_;subst hr;obtain⟨pD,nD,_,_,_⟩:=I4.pin (D,oD its k) (xM _ xU);have nD:H3 D=none:=nD;obtain⟨mC,hnC,_⟩:=I4.loc;have hnC:s4.heap.Ns C mC:=hnC;have nC:H3 C=none:=I4.free;have new:ZL X.prog X.w (upd H3 D (.lst ys)) s4.heap D (.lst ys):=⟨hz,its,k,rv,pD⟩;have hok4:YN X.prog X.w (upd H3 D (.lst ys)) s4.heap:=Iv I4.hok nD new;have u4:Un (frs X.stack) fp H1 H3 s2.heap s4.heap:=I4.base;have u5:Un (frs X.stack) fp H1 (upd H3 D (.lst ys)) s2.heap s4.heap:=by
     refine⟨u4.keep,u4.slot,fun b o e n hx=>?_,u4.there,fun b xs e=>?_,fun b o u e=>?_,fun b ps e=>?_⟩
     ·rw[Zc (below b (ltD e)).2];exact u4.free b o e n hx
     ·rw[Zc (Zi e fpD.1)];exact u4.tups b xs e
     ·rw[Zc (Zi e fpD.1)];exact u4.frzs b o u e
     ·rw[Zc (Zi e fpD.1)];exact u4.tbls b ps e
    have I5:ZE X pins U (upd H3 D (.lst ys)) s4:=by
     refine I.call' (ch:=fp) ?_ u5 hok4 I4.bare fun b hb=>?_
     ·have:s4.os=s2.os:=I4.os;exact this
     ·obtain⟨f0,f1,f2,f3,f4,f5⟩:=hf b hb;exact⟨f3,f1,f4,f5⟩
    have fpC':Yr X pins (upd H3 D (.lst ys)) C:=I.fpOk ltC (by rw[Zc hDC.symm];exact nC);exact hRR D C ys H3 s4 mC nD hDC I5 fpC' hnC q
   ·refine thn (T.item X' rfl rfl rfl hc i _ s3 _ H3 (fun _ _=>False) I3 (stat fr3) st3 go) fun r s4 ⟨u,hr,h4⟩=>?_;subst hr;refine thn h4 fun _ s5 ⟨x,H5,I5,r5,y5,st5,fr5⟩=>?_;obtain⟨hg,htt⟩:=inner C s2 H1 fp (X.pn++pins);have I5':=I5.pinned (stat fr5) (T.obj _ _ st5);refine thn (hg _ s5 _ H5 x u _ I5' r5 (step x H5 y5 ls hls)) fun _ s6 ⟨σ6,H6,I6,⟨l6,hl6,e6⟩,q6⟩=>?_;subst e6;refine thn (htt _ s6 _ H6 _ I6 q6) fun ok s7 ⟨H7,I7,q7⟩=>?_;have again:∀{H8:Hp}{s8:dJ},ZE X' ([(D,oD its k)]++Ao fp s5.heap) (l6++inF fr U) H8 s8->tn (i+1) s8.heap/\∀b∈fp,H8 b=none:=fun {H8 s8} I8=>by
     refine⟨T.keep _ _ _ st5 fun b hb o e=>(I8.pin (b,o) (xM _ (xM _ (Bw hb e)))).1,fun b hb=>?_⟩;obtain⟨o,e,d⟩:=T.obj _ _ st5 b hb;exact(I8.pin (b,o) (xM _ (xM _ (Bw hb e)))).2.1
    cases ok with
    | false =>
     rw[if_neg xI] at q7 ⊢;obtain⟨a1,a2⟩:=again I7;exact⟨m',hm,i+1,l6,H7,ys,its,k,hl6,I7.unpinned,a1,a2,rv,q7⟩
    | true =>
     rw[if_pos rfl] at q7 ⊢;refine thn (hel C _ s7 _ H7 _ (fun b hb=>let ⟨o,ho,_⟩:=T.obj _ _ st5 b hb;⟨o,xM _ (Bw hb ho)⟩) I7 q7) fun yv s8 ⟨y,H8,I8,r8,q8⟩=>?_;obtain⟨a1,a2⟩:=again I8;obtain⟨pD,nD,_,nfD,_⟩:=I8.pin (D,oD its k) (xM _ (zL _ xU));have nD:H8 D=none:=nD;have hl8:s8.heap.PlainList D its.toArray:=⟨k,pD⟩;have hlen:its.toArray.size<=sizeLine:=by
      rw[xS,← rv.length];lia
     refine wpAny_list_append_plain (hsz:=hlen) hl8 fun h9 hl9 hs9=>?_;obtain⟨k9,e9⟩:=hl9;have I9:ZE X' (Ao fp s5.heap) (l6++inF fr U) H8 s8:=I8.pins_of fun p hp=>I8.pin p (xM _ (xM _ hp));have I10:ZE X' (Ao fp s5.heap) (l6++inF fr U) H8 {s8 with heap:=h9 }:=by
      refine I9.turned (it:=D) (t':=s8.toks) (fun b o hb e=>(hs9.2 b hb).trans e) nD ?_ ?_ ?_ ?_
      ·exact hDC
      ·exact .inr (Nat.le_of_eq hDe)
      ·exact fun x c e=>fpD.2.2.2.2.1 x c (cl1 x c e)
      ·intro p hp z;rcases xR.mp hp with q | q
       ·exact fpD.2.2.2.2.2 p q z
       ·have:=fpLt p.1 (IT q).1;exact(below p.1 this).2 z
     have e9':h9.get? D=some (oD (its ++ [yv]) k9):=by
      rw[e9];simp[oD]
     have I11:ZE X' [(D,oD (its ++ [yv]) k9)] (l6++inF fr U) H8 {s8 with heap:=h9 }:=I10.pins_of fun p hp=>by grind
     refine⟨m',hm,i+1,l6,H8,ys ++ [y],its ++ [yv],k9,hl6,I11,?_,a2,ZH.append rv (.cons r8 .nil),q8⟩;exact T.keep _ _ _ a1 fun b hb o e=>(hs9.2 b (below b (fpLt b hb)).2).trans e
  ·have e0:List.replicate locs.length none++inF fr U=inS locs fr U:=rfl;obtain⟨k0,eD⟩:=hacc;refine⟨0,List.replicate locs.length none,H1,[],[],k0,by simp,?_,T.keep _ _ _ st0 fun b _ o e=>old b o e,fun b hb=>(hf b hb).1,.nil,w0⟩;rw[e0];refine I1.pins_of fun p hp=>?_;have e:p=(D,oD [] k0):=by simpa using hp
   subst e;exact⟨eD,fpD.1,hDC,stkN D fpD.2.1 fpD.2.2.1,fun v z=>by cases z⟩
 exact codeAny_compStart_list (loop _ rfl) (T.self _ 0 _ _ _ (T.keep _ _ _ st0 fun b _ o e=>old b o e) (loop _ rfl))
structure WJ (X:Cx) (scope:Scope) (locs:dF) (fr:List (Str×Nat)):Prop where
 kind:scope.kind=.function
 nocell:∀y∈scope.names,y.2 ≠ .cell
 names:∀y∈scope.names,y.2=.local->scope.names.lookup y.1=some .local
 own:∀x∈locs,scope.names.lookup x=some .local
 free:∀y∈scope.names,y.2=.free->y.1∈fr.map (·.1)
 nd:(inN locs fr).Nodup
theorem YZ.nil:YZ X scope []:=⟨(fun _ h=>nomatch h),(fun _ h=>nomatch h)⟩
theorem YZ.cons(h1:X.N[j]?=some x)(h2:X.env.kindOf x=some .cell\/X.env.kindOf x=some .free)(h3:scope.names.lookup x=some .free)(t:YZ X scope fr):YZ X scope ((x,j)::fr) :=
 ⟨fun p hp=>(xF.mp hp).elim (fun e=>by subst e;exact⟨h1,h2⟩) (t.slots p),fun p hp=>(xF.mp hp).elim (fun e=>by subst e;exact h3) (t.kind p)⟩
theorem WJ.clos{pins:List (dN×Obj)}{U:St}{H:Hp}{s:dJ}(S:WJ X scope locs fr)(F:YZ X scope fr)(I:ZE X pins U H s) :
  ∃cl,closureFor scope X.env=pure cl/\(∀x c,cl.lookup x=some c->X.env.cells.lookup x=some c)/\(∀x,(x,NameKind.free)∈scope.names->∃c,cl.lookup x=some c):=by
 refine SM fun p hp hk=>?_;obtain⟨q,hq,e⟩:=yQ.mp (S.free p hp hk);obtain⟨c,hc⟩:=I.ok.has q.1 (F.slots q hq).2;exact⟨c,e▸hc⟩
theorem LQ(S:WJ X scope locs fr)(F:YZ X scope fr)(hc:X.calm=true)(hi:PI X tg iter wi)(inner:∀cl C s0 H0 ex pn,PG (ccx X scope cl C (inN locs fr) s0 H0 ex pn) tg g/\BE (ccx X scope cl C (inN locs fr) s0 H0 ex pn) ifs tt/\PE (ccx X scope cl C (inN locs fr) s0 H0 ex pn) elt te)(hs:∀x,foldedSetIterable iter X.env x=pure x:=by intro _;rfl):PE X (.ListComp elt [⟨tg,iter,ifs,0⟩] scope pos) (Cq locs.length fr wi g tt te):=by
 intro pins s U H Q I h;obtain⟨cl,hcl,cl1,cl2⟩:=S.clos F I;rw[eval_ListComp];refine wpAny_comprehension_free (use:=none) rfl hs hcl S.kind S.names (thn (hi pins s U H _ I h) fun v s1 h1=>thn h1 fun itv s2 h2=>?_);obtain⟨it,fp,tn,J,H1,e,I2,T,st2,f2,W,w0,turn⟩:=h2;subst e;refine Kx (QQ:=fun ys H'=>∀l,H' l=none->Q (.ref l) (upd H' l (.lst ys))) (EE:=fun _ _ _=>False) hc S.kind S.nocell S.own F S.nd cl1 cl2 (fun C s0 H0 ex pn=>let ⟨a,b,_⟩:=inner cl C s0 H0 ex pn;⟨a,b⟩) (fun C pE s σ' H Y _ I h=>wpAny_mono ((inner cl C s2 H1 fp (X.pn++pins)).2.2 pE s σ' H Y I h) (fun _ _ q=>q) fun _ _ z=>z.elim) (fun _ _ _ _ _ _ _ _ _ z=>z.elim) I2 T st2 f2 w0 turn fun D C ys H' s' m nD hDC I' fC hn q=>?_;refine⟨m,hn,fun h' hs'=>?_⟩;obtain⟨f0,f1,f2,f3,f4,f5⟩:=fC;exact⟨.ref D,_,I'.turned (it:=C) (t':=s'.toks) (fun b o hb e=>(hs'.2 b hb).trans e) f0 f1 f3 f4 f5,rfl,q D nD⟩
theorem QR(S:WJ X scope locs fr)(F:YZ X scope fr)(hc:X.calm=true)(hi:PI X tg iter wi)(inner:∀cl C s0 H0 ex pn,PG (ccx X scope cl C (inN locs fr) s0 H0 ex pn) tg g/\BE (ccx X scope cl C (inN locs fr) s0 H0 ex pn) ifs tt/\PE (ccx X scope cl C (inN locs fr) s0 H0 ex pn) elt te)(hN:X.N.Nodup)(hi0:X.N[i]?=some x)(hx:X.env.scope.names.lookup x=some .local)(hsw:swapsWith (.ListComp elt [⟨tg,iter,ifs,0⟩] scope pos) (some (.Name x pos')) spos.line X.env=pure true)(hs:∀x,foldedSetIterable iter X.env x=pure x:=by intro _;rfl):PS X (.Assign [.Name x pos'] (.ListComp elt [⟨tg,iter,ifs,0⟩] scope pos) spos) (Ju (Cq locs.length fr wi g tt te) (Wb i)):=by
 intro pins s U H D0 I h;obtain⟨cl,hcl,cl1,cl2⟩:=S.clos F I;rw[exec_Assign_Name_used _ _ _ _ hsw];refine wpAny_bind (wpAny_standAt (wpAny_bind ?_));show wpAny _ X.A (do let _ ← comprehension (.ListComp elt [⟨tg,iter,ifs,0⟩] scope pos) scope X.env _ (newList []) false (eval iter X.env) (some (assign (.Name x pos') X.env))) _ _ s;refine wpAny_bind (wpAny_mono (wpAny_comprehension_free (use:=some (assign (.Name x pos') X.env)) (Q:=fun _ s'=>SP X pins D0 .next s') rfl hs hcl S.kind S.names (thn (hi pins s U H _ I h) fun v s1 h1=>thn h1 fun itv s2 h2=>?_)) (fun _ s' hq=>wpAny_pure (wpAny_pure hq)) fun _ _ e=>e);obtain⟨it,fp,tn,J,H1,e,I2,T,st2,f2,W,w0,turn⟩:=h2;subst e;refine Kx (QQ:=fun ys H'=>∀l,H' l=none->Wb i (.ref l) U (upd H' l (.lst ys)) D0.nx) (EE:=fun _ _ _=>False) hc S.kind S.nocell S.own F S.nd cl1 cl2 (fun C s0 H0 ex pn=>let ⟨a,b,_⟩:=inner cl C s0 H0 ex pn;⟨a,b⟩) (fun C pE s σ' H Y _ I h=>wpAny_mono ((inner cl C s2 H1 fp (X.pn++pins)).2.2 pE s σ' H Y I h) (fun _ _ q=>q) fun _ _ z=>z.elim) (fun _ _ _ _ _ _ _ _ _ z=>z.elim) I2 T st2 f2 w0 turn fun D C ys H' s' m nD hDC I' fC hn q=>?_;obtain⟨f0,f1,f2,f3,f4,f5⟩:=fC;obtain⟨oC,es,ep,hoC,hdC,hrC⟩:=id hn;have I6:ZE X (pins ++ [(C,oC)]) U (upd H' D (.lst ys)) s':=I'.pins_of fun p hp=>(xR.mp hp).elim (fun z=>I'.pin p (xM _ z)) fun z=>by grind
 refine wpAny_assign_Name (C6 (v:=.ref D) I6 hN hi0 (.inl hx) rfl (fun s'' I''=>?_) (.inr hx));obtain⟨p1,p2,p3,p4,p5⟩:=I''.pin (C,oC) (xM _ (xM _ xU));refine⟨m,⟨oC,es,ep,p1,hdC,hrC⟩,fun h' hs'=>?_⟩;have I7:ZE X pins (U.set i (some (.ref D))) (upd H' D (.lst ys)) s'':=I''.unpinned;exact⟨_,_,I7.turned (it:=C) (t':=s''.toks) (fun b o hb e=>(hs'.2 b hb).trans e) p2 p3 f3 f4 f5,q D nD⟩
end
section
variable{X:Cx}{scope:Scope}{cl:List (Str×dN)}{C:dN}{N':dF}{s0:dJ}{H0:Hp}{ex:dI}{pn:List (dN×Obj)}
theorem pvL(i:Nat){x:Str}{pos:Pos}(hN:N'[i]?=some x:=by rfl)(h:scope.names.lookup x=some .local:=by rfl)(hd:(x==("__debug__":Str))=false:=by decide)(hcd:(x==("__classdict__":Str))=false:=by decide) :
  PE (ccx X scope cl C N' s0 H0 ex pn) (.Name x pos) (YD i):=CO hN (.inl (lookup_relabel_local h)) hd hcd
theorem pvF(i:Nat){x:Str}{pos:Pos}(hN:N'[i]?=some x:=by rfl)(h:scope.names.lookup x=some .free:=by rfl)(hd:(x==("__debug__":Str))=false:=by decide)(hcd:(x==("__classdict__":Str))=false:=by decide) :
  PE (ccx X scope cl C N' s0 H0 ex pn) (.Name x pos) (YD i):=CO hN ((DH h).elim (fun z=>.inr (.inl z)) fun z=>.inr (.inr z)) hd hcd
theorem pgL(i:Nat){x:Str}{pos:Pos}(hnd:N'.Nodup)(hN:N'[i]?=some x:=by rfl)(h:scope.names.lookup x=some .local:=by rfl):PG (ccx X scope cl C N' s0 H0 ex pn) (.Name x pos) (Wb i) :=
 Fs (X:=ccx X scope cl C N' s0 H0 ex pn) hnd hN (.inl (lookup_relabel_local h)) (.inr (lookup_relabel_local h))
end
def sgn(x:Str)(i:Nat):V:=.str ⟨#[x.cps.getD i 0]⟩
def Dy(x:Str):It:=⟨fun i _=>i<x.length,fun i H v H'=>H'=H/\v=sgn x i,fun i _=>i=x.length⟩
theorem GA(hh:A.handled=none)(I:dN)(x:Str)(t:Tok) :
  Walks P w A I [I] [I] x.cps.size (SignAt x) (fun i h=>h.IsStrIter I (strIterType x) x t i):=by
 unfold strIterType;cases ha:x.cps.all (· < 128)
 ·exact Walks.strWide hh I x t
 ·exact Walks.strAscii hh I x t
theorem RY{P:dO}{w:dP}{K:uFg}{tg:Expr}(it:dN)(x:Str)(t:Tok):WZ P w K tg (Dy x) [it] it (fun i h=>h.IsStrIter it (strIterType x) x t i) where
 mem:=by simp
 obj:=fun i h st b hb=>by
  have e:b=it:=by simpa using hb
  subst e;obtain⟨o,e,c,d⟩:=st;exact⟨o,e,fun v z=>by rw[d] at z;cases z⟩
 keep:=fun i h h' st k=>let ⟨o,ho,r⟩:=st;⟨o,k it (by simp) o ho,r⟩
 item:=by
  intro X hP hw hK hc i pins s U H E I hf st hg;subst hP hw hK;obtain⟨f0,f1,f2,f3,f4,f5⟩:=hf it (by simp);refine(GA (I.ok.hd hc) it x t).item i s _ _ hg st fun v h' tk hv st' kk=>?_;obtain⟨c,u,hcx,rfl⟩:=hv;have I1:ZE X pins U H {s with heap:=h',toks:=tk }:=I.turned (fun b o hb e=>kk b o (by simpa using hb) e) f0 f1 f3 f4 f5;obtain⟨o,e,cc,d⟩:=id st';have hn:["enumerate","zip","dict_itemiterator","dict_reverseitemiterator","odict_iterator","itertools.zip_longest","itertools.pairwise"].contains (strIterType x)=false:=by
   unfold strIterType;split<;>decide
  refine⟨_,rfl,Ba (s:={s with heap:=h',toks:=tk }) e cc d hn ⟨sgn x i,H,I1,⟨u,?_⟩,⟨rfl,rfl⟩,st',fun b hb=>(hf b hb).1⟩⟩;rw[wC,hcx]
  all_goals rfl
 done:=by
  intro X hP hw hK hc i pins s U H E I hf st hg;subst hP hw hK;obtain⟨f0,f1,f2,f3,f4,f5⟩:=hf it (by simp);have e:i=x.cps.size:=hg;subst e;exact(GA (I.ok.hd hc) it x t).done s _ _ st fun h' tk kk=>⟨rfl,I.turned (fun b o hb e=>kk b o (by simpa using hb) e) f0 f1 f3 f4 f5⟩
 self:=fun A i s Q E st h=>by
  have st:s.heap.IsStrIter it (strIterType x) x t i:=st;unfold strIterType at st;split at st
  ·exact wpAny_pyIter_striter_ascii st h
  ·exact wpAny_pyIter_striter_wide st h
inductive Bi(R:It->Hp->Prop)(v:V)(H1:Hp):Prop
 |mk(x)(_:v=.str x)(_:R (Dy x) H1)
def RN(te:TE):TI:=fun U H R=>te U H fun v H1=>Bi R v H1
theorem K6(h:IsPart v o):∃l:Option (Int×Tok),v=partValue l/\l.map (·.1)=o:=by
 cases h with
 | none=>exact⟨none,rfl,rfl⟩
 | int i t=>exact⟨some (i,t),rfl,rfl⟩
theorem LW:∀{us:dG},ZH (ys.map V.str) us->StrsAre us ys:=by
 induction ys with
 | nil=>intro us r;rw[List.map_nil] at r;cases r;exact .nil
 | cons n ns ih =>
  intro us r;rw[yF] at r;cases r with
  | cons r1 r2 =>
   obtain⟨t,e⟩:=r1;subst e;exact .cons n t (ih r2)
section
variable{X:Cx}
theorem Gd:Uj X (.builtin "isinstance") (fun xs H Q=>∃x n t b,xs=[x,.ty n]/\YT X.K H x t/\PySem.W.kitOne X.K t (.type n)=some b/\Q (.bl b) H):=by
 intro pins s U H xs us Q I r h;obtain⟨x,n,t,b,rfl,ty,e,q⟩:=h;obtain⟨u,w',rfl,ru,rw'⟩:=DN r;cases rw';exact NX I ru ty e fun tk=>⟨.bl b,H,I.tok _,rfl,q⟩
end
section
variable{K:uFg}
end
def YC(K:uFg)(mg:dE)(x:Str)(st:Stmt):Prop:=∃f fd,Jh K x x st f fd/\mg x=some (.ref f)
def Fn(P:dO)(w:dP)(K:uFg)(mg:dE)(base:Heap)(x:Str)(ps:dF)(k:Nat)(sp:Sp):Prop :=
 ∃f fd,mg x=some (.ref f)/\PySem.W.keepIn K (.ref f)=true/\YL K fd ps []/\YG P w K mg base YY k f fd ps sp
theorem Fn.imp{P:dO}{w:dP}{K:uFg}{mg:dE}{base:Heap}{x:Str}{ps:dF}{k:Nat}{sp sp':Sp}(F:Fn P w K mg base x ps k sp)(h:∀vs H Q E,sp' vs H Q E->sp vs H Q E):Fn P w K mg base x ps k sp' :=
 let ⟨f,fd,a,b,c,d⟩:=F;⟨f,fd,a,b,c,d.imp h⟩
section
variable{P:dO}{w:dP}{K:uFg}{mg:dE}{base:Heap}
theorem YC.fn{x:Str}{st:Stmt}{N ps:dF}{k:Nat}{sp:Sp}(h:YC K mg x st)(S:ZR N ps (Zs st))(hb:∀ (kV doc pm:dM) (an:Option dN) (cdv ct:dM) (us:dG),us.length=ps.length->bindArgs (PySem.W.fnOf x x (Wo st) (Yy st) (Zs st) .none kV doc pm an cdv ct) ⟨us,[]⟩=pure (ps.zip us))(len:∀vs H Q E,sp vs H Q E->vs.length=ps.length)(hbody:∀ (f:dN) (cdv:dM) (A:dQ) (outer:List Env) (s:dJ) (H:Hp) (vs:aG) (Q:VK) (E:XK),ZN k (A.deeper (envOfC x (Zs st) s.heap.objs.size f cdv))->sp vs H Q E -> ∃t,Ap (Y2 YY P w K mg base N x (Zs st) f cdv A outer s H E).nox (Yy st) t/\t {nx:=fun _ H'=>Q .non H',rt:=Q } (start N vs) H):Fn P w K mg base x ps (k+1) sp:=by
 obtain⟨f,fd,F,hm⟩:=h;exact⟨f,fd,hm,F.kp,F.binds hb,F.ok S len fun cdv A outer s H vs Q E hr q=>hbody f cdv A outer s H vs Q E hr q⟩
theorem RW{h:Heap}{x:Str}{st:Stmt}{f:dN}{oc:dM}{od an:Option dN}{osl:Array (Option dM)}{kV doc pm cdv ct:dM}(KX:K.In h)(G:h.Ns mainGlobals mg)(a:PySem.W.nsIn K mainGlobals x=some (some (.ref f)))(l:K.lookup f=some ⟨oc,od,.func (PySem.W.fnOf x x (Wo st) (Yy st) (Zs st) .none kV doc pm an cdv ct),osl⟩)(c:PySem.W.codeIn K cdv x=true)(k:PySem.W.keepIn K (.ref f)=true):YC K mg x st:=⟨f,_,Ek l c k,PySem.W.mg_of KX G a⟩
theorem hQ{h:Heap}(x:Str)(st:Stmt)(f c:dN)(pm:dM)(KX:K.In h)(G:h.Ns mainGlobals mg)(e:PySem.W.nsIn K mainGlobals x=some (some (.ref f))/\K.lookup f=some ⟨.type "function", none,.func (PySem.W.fnOf x x (Wo st) (Yy st) (Zs st) .none .none .none pm none (.ref c) .none),#[]⟩/\PySem.W.codeIn K (.ref c) x=true/\PySem.W.keepIn K (.ref f)=true:=by walk_at "k"):YC K mg x st:=RW KX G e.1 e.2.1 e.2.2.1 e.2.2.2
end
def Jw(sp:Sp)(t:TA):TE:=fun U H Q=>t U H fun vs H1=>sp vs H1 Q E0
theorem Sd{k:Nat}{ps:dF}{sp:Sp}{x:Str}{p pos:Pos}{e:Expr}{es:List Expr}{t:TA}(F:Fn X.prog X.w X.K X.mg X.base x ps k sp)(hr:ZN k X.A)(hg:Gl X x)(ha:PA X (e::es) t)(hdb:(x==("__debug__":Str))=false:=by decide)(he:sEq X e es:=by rfl)(hpl:sFq X pos es:=by rfl) :
  PE X (.Call (.Name x p) (e::es) [] pos) (Jw sp t):=by
 obtain⟨f,fd,hm,hk,hb,G⟩:=F;intro pins s U H Q I h;refine Xg G hr hg hm hk hb .nil CZ ha hdb he hpl pins s U H Q I ?_;have e:DG sp [] E0 t=Jw sp t:=by
  unfold DG Jw;simp only[yL]
 rw[e];exact h
theorem Yz:bootBuiltins "len"=some (.builtin "len"):=aA
theorem E1:bootBuiltins "max"=some (.builtin "max"):=aA
theorem IC:bootBuiltins "sum"=some (.builtin "sum"):=aA
theorem PB:bootBuiltins "all"=some (.builtin "all"):=aA
theorem E5:bootBuiltins "sorted"=some (.builtin "sorted"):=aA
theorem Vx:bootBuiltins "isinstance"=some (.builtin "isinstance"):=aA
theorem Vc:bootBuiltins "list"=some (.type "list"):=aA
theorem Fd:bootBuiltins "bool"=some (.type "bool"):=aA
theorem En:bootBuiltins "int"=some (.type "int"):=aA
theorem Hz:bootBuiltins "str"=some (.type "str"):=aA
theorem Du:bootBuiltins "tuple"=some (.type "tuple"):=aA
def ZI(s:dN)(H H':Hp):Prop:=∀b o,b≠s->H b=some o->H' b=some o
theorem ZI.refl:ZI s H H:=fun _ _ _ e=>e
theorem ZI.trans(a:ZI s H H1)(b:ZI s H1 H2):ZI s H H2:=fun c o n e=>b c o n (a c o n e)
theorem ZI.upd:ZI s H (upd H s o):=fun b _ n e=>by rw[Zc n];exact e
theorem ZI.new(h:H l=none):ZI s H (L2.upd H l o):=fun b _ _ e=>by rw[Zc (Zi e h)];exact e
theorem ZC.new(h:H l=none):ZC H (L2.upd H l o):=fun b _ e=>by rw[Zc (Zi e h)];exact e
theorem ZC.x(h:ZC H H'):ZI s H H':=fun b o _ e=>h b o e
def ZX(H:Hp)(s la:dN):Prop:=∃(ns:List Int)(i big st cnt:Int),H s=some (.lst [.ref la,.int i,.int big,.int st,.int cnt])/\H la=some (.lst (ns.map V.int))/\0<=i/\la≠s
theorem ZX.keep(h:ZX H s la)(k:ZC H H'):ZX H' s la:=by
 obtain⟨ns,i,big,st,cnt,h1,h2,h3,h4⟩:=h;exact⟨ns,i,big,st,cnt,k _ _ h1,k _ _ h2,h3,h4⟩
theorem ZX.keepX(h:ZX H s la)(k:ZI l H H')(n1:l≠s)(n2:l≠la):ZX H' s la:=by
 obtain⟨ns,i,big,st,cnt,h1,h2,h3,h4⟩:=h;exact⟨ns,i,big,st,cnt,k _ _ n1.symm h1,k _ _ n2.symm h2,h3,h4⟩
theorem ZX.ne(h:ZX H s la)(hl:H l=none):l≠s/\l≠la:=by
 obtain⟨ns,i,big,st,cnt,h1,h2,h3,h4⟩:=h;exact⟨(Zi h1 hl).symm,(Zi h2 hl).symm⟩
theorem Z7{c A B:Prop} [Decidable c] (h1:c->A) (h2:¬c->B):if decide c=true then A else B:=by grind
theorem Wc{c A B:Prop} [Decidable c] (h1:¬c->A) (h2:c->B):if (!decide c)=true then A else B:=by grind
theorem Xh{ns:List Int}{i:Int}(h0:0<=i)(h1:i<(ns.map V.int).length):atI (ns.map V.int) i=some (.int (ns.getD i.toNat 0)):=by
 obtain⟨j,rfl⟩:=zY h0;rw[xB] at h1;refine Yl ?_;rw[xJ,yM,xL,xC (by lia)];rfl
def Nm(sc:Scope)(x:Str)(k:NameKind):Prop:=sc.names.lookup x=some k/\(x==("__debug__":Str))=false/\(x==("__classdict__":Str))=false/\x ≠ "__name__"
instance (sc:Scope) (x:Str) (k:NameKind):Decidable (Nm sc x k):=by unfold Nm;exact inferInstance
section
variable{X:Cx}{x:Str}{pos:Pos}
theorem al1{α:Type _}{P:List α->Prop}(k:∀a,P [a]):∀l:List α,l.length=1->P l
 | [a],_=>k a
theorem al2{α:Type _}{P:List α->Prop}(k:∀a b,P [a,b]):∀l:List α,l.length=2->P l
 | [a,b],_=>k a b
theorem al3{α:Type _}{P:List α->Prop}(k:∀a b c,P [a,b,c]):∀l:List α,l.length=3->P l
 | [a,b,c],_=>k a b c
theorem al4{α:Type _}{P:List α->Prop}(k:∀a b c d,P [a,b,c,d]):∀l:List α,l.length=4->P l
 | [a,b,c,d],_=>k a b c d
theorem al5{α:Type _}{P:List α->Prop}(k:∀a b c d e,P [a,b,c,d,e]):∀l:List α,l.length=5->P l
 | [a,b,c,d,e],_=>k a b c d e
theorem al6{α:Type _}{P:List α->Prop}(k:∀a b c d e f,P [a,b,c,d,e,f]):∀l:List α,l.length=6->P l
 | [a,b,c,d,e,f],_=>k a b c d e f
theorem al7{α:Type _}{P:List α->Prop}(k:∀a b c d e f g,P [a,b,c,d,e,f,g]):∀l:List α,l.length=7->P l
 | [a,b,c,d,e,f,g],_=>k a b c d e f g
theorem al8{α:Type _}{P:List α->Prop}(k:∀a b c d e f g h,P [a,b,c,d,e,f,g,h]):∀l:List α,l.length=8->P l
 | [a,b,c,d,e,f,g,h],_=>k a b c d e f g h
def nmB(X:Cx)(x:Str)(k:NameKind):Bool:=decide (Nm X.env.scope x k)
def ndB(X:Cx):Bool:=decide X.N.Nodup
abbrev nB(X:Cx)(x:Str)(k:NameKind):Prop:=nmB X x k=true
abbrev nD(X:Cx):Prop:=ndB X=true
theorem od [Decidable p] (h:decide p=true):p:=yU h
theorem fsc{N P:dF}{sc:Scope}(a:sc.kind=.function:=by rfl)(h:decide (sc.isCoroutine=false/\sc.isGenerator=false/\N.Nodup/\N.take P.length=P/\(∀x∈P,sc.names.lookup x=some .local\/sc.names.lookup x=some .cell)/\∀y∈sc.names,y.2 ≠ .free)=true:=by kernel_rfl):ZR N P sc :=
 have ⟨b,c,d,e,f,g⟩:=od h;⟨a,b,c,d,e,f,g⟩
theorem pvN(i:Nat)(n:Nm X.env.scope x .local)(hN:X.N[i]?=some x:=by rfl):PE X (.Name x pos) (YD i):=CO hN (.inl n.1) n.2.1 n.2.2.1
theorem Nz(n:Nm X.env.scope x .globalImplicit)(hm:X.mg x=some u)(r:ZF v u):PE X (.Name x pos) (tC v):=Nj n.1 hm r n.2.1
theorem OH(n:Nm X.env.scope x .globalImplicit)(hm:X.mg x=none)(hv:bootBuiltins x=some u)(r:ZF v u):PE X (.Name x pos) (tC v):=Rt n.1 hm hv r n.2.2.2 n.2.1
theorem O9{k:Nat}{ps:dF}{sp:Sp}{p:Pos}{e:Expr}{es:List Expr}{t:TA}(F:Fn X.prog X.w X.K X.mg X.base x ps k sp)(hr:ZN k X.A)(n:Nm X.env.scope x .globalImplicit)(ha:PA X (e::es) t)(he:sEq X e es:=by rfl)(hpl:sFq X pos es:=by rfl) :
  PE X (.Call (.Name x p) (e::es) [] pos) (Jw sp t):=Sd F hr n.1 ha n.2.1 he hpl
theorem ME{p:Pos}{e:Expr}{es:List Expr}{t:TA}{id:String}{r:List V->Hp->VK->Prop}(hc:Uj X (.builtin id) r)(n:Nm X.env.scope x .globalImplicit)(hm:X.mg x=none)(hv:bootBuiltins x=some (.builtin id))(ha:PA X (e::es) t)(he:sEq X e es:=by rfl)(hpl:sFq X pos es:=by rfl):PE X (.Call (.Name x p) (e::es) [] pos) (Az r t):=RT hc n.1 hm hv ha n.2.2.2 n.2.1 he hpl
theorem Sf{p:Pos}{e:Expr}{es:List Expr}{t:TA}{T:String}{r:List V->Hp->VK->Prop}(hc:Uj X (.type T) r)(n:Nm X.env.scope x .globalImplicit)(hm:X.mg x=none)(hv:bootBuiltins x=some (.type T))(ha:PA X (e::es) t)(he:sEq X e es:=by rfl)(hpl:sFq X pos es:=by rfl):PE X (.Call (.Name x p) (e::es) [] pos) (Az r t):=PR hc n.1 hm hv ha n.2.2.2 n.2.1 he hpl
theorem bC{i:Nat}{e:Expr}{te:TE}{pos':Pos}(hN:X.N.Nodup)(n:Nm X.env.scope x .local)(he:PE X e te)(hi:X.N[i]?=some x:=by rfl)(hs:swapsWith e (some (.Name x pos')) pos.line X.env=pure false:=by rfl) :
  PS X (.Assign [.Name x pos'] e pos) (Ju te (Wb i)):=Gb hN hi (.inl n.1) he hs (.inr n.1)
theorem Pi{i:Nat}{e:Expr}{te:TE}{pos':Pos}(hN:X.N.Nodup)(n:Nm X.env.scope x .cell)(he:PE X e te)(hf:X.fn x=true:=by rfl)(hi:X.N[i]?=some x:=by rfl)(hs:swapsWith e (some (.Name x pos')) pos.line X.env=pure false:=by rfl) :
  PS X (.Assign [.Name x pos'] e pos) (Ju te (Wb i)):=Gb hN hi (.inr n.1) he hs (.inl hf)
theorem Mj(hN:X.N.Nodup)(n:Nm X.env.scope x .local)(he:PE X e te)(ho:EA X op ti)(hi:X.N[i]?=some x:=by rfl) :
  PS X (.AugAssign (.Name x pos') op e pos) (EF i te ti):=Od hN hi (.inl n.1) he ho (.inr n.1)
theorem LR(hN:X.N.Nodup)(n:Nm X.env.scope x .local)(hi:X.N[i]?=some x:=by rfl):PG X (.Name x pos) (Wb i):=Fs hN hi (.inl n.1) (.inr n.1)
end
section
variable{X:Cx}{scope:Scope}{cl:List (Str×dN)}{C:dN}{N':dF}{s0:dJ}{H0:Hp}{ex:dI}{pn:List (dN×Obj)}{x:Str}{pos:Pos}
theorem OJ(n:Nm scope x .globalImplicit:=by decide +kernel):Nm (ccx X scope cl C N' s0 H0 ex pn).env.scope x .globalImplicit:=⟨Hv aA n.1,n.2⟩
theorem nmC(n:Nm scope x .globalImplicit:=by decide +kernel):nB (ccx X scope cl C N' s0 H0 ex pn) x .globalImplicit:=xN (OJ n)
theorem YZ.consN{j:Nat}{fr:List (Str×Nat)}(n:Nm X.env.scope x .cell)(t:YZ X scope fr)(m:Nm scope x .free:=by decide +kernel)(h1:X.N[j]?=some x:=by rfl):YZ X scope ((x,j)::fr):=.cons h1 (.inl n.1) m.1 t
end
def cs(x:Str):List Nat:=x.cps.toList
theorem Wp(x:Str):(cs x).length=x.length:=by unfold cs;exact yP
theorem Cd(x y:Str):cs (x++y)=cs x++cs y:=by unfold cs;rw[PySem.Str.cps_append,Array.toList_append]
theorem Lx(l:List Nat):cs ⟨l.toArray⟩=l:=by unfold cs;simp
theorem FD(xs:List Nat)(lo:Nat):∀m,lo+m<=xs.length->((List.range m).map (lo + ·)).filterMap (xs[·]?)=(xs.drop lo).take m:=by
 intro m
 induction m with
 | zero=>intro _;simp
 | succ m ih =>
  intro h;rw[wP,xP,wT,ih (by lia),yG,List.getElem?_drop];have:lo+m<xs.length:=by lia
  simp[xC this]
theorem Fh(x:Str)(h:0<=i):cs (Txt.slice x none (some i))=(cs x).take i.toNat:=by
 have hl:=Wp x;have e:Builtin.Str.strSliceIndices none (some i) 1 x.length=(List.range (min i.toNat x.length)).map (0 + ·):=by
  unfold Builtin.Str.strSliceIndices sliceRange;simp only[show (1:Int) > 0 by decide,if_true];have e1:(if i<0 then i+(x.length:Int) else i)=i:=if_neg (by lia);rw[e1];have e2:(if (0:Int)<max 0 (min i (x.length:Int)) then (max 0 (min i (x.length:Int)) - 0+1 - 1) / 1 else 0).toNat=min i.toNat x.length:=by
   split<;>(try simp only[Int.ediv_one])<;>lia
  rw[e2];apply wM;intro k _;lia
 unfold Txt.slice;rw[e];split
 ·rename_i hc;have hc:((List.range (min i.toNat x.length)).map (0 + ·)).length=x.length:=by simpa using hc
  rw[xB,zO] at hc;rw[zA (by lia)]
 ·rw[Lx];have:=FD (cs x) 0 (min i.toNat x.length) (by lia);rw[List.drop_zero] at this;have e3:(cs x).take (min i.toNat x.length)=(cs x).take i.toNat:=by
   rw[← hl]
   by_cases h1:i.toNat<=(cs x).length
   ·rw[Nat.min_eq_left h1]
   ·rw[Nat.min_eq_right (by lia),zA (by lia),zA (by lia)]
  rw[← e3,← this];congr 1;funext k;unfold cs;simp
theorem OR(x:Str)(h:0<=i):cs (Txt.slice x (some i) none)=(cs x).drop i.toNat:=by
 have hl:=Wp x;have e:Builtin.Str.strSliceIndices (some i) none 1 x.length=(List.range (x.length - min i.toNat x.length)).map (min i.toNat x.length + ·):=by
  unfold Builtin.Str.strSliceIndices sliceRange;simp only[show (1:Int) > 0 by decide,if_true];have e1:(if i<0 then i+(x.length:Int) else i)=i:=if_neg (by lia);rw[e1];have e2:(if max 0 (min i (x.length:Int))<(x.length:Int) then ((x.length:Int) - max 0 (min i (x.length:Int))+1 - 1) / 1 else 0).toNat=x.length - min i.toNat x.length:=by
   split<;>(try simp only[Int.ediv_one])<;>lia
  rw[e2];apply wM;intro k _;lia
 unfold Txt.slice;rw[e];split
 ·rename_i hc;have hc:((List.range (x.length - min i.toNat x.length)).map (min i.toNat x.length + ·)).length=x.length:=by simpa using hc
  rw[xB,zO] at hc
  by_cases h0:i.toNat=0
  ·rw[h0,List.drop_zero]
  ·have:x.length=0:=by lia
   rw[List.drop_of_length_le (by lia)];exact List.length_eq_zero_iff.mp (by lia)
 ·rw[Lx];have:=FD (cs x) (min i.toNat x.length) (x.length - min i.toNat x.length) (by lia);have e3:((cs x).drop (min i.toNat x.length)).take (x.length - min i.toNat x.length)=(cs x).drop i.toNat:=by
   rw[zA (by rw[List.length_drop];lia)]
   by_cases h1:i.toNat<=x.length
   ·rw[Nat.min_eq_left h1]
   ·rw[Nat.min_eq_right (by lia),List.drop_of_length_le (by lia),List.drop_of_length_le (by lia)]
  rw[← e3,← this];congr 1;funext k;unfold cs;simp
theorem Ni:∀ys:List Str,cs (Txt.join "" ys)=(ys.map cs).flatten:=by
 have go:∀(ys:dF)(a:Array Nat),(ys.foldl (fun acc p=>acc++(("":Str)).cps++p.cps) a).toList=a.toList++(ys.map cs).flatten:=by
  intro ys
  induction ys with
  | nil=>intro a;simp
  | cons y r ih =>
   intro a;rw[List.foldl_cons,ih];have:(("":Str)).cps=#[]:=aA
   rw[this];simp[cs]
 intro ys;show (cs (Builtin.Str.glued "" ys))=_;unfold Builtin.Str.glued;cases ys with
 | nil=>decide +kernel
 | cons y r =>
  show (List.foldl _ y.cps r).toList=_;rw[go];rfl
def AQ(x:Str):Prop:=∀c∈cs x,97<=c/\c<=122
def letters:Str:="abcdefghijklmnopqrstuvwxyz"
theorem Nl:cs letters=(List.range 26).map (97 + ·):=aA
theorem DS(h0:0<=d)(h1:d<26):atI letters.cps.toList d=some (97+d.toNat):=by
 obtain⟨j,rfl⟩:=zY h0;refine Yl ?_;show (cs letters)[j]?=_;rw[Nl,xJ,wN (by lia)];rfl
theorem BL{J:It}{nl:Nat}{fv:St}{g:TG}{tt:Tv}{te:TE}{Q:VK}{H:Hp}{xs:aG}(Pv:Nat->List V->Hp->Prop)(h0:Pv 0 [] H)(hn:xs.length<=1000000)(hgo:∀i H ys,i<xs.length->Pv i ys H->J.go i H)(hy:∀i H x H' ys,i<xs.length->Pv i ys H->J.yld i H x H'->H'=H/\xs[i]?=some x)(hst:∀H ys,Pv xs.length ys H->J.stop xs.length H)(hlen:∀i ys H,Pv i ys H->ys.length<=i)(step:∀i x ys H,xs[i]?=some x->Pv i ys H->Wh nl fv g tt te x H (fun y H'=>Pv (i+1) (ys ++ [y]) H') fun H'=>Pv (i+1) ys H')(hd:∀ys H,Pv xs.length ys H->∀l,H l=none->Q (.ref l) (upd H l (.lst ys))) :
  Vk J nl fv g tt te Q H:=by
 have mono:∀{x:V}{H:Hp}{Y Y':V->Hp->Prop}{N N':Hp->Prop},Wh nl fv g tt te x H Y N->Y=Y'->N=N'->Wh nl fv g tt te x H Y' N':=fun h e1 e2=>by subst e1;subst e2;exact h
 refine⟨fun i m ys H=>m=xs.length - i/\i<=xs.length/\Pv i ys H,⟨xs.length,by simp,xZ _,h0⟩,?_⟩;rintro i m ys H ⟨rfl,hi,p⟩;have hl:=hlen i ys H p;have hz:(1000000:Nat)<sizeLine:=by decide
 by_cases hlt:i<xs.length
 ·refine .inr ⟨hgo i H ys hlt p,by lia,xs.length - (i+1),by lia,fun x H' y=>?_⟩;obtain⟨e,ex⟩:=hy i H x H' ys hlt p y;subst e;refine mono (step i x ys _ ex p) ?_ ?_
  ·funext y H4;apply propext;exact⟨fun q=>⟨rfl,hlt,q⟩,fun q=>q.2.2⟩
  ·funext H3;apply propext;exact⟨fun q=>⟨rfl,hlt,q⟩,fun q=>q.2.2⟩
 ·have e:i=xs.length:=by lia
  subst e;exact .inl ⟨hst H ys p,by lia,hd ys H p⟩
def AO(lo:Int)(n:Nat):List V:=(List.range n).map fun k=>V.int (lo+(k:Nat))
theorem AG(lo:Int)(n:Nat):(AO lo n).length=n:=by simp[AO]
theorem MZ{lo:Int}{n i:Nat}{x:V}(h:(AO lo n)[i]?=some x):i<n/\x=.int (lo+(i:Nat)):=by
 have hi:i<n:=by have:=(xE.mp h).1;rwa [AG] at this
 refine⟨hi,?_⟩;unfold AO at h;rw[xJ,wN hi] at h;exact(Option.some.inj h).symm
theorem GM{lo:Int}{n:Nat}{nl:Nat}{fv:St}{g:TG}{tt:Tv}{te:TE}{Q:VK}{H:Hp}(Pv:Nat->List V->Hp->Prop)(h0:Pv 0 [] H)(hn:n<=1000000)(hlen:∀i ys H,Pv i ys H->ys.length<=i)(step:∀i ys H,i<n->Pv i ys H->Wh nl fv g tt te (.int (lo+(i:Nat))) H (fun y H'=>Pv (i+1) (ys ++ [y]) H') fun H'=>Pv (i+1) ys H')(hd:∀ys H,Pv n ys H->∀l,H l=none->Q (.ref l) (upd H l (.lst ys))) :
  Vk (Jo lo n) nl fv g tt te Q H:=by
 refine BL (xs:=AO lo n) Pv h0 (by rw[AG];exact hn) ?_ ?_ ?_ hlen ?_ ?_
 ·intro i H ys hi _;rw[AG] at hi;exact hi
 ·rintro i H x H' ys hi _ ⟨rfl,rfl⟩;rw[AG] at hi;refine⟨rfl,?_⟩;unfold AO;rw[xJ,wN hi];rfl
 ·intro H ys _;rw[AG];exact xD _
 ·intro i x ys H hx p;obtain⟨hi,rfl⟩:=MZ hx;exact step i ys H hi p
 ·intro ys H p;rw[AG] at p;exact hd ys H p
theorem Ur{K:uFg}{a:dN}{xs:aG}{nl:Nat}{fv:St}{g:TG}{tt:Tv}{te:TE}{Q:VK}{H:Hp}(Pv:Nat->List V->Hp->Prop)(h0:Pv 0 [] H)(hn:xs.length<=1000000)(hl:∀i ys H,i<=xs.length->Pv i ys H->ZG K H a xs)(hlen:∀i ys H,Pv i ys H->ys.length<=i)(step:∀i x ys H,xs[i]?=some x->Pv i ys H->Wh nl fv g tt te x H (fun y H'=>Pv (i+1) (ys ++ [y]) H') fun H'=>Pv (i+1) ys H')(hd:∀ys H,Pv xs.length ys H->∀l,H l=none->Q (.ref l) (upd H l (.lst ys))) :
  Vk (Jm K a) nl fv g tt te Q H:=by
 refine BL (xs:=xs) Pv h0 hn ?_ ?_ ?_ hlen step hd
 ·intro i H ys hi p;exact⟨xs,xs[i],hl i ys H (yN hi) p,by simp[hi]⟩
 ·rintro i H x H' ys hi p ⟨rfl,y⟩;exact⟨rfl,y xs (hl i ys _ (yN hi) p)⟩
 ·intro H ys p;exact⟨xs,hl _ ys H (xD _) p,xD _⟩
theorem RK(Pv:Nat->List V->Hp->Prop)(h0:Pv 0 [] H)(hn:x.length<=1000000)(hlen:∀i ys H,Pv i ys H->ys.length<=i)(step:∀i ys H,i<x.length->Pv i ys H->Wh nl fv g tt te (sgn x i) H (fun y H'=>Pv (i+1) (ys ++ [y]) H') fun H'=>Pv (i+1) ys H')(hd:∀ys H,Pv x.length ys H->∀l,H l=none->Q (.ref l) (upd H l (.lst ys))) :
  Vk (Dy x) nl fv g tt te Q H:=by
 have ln:((List.range x.length).map fun i=>sgn x i).length=x.length:=by simp
 refine BL (xs:=(List.range x.length).map fun i=>sgn x i) Pv h0 (by rw[ln];exact hn) ?_ ?_ ?_ hlen ?_ ?_
 ·intro i H ys hi _;rw[ln] at hi;exact hi
 ·rintro i H v H' ys hi _ ⟨rfl,rfl⟩;rw[ln] at hi;refine⟨rfl,?_⟩;rw[xJ,wN hi];rfl
 ·intro H ys _;rw[ln];exact rfl
 ·intro i v ys H hx p;have hi:i<x.length:=by have:=(xE.mp hx).1;rwa [ln] at this
  rw[xJ,wN hi] at hx;cases hx;exact step i ys H hi p
 ·intro ys H p;rw[ln] at p;exact hd ys H p
theorem Us{ls:St}(h:ls.length=1):∃a,ls=[a]:=by
 match ls,h with
 | [a],_=>exact⟨a,rfl⟩
theorem AJ{ls:St}(h:ls.length=2):∃a b,ls=[a,b]:=by
 match ls,h with
 | [a,b],_=>exact⟨a,b,rfl⟩
structure QE (X:Cx) (e:Expr) (t:TE):Prop where
 h:PE X e t
structure QT (X:Cx) (e:Expr) (t:TT):Prop where
 h:PT X e t
structure QW (X:Cx) (e:Expr) (t:TT):Prop where
 h:PW X e t
structure QS (X:Cx) (s:Stmt) (t:TS):Prop where
 h:PS X s t
structure UV (X:Cx) (s:List Stmt) (t:TS):Prop where
 h:Ap X s t
structure QA (X:Cx) (es:List Expr) (t:TA):Prop where
 h:PA X es t
structure QG (X:Cx) (e:Expr) (t:TG):Prop where
 h:PG X e t
structure B9 (X:Cx) (es:List Expr) (t:Jk):Prop where
 h:IK X es t
structure QI (X:Cx) (tg iter:Expr) (t:TI):Prop where
 h:PI X tg iter t
structure QO (X:Cx) (e:Option Expr) (t:TO):Prop where
 h:PO X e t
structure DU (X:Cx) (es:List Expr) (t:Tv):Prop where
 h:BE X es t
structure YS (X:Cx) (f:dM->dM->Sem dM) (r:R2):Prop where
 h:Jn X f r
structure GE (X:Cx) (f:dM->Sem dM) (r:V->Hp->VK->Prop):Prop where
 h:MV X f r
structure QC (X:Cx) (f:dM) (r:List V->Hp->VK->Prop):Prop where
 h:Uj X f r
theorem QC.imp(h:QC X f r)(i:∀xs H Q,r' xs H Q->r xs H Q):QC X f r':=⟨fun p s U H x u Q I v k=>h.h p s U H x u Q I v (i x H Q k)⟩
structure Av (X:Cx) (r:R2):Prop where
 h:BY X r
structure CA (X:Cx) (r:V->Option Int->Option Int->Hp->VK->Prop):Prop where
 h:FS X r
structure QM (X:Cx) (id:String) (r:V->List V->Hp->VK->Prop):Prop where
 h:Ku X id r
structure Bg (X:Cx) (t:Co):Prop where
 h:RQ X t
structure HH (X:Cx) (op:Operator) (t:Df):Prop where
 h:EA X op t
section
variable{X:Cx}{a b c:Expr}{ta tb te:TE}{pos p pos':Pos}{st:Stmt}{rest:List Stmt}{t u:TS}{x:Str}{es:List Expr}{e:Expr}
theorem Zq:UV X [] Yb:=⟨fun _ _ U H _ I h=>wpAny_execs_nil ⟨U,H,I,h⟩⟩
theorem Zd(h1:QS X st t)(h2:UV X rest u):UV X (st::rest) (Ua t u):=⟨by
 have h1:=h1.h;have h2:=h2.h;intro pins s U H D I h;refine wpAny_execs_cons (thn (h1 pins s U H {D with nx:=u D } I h) fun f s1 q=>?_);cases f with
 | next =>
  obtain⟨σ',H',I',q⟩:=q;exact h2 pins s1 σ' H' D I' q
 | ret v=>exact q
 | brk=>exact q
 | cont=>exact q⟩
theorem Ze(h1:QS X st t):UV X [st] t:=⟨by
 have h1:=h1.h;intro pins s U H D I h;refine wpAny_execs_cons (thn (h1 pins s U H D I h) fun f s1 q=>?_);cases f with
 | next=>exact wpAny_execs_nil q
 | ret v=>exact q
 | brk=>exact q
 | cont=>exact q⟩
theorem Zm(h:QE X e te):QS X (.Return (some e) pos) (PX te):=⟨by
 have he:=h.h;intro pins s U H D I h
 exact wpAny_Return_some (thn (he pins s U H _ I h) fun v s1 ⟨x,H1,I1,r1,q1⟩=>⟨x,U,H1,I1,r1,q1⟩)⟩
theorem Pb:QS X (.Continue pos) MR:=⟨fun _ _ U H _ I h=>wpAny_Continue ⟨U,H,I,h⟩⟩
theorem Zn{c:Expr}{a b:List Stmt}{tc:TT}(hc:QT X c tc)(ha:UV X a t)(hb:UV X b u):QS X (.If c a b pos) (Dp tc t u):=⟨by
 have hc:=hc.h;have ha:=ha.h;have hb:=hb.h;intro pins s U H D I h;refine wpAny_If (thn (hc pins s U H _ I h) fun d s1 ⟨H1,I1,q1⟩=>?_);cases d with
 | true=>exact ha pins s1 U H1 D I1 q1
 | false=>exact hb pins s1 U H1 D I1 q1⟩
theorem Zo(he:QE X e te)(hs:swapsWith e none pos.line X.env=pure false:=by rfl):QS X (.Expr e pos) (EK te):=⟨by
 have he:=he.h;intro pins s U H D I h
 exact wpAny_Expr_any (thn (he pins s U H _ I h) fun v s1 ⟨x,H1,I1,r1,q1⟩=>⟨U,H1,I1,q1⟩) I.quiet hs⟩
theorem Zx(i:Nat)(he:QE X e te)(hN:nD X:=by kernel_rfl)(n:nB X x .local:=by kernel_rfl)(hi:X.N[i]?=some x:=by rfl)(hs:swapsWith e (some (.Name x pos')) pos.line X.env=pure false:=by rfl) :
  QS X (.Assign [.Name x pos'] e pos) (Ju te (Wb i)):=⟨bC (od hN) (od n) he.h hi hs⟩
theorem CC{i:Nat}(hN:X.N.Nodup)(n:Nm X.env.scope x .cell)(he:QE X e te)(hf:X.fn x=true:=by rfl)(hi:X.N[i]?=some x:=by rfl)(hs:swapsWith e (some (.Name x pos')) pos.line X.env=pure false:=by rfl) :
  QS X (.Assign [.Name x pos'] e pos) (Ju te (Wb i)):=⟨Pi hN n he.h hf hi hs⟩
theorem AF{tg:Expr}{g:TG}(he:QE X e te)(hg:QG X tg g)(hs:swapsWithSole [tg] e pos.line X.env=pure false:=by rfl)(hw:swappedStores [tg] e X.env=pure none:=by rfl)(h1:(assignEach [tg] X.env).map (·.2)= [assign tg X.env]:=by rfl):QS X (.Assign [tg] e pos) (Ju te g):=⟨by
 have he:=he.h;have hg:=hg.h;intro pins s U H D I h;refine wpAny_Assign_stores (thn (he pins s U H _ I h) fun v s1 ⟨x,H1,I1,r1,q1⟩=>?_) hs hw;rw[h1]
 exact thn (hg pins s1 U H1 x v _ I1 r1 q1) fun _ s2 q=>q⟩
theorem NS(i:Nat){op:Operator}{ti:Df}(he:QE X e te)(ho:HH X op ti)(hN:nD X:=by kernel_rfl)(n:nB X x .local:=by kernel_rfl)(hi:X.N[i]?=some x:=by rfl) :
  QS X (.AugAssign (.Name x pos') op e pos) (EF i te ti):=⟨Mj (od hN) (od n) he.h ho.h hi⟩
theorem PN:HH X .Add (ipI fun i j=>i+j):=⟨by
 intro pins s U H x y v u Q I r1 r2 h;obtain⟨i,j,e1,e2,q⟩:=h;subst e1;subst e2;obtain⟨t,rfl⟩:=r1;obtain⟨t',rfl⟩:=r2
 exact iadd_int ⟨.int _,H,I.tok _,⟨_,rfl⟩,q⟩⟩
def Ad(J:It)(g:TG)(tb:TS)(D:YK)(U:St)(H1:Hp):Prop:=∃W:Nat->Nat->St->Hp->Prop,(∃m,W 0 m U H1)/\∀i m U H,W i m U H ->
 (J.stop i H/\D.nx U H)\/(J.go i H/\∃N:St->Hp->Prop,(∀ σ' H',N σ' H'->∃m',m'<m/\W (i+1) m' σ' H')/\∀x H',J.yld i H x H'->g x U H' fun σ2 H2=>tb {D with nx:=N,ct:=N,bk:=D.nx } σ2 H2)
def Ry(wi:TI)(g:TG)(tb:TS):TS:=fun D U H=>wi U H fun J H1=>Ad J g tb D U H1
theorem Wi(hp:PassesOwn (model X.prog X.w) X.A X.env X.xe)(hc:X.calm=true)(hi:QI X tg iter wi)(hg:QG X tg g)(hb:UV X body t)(hs:∀x,foldedSetIterable iter X.env x=pure x:=by intro _;rfl):QS X (.For tg iter body [] pos) (Ry wi g t):=⟨by
 have hi:=hi.h;have hg:=hg.h;have hb:=hb.h;intro pins s U H D I h;refine wpAny_For (thn (hi pins s U H _ I h) fun v s1 h1=>thn h1 fun itv s2 h2=>?_) hs;obtain⟨it,fp,tn,J,H2,e,I2,T,st2,f2,W,⟨m0,w0⟩,turn⟩:=h2;subst e;have stat:∀{H':Hp},(∀b∈fp,H' b=none)->∀b∈fp,Yr X pins H' b:=fun hn b hb=>⟨hn b hb,(f2 b hb).2⟩;refine codeAny_forLoop_any (fun n s'=>∃i σ' H',ZE X pins σ' H' s'/\tn i s'.heap/\(∀b∈fp,H' b=none)/\W i n σ' H') ?_ m0 ⟨0,U,H2,I2,st2,fun b hb=>(f2 b hb).1,w0⟩;rintro n s3 ⟨i,σ3,H3,I3,st3,fr3,w3⟩;rcases turn i n σ3 H3 w3 with⟨stop,qn⟩ | ⟨go,N,hN,step⟩
 ·refine wpAny_passesOwn hp (thn (T.done X rfl rfl rfl hc i pins s3 σ3 H3 X.xe I3 (stat fr3) st3 stop) fun r s4 ⟨hr,I4⟩=>?_);subst hr;exact wpAny_execs_nil ⟨σ3,H3,I4,qn⟩
 ·refine wpAny_passesOwn hp (thn (T.item X rfl rfl rfl hc i pins s3 σ3 H3 X.xe I3 (stat fr3) st3 go) fun r s4 ⟨u,hr,h4⟩=>?_);subst hr;refine wpAny_passesOwn hp (thn h4 fun _ s5 ⟨x,H5,I5,r5,y5,st5,fr5⟩=>?_);have I5':=I5.pinned (stat fr5) (T.obj _ _ st5);refine wpAny_passesOwn hp (thn (hg _ s5 σ3 H5 x u _ I5' r5 (step x H5 y5)) fun _ s6 ⟨σ6,H6,I6,q6⟩=>?_);refine wpAny_passesOwn hp (thn (hb _ s6 σ6 H6 _ I6 q6) fun f s7 q7=>?_);have again:∀{σ7:St}{H7:Hp},ZE X (pins++Ao fp s5.heap) σ7 H7 s7->N σ7 H7->∃m,m<n/\∃i σ' H',ZE X pins σ' H' s7/\tn i s7.heap/\(∀b∈fp,H' b=none)/\W i m σ' H':=fun {σ7 H7} I7 n7=>by
   obtain⟨m',hm,w7⟩:=hN σ7 H7 n7;refine⟨m',hm,i+1,σ7,H7,I7.unpinned,T.keep _ _ _ st5 fun b hb o e=>(I7.pin (b,o) (xM _ (xM _ (Bw hb e)))).1,fun b hb=>?_,w7⟩;obtain⟨o,e,d⟩:=T.obj _ _ st5 b hb;exact(I7.pin (b,o) (xM _ (xM _ (Bw hb e)))).2.1
  cases f with
  | next=>obtain⟨σ7,H7,I7,n7⟩:=q7;exact again I7 n7
  | cont=>obtain⟨σ7,H7,I7,n7⟩:=q7;exact again I7 n7
  | brk=>obtain⟨σ7,H7,I7,q7⟩:=q7;exact⟨σ7,H7,I7.unpinned,q7⟩
  | ret v=>obtain⟨x7,σ7,H7,I7,r7,q7⟩:=q7;exact⟨x7,σ7,H7,I7.unpinned,r7,q7⟩⟩
theorem Ep(hp:PassesOwn (model X.prog X.w) X.A X.env X.xe)(hc:QT X c tc)(hb:UV X body t):QS X (.While c body [] pos) (Mc tc t):=⟨by
 have hc:=hc.h;have hb:=hb.h;intro pins s U H D I h;obtain⟨W,⟨m0,w0⟩,turn⟩:=h;refine wpAny_While (codeAny_whileLoop (fun n s'=>∃ σ' H',ZE X pins σ' H' s'/\W n σ' H') ?_ m0 ⟨U,H,I,w0⟩);rintro n s1 ⟨σ1,H1,I1,w1⟩;refine wpAny_passesOwn hp (thn (hc pins s1 σ1 H1 _ I1 (turn n σ1 H1 w1)) fun b s2 ⟨H2,I2,q2⟩=>?_);cases b with
 | true =>
  obtain⟨N,hN,q2⟩:=q2;rw[if_pos rfl];refine wpAny_passesOwn hp (thn (hb pins s2 σ1 H2 _ I2 q2) fun f s3 q3=>?_);cases f with
  | next =>
   obtain⟨σ3,H3,I3,n3⟩:=q3;obtain⟨m',hm,w3⟩:=hN σ3 H3 n3;exact⟨m',hm,σ3,H3,I3,w3⟩
  | cont =>
   obtain⟨σ3,H3,I3,n3⟩:=q3;obtain⟨m',hm,w3⟩:=hN σ3 H3 n3;exact⟨m',hm,σ3,H3,I3,w3⟩
  | brk=>exact q3
  | ret v=>exact q3
 | false =>
  rw[if_neg xI]
  exact wpAny_execs_nil ⟨σ1,H2,I2,q2⟩⟩
theorem Yv(i:Nat)(hN:nD X:=by kernel_rfl)(n:nB X x .local:=by kernel_rfl)(hi:X.N[i]?=some x:=by rfl):QG X (.Name x pos) (Wb i):=⟨LR (od hN) (od n) hi⟩
theorem Vy:B9 X [] DC:=⟨by
 intro pins s U H vs us Q I r h;obtain⟨e,h⟩:=h;subst e;cases r
 exact assignInOrder_nil ⟨U,H,I,h⟩⟩
theorem Yp{t:TG}{u:Jk}(h1:QG X e t)(h2:B9 X es u)(hs:(assignEach (e::es) X.env).map (·.2)=assign e X.env::(assignEach es X.env).map (·.2):=by rfl):B9 X (e::es) (UF t u):=⟨by
 have h1:=h1.h;have h2:=h2.h;intro pins s U H vs us Q I r h;obtain⟨v,vr,e1,h⟩:=h;subst e1;cases r with
 | cons r rr =>
  rw[hs];refine assignInOrder_cons (thn (h1 pins s U H _ _ _ I r h) fun _ s1 ⟨σ1,H1,I1,q1⟩=>?_)
  exact h2 pins s1 σ1 H1 _ _ Q I1 rr q1⟩
theorem B7{k:Nat}{t:Jk}{n:Nat}(hc:X.calm=true)(h:B9 X es t)(hn:(assignEach es X.env).length=n:=by rfl)(hst:(assignEach es X.env).findIdx? (·.1)=none:=by rfl):QG X (.Tuple es k pos) (Je X.K n t):=⟨FB hc h.h hn hst⟩
theorem AN{o i:Expr}{to ti:TE}{t:Co}(ho:QE X o to)(hi:QE X i ti)(hs:Bg X t)(ha:∀v,assign (.Subscript o i pos) X.env v=(do
   let ov ← holding [v] (eval o X.env)
   let iv ← holding [v,ov] (eval i X.env)
   standAt pos
   holding [v,ov,iv] (setItem ov iv v)
   release [v,ov,iv] []):=by intro _;rfl):QG X (.Subscript o i pos) (SF to ti t):=⟨by
 have ho:=ho.h;have hi:=hi.h;have hs:=hs.h;intro pins s U H v u Q I r h;rw[ha];refine wpAny_bind (wpAny_holding (thn (ho pins s U H _ I h) fun ov s1 ⟨x,H1,I1,r1,q1⟩=>?_));refine wpAny_bind (wpAny_holding (thn (hi pins s1 U H1 _ I1 q1) fun iv s2 ⟨y,H2,I2,r2,q2⟩=>?_));refine wpAny_bind (wpAny_standAt (wpAny_bind (wpAny_holding (thn (hs pins s2 U H2 x y v ov iv u _ I2 r1 r2 r q2) fun _ s3 ⟨H3,I3,q3⟩=>?_))))
 exact wpAny_release ⟨U,H3,I3,q3⟩⟩
theorem AZ:Bg X Bq:=⟨by
 intro pins s U H o i v ov iv u Q I ro ri rv h;obtain⟨p,xs,k,j,rfl,rfl,hp,hj,q⟩:=h;cases ro;obtain⟨t,rfl⟩:=ri;obtain⟨its,n,r,ho,hz⟩:=I.lst hp;obtain⟨h1,h2,h3,h4⟩:=Hi hj;have hl:=r.length;have hn:=A8;have I':ZE X pins U (upd H p (.lst (xs.set j v))) {s with heap:=s.heap.update p (Obj.mapSeq (·.setIfInBounds j u)) } :=
  I.lstUpd hp ho (LY its n j u) (r.set rv j) (by rw[List.length_set];exact hz) s.toks
 by_cases h0:0<=k
 ·have hk:k.toNat=j:=by
   rw[seqIndex_of h0 h4] at h1;exact Option.some.inj h1
  exact PySem.W.ki_setAt ho h0 (by lia) (by rw[xS,← hl];exact h4) (by rw[hk];exact⟨_,I',q⟩)
 ·have hk:(k+(its.toArray.size:Int)).toNat=j:=by
   rw[seqIndex_neg (by lia) h3] at h1;rw[xS,← hl];exact Option.some.inj h1
  exact PySem.W.ki_setBack ho (by lia) (by rw[xS,← hl];exact h3) (by lia) (by rw[hk];exact⟨_,I',q⟩)⟩
variable{tg:Expr}
theorem Y7(hl:QE X l te):QI X tg l (RE X.K te):=⟨by
 have hl:=hl.h;intro pins s U H R I h;refine thn (hl pins s U H _ I h) fun v s1 ⟨x,H1,I1,r1,q1⟩=>?_;obtain⟨a,e,⟨xs,hq⟩,q⟩:=q1;subst e;cases r1;obtain⟨its,rv,p,hz⟩:=I1.list hq;refine wpAny_pyIter_list p.isList ?_;refine⟨s1.heap.objs.size,[s1.heap.objs.size],_,_,H1,rfl,I1.kept (t':=s1.toks) fun b o e=>xA _ e,Rv a _,⟨_,xG _ rfl,rfl,rfl⟩,fun b hb=>?_,q⟩;have e:b=s1.heap.objs.size:=by simpa using hb
 subst e
 exact I1.fpOk (xD _) (I1.hok.fresh (xD _))⟩
theorem Qj(hl:QE X l te):QI X tg l (XA X.K te):=⟨by
 have hl:=hl.h;intro pins s U H R I h;refine thn (hl pins s U H _ I h) fun v s1 ⟨x,H1,I1,r1,q1⟩=>?_;obtain⟨a,e,⟨xs,hq⟩,q⟩:=q1;subst e;cases r1;obtain⟨its,rv,p,hz⟩:=I1.tuple hq;refine wpAny_pyIter_tuple (show s1.heap.IsTuple a its.toArray from p) ?_;refine⟨s1.heap.objs.size,[s1.heap.objs.size],_,_,H1,rfl,I1.kept (t':=s1.toks) fun b o e=>xA _ e,Sw a _,⟨_,xG _ rfl,rfl,rfl⟩,fun b hb=>?_,q⟩;have e:b=s1.heap.objs.size:=by simpa using hb
 subst e
 exact I1.fpOk (xD _) (I1.hok.fresh (xD _))⟩
theorem Ol(hl:QE X l te):QI X tg l (RN te):=⟨by
 have hl:=hl.h;intro pins s U H R I h;refine thn (hl pins s U H _ I h) fun v s1 ⟨y,H1,I1,r1,q1⟩=>?_;obtain⟨x,e,q⟩:=q1;subst e;obtain⟨t,rfl⟩:=r1;refine wpAny_pyIter_strU ?_;refine⟨s1.heap.objs.size,[s1.heap.objs.size],_,_,H1,rfl,I1.kept (t':=s1.toks) fun b o e=>xA _ e,RY _ x t,⟨_,xG _ rfl,rfl,rfl⟩,fun b hb=>?_,q⟩;have e:b=s1.heap.objs.size:=by simpa using hb
 subst e
 exact I1.fpOk (xD _) (I1.hok.fresh (xD _))⟩
theorem BC{a:Expr}{ta:TA}(hm:X.mg "range"=none)(ha:QA X [a] ta)(hg:nB X "range" .globalImplicit:=by kernel_rfl)(hs:starEach [a] X.env=[(false,eval a X.env)]:=by rfl):QI X tg (.Call (.Name "range" p) [a] [] pos) (XG ta):=⟨by
 have hg:=(od hg).1;have ha:=ha.h;intro pins s U H R I h;refine Call_ (Vi I hg hm boot_range (PyProof.Rows.callWith_type1 (thn (ha pos pins s U H _ I h) fun us s1 ⟨vs,H1,I1,r1,q1⟩=>?_) hs rfl));obtain⟨j,e,q1,q2,q⟩:=q1;subst e;cases r1 with
 | cons r rr =>
  cases rr;obtain⟨t,rfl⟩:=r
  exact call_range_1 (Xw I1 (by lia) (by lia) q1 q2 (by simpa using q))⟩
theorem Zb:QA X [] Ub:=⟨fun _ _ _ _ H Q I h=>Calls.spliced_nil ⟨[],H,I,.nil,h⟩⟩
theorem Za{t:TA}(ha:QE X e te)(hr:QA X es t)(hs:sEq X e es:=by rfl):QA X (e::es) (Vr te t):=⟨by
 have ha:=ha.h;have hr:=hr.h;intro pos pins s U H Q I h;rw[hs];show wpAny _ _ (spliced ((false,eval e X.env)::backTo pos (starEach es X.env))) _ _ s;refine Calls.spliced_cons (thn (ha pins s U H _ I h) fun u s1 ⟨x,H1,I1,r1,q1⟩=>?_)
 exact thn (hr pos pins s1 U H1 _ I1 q1) fun us s2 ⟨xs,H2,I2,r2,q2⟩=>⟨x::xs,H2,I2,.cons r1 r2,q2⟩⟩
theorem Yi {x1} {t:TA}(h:QA X es t):QE X (.Tuple es x1 pos) (MJ t):=⟨by
 have h:=h.h;intro pins s U H Q I hq;refine wpAny_Tuple_spliced (thn (h pos pins s U H _ I hq) fun us s1 ⟨xs,H1,I1,r,z,q⟩=>⟨by rw[← r.length];exact z,?_⟩);have hf:H1 s1.heap.objs.size=none:=I1.hok.fresh (xD _);refine⟨.ref s1.heap.objs.size,upd H1 s1.heap.objs.size (.tup xs),I1.laid (t':=s1.toks) (fun b u e=>xA _ e) (xD _) ?_,rfl,q _ hf⟩
 exact⟨z,us,r,⟨_,xG _ rfl,rfl,_,rfl⟩⟩⟩
theorem Ym{t:TA}(h:QA X es t):QE X (.List es pos) (MA t):=⟨by
 have h:=h.h;intro pins s U H Q I hq;refine wpAny_List_spliced (thn (h pos pins s U H _ I hq) fun us s1 ⟨xs,H1,I1,r,z,q⟩=>⟨by rw[← r.length];exact z,?_⟩);have hf:H1 s1.heap.objs.size=none:=I1.hok.fresh (xD _);refine⟨.ref s1.heap.objs.size,upd H1 s1.heap.objs.size (.lst xs),I1.laid (t':=s1.toks) (fun b u e=>xA _ e) (xD _) ?_,rfl,q _ hf⟩
 exact⟨z,us,0,r,xG _ rfl⟩⟩
theorem Wq(ha:QT X a tA):QT X (.UnaryOp .Not a pos) (LA tA):=⟨by
 have ha:=ha.h;intro pins s U H Q I h
 exact isTrue_not (ha pins s U H (fun c H1=>Q (!c) H1) I h)⟩
theorem QW.pt(h:QW X e tA):QT X e tA:=⟨PW.pt h.h⟩
theorem Uw(ha:QT X a tA):QW X (.BoolOp .And [a] pos) tA:=⟨by
 have ha:=ha.h;intro wh pins s U H Q I h;refine isTrue_and (thn (ha pins s U H Q I h) fun c s1 e=>?_);cases c with
 | true=>exact isTrue_and_nil e
 | false=>exact e⟩
theorem Bz(ha:QT X a tA):QW X (.BoolOp .Or [a] pos) tA:=⟨by
 have ha:=ha.h;intro wh pins s U H Q I h;refine isTrue_or (thn (ha pins s U H Q I h) fun c s1 e=>?_);cases c with
 | false=>exact isTrue_or_nil e
 | true=>exact e⟩
theorem Uk{rest:List Expr}(ha:QT X a tA)(hb:QW X (.BoolOp .And (b::rest) pos) tB'):QW X (.BoolOp .And (a::b::rest) pos) (LV tA tB'):=⟨by
 have ha:=ha.h;have hb:=hb.h;intro wh pins s U H Q I h;refine isTrue_and (thn (ha pins s U H _ I h) fun c s1 ⟨H1,I1,q1⟩=>?_);cases c with
 | true=>exact hb wh pins s1 U H1 Q I1 q1
 | false=>exact⟨H1,I1,q1⟩⟩
theorem Bf{rest:List Expr}(ha:QT X a tA)(hb:QW X (.BoolOp .Or (b::rest) pos) tB'):QW X (.BoolOp .Or (a::b::rest) pos) (OI tA tB'):=⟨by
 have ha:=ha.h;have hb:=hb.h;intro wh pins s U H Q I h;refine isTrue_or (thn (ha pins s U H _ I h) fun c s1 ⟨H1,I1,q1⟩=>?_);cases c with
 | true=>exact⟨H1,I1,q1⟩
 | false=>exact hb wh pins s1 U H1 Q I1 q1⟩
theorem Zt(ho:YS X (compareOp op) r)(ha:QE X a ta)(hb:QE X b tb)(hm:behindInMarks op b=false):QT X (.Compare a [op] [b] pos) (BK (J0 r ta tb)):=⟨by
 have ho:=ho.h;have ha:=ha.h;have hb:=hb.h;intro pins s U H Q I h
 refine wpAny_isTrue_Compare1 (thn (ha pins s U H _ I h) fun v s1 ⟨x,H1,I1,r1,q1⟩=>thn (hb pins s1 U H1 _ I1 q1) fun u s2 ⟨y,H2,I2,r2,q2⟩=>
  thn (ho pins s2 U H2 x y v u _ I2 r1 r2 q2) fun c s3 ⟨z,H3,I3,r3,k,e,q3⟩=>?_) hm
 subst e;cases r3
 exact wpAny_truthy_bool ⟨H3,I3,q3⟩⟩
theorem Ul(ho:YS X (compareOp op) r)(ha:QE X a ta)(hb:QE X b tb)(hm:behindInMarks op b=false):QE X (.Compare a [op] [b] pos) (J0 r ta tb):=⟨by
 have ho:=ho.h;have ha:=ha.h;have hb:=hb.h;intro pins s U H Q I h
 exact wpAny_Compare1 (DT ha hb I h fun v u s2 x y H2 I2 rx ry q=>ho pins s2 U H2 x y v u Q I2 rx ry q) hm⟩
theorem IW(ho:YS X (compareOp op) r)(ho':YS X (compareOp op') r')(ha:QE X a ta)(hb:QE X b tb)(hc:QE X c tc)(hm:lastMarks [op,op'] [b,c]=false:=by with_unfolding_all rfl):QE X (.Compare a [op,op'] [b,c] pos) (Km r r' ta tb tc):=⟨by
 have ho:=ho.h;have ho':=ho'.h;have ha:=ha.h;have hb:=hb.h;have hc:=hc.h;intro pins s U H Q I h
 refine Compare_chain (thn (ha pins s U H _ I h) fun v s1 ⟨x,H1,I1,r1,q1⟩=>chain_link (thn (hb pins s1 U H1 _ I1 q1) fun u s2 ⟨y,H2,I2,r2,q2⟩=>
  thn (ho pins s2 U H2 x y v u _ I2 r1 r2 q2) fun d s3 ⟨z,H3,I3,r3,k,e,q3⟩=>?_)) hm
 subst e;cases r3;refine wpAny_truthy_bool ?_;cases k with
 | false=>exact ite_ff ⟨.bl false,H3,I3,rfl,q3⟩
 | true=>exact ite_tt (chain_last (thn (hc pins s3 U H3 _ I3 q3) fun w' s4 ⟨z',H4,I4,r4,q4⟩=>ho' pins s4 U H4 y z' u w' Q I4 r2 r4 q4))⟩
theorem AE(ho:YS X (compareOp op) r)(ho':YS X (compareOp op') r')(ha:QE X a ta)(hb:QE X b tb)(hc:QE X c tc)(hm:lastMarks [op,op'] [b,c]=false:=by with_unfolding_all rfl):QT X (.Compare a [op,op'] [b,c] pos) (BK (Km r r' ta tb tc)):=⟨by
 have ho:=ho.h;have ho':=ho'.h;have ha:=ha.h;have hb:=hb.h;have hc:=hc.h;intro pins s U H Q I h
 refine isTrue_chain (thn (ha pins s U H _ I h) fun v s1 ⟨x,H1,I1,r1,q1⟩=>test_link (thn (hb pins s1 U H1 _ I1 q1) fun u s2 ⟨y,H2,I2,r2,q2⟩=>
  thn (ho pins s2 U H2 x y v u _ I2 r1 r2 q2) fun d s3 ⟨z,H3,I3,r3,k,e,q3⟩=>?_)) hm
 subst e;cases r3;refine wpAny_truthy_bool ?_;cases k with
 | false =>
  obtain⟨k',e',q'⟩:=q3;cases e';exact ite_ff ⟨H3,I3,q'⟩
 | true =>
  refine ite_tt (test_last (thn (hc pins s3 U H3 _ I3 q3) fun w' s4 ⟨z',H4,I4,r4,q4⟩=>thn (ho' pins s4 U H4 y z' u w' _ I4 r2 r4 q4) fun d' s5 ⟨z2,H5,I5,r5,k2,e2,q5⟩=>?_));subst e2;cases r5
  exact wpAny_truthy_bool ⟨H5,I5,q5⟩⟩
theorem Yu(h:QE X e te)(he:∀whole,isTrue e X.env whole=(do let v ← whole;standAt e.pos;holding [v] (truthy v)):=by intro _;rfl):QT X e (tB te):=⟨by
 have h:=h.h;intro pins s U H Q I hw;refine isTrue_plain (thn (h pins s U H _ I hw) fun v s1 ⟨x,H1,I1,r1,q1⟩=>?_) (he _);obtain⟨d,rfl,q⟩:=q1;cases r1
 exact wpAny_truthy_bool ⟨H1,I1,q⟩⟩
theorem Zf {i j pos}:QE X (.Constant (.int i) j pos) (tC (.int i)):=⟨fun _ _ _ H _ I h=>wpAny_Constant_int ⟨.int i,H,I.tok _,⟨_,rfl⟩,h⟩⟩
theorem Wj {b j pos}:QE X (.Constant (.bool b) j pos) (tC (.bl b)):=⟨fun _ _ _ H _ I h=>Constant_bool ⟨.bl b,H,I,rfl,h⟩⟩
theorem Y3 {j pos}:QE X (.Constant .none j pos) (tC .non):=⟨fun _ _ _ H _ I h=>Constant_none ⟨.non,H,I,rfl,h⟩⟩
theorem Yq {x j pos}:QE X (.Constant (.str x) j pos) (tC (.str x)):=⟨fun _ _ _ H _ I h=>Calls.Constant_str ⟨.str x,H,I.tok _,⟨_,rfl⟩,h⟩⟩
theorem qvN(i:Nat)(n:nB X x .local:=by kernel_rfl)(hN:X.N[i]?=some x:=by rfl):QE X (.Name x pos) (YD i):=⟨pvN i (od n) hN⟩
abbrev Q0{X x p}:=@qvN X x p 0
abbrev Q5{X x p}:=@qvN X x p 1
abbrev Q6{X x p}:=@qvN X x p 2
abbrev Q7{X x p}:=@qvN X x p 3
abbrev Q8{X x p}:=@qvN X x p 4
abbrev Q9{X x p}:=@qvN X x p 5
abbrev Qa{X x p}:=@qvN X x p 6
abbrev Qb{X x p}:=@qvN X x p 7
theorem qvC(i:Nat)(n:Nm X.env.scope x .cell)(hN:X.N[i]?=some x:=by rfl):QE X (.Name x pos) (YD i):=⟨CO hN (.inr (.inl n.1)) n.2.1 n.2.2.1⟩
theorem Yg{v:V}{u:dM}(hm:X.mg x=some u)(r:ZF v u)(n:nB X x .globalImplicit:=by kernel_rfl):QE X (.Name x pos) (tC v):=⟨Nz (od n) hm r⟩
theorem Vz{v:V}{u:dM}(hm:X.mg x=none)(hv:bootBuiltins x=some u)(r:ZF v u)(n:nB X x .globalImplicit:=by kernel_rfl):QE X (.Name x pos) (tC v):=⟨OH (od n) hm hv r⟩
theorem Zy(ho:YS X (binaryOp op) r)(ha:QE X a ta)(hb:QE X b tb):QE X (.BinOp a op b pos) (J0 r ta tb):=⟨by
 have ho:=ho.h;have ha:=ha.h;have hb:=hb.h;intro pins s U H Q I h
 exact wpAny_BinOp (DT ha hb I h fun v u s2 x y H2 I2 rx ry q=>ho pins s2 U H2 x y v u Q I2 rx ry q)⟩
theorem V1(ho:GE X (unaryOp op) r)(ha:QE X a ta):QE X (.UnaryOp op a pos) (O4 r ta):=⟨by
 have ho:=ho.h;have ha:=ha.h;intro pins s U H Q I h
 exact UnaryOp_ (thn (ha pins s U H _ I h) fun v s1 ⟨x,H1,I1,r1,q1⟩=>ho pins s1 U H1 x v Q I1 r1 q1)⟩
theorem Qu(ha:QE X a ta):QE X (.UnaryOp .Not a pos) (Py ta):=⟨by
 have ha:=ha.h;intro pins s U H Q I h;refine UnaryOp_ (thn (ha pins s U H _ I h) fun v s1 ⟨x,H1,I1,r1,q1⟩=>?_);obtain⟨c,rfl,q1⟩:=q1;cases r1
 exact not_of (wpAny_truthy_bool ⟨.bl (!c),H1,I1,rfl,q1⟩)⟩
theorem JZ {op} (h:QE X a ta):QE X (.BoolOp op [a] pos) ta:=⟨Qy h.h⟩
theorem Ab{rest:List Expr}(ha:QE X a ta)(hb:QE X (.BoolOp .And (b::rest) pos) tb):QE X (.BoolOp .And (a::b::rest) pos) (RI ta tb):=⟨by
 have ha:=ha.h;have hb:=hb.h;intro pins s U H Q I h;refine BoolOp_and (thn (ha pins s U H _ I h) fun v s1 ⟨x,H1,I1,r1,q1⟩=>?_);obtain⟨c,rfl,q1⟩:=q1;cases r1;refine wpAny_truthy_bool ?_;cases c with
 | true=>exact hb pins s1 U H1 Q I1 q1
 | false=>exact⟨.bl false,H1,I1,rfl,q1⟩⟩
theorem Lu(hc:QT X c tA)(ha:QE X a ta)(hb:QE X b tb):QE X (.IfExp c a b pos) (bK tA ta tb):=⟨by
 have hc:=hc.h;have ha:=ha.h;have hb:=hb.h;intro pins s U H Q I h;refine wpAny_IfExp (thn (hc pins s U H _ I h) fun d s1 ⟨H1,I1,q1⟩=>?_);cases d with
 | true=>exact ha pins s1 U H1 Q I1 q1
 | false=>exact hb pins s1 U H1 Q I1 q1⟩
theorem A4:QO X none LS:=⟨by
 intro pins s U H Q I h;rw[evalPart_none]
 exact wpAny_pure ⟨none,H,I,.none,h⟩⟩
theorem JU(h:QE X e te):QO X (some e) (LN te):=⟨by
 have h:=h.h;intro pins s U H Q I hw;rw[evalPart_some];refine thn (h pins s U H _ I hw) fun u s1 ⟨x,H1,I1,r1,q1⟩=>?_;obtain⟨i,rfl,q⟩:=q1;obtain⟨t,rfl⟩:=r1
 exact⟨some i,H1,I1,.int i t,q⟩⟩
theorem Ak{lo hi:Option Expr}{tl th:TO}{r:V->Option Int->Option Int->Hp->VK->Prop}(hr:CA X r)(he:QE X e te)(hl:QO X lo tl)(hu:QO X hi th):QE X (.Subscript e (.Slice lo hi none p2) pos) (RM r te tl th):=⟨by
 have hr:=hr.h;have he:=he.h;have hl:=hl.h;have hu:=hu.h;intro pins s U H Q I h;refine Subscript_ (thn (he pins s U H _ I h) fun v s1 ⟨x,H1,I1,r1,q1⟩=>?_);refine wpAny_Slice (thn (hl pins s1 U H1 _ I1 q1) fun vl s2 ⟨l,H2,I2,pl,q2⟩=>thn (hu pins s2 U H2 _ I2 q2) fun vu s3 ⟨u,H3,I3,pu,q3⟩=>?_);rw[evalPart_none];refine wpAny_pure ?_;have I4:ZE X pins U H3 {s3 with heap:=s3.heap.push {cls:=.type "slice", data:=.fields #[vl,vu,.none] } }:=I3.kept (t':=s3.toks) fun b ob q=>xA _ q;obtain⟨T,id,hT,ht,hg⟩:=hr pins {s3 with heap:=s3.heap.push {cls:=.type "slice", data:=.fields #[vl,vu,.none] } } U H3 x v vl vu l u s3.heap.objs.size Q I4 r1 (Heap.IsSliceOf.new ..) pl pu q3;show wpAny (model X.prog X.w) X.A (subscriptTail e (.Slice lo hi none p2) v (.ref s3.heap.objs.size)) (EP X pins U Q) X.xe {s3 with heap:=s3.heap.push {cls:=.type "slice", data:=.fields #[vl,vu,.none] } }
 exact tail_any (ops:=[.ref s3.heap.objs.size,v]) ht hT hg (by with_unfolding_all rfl)⟩
theorem Zh(hr:Av X r)(ha:QE X a ta)(hb:QE X b tb)(hs:NN b:=by exact fun _ _=>rfl):QE X (.Subscript a b pos) (J0 r ta tb):=⟨by
 have hr:=hr.h;have ha:=ha.h;have hb:=hb.h;intro pins s U H Q I h
 exact Subscript_ (DT ha hb I h fun v u s2 x y H2 I2 rx ry q=>hr a b pins s2 U H2 x y v u Q I2 rx ry q (hs _ _))⟩
theorem Zk{k:Nat}{ps:dF}{sp:Sp}{t:TA}(F:Fn X.prog X.w X.K X.mg X.base x ps k sp)(ha:QA X (e::es) t)(hr:ZN k X.A:=by exact ZN.mono (by assumption) (by first | decide | lia))(n:nB X x .globalImplicit:=by kernel_rfl)(he:sEq X e es:=by rfl)(hpl:sFq X pos es:=by rfl) :
  QE X (.Call (.Name x p) (e::es) [] pos) (Jw sp t):=⟨O9 F hr (od n) ha.h he hpl⟩
theorem Z5{t:TA}{id:String}{r:List V->Hp->VK->Prop}(hc:QC X (.builtin id) r)(hm:X.mg x=none)(hv:bootBuiltins x=some (.builtin id))(ha:QA X (e::es) t)(n:nB X x .globalImplicit:=by kernel_rfl)(he:sEq X e es:=by rfl)(hpl:sFq X pos es:=by rfl):QE X (.Call (.Name x p) (e::es) [] pos) (Az r t):=⟨ME hc.h (od n) hm hv ha.h he hpl⟩
theorem Vl{t:TA}{T:String}{r:List V->Hp->VK->Prop}(hc:QC X (.type T) r)(hm:X.mg x=none)(hv:bootBuiltins x=some (.type T))(ha:QA X (e::es) t)(n:nB X x .globalImplicit:=by kernel_rfl)(he:sEq X e es:=by rfl)(hpl:sFq X pos es:=by rfl):QE X (.Call (.Name x p) (e::es) [] pos) (Az r t):=⟨Sf hc.h (od n) hm hv ha.h he hpl⟩
theorem Wd{o:Expr}{to:TE}{t:TA}{name:Str}{apos cpos:Pos}{T id:String}{r:V->List V->Hp->VK->Prop}(pa:PlainAttrs T)(slot:Slot T name id)(hty:typeOf (.builtin id)=pure (.type "method_descriptor"))(hm:QM X id r)(ho:QE X o to)(ha:QA X (e::es) t)(hbase:attributeBase o name X.env (eval o X.env)=eval o X.env:=by rfl)(hfew:((backTo cpos (starEach (e::es) X.env)).all (fun x=>!x.1)&&(backToKw cpos (keywordEach [] X.env)).all (fun x=>x.1.isSome)
   && decide ((e::es).length+([]:List Keyword).length+(if ([]:List Keyword).isEmpty then 0 else 1)<30))=true:=by rfl)(hline:(apos.endLine==cpos.line)=true:=by rfl)(hs:sEq X e es:=by rfl)(hplain:(backTo cpos (starEach es X.env)).any (·.1)=false:=by rfl) :
  QE X (.Call (.Attribute o name apos) (e::es) [] cpos) (DJ X.K T r to t):=⟨by
 have hm:=hm.h;have ho:=ho.h;have ha:=ha.h;intro pins s U H Q I h;refine wpAny_Call_method_late hbase hfew hline rfl (thn (ho pins s U H _ I h) fun v s1 ⟨x,H1,I1,r1,ty,q1⟩=>?_);obtain⟨h1,h2⟩:=O7 I1 r1 ty;refine⟨T,id,pa,slot,hty,h1,h2,?_⟩;have hA:=ha cpos pins s1 U H1 _ I1 q1;rw[hs] at hA ⊢;refine Calls.callWith_builtin (by show (false || (backTo cpos (starEach es X.env)).any (·.1))=false;rw[hplain]<;>rfl) (Calls.evalArgs_plain ?_)
 exact thn hA fun us s2 ⟨vs,H2,I2,r2,q2⟩=>hm pins s2 U H2 x vs v us Q I2 r1 r2 q2⟩
theorem Vd:YS X (binaryOp .Add) (Jv fun i j=>.int (i+j)):=⟨KW fun _ _ _ _ _ _ _ q=>add_int q⟩
theorem Vm:YS X (binaryOp .Sub) (Jv fun i j=>.int (i - j)):=⟨KW fun _ _ _ _ _ _ _ q=>sub_int q⟩
theorem KY:YS X (binaryOp .Mult) (rI Jx fun i j=>.int (i * j)):=⟨opI fun _ _ _ _ _ _ _ hc q=>mul_int q hc.ok⟩
theorem Eh:YS X (binaryOp .FloorDiv) (rI Hu fun i j=>.int (i / j)):=⟨opI fun i j _ _ _ _ _ hc q=>by
 have h1:(0:Int)<j:=hc.1;have h2:j<1073741824:=hc.2
 exact floordiv_int (by lia) (by rw[Int.fdiv_eq_ediv_of_nonneg i (by lia)];exact q) (.inl (PyProof.noPylong_small (by lia)))⟩
theorem JF:YS X (binaryOp .Mod) (rI (fun _ j=>0<j) fun i j=>.int (i % j)):=⟨opI fun i j _ _ _ _ _ hc q=>by
 have h1:(0:Int)<j:=hc
 exact mod_int' (by lia) (by rw[Int.fmod_eq_emod_of_nonneg i (by lia)];exact q)⟩
theorem MC:YS X (binaryOp .Pow) (rI Ly fun i j=>.int (i^j.toNat)):=⟨opI fun _ _ _ _ _ _ _ hc q=>pow_int_small hc.1 hc.2.1 hc.2.2 q⟩
theorem Uc:GE X (unaryOp .USub) (rU fun i=>.int (-i)):=⟨by
 intro pins s U H x v Q I rx h;obtain⟨i,rfl,q⟩:=h;obtain⟨t,rfl⟩:=rx
 exact neg_int ⟨.int (-i),H,I.tok _,⟨_,rfl⟩,q⟩⟩
def Gg(g:Str->Str->V):R2:=fun x y H Q=>∃i j,x=.str i/\y=.str j/\Q (g i j) H
theorem KA:YS X (compareOp .LtE) (Gg fun i j=>.bl (!decide (j.cps.toList<i.cps.toList))):=⟨by
 intro pins s U H x y v u Q I rx ry h;obtain⟨i,j,rfl,rfl,q⟩:=h;obtain⟨t,rfl⟩:=rx;obtain⟨t',rfl⟩:=ry
 exact P.le_str ⟨.bl _,H,I,rfl,q⟩⟩
theorem HQ:YS X (compareOp .Lt) (Gg fun i j=>.bl (decide (i.cps.toList<j.cps.toList))):=⟨by
 intro pins s U H x y v u Q I rx ry h;obtain⟨i,j,rfl,rfl,q⟩:=h;obtain⟨t,rfl⟩:=rx;obtain⟨t',rfl⟩:=ry
 exact lt_str (Yh I q rfl)⟩
def L9:R2:=fun x y H Q=>∃i j,x=.str i/\y=.str j/\i.length+j.length<=sizeLine/\Q (.str (i++j)) H
theorem BZ:YS X (binaryOp .Add) L9:=⟨by
 intro pins s U H x y v u Q I rx ry h;obtain⟨i,j,rfl,rfl,hz,q⟩:=h;obtain⟨t,rfl⟩:=rx;obtain⟨t',rfl⟩:=ry
 exact add_str (fun t' tk=>⟨.str (i++j),H,I.tok _,⟨_,rfl⟩,q⟩) hz⟩
theorem Ux:YS X (binaryOp .Add) EU:=⟨by
 intro pins s U H x y v u Q I rx ry h;obtain⟨l,b,xs,zs,rfl,rfl,hH,hB,hz,q⟩:=h;cases rx;cases ry;obtain⟨z,its,n,r,hl,e⟩:=I.lstM hH;obtain⟨z2,its2,n2,r2,hl2,e2⟩:=I.lstM hB;refine PySem.P.add_list e e2 ?_ (by rw[xS,xS];lia);have ea:its.toArray++its2.toArray=(its++its2).toArray:=by simp
 rw[ea]
 exact⟨.ref _,_,I.lnew (t':=s.toks) (r.append r2) (by rw[xK];lia),rfl,q _ I.fresh⟩⟩
theorem OQ:YS X (binaryOp .Add) (JC X.K):=⟨QP⟩
theorem HW:YS X (binaryOp .Mult) DA:=⟨by
 intro pins s U H x y v u Q I rx ry h;obtain⟨l,k,xs,rfl,rfl,hH,h1,h2,hz,q⟩:=h;cases rx;obtain⟨t,rfl⟩:=ry;obtain⟨z,its,n,r,hl,e⟩:=I.lstM hH;have hlen:its.toArray.size * k.toNat<=sizeLine:=by rw[xS,← hl];exact hz
 have hcap:¬its.toArray.size * k.toNat > (2^63 - 1) / 8:=by
  have:(sizeLine:Nat)<=(2^63 - 1) / 8:=by decide
  lia
 have hfit:¬(!Builtin.List.listFitsIndex k)=true:=by
  rw[fitsIndex_both h1 h2];exact xI
 have hlong:¬Builtin.List.listTooLong (its.toArray.size * k.toNat)=true:=by
  rw[RC hlen];exact xI
 have hnew:List.foldl (fun x1 x2=>x1++x2) #[] (List.replicate (if its.toArray.isEmpty=true then 0 else k.toNat) its.toArray)=(List.replicate k.toNat its).flatten.toArray:=by
  have f0:∀m:Nat,List.foldl (fun x1 x2=>x1++x2) #[] (List.replicate m its.toArray)=(List.replicate m its).flatten.toArray:=fun m=>by
   have:=ID its m [];rw[zR] at this;exact this
  rw[f0];cases its with
  | nil=>simp
  | cons a r'=>rw[if_neg (by simp)]
 refine wpAny_binaryOp_repeat_ref (T:="list") (U:="int") aA ⟨_,e,rfl⟩ (fun s'=>typeIs_int s' k t) noFill_list_mul F.fills_int_mul F.slot_int_rmul repeat_list F.slot_int_index.lookup
  (call_meets F.slot_int_rmul (typeIs_int s k t) F.entry_int_rmul (F.args_int_rmul_2 _ _) (int___rmul___int_list k t l its.toArray n)
   ⟨e,rfl,⟨_,e,rfl⟩,call_meets F.slot_list_mul ⟨_,e,rfl⟩ F.entry_list_mul (F.args_list_mul_2 _ _) (AutoListH.list___mul___list_int_3 l its.toArray n k t hfit hcap hlong) ⟨e,?_⟩⟩)
 rw[hnew]
 exact⟨.ref _,_,I.lnew (t':=s.toks) (r.rep k.toNat) (by rw[Xu,Nat.mul_comm];exact hz),rfl,q _ I.fresh⟩⟩
theorem Y4:YS X (compareOp .Eq) CL:=⟨by
 intro pins s U H x y v u Q I rx ry h;obtain⟨hs,q⟩:=h;cases x with
 | non =>
  cases rx;cases y with
  | non=>cases ry;exact PySem.EqNone.eq_none_none (Yh I q (by simp))
  | bl j=>cases ry;exact PySem.EqNone.eq_none_bool (Yh I q (by simp))
  | int j=>obtain⟨t',rfl⟩:=ry;exact PySem.EqNone.eq_none_int (Yh I q (by simp))
  | str j=>obtain⟨t',rfl⟩:=ry;exact PySem.EqNone.eq_none_str (Yh I q (by simp))
  | _=>exact absurd (show false=true from hs) xI
 | bl i =>
  cases rx;cases y with
  | non=>cases ry;exact PySem.EqNone.eq_bool_none (Yh I q (by simp))
  | bl j=>cases ry;exact eq_bool (Yh I q HV)
  | str j=>obtain⟨t',rfl⟩:=ry;exact PySem.EqMixed.eq_bool_str (Yh I q (by simp))
  | _=>exact absurd (show false=true from hs) xI
 | int i =>
  obtain⟨t,rfl⟩:=rx;cases y with
  | non=>cases ry;exact PySem.EqNone.eq_int_none (Yh I q (by simp))
  | int j=>obtain⟨t',rfl⟩:=ry;exact eq_int (Yh I q Iu)
  | str j=>obtain⟨t',rfl⟩:=ry;exact PySem.EqMixed.eq_int_str (Yh I q (by simp))
  | _=>exact absurd (show false=true from hs) xI
 | str i =>
  obtain⟨t,rfl⟩:=rx;cases y with
  | non=>cases ry;exact PySem.EqNone.eq_str_none (Yh I q (by simp))
  | bl j=>cases ry;exact PySem.EqMixed.eq_str_bool (Yh I q (by simp))
  | int j=>obtain⟨t',rfl⟩:=ry;exact PySem.EqMixed.eq_str_int (Yh I q (by simp))
  | str j=>obtain⟨t',rfl⟩:=ry;exact eq_str (Yh I q FC)
  | _=>exact absurd (show false=true from hs) xI
 | byt i =>
  obtain⟨t,rfl⟩:=rx;cases y with
  | byt j=>obtain⟨t',rfl⟩:=ry;exact PySem.W.eq_bytes (Yh I q Lq)
  | _=>exact absurd (show false=true from hs) xI
 | _=>cases y<;>exact absurd (show false=true from hs) xI⟩
theorem Bc:YS X (compareOp .NotEq) Rn:=⟨by
 intro pins s U H x y v u Q I rx ry h;obtain⟨hs,q⟩:=h;cases x with
 | non =>
  cases rx;cases y with
  | non=>cases ry;exact PySem.EqNone.ne_none_none (Yh I q (by simp))
  | bl j=>cases ry;exact PySem.EqNone.ne_none_bool (Yh I q (by simp))
  | int j=>obtain⟨t',rfl⟩:=ry;exact PySem.EqNone.ne_none_int (Yh I q (by simp))
  | str j=>obtain⟨t',rfl⟩:=ry;exact PySem.EqNone.ne_none_str (Yh I q (by simp))
  | _=>exact absurd (show false=true from hs) xI
 | bl i =>
  cases rx;cases y with
  | non=>cases ry;exact PySem.EqNone.ne_bool_none (Yh I q (by simp))
  | bl j=>cases ry;exact ne_bool (Yh I q (congrArg not HV))
  | str j=>obtain⟨t',rfl⟩:=ry;exact PySem.EqMixed.ne_bool_str (Yh I q (by simp))
  | _=>exact absurd (show false=true from hs) xI
 | int i =>
  obtain⟨t,rfl⟩:=rx;cases y with
  | non=>cases ry;exact PySem.EqNone.ne_int_none (Yh I q (by simp))
  | int j=>obtain⟨t',rfl⟩:=ry;exact ne_int (Yh I q (congrArg not Iu))
  | str j=>obtain⟨t',rfl⟩:=ry;exact PySem.EqMixed.ne_int_str (Yh I q (by simp))
  | _=>exact absurd (show false=true from hs) xI
 | str i =>
  obtain⟨t,rfl⟩:=rx;cases y with
  | non=>cases ry;exact PySem.EqNone.ne_str_none (Yh I q (by simp))
  | bl j=>cases ry;exact PySem.EqMixed.ne_str_bool (Yh I q (by simp))
  | int j=>obtain⟨t',rfl⟩:=ry;exact PySem.EqMixed.ne_str_int (Yh I q (by simp))
  | str j=>obtain⟨t',rfl⟩:=ry;exact ne_str (Yh I q (congrArg not FC))
  | _=>exact absurd (show false=true from hs) xI
 | byt i =>
  obtain⟨t,rfl⟩:=rx;cases y with
  | byt j=>obtain⟨t',rfl⟩:=ry;exact PySem.W.ne_bytes (Yh I q (congrArg not Lq))
  | _=>exact absurd (show false=true from hs) xI
 | _=>cases y<;>exact absurd (show false=true from hs) xI⟩
theorem Uy:YS X (compareOp .Lt) (Jv fun i j=>.bl (decide (i<j))):=⟨CP fun _ _ _ _ _ _ _ q=>lt_int q⟩
theorem Wr:YS X (compareOp .LtE) (Jv fun i j=>.bl (decide (i<=j))):=⟨CP fun _ _ _ _ _ _ _ q=>le_int q⟩
theorem Da:YS X (compareOp .Gt) (Jv fun i j=>.bl (decide (j<i))):=⟨CP fun _ _ _ _ _ _ _ q=>gt_int q⟩
theorem JV:YS X (compareOp .GtE) (Jv fun i j=>.bl (decide (j<=i))):=⟨CP fun _ _ _ _ _ _ _ q=>ge_int q⟩
def P8:R2:=fun x y H Q=>y=.non/\Q (.bl (decide (x=.non))) H
def MT:R2:=fun x y H Q=>y=.non/\Q (.bl (!decide (x=.non))) H
theorem Eo:YS X (compareOp .Is) P8:=⟨by
 intro pins s U H x y v u Q I rx ry h;obtain⟨rfl,q⟩:=h;cases ry;refine is_none_gen (Yh I q ?_);cases x<;>first
  | (cases rx;rfl)
  | (obtain⟨t,rfl⟩:=rx;rfl)⟩
theorem JB:YS X (compareOp .IsNot) MT:=⟨by
 intro pins s U H x y v u Q I rx ry h;obtain⟨rfl,q⟩:=h;cases ry;refine isnot_none_gen (Yh I q ?_);cases x<;>first
  | (cases rx;rfl)
  | (obtain⟨t,rfl⟩:=rx;rfl)⟩
theorem Fg:YS X (compareOp .NotIn) (HB X.K true):=⟨Nc⟩
theorem Z3:Av X (Al X.K):=⟨Ik⟩
theorem Zv:Av X (TZ X.K):=⟨EI⟩
theorem Et:Av X BM:=⟨Pt⟩
theorem HD:CA X (Br X.K):=⟨Nn⟩
theorem cK:CA X (EO X.K):=⟨by
 intro pins s U H x v vl vu lo hi sl Q I rx hs pl pu h;obtain⟨a,xs,rfl,hx,hw,q⟩:=h;cases rx;obtain⟨its,r,ht,hz⟩:=I.tuple hx;have hlen:its.toArray.size=xs.length:=by rw[xS];exact r.length.symm
 refine⟨"tuple", _,PyProof.Rows.slot_tuple_getitem.lookup,ht.typeIs,?_⟩;refine HT.getItem_tuple_cut ht hs pl pu (by rw[hlen];exact hw) ?_ (by rw[hlen];exact hz);rw[hlen];refine⟨.ref s.heap.objs.size,_,I.laid (t':=s.toks) (o:=.tup (Vb xs lo hi)) (fun b ob q=>xA _ q) (xD _) ?_,rfl,q _ (I.hok.fresh (xD _))⟩
 exact⟨xW (Lk xs lo hi) hz,_,(r.drop (HT.sIx xs.length 0 lo)).take (HT.sIx xs.length xs.length hi - HT.sIx xs.length 0 lo),IsTup.new _ _⟩⟩
def Xv:V->Option Int->Option Int->Hp->VK->Prop:=fun x lo hi H Q=>∃z,x=.str z/\z.length<=sizeLine/\Q (.str (Txt.slice z lo hi)) H
theorem Cr:CA X Xv:=⟨by
 intro pins s U H x v vl vu lo hi sl Q I rx hs pl pu h;obtain⟨z,rfl,hz,q⟩:=h;obtain⟨t,rfl⟩:=rx;obtain⟨l,rfl,rfl⟩:=K6 pl;obtain⟨u,rfl,rfl⟩:=K6 pu;refine⟨"str", _,F.slot_str_getitem.lookup,typeIs_str _ _ _,?_⟩;refine wpAny_getItem_str_slice (l:=l) (u:=u) (st:=none) hs rfl (post_val_or_str ⟨xW (Txt.slice_le z _ _) hz,fun t' k=>?_⟩)
 exact⟨.str _,H,I.tok _,⟨t',rfl⟩,q⟩⟩
inductive Jl(K:uFg)(xs:aG)(H:Hp)(Q:VK):Prop
 |mk(p ys)(_:xs=[.ref p])(_:(ZG K H p ys\/ZP K H p ys))(_:Q (.int ys.length) H)
theorem Y8:QC X (.builtin "len") (Jl X.K):=.imp ⟨PK⟩ fun _ _ _ ⟨p,y,a,b,k⟩=>⟨p,y,a,b,k⟩
def QZ:List V->Hp->VK->Prop:=fun xs H Q=>∃z,xs=[.str z]/\z.length<=sizeLine/\Q (.int z.length) H
theorem El:QC X (.builtin "len") QZ:=⟨by
 intro pins s U H xs us Q I r h;obtain⟨z,rfl,hz,q⟩:=h;obtain⟨u,rfl,t,rfl⟩:=Vg r;have hn:=A8
 exact len_str (by lia) ⟨.int z.length,H,I.tok _,⟨_,rfl⟩,q⟩⟩
def Qd:List V->Hp->VK->Prop:=fun xs H Q=>∃i j,xs=[.int i,.int j]/\Q (.int (if j > i then j else i)) H
theorem Iw(hc:X.calm=true):QC X (.builtin "max") Qd:=⟨by
 intro pins s U H xs us Q I r h;obtain⟨i,j,rfl,q⟩:=h;obtain⟨u,w',rfl,⟨t,rfl⟩,⟨t',rfl⟩⟩:=DN r;refine max_two_ints (I.ok.hd hc) fun h' tk k=>⟨_,H,I.kept k,?_,q⟩
 by_cases hj:j > i
 ·rw[if_pos hj,if_pos hj];exact⟨_,rfl⟩
 ·rw[if_neg hj,if_neg hj];exact⟨_,rfl⟩⟩
def Xf(K:uFg):List V->Hp->VK->Prop:=fun xs H Q=>∃(a:dN)(bs:List Bool),xs=[.ref a]/\ZG K H a (bs.map V.bl)/\Q (.bl (bs.all id)) H
theorem NO(hc:X.calm=true):QC X (.builtin "all") (Xf X.K):=⟨by
 intro pins s U H xs us Q I r h;obtain⟨a,bs,rfl,ha,q⟩:=h;obtain⟨u,rfl,ru⟩:=Vg r;cases ru;obtain⟨its,rv,p,_⟩:=I.list ha;have hlt:a<s.heap.objs.size:=by obtain⟨o,n,e,_⟩:=p;exact xH e
 refine call_all_walk (wpAny_pyIter_list p.isList ?_);refine⟨s.heap.objs.size,_,_,_,_,_,fun i=>bs.getD i true,rfl,Walks.list (A:=X.A.in1) (I.ok.hd hc) _ a (xY hlt) its.toArray,⟨⟨_,xG _ rfl,rfl,rfl⟩,p.isList.push _⟩,?_,fun h' tk hk=>?_⟩
 ·intro i v s' Q' E' hv hq;have hv:its.toArray[i]?=some v:=hv;have hv':its[i]?=some v:=by simpa using hv
  have hlen:bs.length=its.length:=by have:=rv.length;simpa using this
  have hi:i<its.length:=(xE.mp hv').1;have hb:(bs.map V.bl)[i]?=some (V.bl (bs.getD i true)):=by grind
  obtain⟨u,hu,ru⟩:=rv.get hb;rw[hv'] at hu;cases hu;cases ru;exact wpAny_truthy_bool hq
 ·have hlen:its.toArray.size=bs.length:=by have:=rv.length;simp at this ⊢;lia
  have e:(List.range its.toArray.size).all (fun i=>bs.getD i true)=bs.all id:=by
   rw[hlen,zE,List.all_eq_true,List.all_eq_true];constructor
   ·intro h b hb;obtain⟨i,hi,e⟩:=List.mem_iff_getElem.mp hb;have:=h i (yR.mpr hi);rw[xL,xC hi,e] at this;exact this
   ·intro h i hi;have hi:=yR.mp hi;rw[xL,xC hi];exact h _ (zJ hi)
  refine⟨.bl (bs.all id),H,I.kept (h':=h') (t':=tk) (fun b o eb=>hk b o ?_ (xA _ eb)),by rw[e];rfl,q⟩;intro z;have:b=s.heap.objs.size:=by simpa using z
  exact absurd (xH eb) (by rw[this];exact yZ _)⟩
def Pw(K:uFg):List V->Hp->VK->Prop:=fun xs H Q=>∃(a:dN)(ns:List Int),xs=[.ref a]/\ZG K H a (ns.map V.int)/\(∀n∈ns,-1000000000<=n/\n<=1000000000)/\ns.length<=1000000/\Q (.int ns.sum) H
theorem FF(hc:X.calm=true):QC X (.builtin "sum") (Pw X.K):=⟨by
 intro pins s U H xs us Q I r h;obtain⟨a,ns,rfl,ha,hb,hl,q⟩:=h;obtain⟨u,rfl,ru⟩:=Vg r;cases ru;obtain⟨its,rv,p,_⟩:=I.list ha;have hlt:a<s.heap.objs.size:=by obtain⟨o,n,e,_⟩:=p;exact xH e
 have hlen:ns.length=its.length:=by have:=rv.length;simpa using this
 have hpre:∀k,k<=ns.length->preSum (fun i=>ns.getD i 0) k=(ns.take k).sum:=by
  intro k
  induction k with
  | zero=>intro _;simp[preSum]
  | succ k ih =>
   intro hk;have hk':k<ns.length:=hk;rw[preSum,ih (yN hk'),yG,List.sum_append,xL,xC hk'];simp
 have bnd:∀l:List Int,(∀n∈l,-1000000000<=n/\n<=1000000000)->-1000000000 * (l.length:Int)<=l.sum/\l.sum<=1000000000 * (l.length:Int):=by
  intro l
  induction l with
  | nil=>intro _;simp
  | cons x l ih =>
   intro h;have h1:=h x xU;have h2:=ih fun n hn=>h n (yC _ hn);rw[List.sum_cons,xX];lia
 refine call_sum_walk (wpAny_pyIter_list p.isList ?_);refine⟨s.heap.objs.size,_,_,_,_,_,fun i=>ns.getD i 0,rfl,Walks.list (A:=X.A.in1) (I.ok.hd hc) _ a (xY hlt) its.toArray,⟨⟨_,xG _ rfl,rfl,rfl⟩,p.isList.push _⟩,?_,?_,?_,fun h' tk t' hk=>?_⟩
 ·intro b hb;show b<(s.heap.push _).objs.size;rw[yX];rcases xF.mp hb with rfl | hb
  ·exact Nat.lt_succ_self _
  ·have:b=a:=by simpa using hb
   subst this;exact zB hlt
 ·intro i v hv;have hv:its.toArray[i]?=some v:=hv;have hv':its[i]?=some v:=by simpa using hv
  have hi:i<its.length:=(xE.mp hv').1;have hb:(ns.map V.int)[i]?=some (V.int (ns.getD i 0)):=by grind
  obtain⟨u,hu,ru⟩:=rv.get hb;rw[hv'] at hu;cases hu;exact ru
 ·intro j hj;have hj:j<its.toArray.size:=hj;rw[xS] at hj;have hj':j<ns.length:=by lia
  refine⟨?_,?_⟩
  ·show InLong (ns.getD j 0);rw[xL,xC hj'];have:=hb _ (zJ hj');show -(2^63)<=ns[j]/\ns[j]<2^63;lia
  ·rw[hpre (j+1) hj'];have:=bnd (ns.take (j+1)) fun n hn=>hb n (zW hn);have hl2:(ns.take (j+1)).length<=1000000:=by rw[xV];lia
   show -(2^63)<=_/\_<2^63;lia
 ·have e:preSum (fun i=>ns.getD i 0) its.toArray.size=ns.sum:=by
   rw[xS,← hlen,hpre _ (xD _),yJ]
  refine⟨.int ns.sum,H,I.kept (h':=h') (t':=tk) (fun b o eb=>hk b o ?_ (xA _ eb)),⟨t',by rw[e]⟩,q⟩;intro z;have:b=s.heap.objs.size:=by simpa using z
  exact absurd (xH eb) (by rw[this];exact yZ _)⟩
def FM(K:uFg):List V->Hp->VK->Prop:=fun xs H Q=>∃x n t b,xs=[x,.ty n]/\YT K H x t/\PySem.W.kitOne K t (.type n)=some b/\Q (.bl b) H
theorem Ud:QC X (.builtin "isinstance") (FM X.K):=⟨Gd⟩
inductive UY(K:uFg)(xs:aG)(H:Hp)(Q:VK):Prop
 |mk(p ys)(_:xs=[.ref p])(_:(ZG K H p ys\/ZP K H p ys))(_:∀l,H l=none->Q (.ref l) (upd H l (.lst ys)))
theorem JH:QC X (.type "list") (UY X.K):=.imp ⟨KC⟩ fun _ _ _ ⟨p,y,a,b,k⟩=>⟨p,y,a,b,k⟩
def XO(K:uFg):V->List V->Hp->VK->Prop:=fun x xs H Q=>∃sep a ys,x=.str sep/\xs=[.ref a]/\ZG K H a (ys.map V.str)/\(ys.map (·.length)).sum+ys.length * sep.length<=16777216/\Q (.str (Txt.join sep ys)) H
theorem MD:QM X "str.join" (XO X.K):=⟨by
 intro pins s U H x xs v us Q I rx rs h;obtain⟨sep,a,ys,rfl,rfl,ha,hz,q⟩:=h;obtain⟨t,rfl⟩:=rx;obtain⟨u,rfl,ru⟩:=Vg rs;cases ru;obtain⟨its,r,p,_⟩:=I.list ha
 exact join_list p.isList (LW r) hz fun t' k=>⟨.str _,H,I.tok _,⟨t',rfl⟩,q⟩⟩
theorem Wk:QM X "list.append" VP:=⟨by
 intro pins s U H x vs v us Q I rx rv h;obtain⟨l,xs,y,rfl,rfl,hH,hz,q⟩:=h;cases rx;obtain⟨u,rfl,ru⟩:=rv.one;obtain⟨z,its,n,r,hl,e⟩:=I.lstM hH;refine call_meets aE ⟨_,e,rfl⟩ F.entry_list_append (F.args_list_append_2 _ _) (PySem.list_append l its.toArray n u (by rw[xS];lia)) ⟨e,?_⟩;refine⟨.non,_,I.lset (its':=its ++ [u]) hH e (by simp) (r.append (.cons ru .nil)) ?_,rfl,q⟩;rw[xK,wF]
 lia⟩
end
theorem Dv{lo:Int}{n:Nat}(m:Nat)(hm:n=m)(Pv:Nat->St->Hp->Prop)(h0:Pv 0 U H)(hs:∀i U H,i<m->Pv i U H->g (.int (lo+i)) U H fun σ2 H2=>tb {D with nx:=Pv (i+1),ct:=Pv (i+1),bk:=D.nx } σ2 H2)(hd:∀ U H,Pv m U H->D.nx U H):Ad (Jo lo n) g tb D U H:=by
 subst hm;exact Rf Pv h0 hs hd
theorem Ue{K:uFg}{a:dN}(xs:aG)(Pv:Nat->St->Hp->Prop)(h0:Pv 0 U H)(hl:∀i U H,i<=xs.length->Pv i U H->ZG K H a xs)(hs:∀i x U H,xs[i]?=some x->Pv i U H->g x U H fun σ2 H2=>tb {D with nx:=Pv (i+1),ct:=Pv (i+1),bk:=D.nx } σ2 H2)(hd:∀ U H,Pv xs.length U H->D.nx U H):Ad (Jm K a) g tb D U H:=Xn Pv h0 hl hs hd
section
variable{X:Cx}{tg elt iter:Expr}{ifs:List Expr}{scope:Scope}{pos:Pos}{locs:dF}{fr:List (Str×Nat)}{g:TG}{tt:Tv}{te:TE}
theorem Uz:DU X [] (fun _ H Q=>Q true H):=⟨fun _ _ _ H _ I h=>wpAny_tests_nil ⟨H,I,h⟩⟩
theorem JK(h:QT X c t):DU X [c] t:=⟨Pa h.h⟩
structure La (X:Cx) (scope:Scope) (N':dF) (tg:Expr) (ifs:List Expr) (elt:Expr) (g:TG) (tt:Tv) (te:TE):Prop where
 h:∀(cl:List (Str×dN))(C:dN)(s0:dJ)(H0:Hp)(ex:dI)(pn:List (dN×Obj)),QG (ccx X scope cl C N' s0 H0 ex pn) tg g/\DU (ccx X scope cl C N' s0 H0 ex pn) ifs tt/\QE (ccx X scope cl C N' s0 H0 ex pn) elt te
theorem Wv{wi:TI}(S:WJ X scope locs fr)(F:YZ X scope fr)(hc:X.calm=true)(hi:QI X tg iter wi)(inner:La X scope (inN locs fr) tg ifs elt g tt te)(hs:∀x,foldedSetIterable iter X.env x=pure x:=by intro _;rfl):QE X (.ListComp elt [⟨tg,iter,ifs,0⟩] scope pos) (Cq locs.length fr wi g tt te) :=
 ⟨LQ S F hc hi.h (fun cl C s0 H0 ex pn=>let ⟨a,b,c⟩:=inner.h cl C s0 H0 ex pn;⟨a.h,b.h,c.h⟩) hs⟩
theorem FA{wi:TI}{i:Nat}{x:Str}{pos' spos:Pos}(S:WJ X scope locs fr)(F:YZ X scope fr)(hc:X.calm=true)(hi:QI X tg iter wi)(inner:La X scope (inN locs fr) tg ifs elt g tt te)(hN:X.N.Nodup)(n:Nm X.env.scope x .local)(hsw:swapsWith (.ListComp elt [⟨tg,iter,ifs,0⟩] scope pos) (some (.Name x pos')) spos.line X.env=pure true)(hi0:X.N[i]?=some x:=by rfl)(hs:∀x,foldedSetIterable iter X.env x=pure x:=by intro _;rfl):QS X (.Assign [.Name x pos'] (.ListComp elt [⟨tg,iter,ifs,0⟩] scope pos) spos) (Ju (Cq locs.length fr wi g tt te) (Wb i)) :=
 ⟨QR S F hc hi.h (fun cl C s0 H0 ex pn=>let ⟨a,b,c⟩:=inner.h cl C s0 H0 ex pn;⟨a.h,b.h,c.h⟩) hN hi0 n.1 hsw hs⟩
end
section
variable{X:Cx}{scope:Scope}{cl:List (Str×dN)}{C:dN}{N':dF}{s0:dJ}{H0:Hp}{ex:dI}{pn:List (dN×Obj)}{x:Str}{pos:Pos}
theorem Yj(i:Nat)(n:Nm scope x .local:=by decide +kernel)(hN:N'[i]?=some x:=by rfl):QE (ccx X scope cl C N' s0 H0 ex pn) (.Name x pos) (YD i):=⟨pvL i hN n.1 n.2.1 n.2.2.1⟩
theorem Vn(i:Nat)(n:Nm scope x .free:=by decide +kernel)(hN:N'[i]?=some x:=by rfl):QE (ccx X scope cl C N' s0 H0 ex pn) (.Name x pos) (YD i):=⟨pvF i hN n.1 n.2.1 n.2.2.1⟩
theorem Yw(i:Nat)(hnd:N'.Nodup)(n:Nm scope x .local:=by decide +kernel)(hN:N'[i]?=some x:=by rfl):QG (ccx X scope cl C N' s0 H0 ex pn) (.Name x pos) (Wb i):=⟨pgL i hnd hN n.1⟩
end
section
variable{P:dO}{w:dP}{K:uFg}{mg:dE}{base:Heap}
theorem YC.fnQ{x:Str}{st:Stmt}{N ps:dF}{k:Nat}{sp:Sp}(h:YC K mg x st)(S:ZR N ps (Zs st))(hb:∀ (kV doc pm:dM) (an:Option dN) (cdv ct:dM) (us:dG),us.length=ps.length->bindArgs (PySem.W.fnOf x x (Wo st) (Yy st) (Zs st) .none kV doc pm an cdv ct) ⟨us,[]⟩=pure (ps.zip us))(len:∀vs H Q E,sp vs H Q E->vs.length=ps.length)(hbody:∀ (f:dN) (cdv:dM) (A:dQ) (outer:List Env) (s:dJ) (H:Hp) (vs:aG) (Q:VK) (E:XK),ZN k (A.deeper (envOfC x (Zs st) s.heap.objs.size f cdv))->sp vs H Q E -> ∃t,UV (Y2 YY P w K mg base N x (Zs st) f cdv A outer s H E).nox (Yy st) t/\t {nx:=fun _ H'=>Q .non H',rt:=Q } (start N vs) H):Fn P w K mg base x ps (k+1) sp :=
 h.fn S hb len fun f cdv A outer s H vs Q E hr q=>let ⟨t,a,b⟩:=hbody f cdv A outer s H vs Q E hr q;⟨t,a.h,b⟩
theorem Hk(h:k<=60):ZN k (({}:dQ).deeper e) :=
 ZN.deeper (ZN.mono (k:=61) ⟨rfl,aA,aA⟩ (by lia)) e
theorem YC.fq{x:Str}{st:Stmt}{ps:dF}{k:Nat}{sp:Sp}(h:YC K mg x st)(N:dF)(hbody:∀{f:dN}{cdv:dM}{A:dQ}{outer:List Env}{s:dJ}(H:Hp) (vs:aG) (Q:VK) (E:XK),ZN k (A.deeper (envOfC x (Zs st) s.heap.objs.size f cdv))->sp vs H Q E->vs.length=ps.length/\∃t,UV (Y2 YY P w K mg base N x (Zs st) f cdv A outer s H E).nox (Yy st) t/\t {nx:=fun _ H'=>Q .non H',rt:=Q } (start N vs) H)(S:ZR N ps (Zs st):=by exact fsc)(hk:k<=60:=by decide)(hb:∀ (kV doc pm:dM) (an:Option dN) (cdv ct:dM) (us:dG),us.length=ps.length->bindArgs (PySem.W.fnOf x x (Wo st) (Yy st) (Zs st) .none kV doc pm an cdv ct) ⟨us,[]⟩=pure (ps.zip us):=by exact fun _ _ _ _ _ _=>by first | exact al1 fun _=>rfl | exact al2 fun _ _=>rfl | exact al3 fun _ _ _=>rfl | exact al4 fun _ _ _ _=>rfl | exact al5 fun _ _ _ _ _=>rfl | exact al6 fun _ _ _ _ _ _=>rfl | exact al7 fun _ _ _ _ _ _ _=>rfl | exact al8 fun _ _ _ _ _ _ _ _=>rfl):Fn P w K mg base x ps (k+1) sp :=
 h.fnQ S hb (fun vs H Q E h=>(hbody (f:=0) (cdv:=.none) (A:={}) (outer:=[]) (s:={}) H vs Q E (Hk hk) h).1) fun _ _ _ _ _ H vs Q E hr q=>(hbody H vs Q E hr q).2
end
theorem Dj(R:St->Hp->Prop)(hu:∀ σ' H',R σ' H'->u D σ' H')(ht:∀D':YK,(∀ σ' H',R σ' H'->D'.nx σ' H')->(∀v H',D.rt v H'->D'.rt v H')->(∀ σ' H',D.bk σ' H'->D'.bk σ' H')->(∀ σ' H',D.ct σ' H'->D'.ct σ' H')->t D' U H):Ua t u D U H :=
 ht {D with nx:=u D } hu (fun _ _ h=>h) (fun _ _ h=>h) (fun _ _ h=>h)
theorem Ib:(([a]:List Nat)<[b])↔a<b:=by
 constructor
 ·intro h;rcases List.cons_lt_cons_iff.mp h with z | ⟨_,z⟩
  ·exact z
  ·exact absurd z (by simp)
 ·intro h;exact List.cons_lt_cons_iff.mpr (.inl h)
theorem Yd(h:Q (U.set i (some v)) H):Wb i v U H Q:=h
theorem Jh.okQ{P:dO}{w:dP}{K:uFg}{mg:dE}{base:Heap}{x qual:Str}{st:Stmt}{f:dN}{fd:FuncData}{N ps:dF}{k:Nat}{sp:Sp}(F:Jh K x qual st f fd)(S:ZR N ps (Zs st))(len:∀vs H Q E,sp vs H Q E->vs.length=ps.length)(hbody:∀cdv A outer s H vs Q E,ZN k (A.deeper (envOfC qual (Zs st) s.heap.objs.size f cdv))->sp vs H Q E -> ∃t,UV (Y2 YY P w K mg base N qual (Zs st) f cdv A outer s H E).nox (Yy st) t/\t {nx:=fun _ H'=>Q .non H',rt:=Q } (start N vs) H):YG P w K mg base YY (k+1) f fd ps sp :=
 F.ok S len fun cdv A outer s H vs Q E hr q=>let ⟨t,a,b⟩:=hbody cdv A outer s H vs Q E hr q;⟨t,a.h,b⟩
section
variable{X:Cx}{scope:Scope}{cl:List (Str×dN)}{C:dN}{N':dF}{s0:dJ}{H0:Hp}{ex:dI}{pn:List (dN×Obj)}{pos:Pos}{es:List Expr}{k:Nat}{t:Jk}
theorem Ai(n:Nat)(hc:X.calm=true)(h:B9 (ccx X scope cl C N' s0 H0 ex pn) es t)(hn:(assignEach es (ccx X scope cl C N' s0 H0 ex pn).env).length=n:=by rfl)(hst:(assignEach es (ccx X scope cl C N' s0 H0 ex pn).env).findIdx? (·.1)=none:=by rfl) :
  QG (ccx X scope cl C N' s0 H0 ex pn) (.Tuple es k pos) (Je X.K n t):=⟨FB (X:=ccx X scope cl C N' s0 H0 ex pn) hc h.h hn hst⟩
theorem LO:Av (ccx X scope cl C N' s0 H0 ex pn) (Al X.K):=⟨Ik (X:=ccx X scope cl C N' s0 H0 ex pn)⟩
theorem PM:Av (ccx X scope cl C N' s0 H0 ex pn) (TZ X.K):=⟨EI (X:=ccx X scope cl C N' s0 H0 ex pn)⟩
theorem Fc:QC (ccx X scope cl C N' s0 H0 ex pn) (.type "list") (UY X.K):=.imp ⟨KC (X:=ccx X scope cl C N' s0 H0 ex pn)⟩ fun _ _ _ ⟨p,y,a,b,k⟩=>⟨p,y,a,b,k⟩
theorem QU:QC (ccx X scope cl C N' s0 H0 ex pn) (.builtin "isinstance") (FM X.K):=⟨Gd (X:=ccx X scope cl C N' s0 H0 ex pn)⟩
end
def BW(a b:dM):Prop:=a=b\/∃c t u,a=.str c t/\b=.str c u
theorem BW.rel(h:BW a b)(r:ZF y a):ZF y b:=by
 rcases h with rfl | ⟨c,t,u,rfl,rfl⟩
 ·exact r
 ·cases y with
  | str z=>obtain⟨k,e⟩:=r;cases e;exact⟨u,rfl⟩
  | non=>cases r
  | bl _=>cases r
  | int _=>obtain⟨_,e⟩:=r;cases e
  | byt _=>obtain⟨_,e⟩:=r;cases e
  | flt _=>obtain⟨_,e⟩:=r;cases e
  | _=>cases r
structure Jg (P:dO) (w:dP) (it l:dN) (St:Nat->Heap->Prop) (Hs:Heap->List dM->Prop):Prop where
 obj:∀k h,St k h->∃o,h.get? it=some o/\∀v,o.data ≠ .cell v
 keep:∀k h h',St k h->(∀o,h.get? it=some o->h'.get? it=some o)->St k h'
 src:∀h h' its,Hs h its->(∀o,h.get? l=some o->h'.get? l=some o)->Hs h' its
 item:∀(A:dQ)(k:Nat)(s:dJ)(its:dG)(x:dM)(Q:dD)(E:dD),St k s.heap->Hs s.heap its->its[k]?=some x ->
  (∀x' h' tk,BW x x'->St (k+1) h'->Heap.SameBut it s.heap h'->Q x' {s with heap:=h',toks:=tk })->wpAny (model P w) A (Builtin.SmallTypes.nextOf (.ref it)) Q E s
 done:∀(A:dQ)(k:Nat)(s:dJ)(its:dG)(Q:dD)(E:dD),A.handled=none->St k s.heap->Hs s.heap its->its[k]?=none ->
  (∀h' e,Heap.ExtBut it s.heap h'->(∃o,h'.get? e=some o/\o.cls=.type "StopIteration")->E (.ref e) {s with heap:=h' })->wpAny (model P w) A (Builtin.SmallTypes.nextOf (.ref it)) Q E s
theorem Ic(it l:dN):Jg P w it l (fun k h=>h.IsListIter it l k) (fun h its=>h.IsList l its.toArray) where
 obj:=fun k h st=>by
  obtain⟨o,e,c,d⟩:=st;exact⟨o,e,fun v z=>by rw[d] at z;cases z⟩
 keep:=fun k h h' st kk=>st.at kk
 src:=fun h h' its hl kk=>hl.at kk
 item:=fun A k s its x Q E st hl hx hQ=>wpAny_nextOf_list_item st hl (by simpa using hx) fun h'=>hQ x h' s.toks (.inl rfl)
 done:=fun A k s its Q E hh st hl hx hE=>wpAny_nextOf_list_end hh st hl (by simpa using hx) hE
theorem OA{it t:dN}{k:Nat}{its:dG}{x:dM}{Q:dD}(st:s.heap.IsTupleIter it t k)(ht:s.heap.IsTuple t its.toArray)(hx:its[k]?=some x)(hQ:∀h',h'.IsTupleIter it t (k+1)->Heap.SameBut it s.heap h'->Q x {s with heap:=h' }):wpAny (model P w) A (Builtin.SmallTypes.nextOf (.ref it)) Q E s:=by
 obtain⟨o,ho,hc,hd⟩:=id st;obtain⟨ot,hot,_,nt,hdt⟩:=id ht;unfold Builtin.SmallTypes.nextOf;refine wpAny_bind (wpAny_callSpecial?_slot (name:=Str.ofString "__next__") st.typeIs F.slot_tuple_iterator_next (wpAny_call_entry F.slot_tuple_iterator_next st.typeIs F.entry_tuple_iterator_next ?_ (F.args_tuple_iterator_next_1 _)));show wpAny _ _ (field (.ref it) 0 >>= _) _ _ s;refine wpAny_bind (wpAny_field ho hd (x:=.ref t) rfl ?_);show wpAny _ _ (if (Value.ref t==Value.none)=true then _ else _) _ _ s;rw[if_neg (show ¬((Value.ref t==Value.none)=true) from xI)];show wpAny _ _ (field (.ref it) 1 >>= _) _ _ s;refine wpAny_bind (wpAny_field ho hd (x:=.int k 0) rfl ?_);show wpAny _ _ (seqItems? (.ref t) >>= _) _ _ s;refine wpAny_bind (wpAny_seqItems hot hdt ?_);have hx':its.toArray[k]?=some x:=by simpa using hx
 simp only[yM,hx'];refine wpAny_bind (wpAny_setField ho hd (by simp) ?_);refine wpAny_pure ⟨_,rfl,wpAny_pure (hQ _ ?_ (Heap.SameBut.update ..))⟩;refine⟨_,zH _ ho ?_,?_,?_⟩
 ·obtain⟨c,d,dt,sl⟩:=o;subst hd;rfl
 ·obtain⟨c,d,dt,sl⟩:=o;subst hd;exact hc
 ·obtain⟨c,d,dt,sl⟩:=o;subst hd;rfl
theorem Xs{it t:dN}{k:Nat}{its:dG}{Q:dD}(hh:A.handled=none)(st:s.heap.IsTupleIter it t k)(ht:s.heap.IsTuple t its.toArray)(hx:its[k]?=none)(hE:∀h' e,Heap.ExtBut it s.heap h'->(∃o,h'.get? e=some o/\o.cls=.type "StopIteration")->E (.ref e) {s with heap:=h' }):wpAny (model P w) A (Builtin.SmallTypes.nextOf (.ref it)) Q E s:=by
 obtain⟨o,ho,hc,hd⟩:=id st;obtain⟨ot,hot,_,nt,hdt⟩:=id ht;unfold Builtin.SmallTypes.nextOf;refine wpAny_bind (wpAny_callSpecial?_slot (name:=Str.ofString "__next__") st.typeIs F.slot_tuple_iterator_next (wpAny_call_entry F.slot_tuple_iterator_next st.typeIs F.entry_tuple_iterator_next ?_ (F.args_tuple_iterator_next_1 _)));show wpAny _ _ (field (.ref it) 0 >>= _) _ _ s;refine wpAny_bind (wpAny_field ho hd (x:=.ref t) rfl ?_);show wpAny _ _ (if (Value.ref t==Value.none)=true then _ else _) _ _ s;rw[if_neg (show ¬((Value.ref t==Value.none)=true) from xI)];show wpAny _ _ (field (.ref it) 1 >>= _) _ _ s;refine wpAny_bind (wpAny_field ho hd (x:=.int k 0) rfl ?_);show wpAny _ _ (seqItems? (.ref t) >>= _) _ _ s;refine wpAny_bind (wpAny_seqItems hot hdt ?_);have hx':its.toArray[k]?=none:=by simpa using hx
 simp only[yM,hx'];refine wpAny_bind (wpAny_rule (wpAny_bind (wpAny_setField ho hd (by simp) ?_)));show wpAny _ _ (newExc (.type "StopIteration") [] >>= _) _ _ _;refine wpAny_bind ?_;simp only[newExc,newTuple];refine wpAny_bind (wpAny_newObj_type ?_ (by size_fits));refine wpAny_bind (m:=firstArgMember _ _) (wpAny_of_eq (a:=Value.none) (by first | rfl | (simp only[firstArgMember];rfl)) ?_);refine wpAny_newObj_type ?_ (by size_fits);simp only[raiseNew];refine wpAny_bind (wpAny_handled ?_)
 first | rw[show A.in1.handled=none from hh] | rw[hh]
 refine wpAny_bind (wpAny_pure (wpAny_throw ?_));exact hE _ _ (((Heap.SameBut.update ..).extBut.push _).push _) ⟨_,xG _ rfl,rfl⟩
theorem HI(it l:dN):Jg P w it l (fun k h=>h.IsTupleIter it l k) (fun h its=>h.IsTuple l its.toArray) where
 obj:=fun k h st=>by
  obtain⟨o,e,c,d⟩:=st;exact⟨o,e,fun v z=>by rw[d] at z;cases z⟩
 keep:=fun k h h' st kk=>st.at kk
 src:=fun h h' its hl kk=>let ⟨o,e,r⟩:=hl;⟨o,kk o e,r⟩
 item:=fun A k s its x Q E st hl hx hQ=>OA st hl hx fun h'=>hQ x h' s.toks (.inl rfl)
 done:=fun A k s its Q E hh st hl hx hE=>Xs hh st hl hx hE
structure ZA (z TI TO i1 i2 l1 l2:dN):Prop where
 a1:TI≠z
 a2:TO≠z
 a3:i1≠z
 a4:i2≠z
 a5:TI≠TO
 a6:TI≠i1
 a7:TI≠i2
 a8:TO≠i1
 a9:TO≠i2
 a10:i1≠i2
 b1:l1≠z
 b2:l1≠TO
 b3:l1≠i1
 b4:l1≠i2
 b5:l2≠z
 b6:l2≠TO
 b7:l2≠i1
 b8:l2≠i2
section
variable{P:dO}{w:dP}{A:dQ}{E:dD}{s:dJ}{z TI TO i1 i2 l1 l2:dN}{S1 S2:Nat->Heap->Prop}{H1 H2:Heap->List dM->Prop}{k:Nat}{xs ys:dG}{x y a b:dM}
theorem Ny{Q:dD}(Z:ZA z TI TO i1 i2 l1 l2)(D1:Jg P w i1 l1 S1 H1)(D2:Jg P w i2 l2 S2 H2)(hz:IsZip s.heap z TI TO .none)(hTI:IsPair s.heap TI (.ref i1) (.ref i2))(hTO:IsPair s.heap TO a b)(st1:S1 k s.heap)(st2:S2 k s.heap)(h1:H1 s.heap xs)(h2:H2 s.heap ys)(hx:xs[k]?=some x)(hy:ys[k]?=some y)(hQ:∀x' y' h' tk,BW x x'->BW y y'->IsZip h' z TI TO (rawInt s.heap.objs.size)->IsPair h' TO x' y'->S1 (k+1) h'->S2 (k+1) h'->IsPair h' s.heap.objs.size x' y' -> (∀c o,c≠z->c≠TO->c≠i1->c≠i2->s.heap.get? c=some o->h'.get? c=some o)->Q (.ref s.heap.objs.size) {s with heap:=h',toks:=tk }) :
  wpAny (model P w) A (Builtin.«zip.__next__» ⟨[.ref z],[]⟩) (fun fin s'=>∃v,fin=.done (.ret v)/\Q v s') E s:=by
 show wpAny _ _ (field (.ref z) 2 >>= _) _ _ _;refine wpAny_bind (wpAny_field hz rfl (x:=.bool false) rfl ?_);show wpAny _ _ (field (.ref z) 3 >>= _) _ _ _;refine wpAny_bind (wpAny_field hz rfl (x:=.ref TI) rfl (wpAny_bind (wpAny_seqItems hTI rfl ?_)));show wpAny _ _ (Builtin.SmallTypes.ownedTupleIsFree (.ref z) >>= _) _ _ _;refine wpAny_bind ?_;unfold Builtin.SmallTypes.ownedTupleIsFree;refine wpAny_bind (wpAny_field hz rfl (x:=.none) rfl (wpAny_pure ?_));simp only[if_true];refine wpAny_bind (wpAny_rule (wpAny_bind (wpAny_field hz rfl (x:=.ref TO) rfl (wpAny_bind (wpAny_setField_rec hz (by simp) fun g1 z1 e1=>?_)))));replace z1:IsZip g1 z TI TO .ellipsis:=z1;refine wpAny_bind ?_;simp only[List.zipIdx_cons,List.zipIdx_nil,List.forIn_cons,List.forIn_nil];refine wpAny_bind (wpAny_bind (wpAny_onRaise ?_));show wpAny _ _ (Builtin.SmallTypes.nextOf (.ref i1) >>= _) _ _ _;refine wpAny_bind (D1.item _ k _ xs x _ _ (D1.keep _ _ _ st1 fun o e=>e1.extBut _ _ Z.a3 e) (D1.src _ _ _ h1 fun o e=>e1.extBut _ _ Z.b1 e) hx fun x' g2 tk2 lx s12 e2=>wpAny_pure ?_);have t2:IsPair g2 TO a b:=e2.extBut _ _ Z.a8 (e1.extBut _ _ Z.a2 hTO);refine wpAny_bind (wpAny_seqItems t2 rfl (wpAny_bind (wpAny_updateSeq_pair t2 fun g3 t3 e3=>?_)));replace t3:IsPair g3 TO x' b:=t3;refine wpAny_bind (wpAny_letGo (wpAny_pure (wpAny_bind (wpAny_bind (wpAny_onRaise ?_)))));show wpAny _ _ (Builtin.SmallTypes.nextOf (.ref i2) >>= _) _ _ _;have up3:∀c o,c≠z->c≠TO->c≠i1->s.heap.get? c=some o->g3.get? c=some o:=fun c o c1 c2 c3 e=>e3.extBut _ _ c2 (e2.extBut _ _ c3 (e1.extBut _ _ c1 e));refine wpAny_bind (D2.item _ k _ ys y _ _ (D2.keep _ _ _ st2 fun o e=>up3 _ _ Z.a4 Z.a9.symm Z.a10.symm e) (D2.src _ _ _ h2 fun o e=>up3 _ _ Z.b5 Z.b6 Z.b7 e) hy fun y' g4 tk4 ly s24 e4=>wpAny_pure ?_);have t4:IsPair g4 TO x' b:=e4.extBut _ _ Z.a9 t3;refine wpAny_bind (wpAny_seqItems t4 rfl (wpAny_bind (wpAny_updateSeq_pair t4 fun g5 t5 e5=>?_)));replace t5:IsPair g5 TO x' y':=t5;refine wpAny_bind (wpAny_letGo (wpAny_pure (wpAny_pure (wpAny_bind (wpAny_seqItems t5 rfl (wpAny_bind (wpAny_newTuple ?_)))))));have size5:g5.objs.size=s.heap.objs.size:=by rw[e5.1,e4.1,e3.1,e2.1,e1.1]
 have z5:IsZip g5 z TI TO .ellipsis:=e5.extBut _ _ Z.a2.symm (e4.extBut _ _ Z.a4.symm (e3.extBut _ _ Z.a2.symm (e2.extBut _ _ Z.a3.symm z1)));have up5:∀c o,c≠z->c≠TO->c≠i1->c≠i2->s.heap.get? c=some o->g5.get? c=some o:=fun c o c1 c2 c3 c4 e=>e5.extBut _ _ c2 (e4.extBut _ _ c4 (up3 c o c1 c2 c3 e));have s15:S1 (k+1) g5:=D1.keep _ _ _ s12 fun o e=>e5.extBut _ _ Z.a8.symm (e4.extBut _ _ Z.a10 (e3.extBut _ _ Z.a8.symm e));have s25:S2 (k+1) g5:=D2.keep _ _ _ s24 fun o e=>e5.extBut _ _ Z.a9.symm e;have zlt:z<g5.objs.size:=xH z5;show wpAny _ _ (Builtin.SmallTypes.ownedTupleHandOut (.ref z) (.ref g5.objs.size) >>= _) _ _ _;refine wpAny_bind ?_;unfold Builtin.SmallTypes.ownedTupleHandOut;have z6:IsZip (g5.push {cls:=.type "tuple", data:=.seq #[x',y'] }) z TI TO .ellipsis:=xA _ z5;refine wpAny_bind (wpAny_setField_rec z6 (by simp) fun g7 z7 e7=>?_);replace z7:IsZip g7 z TI TO (rawInt g5.objs.size):=z7;refine wpAny_setField_rec z7 (by simp) fun g8 z8 e8=>?_;replace z8:IsZip g8 z TI TO (rawInt g5.objs.size):=z8;have up8:∀c o,c≠z->g5.get? c=some o->g8.get? c=some o:=fun c o c1 e=>e8.extBut _ _ c1 (e7.extBut _ _ c1 (xA _ e));have p8:IsPair g8 g5.objs.size x' y':=e8.extBut _ _ (zU zlt) (e7.extBut _ _ (zU zlt) (xG _ rfl));rw[size5] at z8 p8;refine wpAny_pure ⟨_,rfl,?_⟩;show Q (.ref g5.objs.size) _;rw[size5];exact hQ x' y' g8 _ lx ly z8 (up8 _ _ Z.a2 t5) (D1.keep _ _ _ s15 fun o e=>up8 _ _ Z.a3 e) (D2.keep _ _ _ s25 fun o e=>up8 _ _ Z.a4 e) p8 fun c o c1 c2 c3 c4 e=>up8 c o c1 (up5 c o c1 c2 c3 c4 e)
theorem SZ{Q:PySem.Fin->dJ->Prop}(hh:A.handled=none)(Z:ZA z TI TO i1 i2 l1 l2)(D1:Jg P w i1 l1 S1 H1)(D2:Jg P w i2 l2 S2 H2)(hz:IsZip s.heap z TI TO .none)(hTI:IsPair s.heap TI (.ref i1) (.ref i2))(hTO:IsPair s.heap TO a b)(st1:S1 k s.heap)(st2:S2 k s.heap)(h1:H1 s.heap xs)(h2:H2 s.heap ys)(hend:xs[k]?=none\/ys[k]?=none)(hE:∀h' e tk,(∀c o,c≠z->c≠TO->c≠i1->c≠i2->s.heap.get? c=some o->h'.get? c=some o)->(∃o,h'.get? e=some o/\o.cls=.type "StopIteration")->E (.ref e) {s with heap:=h',toks:=tk }) :
  wpAny (model P w) A (Builtin.«zip.__next__» ⟨[.ref z],[]⟩) Q E s:=by
 show wpAny _ _ (field (.ref z) 2 >>= _) _ _ _;refine wpAny_bind (wpAny_field hz rfl (x:=.bool false) rfl ?_);show wpAny _ _ (field (.ref z) 3 >>= _) _ _ _;refine wpAny_bind (wpAny_field hz rfl (x:=.ref TI) rfl (wpAny_bind (wpAny_seqItems hTI rfl ?_)));show wpAny _ _ (Builtin.SmallTypes.ownedTupleIsFree (.ref z) >>= _) _ _ _;refine wpAny_bind ?_;unfold Builtin.SmallTypes.ownedTupleIsFree;refine wpAny_bind (wpAny_field hz rfl (x:=.none) rfl (wpAny_pure ?_));simp only[if_true];refine wpAny_bind (wpAny_rule (wpAny_bind (wpAny_field hz rfl (x:=.ref TO) rfl (wpAny_bind (wpAny_setField_rec hz (by simp) fun g1 z1 e1=>?_)))));replace z1:IsZip g1 z TI TO .ellipsis:=z1;refine wpAny_bind ?_;simp only[List.zipIdx_cons,List.zipIdx_nil,List.forIn_cons,List.forIn_nil];refine wpAny_bind (wpAny_bind (wpAny_onRaise ?_));show wpAny _ _ (Builtin.SmallTypes.nextOf (.ref i1) >>= _) _ _ _;have st1':=D1.keep _ _ _ st1 fun o e=>e1.extBut _ _ Z.a3 e;have h1':=D1.src _ _ _ h1 fun o e=>e1.extBut _ _ Z.b1 e;cases hx:xs[k]? with
 | none =>
  refine wpAny_bind (D1.done _ k _ xs _ _ hh st1' h1' hx fun g2 e e2 ⟨oe,hoe,hce⟩=>?_);have z2:IsZip g2 z TI TO .ellipsis:=e2 _ _ Z.a3.symm z1;have ne:e≠z:=fun q=>by subst q;rw[z2] at hoe;cases hoe;simp at hce
  exact wpAny_setField_rec z2 (by simp) fun g3 _ e3=>hE g3 e s.toks (fun c o c1 _ c3 _ q=>e3.extBut _ _ c1 (e2 _ _ c3 (e1.extBut _ _ c1 q))) ⟨oe,e3.extBut _ _ ne hoe,hce⟩
 | some x =>
  have hy:ys[k]?=none:=hend.elim (fun q=>by rw[hx] at q;cases q) id;refine wpAny_bind (D1.item _ k _ xs x _ _ st1' h1' hx fun x' g2 tk2 lx s12 e2=>wpAny_pure ?_);have t2:IsPair g2 TO a b:=e2.extBut _ _ Z.a8 (e1.extBut _ _ Z.a2 hTO);refine wpAny_bind (wpAny_seqItems t2 rfl (wpAny_bind (wpAny_updateSeq_pair t2 fun g3 t3 e3=>?_)));refine wpAny_bind (wpAny_letGo (wpAny_pure (wpAny_bind (wpAny_bind (wpAny_onRaise ?_)))));show wpAny _ _ (Builtin.SmallTypes.nextOf (.ref i2) >>= _) _ _ _;have up3:∀c o,c≠z->c≠TO->c≠i1->s.heap.get? c=some o->g3.get? c=some o:=fun c o c1 c2 c3 e=>e3.extBut _ _ c2 (e2.extBut _ _ c3 (e1.extBut _ _ c1 e));refine wpAny_bind (D2.done _ k _ ys _ _ hh (D2.keep _ _ _ st2 fun o e=>up3 _ _ Z.a4 Z.a9.symm Z.a10.symm e) (D2.src _ _ _ h2 fun o e=>up3 _ _ Z.b5 Z.b6 Z.b7 e) hy fun g4 e e4 ⟨oe,hoe,hce⟩=>?_);have z4:IsZip g4 z TI TO .ellipsis:=e4 _ _ Z.a4.symm (e3.extBut _ _ Z.a2.symm (e2.extBut _ _ Z.a3.symm z1));have ne:e≠z:=fun q=>by subst q;rw[z4] at hoe;cases hoe;simp at hce
  exact wpAny_setField_rec z4 (by simp) fun g5 _ e5=>hE g5 e _ (fun c o c1 c2 c3 c4 q=>e5.extBut _ _ c1 (e4 _ _ c4 (up3 c o c1 c2 c3 q))) ⟨oe,e5.extBut _ _ ne hoe,hce⟩
end
structure Ci (sq:uFg->Hp->dN->List V->Prop) (Hs:dN->Heap->List dM->Prop):Prop where
 get:∀{X:Cx}{pins:List (dN×Obj)}{U:St}{H:Hp}{s:dJ}{l:dN}{xs:aG},ZE X pins U H s->sq X.K H l xs->∃its,ZH xs its/\Hs l s.heap its
 inj:∀{X:Cx}{pins:List (dN×Obj)}{U:St}{H:Hp}{s:dJ}{l:dN}{xs ys:aG},ZE X pins U H s->sq X.K H l xs->sq X.K H l ys->xs=ys
theorem SY:Ci ZG (fun l h its=>h.IsList l its.toArray):=⟨fun I h=>let ⟨its,r,p,_⟩:=I.list h;⟨its,r,p.isList⟩,fun I h h'=>I.list_inj h h'⟩
theorem Oh:Ci ZP (fun l h its=>h.IsTuple l its.toArray):=⟨fun I h=>let ⟨its,r,p,_⟩:=I.tuple h;⟨its,r,p⟩,fun I h h'=>I.tuple_inj h h'⟩
def B3(sq:uFg->Hp->dN->List V->Prop)(K:uFg)(l1 l2:dN):It :=
 ⟨fun i H=>∃xs ys,sq K H l1 xs/\sq K H l2 ys/\i<xs.length/\i<ys.length,fun i H v H'=>∃p a b,v=.ref p/\H p=none/\H'=upd H p (.tup [a,b])/\∀xs ys,sq K H l1 xs->sq K H l2 ys->xs[i]?=some a/\ys[i]?=some b,
  fun i H=>∃xs ys,sq K H l1 xs/\sq K H l2 ys/\(xs.length<=i\/ys.length<=i)⟩
theorem X8{P:dO}{w:dP}{K:uFg}{elts:List Expr}{ek:Nat}{epos:Pos}{sq:uFg->Hp->dN->List V->Prop}{Hs:dN->Heap->List dM->Prop}{z TI TO i1 i2 l1 l2:dN}{S1 S2:Nat->Heap->Prop}(SK:Ci sq Hs)(Z:ZA z TI TO i1 i2 l1 l2)(D1:Jg P w i1 l1 S1 (Hs l1))(D2:Jg P w i2 l2 S2 (Hs l2)) :
  WZ P w K (.Tuple elts ek epos) (B3 sq K l1 l2) [z,TI,TO,i1,i2] z (fun i h=>IsZip h z TI TO .none/\IsPair h TI (.ref i1) (.ref i2)/\(∃a b,IsPair h TO a b)/\S1 i h/\S2 i h) where
 mem:=by simp
 obj:=fun i h st b hb=>by
  obtain⟨hz,hTI,⟨a,c,hTO⟩,s1,s2⟩:=st;simp only[xF,yE,or_false] at hb;rcases hb with rfl | rfl | rfl | rfl | rfl
  ·exact⟨_,hz,fun v q=>by cases q⟩
  ·exact⟨_,hTI,fun v q=>by cases q⟩
  ·exact⟨_,hTO,fun v q=>by cases q⟩
  ·exact D1.obj _ _ s1
  ·exact D2.obj _ _ s2
 keep:=fun i h h' st k=>by
  obtain⟨hz,hTI,⟨a,c,hTO⟩,s1,s2⟩:=st;exact⟨k z (by simp) _ hz,k TI (by simp) _ hTI,⟨a,c,k TO (by simp) _ hTO⟩,D1.keep _ _ _ s1 fun o e=>k i1 (by simp) o e,D2.keep _ _ _ s2 fun o e=>k i2 (by simp) o e⟩
 item:=by
  intro X hP hw hK hc i pins s U H E I hf st hg;subst hP hw hK;obtain⟨hz,hTI,⟨a,b,hTO⟩,s1,s2⟩:=st;obtain⟨xs,ys,q1,q2,hx,hy⟩:=hg;obtain⟨its1,r1,w1⟩:=SK.get I q1;obtain⟨its2,r2,w2⟩:=SK.get I q2;have gx:xs[i]?=some xs[i]:=xC hx;have gy:ys[i]?=some ys[i]:=xC hy;obtain⟨u1,hu1,ru1⟩:=r1.get gx;obtain⟨u2,hu2,ru2⟩:=r2.get gy;have hT:s.TypeIs (.ref z) "zip" := ⟨_,hz,rfl⟩;unfold pyNext;refine wpAny_bind (wpAny_attempt (wpAny_callSpecial?_slot (name:=Str.ofString "__next__") hT F.slot_zip_next (wpAny_call_entry F.slot_zip_next hT F.entry_zip_next (Ny Z D1 D2 hz hTI hTO s1 s2 w1 w2 hu1 hu2 fun u1' u2' h' tk l1' l2' z1 t1 n1 n2 p1 kp=>wpAny_pure ?_) (F.args_zip_next_1 _))));refine⟨_,rfl,?_⟩;have nfp:∀c,c ∈ [z,TO,i1,i2]->c ∈ [z,TI,TO,i1,i2]:=fun c hc=>by grind
  have kp':∀c o,c ∉ [z,TO,i1,i2]->s.heap.get? c=some o->h'.get? c=some o:=fun c o hc e=>kp c o (fun q=>hc (by simp[q])) (fun q=>hc (by simp[q])) (fun q=>hc (by simp[q])) (fun q=>hc (by simp[q])) e;have hp:H s.heap.objs.size=none:=I.hok.fresh (xD _);have ltp:∀c o,s.heap.get? c=some o->c≠s.heap.objs.size:=fun c o e=>xY (xH e);have ntr:∀c u,H c=some u->c ∉ [z,TO,i1,i2]:=fun c u e hc=>by
   have:=(hf c (nfp c hc)).1;rw[this] at e;cases e
  have there4:∀c,c ∈ [z,TO,i1,i2]->∃o',h'.get? c=some o':=fun c hc=>by
   simp only[xF,yE,or_false] at hc;rcases hc with rfl | rfl | rfl | rfl
   ·exact⟨_,z1⟩
   ·exact⟨_,t1⟩
   ·obtain⟨o,e,_⟩:=D1.obj _ _ n1;exact⟨o,e⟩
   ·obtain⟨o,e,_⟩:=D2.obj _ _ n2;exact⟨o,e⟩
  have I1:ZE X pins U (upd H s.heap.objs.size (.tup [xs[i],ys[i]])) {s with heap:=h',toks:=tk }:=by
   refine I.step (g':=s.gens) (d':=s.drawn) (t':=tk) (ch:=[z,TO,i1,i2]) (fun c hc=>?_) (fun c o _ _ hc e _=>kp' c o hc e) (fun c o _ _ hc e _=>⟨o.slots,kp' c o hc e⟩) (fun c o hc e n=>by rw[Zc (ltp c o e)];exact n)
    (fun c o hc e=>⟨o,kp' c o hc e⟩) (fun c us e=>by rw[Zc (Zi e hp)];exact e) (fun c o u e=>by rw[Zc (Zi e hp)];exact e) (fun c ps e=>⟨#[],by rw[Zc (Zi e hp),e];simp⟩) (fun m hm=>?_) ?_ I.bare
   ·obtain⟨f0,f1,f2,f3,f4,f5⟩:=hf c (nfp c hc);exact⟨f3,f1,f4,f5⟩
   ·refine hm.at fun o e=>kp' _ o (fun hc=>?_) e;exact(hf _ (nfp _ hc)).2.1 rfl
   ·intro c u e
    by_cases hcp:c=s.heap.objs.size
    ·subst hcp;rw[Zg] at e;cases e;exact⟨aB rfl,[u1',u2'],.cons (l1'.rel ru1) (.cons (l2'.rel ru2) .nil),⟨_,p1,rfl,_,rfl⟩⟩
    ·rw[Zc hcp] at e;refine(I.hok c u e).stay (fun d v hd q=>kp' d v ?_ q) (fun d q=>by rw[Zc (Zi q hp)];exact q) fun d us q=>by rw[Zc (Zi q hp)];exact q
     rcases hd with rfl | hd
     ·exact ntr _ u e
     ·exact ntr _ _ hd
  refine wpAny_letOwnedTupleGo_zip (s:={s with heap:=h',toks:=tk }) z1 fun h2 z2 e2=>?_;obtain⟨f0,f1,f2,f3,f4,f5⟩:=hf z (by simp);have nz:z≠s.heap.objs.size:=ltp z _ hz;have I2:ZE X pins U (upd H s.heap.objs.size (.tup [xs[i],ys[i]])) {s with heap:=h2,toks:=tk }:=I1.turned (s:={s with heap:=h',toks:=tk }) (it:=z) (t':=tk) (fun c o hc e=>(e2.2 c hc).trans e) (by rw[Zc nz];exact f0) f1 f3 f4 f5;refine⟨.ref s.heap.objs.size,_,I2,rfl,⟨s.heap.objs.size,xs[i],ys[i],rfl,hp,rfl,fun xs' ys' q1' q2'=>?_⟩,⟨z2,(e2.2 _ Z.a1).trans (kp' TI _ (fun hc=>?_) hTI),⟨_,_,(e2.2 _ Z.a2).trans t1⟩,D1.keep _ _ _ n1 fun o e=>(e2.2 _ Z.a3).trans e,D2.keep _ _ _ n2 fun o e=>(e2.2 _ Z.a4).trans e⟩,fun c hc=>?_⟩
  ·rw[SK.inj I q1' q1,SK.inj I q2' q2];exact⟨gx,gy⟩
  ·simp only[xF,yE,or_false] at hc;rcases hc with q | q | q | q
   ·exact Z.a1 q
   ·exact Z.a5 q
   ·exact Z.a6 q
   ·exact Z.a7 q
  ·obtain⟨o,ho⟩:∃o,s.heap.get? c=some o:=by
    simp only[xF,yE,or_false] at hc;rcases hc with rfl | rfl | rfl | rfl | rfl
    ·exact⟨_,hz⟩
    ·exact⟨_,hTI⟩
    ·exact⟨_,hTO⟩
    ·obtain⟨o,e,_⟩:=D1.obj _ _ s1;exact⟨o,e⟩
    ·obtain⟨o,e,_⟩:=D2.obj _ _ s2;exact⟨o,e⟩
   rw[Zc (ltp c o ho)];exact(hf c hc).1
 done:=by
  intro X hP hw hK hc i pins s U H E I hf st hg;subst hP hw hK;obtain⟨hz,hTI,⟨a,b,hTO⟩,s1,s2⟩:=st;obtain⟨xs,ys,q1,q2,hend⟩:=hg;obtain⟨its1,r1,w1⟩:=SK.get I q1;obtain⟨its2,r2,w2⟩:=SK.get I q2;have hT:s.TypeIs (.ref z) "zip" := ⟨_,hz,rfl⟩;have hend':its1[i]?=none\/its2[i]?=none:=by
   have e1:=r1.length;have e2:=r2.length;rcases hend with q | q
   ·exact .inl (wU (by lia))
   ·exact .inr (wU (by lia))
  unfold pyNext;refine wpAny_bind (wpAny_attempt (wpAny_callSpecial?_slot (name:=Str.ofString "__next__") hT F.slot_zip_next (wpAny_call_entry F.slot_zip_next hT F.entry_zip_next (SZ (I.ok.hd hc) Z D1 D2 hz hTI hTO s1 s2 w1 w2 hend' fun h' e tk kp ⟨o,ho,hcl⟩=>?_) (F.args_zip_next_1 _))));refine wpAny_bind (wpAny_isInstance (T:="StopIteration") (b:=true) ⟨o,ho,hcl⟩ isSubtype_stop (wpAny_pure ⟨rfl,?_⟩));have nfp:∀c,c ∈ [z,TO,i1,i2]->c ∈ [z,TI,TO,i1,i2]:=fun c hc=>by grind
  have kp':∀c o,c ∉ [z,TO,i1,i2]->s.heap.get? c=some o->h'.get? c=some o:=fun c o hc e=>kp c o (fun q=>hc (by simp[q])) (fun q=>hc (by simp[q])) (fun q=>hc (by simp[q])) (fun q=>hc (by simp[q])) e;have ntr:∀c u,H c=some u->c ∉ [z,TO,i1,i2]:=fun c u e hc=>by
   have:=(hf c (nfp c hc)).1;rw[this] at e;cases e
  refine I.step (g':=s.gens) (d':=s.drawn) (t':=tk) (ch:=[z,TO,i1,i2]) (fun c hc=>?_) (fun c o _ _ hc e _=>kp' c o hc e) (fun c o _ _ hc e _=>⟨o.slots,kp' c o hc e⟩) (fun c o hc e n=>n)
   (fun c o hc e=>⟨o,kp' c o hc e⟩) (fun c us e=>e) (fun c o u e=>e) (fun c ps e=>⟨#[],by rw[e];simp⟩) (fun m hm=>?_) ?_ I.bare
  ·obtain⟨f0,f1,f2,f3,f4,f5⟩:=hf c (nfp c hc);exact⟨f3,f1,f4,f5⟩
  ·refine hm.at fun o e=>kp' _ o (fun hc=>?_) e;exact(hf _ (nfp _ hc)).2.1 rfl
  ·intro c u e;refine(I.hok c u e).stay (fun d v hd q=>kp' d v ?_ q) (fun d q=>q) fun d us q=>q;rcases hd with rfl | hd
   ·exact ntr _ u e
   ·exact ntr _ _ hd
 self:=fun A i s Q E st h=>wpAny_pyIter_zip st.1 h
abbrev tzA(h:Heap)(t1:dN):Heap:=h.push {cls:=.type "tuple_iterator", data:=.fields #[.ref t1,.int 0 0] }
abbrev tzB(h:Heap)(t1 t2:dN):Heap:=(tzA h t1).push {cls:=.type "tuple_iterator", data:=.fields #[.ref t2,.int 0 0] }
abbrev tzC(h:Heap)(t1 t2:dN):Heap:=(tzB h t1 t2).push {cls:=.type "tuple", data:=.seq #[.ref h.objs.size,.ref (tzA h t1).objs.size] }
abbrev tzD(h:Heap)(t1 t2:dN):Heap:=(tzC h t1 t2).push {cls:=.type "tuple", data:=.seq #[.none,.none] }
abbrev tzE(h:Heap)(t1 t2:dN):Heap:=(tzD h t1 t2).push {cls:=.type "zip", data:=.fields #[.none,.bool false,.bool false,.ref (tzB h t1 t2).objs.size,.ref (tzC h t1 t2).objs.size] }
theorem Ot(l1 l2:dN)(xs ys:Array dM):Meets (Builtin.«zip.__new__» ⟨[.type "zip", .ref l1,.ref l2],[]⟩) (fun _ R s=>s.heap.IsTuple l1 xs/\s.heap.IsTuple l2 ys/\R (.ok (.ret (.ref (tzD s.heap l1 l2).objs.size))) {s with heap:=tzE s.heap l1 l2 }) :=
 .of_wp fun prog w A R s h=>by
  obtain⟨hp,g,d,tk,os⟩:=s;obtain⟨hl1,hl2,h⟩:=h;have hsub:=sub_zip;have hL1:Heap.IsTuple (Shared.heap ⟨hp,g,d,tk,os⟩) l1 xs:=hl1;have hL2:Heap.IsTuple (Shared.heap ⟨tzA hp l1,g,d,tk,os⟩) l2 ys:=let ⟨o,e,r⟩:=hl2;⟨o,xA _ e,r⟩
  wp_walk using wpAny_pyIter_tuple hL1,wpAny_pyIter_tuple hL2
  exact⟨_,rfl,h⟩
section
variable{P:dO}{w:dP}{A:dQ}{E:dD}{s:dJ}
theorem OP{l1 l2:dN}{xs ys:Array dM}{Q:dD}(hl1:s.heap.IsTuple l1 xs)(hl2:s.heap.IsTuple l2 ys)(h:∀h',IsZip h' (s.heap.objs.size+4) (s.heap.objs.size+2) (s.heap.objs.size+3) .none->IsPair h' (s.heap.objs.size+2) (.ref s.heap.objs.size) (.ref (s.heap.objs.size+1))-> IsPair h' (s.heap.objs.size+3) .none .none->h'.IsTupleIter s.heap.objs.size l1 0->h'.IsTupleIter (s.heap.objs.size+1) l2 0 -> (∀c o,s.heap.get? c=some o->h'.get? c=some o)->Q (.ref (s.heap.objs.size+4)) {s with heap:=h' }):wpAny (model P w) A (call (.type "zip") [.ref l1,.ref l2]) Q E s:=by
 refine callType_new F.called_zip aA (F.typeCall_zip_2 _ _) (F.newCall_zip_2 _ _) (fun obj=>F.args_object_init_3 obj _ _) F.entry_zip_new (Ot l1 l2 xs ys) ⟨hl1,hl2,?_⟩;have n1:(tzA s.heap l1).objs.size=s.heap.objs.size+1:=yX ..;have n2:(tzB s.heap l1 l2).objs.size=s.heap.objs.size+2:=by rw[yX,n1]
 have n3:(tzC s.heap l1 l2).objs.size=s.heap.objs.size+3:=by rw[yX,n2]
 have n4:(tzD s.heap l1 l2).objs.size=s.heap.objs.size+4:=by rw[yX,n3]
 have q5:(tzE s.heap l1 l2).get? (tzD s.heap l1 l2).objs.size=some _:=xG _ rfl;have q4:(tzE s.heap l1 l2).get? (tzC s.heap l1 l2).objs.size=some _:=xA _ (xG _ rfl);have q3:(tzE s.heap l1 l2).get? (tzB s.heap l1 l2).objs.size=some _:=xA _ (xA _ (xG _ rfl));have q2:(tzE s.heap l1 l2).get? (tzA s.heap l1).objs.size=some _:=xA _ (xA _ (xA _ (xG _ rfl)));have q1:(tzE s.heap l1 l2).get? s.heap.objs.size=some _:=xA _ (xA _ (xA _ (xA _ (xG _ rfl))));show _/\_;rw[n2,n3,n4] at q5;rw[n1,n2] at q3;rw[n3] at q4;rw[n1] at q2;rw[n4];exact⟨⟨_,q5,rfl⟩,h _ q5 q3 q4 ⟨_,q1,rfl,rfl⟩ ⟨_,q2,rfl,rfl⟩ fun c o x=>xA _ (xA _ (xA _ (xA _ (xA _ x))))⟩
end
theorem Pe(h1:l1<n)(h2:l2<n):ZA (n+4) (n+2) (n+3) n (n+1) l1 l2:=by
 have h1 : @LT.lt Nat _ l1 n:=h1;have h2 : @LT.lt Nat _ l2 n:=h2;have key:∀(a b:Nat),(a<b\/b<a)->¬(@Eq Nat a b):=fun a b h q=>by lia
 exact⟨key _ _ (by lia),key _ _ (by lia),key _ _ (by lia),key _ _ (by lia),key _ _ (by lia),key _ _ (by lia),key _ _ (by lia),key _ _ (by lia),key _ _ (by lia),key _ _ (by lia),
  key _ _ (by lia),key _ _ (by lia),key _ _ (by lia),key _ _ (by lia),key _ _ (by lia),key _ _ (by lia),key _ _ (by lia),key _ _ (by lia)⟩
inductive By(K:uFg)(R:It->Hp->Prop)(vs:aG)(H1:Hp):Prop
 |mk(l1 l2)(_:vs=[.ref l1,.ref l2])(_:((∃xs ys,ZG K H1 l1 xs/\ZG K H1 l2 ys/\R (B3 ZG K l1 l2) H1)\/(∃xs ys,ZP K H1 l1 xs/\ZP K H1 l2 ys/\R (B3 ZP K l1 l2) H1)))
def Oj(K:uFg)(ta:TA):TI:=fun U H R=>ta U H fun vs H1=>By K R vs H1
theorem QX{X:Cx}{a b:Expr}{ta:TA}{p pos:Pos}{elts:List Expr}{ek:Nat}{epos:Pos}(hm:X.mg "zip"=none)(ha:QA X [a,b] ta)(hg:nB X "zip" .globalImplicit:=by kernel_rfl)(hs:starEach [a,b] X.env=[(false,eval a X.env),(false,eval b X.env)]:=by rfl)(hs2:starEach [b] X.env=[(false,eval b X.env)]:=by rfl) :
  QI X (.Tuple elts ek epos) (.Call (.Name "zip" p) [a,b] [] pos) (Oj X.K ta):=⟨by
 have hg:=(od hg).1;have ha:=ha.h;intro pins s U H R I h;refine Call_ (Vi I hg hm boot_zip (PyProof.Rows.callWith_type1 (thn (ha pos pins s U H _ I h) fun us s1 ⟨vs,H1,I1,r1,q1⟩=>?_) (by rw[hs,hs2]) (by rw[hs2];rfl)));obtain⟨l1,l2,e,q1⟩:=q1;subst e;obtain⟨u1,u2,rfl,ru1,ru2⟩:=DN r1;cases ru1;cases ru2;have fin:∀{sq:uFg->Hp->dN->List V->Prop}{Hs:dN->Heap->List dM->Prop}{S1 S2:Nat->Heap->Prop}{h':Heap},Ci sq Hs->l1<s1.heap.objs.size->l2<s1.heap.objs.size->Jg X.prog X.w s1.heap.objs.size l1 S1 (Hs l1)->Jg X.prog X.w (s1.heap.objs.size+1) l2 S2 (Hs l2)->
   IsZip h' (s1.heap.objs.size+4) (s1.heap.objs.size+2) (s1.heap.objs.size+3) .none->IsPair h' (s1.heap.objs.size+2) (.ref s1.heap.objs.size) (.ref (s1.heap.objs.size+1))->IsPair h' (s1.heap.objs.size+3) .none .none->S1 0 h'->S2 0 h'->(∀c o,s1.heap.get? c=some o->h'.get? c=some o)->R (B3 sq X.K l1 l2) H1 ->
   wpAny (model X.prog X.w) X.A (pyIter (.ref (s1.heap.objs.size+4))) (CB X pins U (.Tuple elts ek epos) R) X.xe {s1 with heap:=h' }:=by
  intro sq Hs S1 S2 h' SK b1 b2 D1 D2 z0 t1 t0 st1 st2 kp q;refine wpAny_pyIter_zip z0 ?_;refine⟨s1.heap.objs.size+4,_,_,_,H1,rfl,I1.kept (h':=h') (t':=s1.toks) kp,X8 SK (Pe b1 b2) D1 D2,⟨z0,t1,⟨_,_,t0⟩,st1,st2⟩,fun c hc=>?_,q⟩;have hle:s1.heap.objs.size<=c:=by
   simp only[xF,yE,or_false] at hc;have:(s1.heap.objs.size:Nat)<=(c:Nat):=by rcases hc with rfl | rfl | rfl | rfl | rfl<;>lia
   exact this
  exact I1.fpOk hle (I1.hok.fresh hle)
 rcases q1 with⟨xs,ys,h1,h2,q⟩ | ⟨xs,ys,h1,h2,q⟩
 ·obtain⟨its1,r1,p1,_⟩:=I1.list h1;obtain⟨its2,r2,p2,_⟩:=I1.list h2;have b1:l1<s1.heap.objs.size:=by obtain⟨o,n,e,_⟩:=p1;exact xH e
  have b2:l2<s1.heap.objs.size:=by obtain⟨o,n,e,_⟩:=p2;exact xH e
  exact call_zip_2 p1.isList p2.isList fun h' z0 t1 t0 st1 st2 _ kp=>fin SY b1 b2 (Ic _ _) (Ic _ _) z0 t1 t0 st1 st2 kp q
 ·obtain⟨its1,r1,p1,_⟩:=I1.tuple h1;obtain⟨its2,r2,p2,_⟩:=I1.tuple h2;have b1:l1<s1.heap.objs.size:=by obtain⟨o,e,_⟩:=p1;exact xH e
  have b2:l2<s1.heap.objs.size:=by obtain⟨o,e,_⟩:=p2;exact xH e
  exact OP p1 p2 fun h' z0 t1 t0 st1 st2 kp=>fin Oh b1 b2 (HI _ _) (HI _ _) z0 t1 t0 st1 st2 kp q⟩
theorem Gm{sq:uFg->Hp->dN->List V->Prop}{K:uFg}{l1 l2:dN}{g:TG}{tb:TS}{D:YK}{U:St}{H:Hp}(xs ys:aG)(hxy:xs.length=ys.length)(Pv:Nat->St->Hp->Prop)(h0:Pv 0 U H)(hl:∀i U H,i<=xs.length->Pv i U H->sq K H l1 xs/\sq K H l2 ys)(hs:∀i x y p U H,xs[i]?=some x->ys[i]?=some y->Pv i U H->H p=none->g (.ref p) U (upd H p (.tup [x,y])) fun σ2 H2=>tb {D with nx:=Pv (i+1),ct:=Pv (i+1),bk:=D.nx } σ2 H2)(hd:∀ U H,Pv xs.length U H->D.nx U H):Ad (B3 sq K l1 l2) g tb D U H:=by
 refine⟨fun i m U H=>m=xs.length - i/\i<=xs.length/\Pv i U H,⟨xs.length,by simp,xZ _,h0⟩,?_⟩;rintro i m U H ⟨rfl,hi,p⟩;obtain⟨q1,q2⟩:=hl i U H hi p
 by_cases hlt:i<xs.length
 ·refine .inr ⟨⟨xs,ys,q1,q2,hlt,by lia⟩,Pv (i+1),fun σ' H' p'=>⟨xs.length - (i+1),by lia,rfl,hlt,p'⟩,fun v H' y=>?_⟩;obtain⟨pp,a,b,rfl,hp,rfl,hv⟩:=y;obtain⟨e1,e2⟩:=hv xs ys q1 q2;exact hs i a b pp U H e1 e2 p hp
 ·have e:i=xs.length:=by lia
  subst e;exact .inl ⟨⟨xs,ys,q1,q2,.inl (xD _)⟩,hd U H p⟩
inductive D where
 | non | bl (b:Bool) | int (i:Int) | str (x:Str) | tup (xs:List D) | lst (xs:List D)
mutual
def YF(H:Hp):D->V->Prop
 | .non,v=>v=.non
 | .bl b,v=>v=.bl b
 | .int i,v=>v=.int i
 | .str x,v=>v=.str x
 | .tup ds,v=>∃a vs,v=.ref a/\H a=some (.tup vs)/\ZK H ds vs
 | .lst ds,v=>∃a vs,v=.ref a/\H a=some (.lst vs)/\ZK H ds vs
def ZK(H:Hp):List D->List V->Prop
 | [],vs=>vs=[]
 | d::ds,vs=>∃v r,vs=v::r/\YF H d v/\ZK H ds r
end
mutual
theorem YF.mono(k:ZC H H'):∀d v,YF H d v->YF H' d v
 | .non,v,h=>h
 | .bl b,v,h=>h
 | .int i,v,h=>h
 | .str x,v,h=>h
 | .tup ds,v,h=>by
  obtain⟨a,vs,e,h1,h2⟩:=h;exact⟨a,vs,e,k _ _ h1,ZK.mono k ds vs h2⟩
 | .lst ds,v,h=>by
  obtain⟨a,vs,e,h1,h2⟩:=h;exact⟨a,vs,e,k _ _ h1,ZK.mono k ds vs h2⟩
theorem ZK.mono(k:ZC H H'):∀ds vs,ZK H ds vs->ZK H' ds vs
 | [],vs,h=>h
 | d::ds,vs,h=>by
  obtain⟨v,r,e,h1,h2⟩:=h;exact⟨v,r,e,YF.mono k d v h1,ZK.mono k ds r h2⟩
end
theorem ZK.length:∀{ds:List D}{vs:aG},ZK H ds vs->vs.length=ds.length
 | [],vs,h=>by cases h;rfl
 | d::ds,vs,h=>by
  obtain⟨v,r,rfl,h1,h2⟩:=h;rw[xX,xX,ZK.length h2]
theorem ZK.get:∀{ds:List D}{vs:aG}{i:Nat}{v:V},ZK H ds vs->vs[i]?=some v->∃d,ds[i]?=some d/\YF H d v
 | [],vs,i,v,h,e=>by cases h;simp at e
 | d::ds,vs,i,v,h,e=>by
  obtain⟨w,r,rfl,h1,h2⟩:=h;cases i with
  | zero=>simp at e;subst e;exact⟨d,rfl,h1⟩
  | succ i=>simp at e;exact ZK.get (i:=i) h2 e
theorem ZK.snoc(hd:YF H d v):∀{ds:List D}{vs:aG},ZK H ds vs->ZK H (ds ++ [d]) (vs ++ [v])
 | [],vs,h=>by cases h;exact⟨v,[],rfl,hd,rfl⟩
 | e::ds,vs,h=>by
  obtain⟨w,r,rfl,h1,h2⟩:=h;exact⟨w,r ++ [v],rfl,h1,ZK.snoc hd h2⟩
mutual
def Ax:D->D->Bool
 | .non,.non=>true
 | .bl a,.bl b=>a==b
 | .int a,.int b=>a==b
 | .str a,.str b=>a==b
 | .tup a,.tup b=>B8 a b
 | .lst a,.lst b=>B8 a b
 | _,_=>false
def B8:List D->List D->Bool
 | [],[]=>true
 | a::r,b::s=>Ax a b&&B8 r s
 | _,_=>false
end
mutual
theorem Px:∀d:D,Ax d d=true
 | .non=>rfl
 | .bl _=>by simp[Ax]
 | .int _=>by simp[Ax]
 | .str _=>by simp[Ax]
 | .tup ds=>by rw[Ax];exact DD ds
 | .lst ds=>by rw[Ax];exact DD ds
theorem DD:∀ds:List D,B8 ds ds=true
 | []=>rfl
 | d::ds=>by rw[B8,Px d,DD ds];rfl
end
mutual
def D.deep:D->Nat
 | .tup ds=>V2 ds+1
 | .lst ds=>V2 ds+1
 | _=>0
def V2:List D->Nat
 | []=>0
 | d::ds=>max d.deep (V2 ds)
end
theorem Ey:∀{ds:List D}{i:Nat}{d:D},ds[i]?=some d->d.deep<=V2 ds
 | [],i,d,h=>by simp at h
 | e::ds,0,d,h=>by simp at h;subst h;rw[V2];lia
 | e::ds,i+1,d,h=>by
  simp at h;have:=Ey h;rw[V2];lia
def isI:D->String->Bool
 | .non,_=>false
 | .bl _,c=>c=="bool" || c=="int"
 | .int _,c=>c=="int"
 | .str _,c=>c=="str"
 | .tup _,c=>c=="tuple"
 | .lst _,c=>c=="list"
def KG:List String:=["bool","int","str","list","tuple"]
theorem isi{K:uFg}{H:Hp}{d:D}{v:V}(r:YF H d v)(c:String)(hc:c∈KG):∃t,YT K H v t/\PySem.W.kitOne K t (.type c)=some (isI d c):=by
 unfold KG at hc;simp only[xF,yE,or_false] at hc;cases d with
 | non=>cases r;refine⟨_,.non,?_⟩;rcases hc with rfl | rfl | rfl | rfl | rfl<;>rfl
 | bl b=>cases r;refine⟨_,.bl b,?_⟩;rcases hc with rfl | rfl | rfl | rfl | rfl<;>rfl
 | int i=>cases r;refine⟨_,.int i,?_⟩;rcases hc with rfl | rfl | rfl | rfl | rfl<;>rfl
 | str x=>cases r;refine⟨_,.str x,?_⟩;rcases hc with rfl | rfl | rfl | rfl | rfl<;>rfl
 | tup ds=>obtain⟨a,vs,rfl,h1,h2⟩:=r;refine⟨_,.tup h1,?_⟩;rcases hc with rfl | rfl | rfl | rfl | rfl<;>rfl
 | lst ds=>obtain⟨a,vs,rfl,h1,h2⟩:=r;refine⟨_,.lst h1,?_⟩;rcases hc with rfl | rfl | rfl | rfl | rfl<;>rfl
theorem YF.none_iff(r:YF H d v):decide (v=.non)=(match d with | .non=>true | _=>false):=by
 cases d with
 | non=>cases r;rfl
 | bl b=>cases r;rfl
 | int i=>cases r;rfl
 | str x=>cases r;rfl
 | tup ds=>obtain⟨a,vs,rfl,h1,h2⟩:=r;rfl
 | lst ds=>obtain⟨a,vs,rfl,h1,h2⟩:=r;rfl
theorem YF.mono'(h:YF H d v)(k:ZC H H'):YF H' d v:=YF.mono k d v h
theorem ZK.mono'(h:ZK H ds vs)(k:ZC H H'):ZK H' ds vs:=ZK.mono k ds vs h
def CV(lo:Int)(n:Nat):It:=⟨fun i _=>i<n,fun i H x H'=>H'=H/\x=.int (lo - i),fun i _=>n<=i⟩
theorem Rz{P:dO}{w:dP}{K:uFg}{tg:Expr}(it:dN)(lo:Int)(n:Nat):WZ P w K tg (CV lo n) [it] it (fun i h=>IsRangeIter h it (lo+(i:Nat) * (-1)) ((n:Int) - (i:Nat)) (-1)) where
 mem:=by simp
 obj:=fun i h st b hb=>by grind
 keep:=fun i h h' st k=>k it (by simp) _ st
 item:=by
  intro X hP hw hK hc i pins s U H E I hf st hg;subst hP hw hK;obtain⟨f0,f1,f2,f3,f4,f5⟩:=hf it (by simp);have W:=Walks.range (prog:=X.prog) (w:=X.w) (I.ok.hd hc) it lo (-1) n;refine W.item i s _ _ hg st fun v h' tk hv st' kk=>?_;obtain⟨t,rfl⟩:=hv;have I1:ZE X pins U H {s with heap:=h',toks:=tk }:=I.turned (fun b o hb e=>kk b o (by simpa using hb) e) f0 f1 f3 f4 f5;refine⟨_,rfl,Ba (s:={s with heap:=h',toks:=tk }) (n:="range_iterator") st' rfl rfl aA ⟨.int (lo - i),H,I1,⟨t,?_⟩,⟨rfl,rfl⟩,st',fun b hb=>(hf b hb).1⟩⟩;have e:lo+(i:Int) * (-1)=lo - i:=by lia
  rw[e]
 done:=by
  intro X hP hw hK hc i pins s U H E I hf st hg;subst hP hw hK;obtain⟨f0,f1,f2,f3,f4,f5⟩:=hf it (by simp);exact wpAny_pyNext_range_end (I.ok.hd hc) st (by have:n<=i:=hg;lia) fun h' eb=>⟨rfl,I.turned (t':=s.toks) (fun b o hb e=>eb b o hb e) f0 f1 f3 f4 f5⟩
 self:=fun _ _ _ _ _ st h=>wpAny_pyIter_rangeiter st h
section
variable{X:Cx}{tg:Expr}
theorem LP{pins:List (dN×Obj)}{U:St}{H:Hp}{s:dJ}{R:It->Hp->Prop}{E:dD}{lo hi:Int}{t u v:Tok}{tk:Nat}(I:ZE X pins U H s)(h1 : -(2^62)<=lo)(h2:lo<2^62)(h3 : -(2^62)<=hi)(h4:hi<2^62)(q:R (CV lo (lo - hi).toNat) H):wpAny (model X.prog X.w) X.A (pyIter (.ref s.heap.objs.size)) (CB X pins U tg R) E {s with heap:=s.heap.push {cls:=.type "range", data:=.fields #[.int lo t,.int hi u,.int (-1) v] },toks:=tk }:=by
 refine wpAny_pyIter_range (IsRange.new ..) (PySem.W.small_down h1 h2 h3 h4) ?_;have I1:ZE X pins U H {s with heap:=s.heap.push {cls:=.type "range", data:=.fields #[.int lo t,.int hi u,.int (-1) v] },toks:=tk }:=I.kept fun b o e=>xA _ e;refine⟨(s.heap.push {cls:=.type "range", data:=.fields #[.int lo t,.int hi u,.int (-1) v] }).objs.size,[(s.heap.push {cls:=.type "range", data:=.fields #[.int lo t,.int hi u,.int (-1) v] }).objs.size],_,_,H,rfl, I1.kept (t':=tk) fun b o e=>xA _ e,Rz _ lo (lo - hi).toNat,?_,fun b hb=>?_,q⟩
 ·have e1:lo+((0:Nat):Int) * (-1)=lo:=by simp
  have e2:(((lo - hi).toNat:Nat):Int) - ((0:Nat):Int)=Builtin.Range.rangeSize lo hi (-1):=by rw[PySem.W.rangeSize_downNat];lia
  show IsRangeIter _ _ (lo+((0:Nat):Int) * (-1)) ((((lo - hi).toNat:Nat):Int) - ((0:Nat):Int)) (-1);rw[e1,e2];exact xG _ rfl
 ·have e:b=(s.heap.push {cls:=.type "range", data:=.fields #[.int lo t,.int hi u,.int (-1) v] }).objs.size:=by simpa using hb
  subst e;exact I1.fpOk (xD _) (I1.hok.fresh (xD _))
inductive A9(R:It->Hp->Prop)(vs:aG)(H1:Hp):Prop
 |mk(i j)(_:vs=[.int i,.int j,.int (-1)])(_:(-(2^62)<=i/\i<2^62 /\ -(2^62)<=j/\j<2^62))(_:R (CV i (i - j).toNat) H1)
def XI(ta:TA):TI:=fun U H R=>ta U H fun vs H1=>A9 R vs H1
theorem SR{a b c:Expr}{ta:TA}{p pos:Pos}(hm:X.mg "range"=none)(ha:QA X [a,b,c] ta)(hg:nB X "range" .globalImplicit:=by kernel_rfl)(hs:starEach [a,b,c] X.env=(false,eval a X.env)::starEach [b,c] X.env:=by rfl)(hs2:(backTo pos (starEach [b,c] X.env)).any (·.1)=false:=by rfl) :
  QI X tg (.Call (.Name "range" p) [a,b,c] [] pos) (XI ta):=⟨by
 have hg:=(od hg).1;have ha:=ha.h;intro pins s U H R I h;refine Call_ (Vi I hg hm boot_range (PyProof.Rows.callWith_type1 (thn (ha pos pins s U H _ I h) fun us s1 ⟨vs,H1,I1,r1,q1⟩=>?_) hs hs2));obtain⟨i,j,e,⟨q1,q2,q3,q4⟩,q⟩:=q1;subst e;cases r1 with
 | cons r rr =>
  cases rr with
  | cons r' rr =>
   cases rr with
   | cons r'' rr =>
    cases rr;obtain⟨t,rfl⟩:=r;obtain⟨t',rfl⟩:=r';obtain⟨t'',rfl⟩:=r''
    exact call_range_3 aA (LP I1 q1 q2 q3 q4 q) (.inl (PyProof.noPylong_small aA))⟩
end
section
variable{g:TG}{tb:TS}{D:YK}{U:St}{H:Hp}
theorem L8{lo:Int}{n:Nat}(m:Nat)(hm:n=m)(Pv:Nat->St->Hp->Prop)(h0:Pv 0 U H)(hs:∀i U H,i<m->Pv i U H->g (.int (lo - i)) U H fun σ2 H2=>tb {D with nx:=Pv (i+1),ct:=Pv (i+1),bk:=D.nx } σ2 H2)(hd:∀ U H,Pv m U H->D.nx U H):Ad (CV lo n) g tb D U H:=by
 subst hm;refine⟨fun i k U H=>k=n - i/\i<=n/\Pv i U H,⟨n,rfl,xZ _,h0⟩,?_⟩;rintro i k U H ⟨rfl,hi,p⟩
 by_cases e:i<n
 ·refine .inr ⟨e,Pv (i+1),fun σ' H' p'=>⟨n - (i+1),by lia,rfl,by lia,p'⟩,?_⟩;rintro x H' ⟨rfl,rfl⟩;exact hs i U H' e p
 ·have:i=n:=by lia
  subst this;exact .inl ⟨xD _,hd U H p⟩
end
section
variable{o:Expr}
inductive VO(y x:V)(H:Hp)(Q:VK):Prop
 |mk(a o)(_:x=.ref a)(_:YA H a y o)(_:Q (.bl (!o.isSome)) H)
inductive B5(y x:V)(H:Hp)(Q:VK):Prop
 |mk(a o)(_:x=.ref a)(_:YA H a y o)(_:Q (.bl o.isSome) H)
theorem Fp(hu:X.A.units+1<cLine):Jn X (compareOp .NotIn) VO:=by
 intro pins s U H y x iv u Q I ry rx ⟨a,ov,ex,g,q⟩;subst ex;obtain rfl:u=Value.ref a:=rx;exact L4 hu I g ry fun s3 I3=>⟨.bl (!ov.isSome),H,I3,rfl,q⟩
theorem MY(hu:X.A.units+1<cLine):Jn X (compareOp .In) B5:=by
 intro pins s U H y x iv u Q I ry rx ⟨a,ov,ex,g,q⟩;subst ex;obtain rfl:u=Value.ref a:=rx;exact RB hu I g ry fun s3 I3=>⟨.bl ov.isSome,H,I3,rfl,q⟩
theorem Lp(hr:ZN k X.A):YS X (compareOp .NotIn) VO:=⟨Fp (by have:=hr.units;lia)⟩
theorem Bn(hr:ZN k X.A):YS X (compareOp .In) B5:=⟨MY (by have:=hr.units;lia)⟩
theorem EY:QE X (.Dict [] [] pos) QJ:=⟨fun pins s U H Q I h => wpAny_Dict_empty ⟨.ref s.heap.objs.size,_,I.laid (a:=s.heap.objs.size) (o:=.dT []) (t':=s.toks) (fun _ _ q=>xA _ q) (xD _) (OF s.heap I.big),rfl,h _ (I.hok.fresh (xD _))⟩⟩
theorem J9(hr:ZN k X.A)(ho:QE X o td)(hi:QE X i ty)(hv:QE X value tv)(hs:swapsWith value (some (.Subscript o i pos')) pos.line X.env=pure false:=by rfl) :
  QS X (.Assign [.Subscript o i pos'] value pos) (GV td ty tv):=⟨OD (by have:=hr.units;lia) ho.h hi.h hv.h hs⟩
end
def AU(H:Hp)(c:Int)(n:Str):dM->Bool
 | .ref a=>match H a with
  | some (.tup [.int c',.str n'])=>decide ((c',n')=(c,n))
  | _=>false
 | _=>false
def V3(H:Hp):List (Int×Str)->List V->Prop
 | [],vs=>vs=[]
 | p::r,vs=>∃a vs',vs=.ref a::vs'/\H a=some (.tup [.int p.1,.str p.2])/\V3 H r vs'
theorem NG{pins:List (dN×Obj)}{U:St}{H:Hp}{s:dJ}{A:dQ}{a b:dN}{c c':Int}{n n':Str}(I:ZE X pins U H s)(hu:A.units<cLine)(ha:H a=some (.tup [.int c,.str n]))(hb:H b=some (.tup [.int c',.str n'])) :
  SeqAt.EqAt A s (.ref a) (.ref b) (decide ((c,n)=(c',n'))):=by
 by_cases e:a=b
 ·subst e;rw[ha] at hb;injection hb with hb
  injection hb with hb
  injection hb with h1 hb
  injection hb with h2 _
  injection h1 with h1
  injection h2 with h2
  rw[h1,h2,xN rfl];exact SeqAt.EqAt.same _
 ·obtain⟨xs,rx,px,_⟩:=I.tuple (ZP.of ha);obtain⟨ys,ry,py,_⟩:=I.tuple (ZP.of hb);cases rx with
  | cons r1 rx=>cases rx with
   | cons r2 rx =>
    cases rx;cases ry with
    | cons q1 ry=>cases ry with
     | cons q2 ry =>
      cases ry;obtain⟨t1,rfl⟩:=r1;obtain⟨t2,rfl⟩:=r2;obtain⟨t3,rfl⟩:=q1;obtain⟨t4,rfl⟩:=q2
      have h:=SeqAt.RcAt.tuples (A:=A) (e:=fun j=>if j=0 then c==c' else n==n') (show s.heap.IsTuple a _ from px) (show s.heap.IsTuple b _ from py) hu (fun j h1 h2=>by
       have hj:j<2:=by simpa using h1
       match j,hj with
       | 0,_=>exact SeqAt.EqAt.int_int _ _ _ _
       | 1,_=>exact SeqAt.EqAt.str_str _ _ _ _)
      have e2:((List.range (min ([Value.int c t1,Value.str n t2]:dG).toArray.size ([Value.int c' t3,Value.str n' t4]:dG).toArray.size)).all (fun j=>if j=0 then c==c' else n==n')&&([Value.int c t1,Value.str n t2]:dG).toArray.size==([Value.int c' t3,Value.str n' t4]:dG).toArray.size)=decide ((c,n)=(c',n')):=by
       show ((List.range 2).all (fun j=>if j=0 then c==c' else n==n')&&true)=_;rw[Bool.and_true];show ((c==c')&&((n==n')&&true))=_;rw[Bool.and_true,zE,wA,zS,Prod.mk.injEq,beq_iff_eq,beq_iff_eq]
      rw[e2] at h;exact SeqAt.EqAt.of_refs e h
theorem GZ{pins:List (dN×Obj)}{U:St}{H:Hp}{s:dJ}{A:dQ}{b:dN}{c:Int}{n:Str}(I:ZE X pins U H s)(hu:A.units<cLine)(hb:H b=some (.tup [.int c,.str n])) :
  ∀{ps:List (Int×Str)}{vs:aG}{us:dG},V3 H ps vs->ZH vs us->(∀u∈us,SeqAt.EqAt A s u (.ref b) (AU H c n u))/\us.any (AU H c n)=decide ((c,n)∈ps)
 | [],vs,us,h,r=>by
  cases h;cases r;exact⟨(fun u hu=>nomatch hu),(by simp)⟩
 | p::ps,vs,us,⟨a,vs',e,h1,h2⟩,r=>by
  subst e;cases r with
  | cons r1 r2 =>
   rename_i u0 us';obtain rfl:u0=Value.ref a:=r1;obtain⟨g1,g2⟩:=GZ I hu hb h2 r2;have e:AU H c n (.ref a)=decide ((p.1,p.2)=(c,n)):=by
    show (match H a with | some (.tup [.int c',.str n'])=>decide ((c',n')=(c,n)) | _=>false)=_;rw[h1]
   refine⟨fun u hm=>?_,?_⟩
   ·rcases xF.mp hm with rfl | hm
    ·rw[e];exact NG I hu h1 hb
    ·exact g1 u hm
   ·grind
section
variable{prog:dO}{w:dP}{K:Type} [DecidableEq K] {knd:HeapKind prog w K}{A:dQ}{E:dD}{s:dJ}
theorem Rg{d a:dN}{xs:List (K×dN×dM)}{k:K}{v:dM}{Q:dD}(hu:knd.room A)(hkey:knd.is s.heap k a)(hm:s.heap.DictOfH knd d xs)(h1:∀p,atKey xs k=some p->Q p.2 {s with toks:=s.toks+knd.draws k })(h2:atKey xs k=none->∀h',h'.DictOfH knd d (storedH xs k a v)->Heap.SameBut d s.heap h'->Q v {s with heap:=h',toks:=s.toks+knd.draws k })(hsz:xs.length<=sizeLine):wpAny (model prog w) A (dictSetDefault d (.ref a) v) Q E s:=by
 obtain⟨o,es,ep,ho,hc,hd,he,his,hn⟩:=hm;unfold dictSetDefault
 try with_reducible refine wpAny_holding ?_
 refine wpAny_bind (knd.pyHash hu hkey ?_);refine wpAny_bind (wpAny_dictFind_heap (s:={s with toks:=s.toks+knd.draws k }) hu hkey ho hd he his hn ?_ ?_)
 ·intro hno;have hnot:k∉xs.map (·.1):=not_mem_keys_of_get hno
  refine wpAny_bind (wpAny_rule (wpAny_bind (wpAny_updateDictKeys (hz:=by have e:=size_of_entries he;lia) (s:={s with toks:=s.toks+knd.draws k }) ho hd (wpAny_pure (h2 (atKey_none_of_get hno) _ ⟨_,_,ep+1,zH _ ho (Obj.isFreed_of_dict (Obj.data_mapDictKeys hd _)),
   hc.mapDictKeys _,Obj.data_mapDictKeys hd _,?_,?_,?_⟩ (Heap.SameBut.update ..))))))
  ·rw[storedH_new (atKey_none_of_get hno)];simp[he,entryOfKey]
  ·rw[storedH_new (atKey_none_of_get hno)];intro x hx;rcases xR.mp hx with hx | hx
   ·exact knd.keeps (his x hx) ho hd (Heap.SameBut.update ..)
   ·simp only[xQ] at hx;subst hx;exact knd.keeps hkey ho hd (Heap.SameBut.update ..)
  ·rw[storedH_new (atKey_none_of_get hno)];rw[xP,List.nodup_append];refine⟨hn,by simp,?_⟩;intro x hx y hy;simp only[yF,List.map_nil,xQ] at hy;subst hy;exact fun e=>hnot (e▸hx)
 ·intro j p hj;refine wpAny_bind (wpAny_dictEntries (s:={s with toks:=s.toks+knd.draws k }) ho hd ?_);rw[entry_at he j,hj];exact wpAny_bind (wpAny_rule (wpAny_pure (h1 _ (atKey_of_get hn hj))))
theorem bV(knd:HeapKind prog w K)(d a:dN)(hd:(d==sysModules)=false)(dflt:dM) :
  MeetsIn prog w (Builtin.«dict.setdefault» ⟨[.ref d,.ref a,dflt],[]⟩) (fun A R s=>knd.room A.in1/\∃k xs,knd.is s.heap k a/\s.heap.DictOfH knd d xs/\xs.length<=sizeLine /\ (∀p,atKey xs k=some p->R (.ok (.ret p.2)) {s with toks:=s.toks+knd.draws k })/\ (atKey xs k=none->∀h',h'.DictOfH knd d (storedH xs k a dflt)->Heap.SameBut d s.heap h'->R (.ok (.ret dflt)) {s with heap:=h',toks:=s.toks+knd.draws k })) :=
 .of_wp fun A R s ⟨hu,k,xs,hkey,hm,hz,h1,h2⟩=>by
  unfold Builtin.«dict.setdefault»;refine wpAny_bind ?_;unfold Builtin.Dict.keyAndDefault;refine wpAny_bind (wpAny_notOrdered_dict hm.typeIs ?_);show wpAny _ _ (pure (d,Value.ref a,some dflt)) _ _ s;refine wpAny_pure ?_;show wpAny _ _ (if (d==sysModules)=true then _ else (dictSetDefault d (.ref a) dflt >>= _)) _ _ s;rw[if_neg (by rw[hd];exact xI)];exact wpAny_bind (Rg hu hkey hm (fun p hp=>wpAny_pure ⟨p.2,rfl,h1 p hp⟩) (fun hn h' hm' hs'=>wpAny_pure ⟨dflt,rfl,h2 hn h' hm' hs'⟩) hz)
end
section
variable{X:Cx}{pins:List (dN×Obj)}{U:St}{H:Hp}{s:dJ}{a b:dN}{z:V}{r:dM}{kvs:List (List ZM×V)}{k:List ZM}{A:dQ}{E:dD}
theorem PJ{Q:dD}(hu:A.units+1<cLine)(I:ZE X pins U H s)(e:H a=some (.dT kvs))(eb:H b=some (.tup (k.map kV)))(hl:kvs.length<sizeLine)(rz:ZF z r)(h1:∀v,Zr kvs k=some v->∀w' s',ZE X pins U H s'->ZF v w'->Q w' s')(h2:Zr kvs k=none->∀s',ZE X pins U (upd H a (.dT (Z2 kvs k z))) s'->Q r s'):wpAny (model X.prog X.w) A (call (.builtin "dict.setdefault") [.ref a,.ref b,r]) Q E s:=by
 obtain⟨zl,hd,xs,rel,dd⟩:=Ld I.hok e;have hz:xs.length<=sizeLine:=by rw[← Paired.length rel];exact zl
 have hl':(Z2 kvs k z).length<=sizeLine:=by have:=Vw kvs k z;lia
 refine call_meetsIn PySem.F.slot_dict_setdefault dd.typeIs PySem.F.entry_dict_setdefault (PySem.F.args_dict_setdefault_3 _ _ _) (bV (tupleKind (Yx X.prog X.w)) a b hd r) ⟨tupleKind_room_in1 hu,k,xs,Ar I.hok eb,dd,hz,fun p hp=>?_,fun hn h' dd' hs=>?_⟩
 ·have q:=rel.val k;rw[hp,zV] at q;cases hv:Zr kvs k with
  | none=>rw[hv] at q;cases q
  | some v=>rw[hv] at q;exact h1 v hv _ _ (I.tok _) q
 ·have q:=rel.val k;rw[hn,Option.map_none] at q;have hv:Zr kvs k=none:=by
   cases hv:Zr kvs k with
   | none=>rfl
   | some v=>rw[hv] at q;exact(show False from q).elim
  refine h2 hv _ ?_;obtain⟨q,es,ep,hq,e2,e3,e4,_,e5⟩:=dd';refine C7 I (by rw[e];exact True.intro) hs ⟨q,hq⟩ ⟨hl',hd,_,(rel.put k eb rz).keeps fun c ys ec=>?_,q,es,ep,hq,e2,e3,e4,e5⟩;rw[Zc (GF ec e (fun z=>nomatch z))];exact ec
end
inductive Jf(ty tx:TE)(U:St)(Q:VK)(x:V)(H1:Hp):Prop
 |mk(a)(_:x=.ref a)(_:Dw H1 a)(_:ty U H1 fun y H2=>tx U H2 fun z H3=>∃kvs k b,H3 a=some (.dT kvs)/\y=.ref b/\H3 b=some (.tup (k.map kV))/\kvs.length<sizeLine/\(∀v,Zr kvs k=some v->Q v H3)/\(Zr kvs k=none->Q z (upd H3 a (.dT (Z2 kvs k z)))))
def Hd(td ty tx:TE):TE:=fun U H Q=>td U H fun x H1=>Jf ty tx U Q x H1
section
variable{n:Nat}
theorem bR(hu:X.A.units+1<cLine)(ho:PE X o td)(he:PE X e ty)(hf:PE X f tx)(m:M2 X o "setdefault" apos e f cpos):PE X (.Call (.Attribute o "setdefault" apos) [e,f] [] cpos) (Hd td ty tx):=by
 intro pins s U H Q I h;refine wpAny_Call_method m.base m.few m.line PySem.F.plainAttrs_dict PySem.F.slot_dict_setdefault PySem.F.type_dict_setdefault (thn (ho pins s U H _ I h) fun u s1 ⟨x,H1,I1,rx,a,ex,d,q1⟩=>?_);subst ex;obtain rfl:u=Value.ref a:=rx;obtain⟨t1,t2,_⟩:=Lw I1 d;refine⟨t1,t2,?_⟩;rw[m.trees];refine Calls.callWith_builtin rfl (Calls.evalArgs_plain (Calls.spliced_cons (thn (he pins s1 U H1 _ I1 q1) fun iv s2 ⟨y,H2,I2,ry,q2⟩=> Calls.spliced_cons (thn (hf pins s2 U H2 _ I2 q2) fun fv s3 ⟨z,H3,I3,rz,kvs,k,b,ea,ey,eb,hl,q3,q4⟩=>Calls.spliced_nil ?_))));subst ey;obtain rfl:iv=Value.ref b:=ry;exact PJ hu I3 ea eb hl rz (fun v hv w' s4 I4 rw'=>⟨_,_,I4,rw',q3 v hv⟩) fun hn s4 I4=>⟨_,_,I4,rz,q4 hn⟩
theorem LD(hr:ZN n X.A)(ho:QE X o td)(he:QE X e ty)(hf:QE X f tx)(m:M2 X o "setdefault" apos e f cpos:=by exact⟨rfl,rfl,rfl,rfl⟩):QE X (.Call (.Attribute o "setdefault" apos) [e,f] [] cpos) (Hd td ty tx):=⟨bR (by have:=hr.units;lia) ho.h he.h hf.h m⟩
theorem Cj(hr:ZN n X.A)(ho:QE X o td)(he:QE X e ty)(hf:QE X f tx)(m:M2 X o "get" apos e f cpos:=by exact⟨rfl,rfl,rfl,rfl⟩):QE X (.Call (.Attribute o "get" apos) [e,f] [] cpos) (Fu td ty tx):=⟨P7 (by have:=hr.units;lia) ho.h he.h hf.h m⟩
end
theorem Yn{X:Cx}{st:Stmt}:QS X st (fun _ _ _=>False):=⟨fun _ _ _ _ _ _ h=>h.elim⟩
def Dq(K:uFg)(l:dN):It :=
 ⟨fun i H=>∃xs,ZG K H l xs/\i<xs.length,fun i H v H'=>∃p a,v=.ref p/\H p=none/\H'=upd H p (.tup [.int i,a])/\∀xs,ZG K H l xs->xs[i]?=some a,
  fun i H=>∃xs,ZG K H l xs/\xs.length<=i⟩
theorem Nb{P:dO}{w:dP}{K:uFg}{elts:List Expr}{ek:Nat}{epos:Pos}{e it l:dN}(hei:e≠it)(hle:l≠e)(hli:l≠it) :
  WZ P w K (.Tuple elts ek epos) (Dq K l) [e,it] e (fun i h=>(∃old,IsEnum h e it i old)/\h.IsListIter it l i) where
 mem:=by simp
 obj:=fun i h st b hb=>by
  obtain⟨⟨old,he⟩,⟨o,ho,hc,hd⟩⟩:=st;simp only[xF,yE,or_false] at hb;rcases hb with rfl | rfl
  ·exact⟨_,he,fun v q=>by cases q⟩
  ·exact⟨o,ho,fun v q=>by rw[hd] at q;cases q⟩
 keep:=fun i h h' st k=>by
  obtain⟨⟨old,he⟩,hit⟩:=st;exact⟨⟨old,k e (by simp) _ he⟩,hit.at fun o x=>k it (by simp) o x⟩
 item:=by
  intro X hP hw hK hc i pins s U H E I hf st hg;subst hP hw hK;obtain⟨⟨old,he⟩,hit⟩:=st;obtain⟨xs,q1,hx⟩:=hg;obtain⟨its,r1,w1,_⟩:=I.list q1;have gx:xs[i]?=some xs[i]:=xC hx;obtain⟨u1,hu1,ru1⟩:=r1.get gx;refine wpAny_pyNext_enum_item he hit w1.isList (by simpa using hu1) hei fun h' ho hit' hT hsz kp=>?_;refine⟨_,rfl,?_⟩;have hp:H s.heap.objs.size=none:=I.hok.fresh (xD _);have ltp:∀c o,s.heap.get? c=some o->c≠s.heap.objs.size:=fun c o e=>xY (xH e);have kp':∀c o,c ∉ [e,it]->s.heap.get? c=some o->h'.get? c=some o:=fun c o hc e=>kp c o (fun q=>hc (by simp[q])) (fun q=>hc (by simp[q])) e;have ntr:∀c u,H c=some u->c ∉ [e,it]:=fun c u e hc=>by
   have:=(hf c hc).1;rw[this] at e;cases e
  have I1:ZE X pins U (upd H s.heap.objs.size (.tup [.int i,xs[i]])) {s with heap:=h',toks:=s.toks+1 }:=by
   refine I.step (g':=s.gens) (d':=s.drawn) (t':=s.toks+1) (ch:=[e,it]) (fun c hc=>?_) (fun c o _ _ hc e _=>kp' c o hc e) (fun c o _ _ hc e _=>⟨o.slots,kp' c o hc e⟩) (fun c o hc e n=>by rw[Zc (ltp c o e)];exact n)
    (fun c o hc e=>⟨o,kp' c o hc e⟩) (fun c us e=>by rw[Zc (Zi e hp)];exact e) (fun c o u e=>by rw[Zc (Zi e hp)];exact e) (fun c ps e=>⟨#[],by rw[Zc (Zi e hp),e];simp⟩) (fun m hm=>?_) ?_ I.bare
   ·obtain⟨f0,f1,f2,f3,f4,f5⟩:=hf c hc;exact⟨f3,f1,f4,f5⟩
   ·refine hm.at fun o e=>kp' _ o (fun hc=>?_) e;exact(hf _ hc).2.1 rfl
   ·intro c u e
    by_cases hcp:c=s.heap.objs.size
    ·subst hcp;rw[Zg] at e;cases e;exact⟨aB rfl,[.int i s.toks,u1],.cons ⟨s.toks,rfl⟩ (.cons ru1 .nil),⟨_,hT,rfl,_,rfl⟩⟩
    ·rw[Zc hcp] at e;refine(I.hok c u e).stay (fun d v hd q=>kp' d v ?_ q) (fun d q=>by rw[Zc (Zi q hp)];exact q) fun d us q=>by rw[Zc (Zi q hp)];exact q
     rcases hd with rfl | hd
     ·exact ntr _ u e
     ·exact ntr _ _ hd
  refine wpAny_letOwnedTupleGo_enum (s:={s with heap:=h',toks:=s.toks+1 }) ho fun h2 z2 e2=>?_;obtain⟨f0,f1,f2,f3,f4,f5⟩:=hf e (by simp);have nz:e≠s.heap.objs.size:=ltp e _ he;have I2:ZE X pins U (upd H s.heap.objs.size (.tup [.int i,xs[i]])) {s with heap:=h2,toks:=s.toks+1 }:=I1.turned (s:={s with heap:=h',toks:=s.toks+1 }) (it:=e) (t':=s.toks+1) (fun c o hc e=>(e2.2 c hc).trans e) (by rw[Zc nz];exact f0) f1 f3 f4 f5;have z2':IsEnum h2 e it ((i+1:Nat):Int) u1:=by grind
  refine⟨.ref s.heap.objs.size,_,I2,rfl,⟨s.heap.objs.size,xs[i],rfl,hp,rfl,fun xs' q1'=>?_⟩,⟨⟨_,z2'⟩,hit'.at fun o x=>(e2.2 it hei.symm).trans x⟩,fun c hc=>?_⟩
  ·rw[I.list_inj q1' q1];exact gx
  ·obtain⟨o,ho⟩:∃o,s.heap.get? c=some o:=by
    simp only[xF,yE,or_false] at hc;rcases hc with rfl | rfl
    ·exact⟨_,he⟩
    ·obtain⟨o,x,_⟩:=hit;exact⟨o,x⟩
   rw[Zc (ltp c o ho)];exact(hf c hc).1
 done:=by
  intro X hP hw hK hc i pins s U H E I hf st hg;subst hP hw hK;obtain⟨⟨old,he⟩,hit⟩:=st;obtain⟨xs,q1,hend⟩:=hg;obtain⟨its,r1,w1,_⟩:=I.list q1;refine wpAny_pyNext_enum_end (I.ok.hd hc) he hit w1.isList (by have e1:=r1.length;simp;lia) fun h' kp=>⟨rfl,?_⟩;obtain⟨f0,f1,f2,f3,f4,f5⟩:=hf it (by simp);exact I.turned (it:=it) (t':=s.toks) (fun c o hc e=>kp c o hc e) f0 f1 f3 f4 f5
 self:=fun A i s Q E st h=>by
  obtain⟨⟨old,he⟩,_⟩:=st;exact wpAny_pyIter_enum he h
inductive A0(K:uFg)(R:It->Hp->Prop)(vs:aG)(H1:Hp):Prop
 |mk(l xs)(_:vs=[.ref l])(_:ZG K H1 l xs)(_:R (Dq K l) H1)
def cI(K:uFg)(ta:TA):TI:=fun U H R=>ta U H fun vs H1=>A0 K R vs H1
theorem MM:bootBuiltins "enumerate"=some (.type "enumerate"):=aA
theorem Dz{X:Cx}{a:Expr}{ta:TA}{p pos:Pos}{elts:List Expr}{ek:Nat}{epos:Pos}(hm:X.mg "enumerate"=none)(ha:QA X [a] ta)(hg:nB X "enumerate" .globalImplicit:=by kernel_rfl)(hs:starEach [a] X.env=[(false,eval a X.env)]:=by rfl) :
  QI X (.Tuple elts ek epos) (.Call (.Name "enumerate" p) [a] [] pos) (cI X.K ta):=⟨by
 have hg:=(od hg).1;have ha:=ha.h;intro pins s U H R I h;refine Call_ (Vi I hg hm MM (PyProof.Rows.callWith_type1 (thn (ha pos pins s U H _ I h) fun us s1 ⟨vs,H1,I1,r1,q1⟩=>?_) hs rfl));obtain⟨l,xs,e,h1,q⟩:=q1;subst e;obtain⟨u1,rfl,ru1⟩:=Vg r1;cases ru1;obtain⟨its,r1,p1,_⟩:=I1.list h1;have b1:l<s1.heap.objs.size:=by obtain⟨o,n,e,_⟩:=p1;exact xH e
 refine call_enumerate_list p1.isList fun h' z0 st1 _ kp=>?_;refine wpAny_pyIter_enum z0 ?_;have b1' : @LT.lt Nat _ l s1.heap.objs.size:=b1;have key:∀(a b:Nat),(a<b\/b<a)->¬(@Eq Nat a b):=fun a b h q=>by lia
 refine⟨s1.heap.objs.size+1,_,_,_,H1,rfl,I1.kept (h':=h') (t':=s1.toks) kp,Nb (it:=s1.heap.objs.size) (l:=l) (key _ _ (by lia)) (key _ _ (by lia)) (key _ _ (by lia)),⟨⟨_,z0⟩,st1⟩,fun c hc=>?_,q⟩;have hle:s1.heap.objs.size<=c:=by grind
 exact I1.fpOk hle (I1.hok.fresh hle)⟩
theorem K7{K:uFg}{l:dN}{g:TG}{tb:TS}{D:YK}{U:St}{H:Hp}(xs:aG)(Pv:Nat->St->Hp->Prop)(h0:Pv 0 U H)(hl:∀i U H,i<=xs.length->Pv i U H->ZG K H l xs)(hs:∀i x p U H,xs[i]?=some x->Pv i U H->H p=none->g (.ref p) U (upd H p (.tup [.int i,x])) fun σ2 H2=>tb {D with nx:=Pv (i+1),ct:=Pv (i+1),bk:=D.nx } σ2 H2)(hd:∀ U H,Pv xs.length U H->D.nx U H):Ad (Dq K l) g tb D U H:=by
 refine⟨fun i m U H=>m=xs.length - i/\i<=xs.length/\Pv i U H,⟨xs.length,by simp,xZ _,h0⟩,?_⟩;rintro i m U H ⟨rfl,hi,p⟩;have q1:=hl i U H hi p
 by_cases hlt:i<xs.length
 ·refine .inr ⟨⟨xs,q1,hlt⟩,Pv (i+1),fun σ' H' p'=>⟨xs.length - (i+1),by lia,rfl,hlt,p'⟩,fun v H' y=>?_⟩;obtain⟨pp,a,rfl,hp,rfl,hv⟩:=y;exact hs i a pp U H (hv xs q1) p hp
 ·have e:i=xs.length:=by lia
  subst e;exact .inl ⟨⟨xs,q1,xD _⟩,hd U H p⟩
structure ZU (K:uFg) (C:dN) (m qual:Str) (st:Stmt):Prop where
 ex:∃(f:dN)(fd:FuncData),Jh K m qual st f fd/\Jd K C m f
structure Mt (P:dO) (w:dP) (K:uFg) (mg:dE) (base:Heap) (C:dN) (m:Str) (ps:dF) (k:Nat) (sp:Sp):Prop where
 ex:∃(f:dN)(fd:FuncData),Jd K C m f/\YG P w K mg base YY k f fd ps sp/\YL K fd ps []
section
variable{P:dO}{w:dP}{K:uFg}{mg:dE}{base:Heap}{C:dN}{m qual:Str}{st:Stmt}{N ps:dF}{k:Nat}{sp:Sp}
theorem ZU.mtQ(h:ZU K C m qual st)(S:ZR N ps (Zs st))(hb:∀ (kV doc pm:dM) (an:Option dN) (cdv ct:dM) (us:dG),us.length=ps.length->bindArgs (PySem.W.fnOf m qual (Wo st) (Yy st) (Zs st) .none kV doc pm an cdv ct) ⟨us,[]⟩=pure (ps.zip us))(len:∀vs H Q E,sp vs H Q E->vs.length=ps.length)(hbody:∀ (f:dN) (cdv:dM) (A:dQ) (outer:List Env) (s:dJ) (H:Hp) (vs:aG) (Q:VK) (E:XK),ZN k (A.deeper (envOfC qual (Zs st) s.heap.objs.size f cdv))->sp vs H Q E -> ∃t,UV (Y2 YY P w K mg base N qual (Zs st) f cdv A outer s H E).nox (Yy st) t/\t {nx:=fun _ H'=>Q .non H',rt:=Q } (start N vs) H):Mt P w K mg base C m ps (k+1) sp:=by
 obtain⟨f,fd,F,M⟩:=h.ex;exact⟨f,fd,M,F.okQ S len (hbody f),F.binds hb⟩
theorem ZU.mq(h:ZU K C m qual st)(N:dF)(hbody:∀{f:dN}{cdv:dM}{A:dQ}{outer:List Env}{s:dJ}(H:Hp) (vs:aG) (Q:VK) (E:XK),ZN k (A.deeper (envOfC qual (Zs st) s.heap.objs.size f cdv))->sp vs H Q E->vs.length=ps.length/\∃t,UV (Y2 YY P w K mg base N qual (Zs st) f cdv A outer s H E).nox (Yy st) t/\t {nx:=fun _ H'=>Q .non H',rt:=Q } (start N vs) H)(S:ZR N ps (Zs st):=by exact fsc)(hk:k<=60:=by decide)(hb:∀ (kV doc pm:dM) (an:Option dN) (cdv ct:dM) (us:dG),us.length=ps.length->bindArgs (PySem.W.fnOf m qual (Wo st) (Yy st) (Zs st) .none kV doc pm an cdv ct) ⟨us,[]⟩=pure (ps.zip us):=by exact fun _ _ _ _ _ _=>by first | exact al1 fun _=>rfl | exact al2 fun _ _=>rfl | exact al3 fun _ _ _=>rfl | exact al4 fun _ _ _ _=>rfl | exact al5 fun _ _ _ _ _=>rfl | exact al6 fun _ _ _ _ _ _=>rfl | exact al7 fun _ _ _ _ _ _ _=>rfl | exact al8 fun _ _ _ _ _ _ _ _=>rfl):Mt P w K mg base C m ps (k+1) sp :=
 h.mtQ S hb (fun vs H Q E h=>(hbody (f:=0) (cdv:=.none) (A:={}) (outer:=[]) (s:={}) H vs Q E (Hk hk) h).1) fun _ _ _ _ _ H vs Q E hr q=>(hbody H vs Q E hr q).2
theorem bP{f:dN}{oc:dM}{od an:Option dN}{osl:Array (Option dM)}{kV doc pm cdv ct:dM}(a:PySem.W.findIn K (.ref C) m=some (some (.ref f)))(i:PySem.W.isFn K (.ref f)=true)(l:K.lookup f=some ⟨oc,od,.func (PySem.W.fnOf m qual (Wo st) (Yy st) (Zs st) .none kV doc pm an cdv ct),osl⟩)(c:PySem.W.codeIn K cdv qual=true)(kp:PySem.W.keepIn K (.ref f)=true):ZU K C m qual st:=⟨f,_,Ek l c kp,⟨a,i,kp⟩⟩
theorem hMQ(C:dN)(m qual:Str)(st:Stmt)(f c:dN)(pm:dM)(e:PySem.W.findIn K (.ref C) m=some (some (.ref f))/\PySem.W.isFn K (.ref f)=true/\K.lookup f=some ⟨.type "function", none,.func (PySem.W.fnOf m qual (Wo st) (Yy st) (Zs st) .none .none .none pm none (.ref c) .none),#[]⟩/\PySem.W.codeIn K (.ref c) qual=true/\PySem.W.keepIn K (.ref f)=true:=by walk_at "k"):ZU K C m qual st:=bP e.1 e.2.1 e.2.2.1 e.2.2.2.1 e.2.2.2.2
structure B2 (P:dO) (w:dP) (K:uFg) (mg:dE) (base:Heap) (C:dN) (x:Str) (k:Nat) (sp:Sp):Prop where
 ex:∃(f:dN)(fd:FuncData),Mk K C f/\YG P w K mg base YY k f fd ["self"] sp/\YL K fd ["self"] []/\mg x=some (.ref C)
theorem Mt.mks(h:Mt P w K mg base C "__init__" ["self"] k sp)(mk:PySem.W.makesIn K C=true)(kc:PySem.W.keepIn K (.ref C)=true)(g:mg x=some (.ref C)):B2 P w K mg base C x k sp:=by
 obtain⟨f,fd,M,F,B⟩:=h.ex;exact⟨f,fd,⟨mk,M.at_,M.fn,kc⟩,F,B,g⟩
end
section
variable{X:Cx}{C:dN}{m x f:Str}{ps:dF}{k:Nat}{sp:Sp}{o e i:Expr}{es:List Expr}{ta:TE}{t:TA}{apos pos p:Pos}
theorem Zz{pl:Sem Bool}(he:QE X o ta)(c:Tg X.K C)(M:Mt X.prog X.w X.K X.mg X.base C m ps k sp)(ha:QA X (e::es) t)(hr:ZN k X.A:=by exact ZN.mono (by assumption) (by first | decide | lia))(hst:sEq X e es:=by rfl)(hpl:sFq X pos es:=by rfl)(ht:eval (.Call (.Attribute o m apos) (e::es) [] pos) X.env=(do
   let ov ← eval o X.env
   standAt apos.atName
   let (f,first) ← holding [ov] (getMethod ov m pl)
   callWith pos f first (backTo pos (starEach (e::es) X.env)) (backToKw pos (keywordEach [] X.env))):=by rfl) :
  QE X (.Call (.Attribute o m apos) (e::es) [] pos) (Dd C m sp [] E0 ta t):=by
 obtain⟨f,fd,M,F,B⟩:=M.ex;exact⟨Qq he.h c M F hr B .nil CZ ha.h hst hpl ht⟩
theorem Vs{pl:Sem Bool}(he:QE X o ta)(c:Tg X.K C)(M:Mt X.prog X.w X.K X.mg X.base C m ps k sp)(hr:ZN k X.A:=by exact ZN.mono (by assumption) (by first | decide | lia))(ht:eval (.Call (.Attribute o m apos) [] [] pos) X.env=(do
   let ov ← eval o X.env
   standAt apos.atName
   let (f,first) ← holding [ov] (getMethod ov m pl)
   callWith pos f first (backTo pos (starEach [] X.env)) (backToKw pos (keywordEach [] X.env))):=by rfl) :
  QE X (.Call (.Attribute o m apos) [] [] pos) (Dd C m sp [] E0 ta Ub):=by
 obtain⟨f,fd,M,F,B⟩:=M.ex;exact⟨cF he.h c M F hr B .nil CZ ht⟩
theorem E3(M:B2 X.prog X.w X.K X.mg X.base C x k sp)(hr:ZN (k+1) X.A:=by exact ZN.mono (by assumption) (by first | decide | lia))(n:nB X x .globalImplicit:=by kernel_rfl):QE X (.Call (.Name x p) [] [] pos) (KF C sp [] E0 Ub):=by
 obtain⟨f,fd,M,F,B,g⟩:=M.ex;exact⟨Pr M F hr (od n).1 g B .nil CZ (od n).2.1⟩
theorem Zw(he:QE X e ta)(hb:attributeBase e f X.env (eval e X.env)=eval e X.env:=by rfl):QE X (.Attribute e f pos) (DF X.K ta f):=⟨IX he.h hb⟩
theorem Ve(ha:QE X o ta)(hv:QE X value tv)(hs:swapsWith value (some (.Attribute o f pos')) pos.line X.env=pure false:=by rfl):QS X (.Assign [.Attribute o f pos'] value pos) (NI X.K ta tv f):=⟨by
 have ha:=ha.h;have hv:=hv.h;intro pins s U H D I h;refine plainObj_wpAny_Assign_Attribute (thn (hv pins s U H _ I h) fun u s1 ⟨y,H1,I1,ry,q⟩=>thn (ha pins s1 U H1 _ I1 q) fun ov s2 ⟨x,H2,I2,rx,a,C,dx,fs,ex,ea,c,n,l,q2⟩=>?_) hs;subst ex;obtain rfl:ov=Value.ref a:=rx
 exact OE I2 ea c n l ry fun s3 I3=>⟨U,_,I3,q2⟩⟩
theorem AR:QE X (.Dict [] [] pos) QY:=⟨fun pins s U H Q I h => wpAny_Dict_empty ⟨.ref s.heap.objs.size,_,I.laid (a:=s.heap.objs.size) (o:=.dK []) (t':=s.toks) (fun _ _ q=>xA _ q) (xD _) (K3 s.heap I.big),rfl,h _ (I.hok.fresh (xD _))⟩⟩
theorem A6(hr:ZN k X.A)(ho:QE X o td)(hi:QE X i ty)(hs:DZ i):QE X (.Subscript o i pos) (IS td ty):=⟨RS (by have:=hr.units;lia) ho.h hi.h hs⟩
theorem Mi(hk:QE X ek tk)(hv:QE X ev tw):QE X (.Dict [some ek] [ev] pos) (IL [(tk,tw)]):=⟨bE (Qm hk.h hv.h PF) rfl rfl (by simp) (by show 1<=15;decide)⟩
inductive Bu(xs:aG)(H:Hp)(Q:VK):Prop
 |mk(a kvs)(_:xs=[V.ref a])(_:H a=some (.dK kvs))(_:Q (.int kvs.length) H)
theorem LC:QC X (.builtin "len") Bu:=.imp ⟨bQ⟩ fun _ _ _ ⟨p,y,a,b,k⟩=>⟨p,y,a,b,k⟩
end
theorem Kn(he:QE (ccx X scope cl C N' s0 H0 ex pn) e ta)(hb:attributeBase e f (ccx X scope cl C N' s0 H0 ex pn).env (eval e (ccx X scope cl C N' s0 H0 ex pn).env)=eval e (ccx X scope cl C N' s0 H0 ex pn).env:=by rfl):QE (ccx X scope cl C N' s0 H0 ex pn) (.Attribute e f pos) (DF X.K ta f):=⟨IX (X:=ccx X scope cl C N' s0 H0 ex pn) he.h hb⟩
inductive Tj(K:uFg)(x y:V)(H:Hp)(Q:VK):Prop
 |mk(b p) (c) (n) (ps) (vs)(_:x=.ref b)(_:H b=some (.tup [.int c,.str n]))(_:y=.ref p)(_:ZG K H p vs)(_:V3 H ps vs)(_:Q (.bl (!decide ((c,n)∈ps))) H)
theorem bH(hu:X.A.units+1<cLine):Jn X (compareOp .NotIn) (Tj X.K):=by
 intro pins s U H x y v u Q I rx ry ⟨b,p,c,n,ps,vs,ex,hb,ey,hq,hp,q⟩;subst ex ey;obtain rfl:v=Value.ref b:=rx;obtain rfl:u=Value.ref p:=ry;obtain⟨its,r,pl,hz⟩:=I.list hq;obtain⟨g1,g2⟩:=GZ (A:=X.A.in1) I (by show X.A.units+1<cLine;exact hu) hb hp r;refine SeqAt.notIn_listAt (AU H c n) pl.isList (fun w hw=>g1 w (by simpa using hw)) ⟨.bl _,H,I,rfl,?_⟩;rw[show its.toArray.any (AU H c n)=its.any (AU H c n) by simp,g2];exact q
def Gf(K:uFg):R2:=fun x y H Q=>Tj K x y H Q\/VO x y H Q
theorem MB(hr:ZN k X.A):YS X (compareOp .NotIn) (Gf X.K):=⟨by
 intro pins s U H x y v u Q I rx ry h;have hu:X.A.units+1<cLine:=by have:=hr.units;lia
 rcases h with h | h
 ·exact bH hu pins s U H x y v u Q I rx ry h
 ·exact Fp hu pins s U H x y v u Q I rx ry h⟩
theorem cO(hr:ZN k X.A):YS (ccx X scope cl C N' s0 H0 ex pn) (compareOp .NotIn) (Gf X.K):=MB (X:=ccx X scope cl C N' s0 H0 ex pn) hr
def stS(r:dF)(x:Str):List Str:=if r.any (· == x) then r else r ++ [x]
def fmS(val:Nat->Str):Nat->List Str
 | 0=>[]
 | i+1=>stS (fmS val i) (val i)
theorem Ej(val:Nat->Str):∀i,(fmS val i).length<=i
 | 0=>xD _
 | i+1=>by
  have ih:=Ej val i;unfold fmS stS;split
  ·lia
  ·rw[xK,wF];lia
theorem XT(r:dF)(v k:Str):(stS r v).any (· == k)=(r.any (· == k) || decide (k=v)):=by
 unfold stS
 by_cases h:r.any (· == v)=true
 ·rw[if_pos h]
  by_cases e:k=v
  ·subst e;rw[h];simp
  ·simp[e]
 ·grind
theorem Nf(r:dF)(v:Str):(stS r v).length=if r.any (· == v) then r.length else r.length+1:=by
 unfold stS;split<;>simp
section
variable{prog:dO}{w:dP}{A:dQ}{R:Result->dJ->Prop}{I:dN}{fp wr:dI}{G:Array GenState->Array GenState->Prop}{n:Nat}{P:Nat->dM->Prop}{St:Nat->dJ->Prop}
theorem Po(W:WalksS prog w A.in1 I fp wr G n P St)(S:dN)(hSf:S∉fp)(val:Nat->Str)(hval:∀i v,P i v->∃t,v=.str (val i) t)(hb:n+1<scanBound) :
  ∀(k i:Nat)(s:dJ),n - i=k->i<=n->St i s->s.heap.SetOf (strKind prog w) S (fun k'=>(fmS val i).any (· == k')) (fmS val i).length ->
   (∀s',Moved (S::wr) G s s'->s'.heap.SetOf (strKind prog w) S (fun k'=>(fmS val n).any (· == k')) (fmS val n).length->R (.ok (.ret .none)) s')->
   codeAny (model prog w) A (.builtin "set.update.loop" ⟨[.ref S,.ref I],[]⟩) R s:=by
 have hSw:S∉wr:=fun h=>hSf (W.sub _ h);have hsub:∀b∈wr,b∈S::wr:=fun b hb=>yC _ hb;intro k
 induction k with
 | zero =>
  intro i s hk hi hst hS hR;have hin:i=n:=by lia
  subst hin;refine codeAny_builtin F.entry_set_update_loop ?_;rw[Around.under_plainId F.plain_set_update_loop _];show wpAny _ A.in1 (pyNext (.ref I) >>= _) _ _ s;refine wpAny_bind (W.done s _ _ hst fun s' hm=>?_);show wpAny _ A.in1 (ret Value.none) _ _ s'
  exact wpAny_pure (hR s' (hm.mono hsub) (by
   obtain⟨o,es,ep,t,ho,rest⟩:=hS
   exact⟨o,es,ep,t,hm.heap S _ hSw ho,rest⟩))
 | succ k ih =>
  intro i s hk hi hst hS hR;have hlt:i<n:=by lia
  refine codeAny_builtin F.entry_set_update_loop ?_;rw[Around.under_plainId F.plain_set_update_loop _];show wpAny _ A.in1 (pyNext (.ref I) >>= _) _ _ s;refine wpAny_bind (W.item i s _ _ hlt hst fun v s' hP hst' hm=>?_);obtain⟨t,rfl⟩:=hval i v hP;have hS':s'.heap.SetOf (strKind prog w) S (fun k'=>(fmS val i).any (· == k')) (fmS val i).length:=by
   obtain⟨o,es,ep,tb,ho,rest⟩:=hS;exact⟨o,es,ep,tb,hm.heap S _ hSw ho,rest⟩
  show wpAny _ A.in1 (holding [Value.str (val i) t] (setAdd S (.str (val i) t)) >>= _) _ _ s';refine wpAny_bind (wpAny_holding ?_);unfold setAdd;refine wpAny_holding ?_;refine wpAny_bind ((strKind prog w).pyHash (k:=val i) (strKind_is _ _ _ _) ?_);have hroom:(fmS val i).length+1<scanBound:=by have:=Ej val i;lia
  refine wpAny_setAddHashed_of (knd:=strKind prog w) (s:={s' with toks:=s'.toks+1 }) (strKind_is _ _ _ _) rfl hS' hroom fun h' hsb hS2=>?_;have hSi:h'.SetOf (strKind prog w) S (fun k'=>(fmS val (i+1)).any (· == k')) (fmS val (i+1)).length:=SetOf_congr hS2 (fun k'=>(XT _ _ _).symm) (Nf _ _).symm;refine wpAny_pure ⟨plainId_quiet F.plain_set_update_loop _,ih (i+1) _ (by lia) hlt (W.frame _ s' _ _ hst' (wS _) fun b hb o e=>?_) hSi fun s'' hm'' hS''=>?_⟩
  ·rw[hsb.2 b (fun h:b=S=>hSf (by rw[← h];exact hb))];exact e
  ·refine hR s'' (Moved.trans W.gtrans ((hm.mono hsub).then_heap (wS _) fun b o hb e=>?_) hm'') hS'';rw[hsb.2 b (fun h:b=S=>hb (by rw[h];exact xU))];exact e
end
section
variable{prog:dO}{w:dP}{A:dQ}{E:dD}{s:dJ}
theorem Nv{l:dN}{items:Array dM}{val:Nat->Str}{Q:dD}(hh:A.handled=none)(hl:s.heap.IsList l items)(hval:∀ (i:Nat) (v:dM),items[i]?=some v->∃t,v=.str (val i) t)(hb:items.size+1<scanBound)(h:∀ (h':Heap) (tk:Nat),h'.SetOf (strKind prog w) s.heap.objs.size (fun k'=>(fmS val items.size).any (· == k')) (fmS val items.size).length -> (∀b o,b<s.heap.objs.size->s.heap.get? b=some o->h'.get? b=some o)->Q (.ref s.heap.objs.size) {s with heap:=h',toks:=tk }) :
  wpAny (model prog w) A (call (.type "set") [.ref l]) Q E s:=by
 obtain⟨c,tl,hmro⟩:=F.called_set.mro;have hmade:=F.called_set.made;have hsub:=F.called_set.sub;refine wpAny_call (codeAny_of_tree ?_);show wpAny _ _ (callAny (.type "set") _) _ _ _;refine wpAny_pure ⟨Code.quiet_builtin _ aA,codeAny_builtin F.entry_type_call ?_⟩;rw[Around.under_plain (weight_type_call_type "set" [.ref l] []) rfl];have h1:=F.called_set.notType;have h2:=F.called_set.canCreate;have hct:=F.typeCall_set_1 (.ref l)
 repeat (any_goals (first | assumption | wp_step))
 refine codeAny_mono (code_set_new_1 (.ref l) (E:=E) (Q₁:=fun obj s₁=>∃led:Bool,obj=.ref s.heap.objs.size/\s₁={s with heap:=s.heap.push {cls:=.type "set", dict:=none,data:=.set #[] 0 (.fresh 0 0 led) } }) fun led=>⟨led,rfl,rfl⟩) fun r s₁ hr=>?_;cases r with
 | error e=>exact hr
 | ok fl =>
  cases fl with
  | ret obj =>
   obtain⟨led,rfl,rfl⟩:=hr;have hS:(s.heap.push {cls:=.type "set", dict:=none,data:=.set #[] 0 (.fresh 0 0 led) }).get? s.heap.objs.size=some {cls:=.type "set", dict:=none,data:=.set #[] 0 (.fresh 0 0 led) }:=xG _ rfl;have hT:Shared.TypeIs {s with heap:=s.heap.push {cls:=.type "set", dict:=none,data:=.set #[] 0 (.fresh 0 0 led) } } (.ref s.heap.objs.size) "set" := ⟨_,hS,rfl⟩;have hli:=F.called_set.init.lookup;have hbi:=F.called_set.init.bind (.ref s.heap.objs.size)
   repeat (any_goals (first | assumption | wp_step))
   refine codeAny_mono (codeAny_call_builtin (R:=wants (fun r s₂=>r=.none/\∃h' tk,s₂={s with heap:=h',toks:=tk }/\h'.SetOf (strKind prog w) s.heap.objs.size (fun k'=>(fmS val items.size).any (· == k')) (fmS val items.size).length /\ (∀b o,b<s.heap.objs.size->s.heap.get? b=some o->h'.get? b=some o)) E) F.called_set.init.plain F.entry_set_init (check_set_init_1 hT ?_)) fun r₂ s₂ hr₂=>?_
   ·obtain⟨ol,hol,hcl,nl,hdl⟩:=hl;obtain⟨ocls,odict,odata,oslots⟩:=ol;simp only at hcl hdl;subst hcl;subst hdl;have hol':(s.heap.push {cls:=.type "set", dict:=none,data:=.set #[] 0 (.fresh 0 0 led) }).get? l=some {cls:=.type "list", dict:=odict,data:=.seq items nl,slots:=oslots }:=xA _ hol;have hsls:=F.sub_list_set;have hslf:=F.sub_list_frozenset;have hne:(Value.type "list"==Value.type "dict")=false:=by decide
    have hl1:(s.heap.push {cls:=.type "set", dict:=none,data:=.set #[] 0 (.fresh 0 0 led) }).IsList l items:=⟨_,hol',rfl,nl,rfl⟩;unfold Builtin.«set.__init__» noKeywords Builtin.Frozenset.updateFrom;generalize hPI:pyIter=PI
    wp_walk
    subst hPI;refine wpAny_pyIter_list hl1 ?_;refine wpAny_bind (wpAny_runValue ?_);have hlS:l<s.heap.objs.size:=xH hol;have hh3:A.in1.in1.in1.handled=none:=by simp[hh]
    have hneI:l≠(s.heap.push {cls:=.type "set", dict:=none,data:=.set #[] 0 (.fresh 0 0 led) }).objs.size:=by
     rw[yX];exact xY (zB hlS)
    have hSf:s.heap.objs.size ∉ [(s.heap.push {cls:=.type "set", dict:=none,data:=.set #[] 0 (.fresh 0 0 led) }).objs.size,l]:=by
     rw[yX];simp only[xF,xQ,yE,or_false,not_or];exact⟨xY (Nat.lt_succ_self _),zU hlS⟩
    refine Po ((Walks.list hh3 _ l hneI items).toS) s.heap.objs.size hSf val hval hb (items.size - 0) 0 _ (by lia) (xZ _) ⟨⟨_,xG _ rfl,rfl,rfl⟩,(hl1.push _)⟩ ?hS0 ?hR
    case hS0 =>
     have hget:((s.heap.push {cls:=.type "set", dict:=none,data:=.set #[] 0 (.fresh 0 0 led) }).push {cls:=.type "list_iterator", data:=.fields #[.ref l,.int 0 0] }).get? s.heap.objs.size
       = some {cls:=.type "set", dict:=none,data:=.set #[] 0 (.fresh 0 0 led) }:=xA _ hS
     exact SetOf_congr ((setObjOf_fresh (knd:=strKind prog w) led).setOf hget (by unfold scanBound;lia)) (fun _=>rfl) rfl
    case hR =>
     intro s' hm hS';obtain⟨h',g',d',tk',os'⟩:=s';have eg:g'=s.gens:=hm.gens;have ed:d'=s.drawn:=hm.drawn;have eo:os'=s.os:=hm.os;subst eg;subst ed;subst eo;show wpAny _ _ _ _ _ _;refine wpAny_pure ?_;show wpAny _ _ (ret Value.none) _ _ _;refine wpAny_pure ⟨rfl,h',tk',rfl,hS',fun b o hb e=>?_⟩;have hb1:b≠s.heap.objs.size:=xY hb;have hb2:b≠(s.heap.push {cls:=.type "set", dict:=none,data:=.set #[] 0 (.fresh 0 0 led) }).objs.size:=by
      rw[yX];exact xY (zB hb)
     exact hm.heap b o (by simp only[xF,xQ,yE,or_false,not_or];exact⟨hb1,hb2⟩) (xA _ (xA _ e))
   ·cases r₂ with
    | error e=>exact hr₂
    | ok fl₂ =>
     cases fl₂ with
     | ret r =>
      obtain⟨rfl,h',tk,rfl,hS',hk'⟩:=hr₂
      repeat (any_goals (first | assumption | wp_step))
      exact h _ _ hS' hk'
     | _=>exact hr₂.elim
  | _=>exact hr.elim
end
def A1(xs:dF):Nat:=(xs.foldl stS []).length
theorem Io(xs:dF):∀n,n<=xs.length->fmS (fun i=>xs.getD i "") n=(xs.take n).foldl stS []
 | 0,_=>rfl
 | n+1,h=>by
  show stS (fmS _ n) _=_;rw[Io xs n (by lia),List.take_succ_eq_append_getElem (by lia),List.foldl_append];show stS _ (xs.getD n "")=stS _ (xs[n]);rw[xL,xC (by lia)];rfl
inductive TV(K:uFg)(Q:VK)(vs:aG)(H1:Hp):Prop
 |mk(l) (xs)(_:vs=[.ref l])(_:ZG K H1 l (xs.map V.str))(_:xs.length<=1000)(_:Q (.int (A1 xs)) H1)
def Pp(K:uFg)(ta:TA):TE:=fun U H Q=>ta U H fun vs H1=>TV K Q vs H1
theorem Qn{a:Expr}{ta:TA}{p q pos pos':Pos}(hc:X.calm=true)(hml:X.mg "len"=none)(hm:X.mg "set"=none)(ha:QA X [a] ta)(hgl:nB X "len" .globalImplicit:=by kernel_rfl)(hg:nB X "set" .globalImplicit:=by kernel_rfl)(hs:starEach [a] X.env=[(false,eval a X.env)]:=by rfl)(hs2:starEach [.Call (.Name "set" p) [a] [] pos] X.env=[(false,eval (.Call (.Name "set" p) [a] [] pos) X.env)]:=by rfl) :
  QE X (.Call (.Name "len" q) [.Call (.Name "set" p) [a] [] pos] [] pos') (Pp X.K ta):=⟨by
 have hgl:=(od hgl);have hg:=(od hg);have ha:=ha.h;intro pins s U H Q I h;refine wpAny_Call_Name_kw (Vi I hgl.1 hml (show bootBuiltins "len"=some (.builtin "len") by decide +kernel) ?_ hgl.2.2.2 hgl.2.1);refine PyProof.Rows.callWith_builtin1 ?_ hs2 rfl;rw[hs2];refine Calls.spliced_cons ?_;refine wpAny_Call_Name_kw (Vi I hg.1 hm (show bootBuiltins "set"=some (.type "set") by decide +kernel) (PyProof.Rows.callWith_type1 (thn (ha pos pins s U H _ I h) fun us s1 ⟨vs,H1,I1,r1,l,xs,e,hL,hn,q1⟩=>?_) hs rfl) hg.2.2.2 hg.2.1);subst e;cases r1 with
 | cons r rr =>
  cases rr;obtain rfl:=r;obtain⟨its,r,pl,hz⟩:=I1.list hL;have hlen:its.length=xs.length:=by rw[← r.length,xB]
  obtain⟨o,n,e1,e2,e3,e4⟩:=pl;have hval:∀(i:Nat)(v:dM),its.toArray[i]?=some v->∃t,v=.str (xs.getD i "") t:=fun i v hv=>by
   rw[← zT] at hv;have hi:i<its.length:=by have:=(xE.mp hv).1;simpa using this
   obtain⟨u,eu,t,ru⟩:=r.get (i:=i) (x:=.str (xs.getD i "")) (by rw[xJ,xC (by lia),xL,xC (by lia)];rfl);have hv:its[i]?=some v:=hv;rw[hv] at eu;cases eu;exact⟨t,ru⟩
  have hsz:its.toArray.size=xs.length:=by rw[xS,hlen]
  refine Nv (items:=its.toArray) (val:=fun i=>xs.getD i "") (I1.ok.hd hc) ⟨o,e1,e2,n,e4⟩ hval (by unfold scanBound;lia) fun h' tk hS hk=>?_;rw[hsz] at hS;have I2:ZE X pins U H1 {s1 with heap:=h',toks:=tk }:=I1.kept fun b u e=>hk b u (xH e) e;refine Calls.spliced_nil ?_;obtain⟨o2,ho,hso⟩:=hS.objOf;obtain⟨hex,es,ep,t,hd,_,_,hnn,hf⟩:=hso;have hle:=Ej (fun i=>xs.getD i "") xs.length;have hlt:(es.size:Int)<2^63:=Int.lt_of_le_of_lt (show (es.size:Int)<=1000 by lia) aA;refine call_len_set (s:={s1 with heap:=h',toks:=tk }) ho hex hd hf hlt ?_;refine⟨.int es.size,H1,I2.tok _,⟨_,rfl⟩,?_⟩;have e:es.size=A1 xs:=by
   rw[hnn,Io xs xs.length (xD _),yJ];rfl
  rw[e]
  exact q1⟩
theorem Sj(h:xs.Nodup):A1 xs=xs.length:=by
 have:∀(ys r:dF),(r++ys).Nodup->ys.foldl stS r=r++ys:=by
  intro ys
  induction ys with
  | nil=>intro r _;simp
  | cons y ys ih =>
   intro r h;have ny:r.any (· == y)=false:=by grind
   have e1:stS r y=r ++ [y]:=by unfold stS;rw[ny,if_neg aA]
   show ys.foldl stS (stS r y)=_;rw[e1,ih (r ++ [y]) (by rwa [zN,List.singleton_append]),zN];rfl
 unfold A1;rw[this xs [] (by simpa using h)];simp
inductive Bh(xs:aG)(H:Hp)(Q:VK):Prop
 |mk(b)(_:xs=[.bl b])(_:Q (.int (if b then 1 else 0)) H)
theorem Ng:QC X (.type "int") Bh:=⟨by
 intro pins s U H xs us Q I r h;obtain⟨b,rfl,q⟩:=h;cases r with
 | cons r1 r =>
  cases r;obtain rfl:=r1
  exact call_int_bool ⟨.int (if b then 1 else 0),H,I.tok _,⟨_,rfl⟩,q⟩⟩
section
variable{X:Cx}{E:St->XK}
end
section
variable{P:dO}{w:dP}{K:uFg}{mg:dE}{base:Heap}{C:dN}{x:Str}{ps:dF}{k k':Nat}{sp sp':Sp}
end
section
variable{X:Cx}{E:St->XK}{k:Nat}{f C:dN}{sp:Sp}{x m:Str}{p pos apos:Pos}{e o:Expr}{es:List Expr}{ta:TE}{t:TA}
end
section
variable{P:dO}{w:dP}{K:uFg}{mg:dE}{base:Heap}
end
open PySem.W PySem.Calls PySem.Builtin PySem.Builtin.ObjectAttr PySem.Builtin.Getset_descriptor
section
variable{prog:dO}{w:dP}{A:dQ}{E:dD}{h:Heap}{g:Array GenState}{d:Drawn}{t:Nat}{os:OsState}{a C:dN}{o:Obj}{K:Frag}
end
section
variable{K:Frag}{a C:dN}{o:Obj}
end
section
variable{X:Cx}{U:St}{H:Hp}{s:dJ}{a C:dN}{o:Obj}
end
section
variable{X:Cx}{x n:Str}{np pos:Pos}{b₀:Stmt}{suite:List Stmt}{rest:List ExceptHandler}{Dc:dN}{tr:dN->TS}
end
section
variable{X:Cx}{st:Stmt}{rest:List Stmt}{t u:TS}
end
section
variable{P:dO}{w:dP}{K:uFg}{mg:dE}{base:Heap}
end
section
variable{P:dO}{w:dP}{A:dQ}{E:dD}{s:dJ}
end
section
variable{X:Cx}{pins:List (dN×Obj)}{U:St}{H:Hp}{s:dJ}
theorem ZE.freeze{d:dN}{o:Obj}{kvs:List (ZM×V)}(I:ZE X pins U H s)(e:H d=some (.dK kvs))(ho:s.heap.get? d=some o):ZE X pins U (upd H d (.frz o (.dK kvs))) s:=by
 have h:=I.write (h':=s.heap) (t':=s.toks) (x:=d) (e:=d) (o:=.frz o (.dK kvs)) (by rw[e];exact True.intro) (.inl rfl) (fun _ _ _ q=>q) ⟨o,ho⟩ ⟨ho,?_⟩
 ·exact h
 ·obtain⟨z,y,vs,r,q⟩:=(show ZL X.prog X.w H s.heap d (.dK kvs) from I.hok d _ e);exact⟨z,y,vs,r,q⟩
theorem ZE.nofrz{d:dN}{kvs:List (ZM×V)}(I:ZE X pins U H s)(e:H d=some (.dK kvs)):∀o u,X.H₀ d≠some (.frz o u):=fun o u z=>by
 have:=I.base.frzs d o u z;rw[e] at this;cases this
theorem ZE.thaw{d:dN}{o:Obj}{kvs:List (ZM×V)}(I:ZE X pins U H s)(e:H d=some (.frz o (.dK kvs)))(nf:∀o u,X.H₀ d≠some (.frz o u)):ZE X pins U (upd H d (.dK kvs)) s:=by
 have hne:∀b u,H b=some u->(∀x,u ≠ .frz o x)->b≠d:=fun b u q n z=>by rw[z,e] at q;exact n _ (Option.some.inj q).symm
 have hnn:∀b,H b=none->b≠d:=fun b q z=>by rw[z,e] at q;cases q
 refine⟨I.ok,I.os,I.bare,⟨I.base.keep,I.base.slot,fun b ob q n hx=>?_,I.base.there,fun b xs q=>?_,fun b ob u q=>?_,fun b ps q=>?_⟩,I.loc,I.cell,?_,fun x c q=>?_,fun p hp=>?_,fun b u q=>?_,I.len⟩
 ·have:=I.base.free b ob q n hx;rw[Zc (hnn b this)];exact this
 ·have:=I.base.tups b xs q;rw[Zc (hne b _ this fun _ z=>nomatch z)];exact this
 ·have:=I.base.frzs b ob u q;rw[Zc (fun z=>nf ob u (by rw[← z];exact q))];exact this
 ·obtain⟨m,hm⟩:=I.base.tbls b ps q;exact⟨m,by rw[Zc (hne b _ hm fun _ z=>nomatch z)];exact hm⟩
 ·rw[Zc (hnn _ I.free)];exact I.free
 ·rw[Zc (hnn _ (I.freeC x c q))];exact I.freeC x c q
 ·obtain⟨p1,p2,p3,p4,p5⟩:=I.pin p hp;exact⟨p1,by rw[Zc (hnn _ p2)];exact p2,p3,p4,p5⟩
 ·by_cases hb:b=d
  ·subst hb;rw[Zg] at q;cases q;obtain⟨_,z,y,vs,r,c⟩:=(show ZL X.prog X.w H s.heap b (.frz o (.dK kvs)) from I.hok b _ e);exact⟨z,y,vs,r,c⟩
  ·rw[Zc hb] at q;refine(I.hok b u q).stay (fun _ _ _ z=>z) (fun c z=>?_) fun c xs z=>?_
   ·rw[Zc (hne c _ z fun _ y=>nomatch y)];exact z
   ·rw[Zc (hne c _ z fun _ y=>nomatch y)];exact z
end
section
variable{te:TE}
inductive Bo(te:TE)(U:St)(H:Hp)(Q:VK):Prop
 |mk(d kvs)(_:H d=some (.dK kvs))(_:∀o,te U (upd H d (.frz o (.dK kvs))) fun v H'=>H' d=some (.frz o (.dK kvs))/\Q v (upd H' d (.dK kvs)))
theorem RP(h:QE X e te):QE X e (Bo te):=⟨by
 intro pins s U H Q I q;obtain⟨d,kvs,ed,q⟩:=q;obtain⟨z,y,vs,r,o,es,ep,ho,c⟩:=(show ZL X.prog X.w H s.heap d (.dK kvs) from I.hok d _ ed);have nf:=I.nofrz ed
 exact thn (h.h pins s U _ _ (I.freeze ed ho) (q o)) fun u s1 ⟨x,H1,I1,r1,e1,q1⟩=>⟨x,_,I1.thaw e1 nf,r1,q1⟩⟩
end
def EW(d:dN)(o:Obj)(kvs:List (ZM×V)):It :=
 ⟨fun i H=>H d=some (.frz o (.dK kvs))/\i<kvs.length,fun i H v H'=>H'=H/\∃p,kvs[i]?=some p/\v=kV p.1,fun i H=>H d=some (.frz o (.dK kvs))/\kvs.length<=i⟩
theorem Sh(h:(Yx P w).is k v=true):ZF (kV k) v:=by
 cases k with
 | inl i =>
  cases v<;>first
   | exact absurd (show false=true from h) xI
   | skip
  rename_i j t;have e:j=i:=by
   have h:(j==i)=true:=h;exact eq_of_beq h
  exact⟨t,by rw[e]⟩
 | inr x =>
  cases v<;>first
   | exact absurd (show false=true from h) xI
   | skip
  rename_i j t;have e:j=x:=by
   have h:(j==x)=true:=h;exact eq_of_beq h
  exact⟨t,by rw[e]⟩
theorem KV.get{κ:Type}:∀{kvs:List (κ×V)}{vs:List (κ×dM)}{i:Nat}{p:κ×V}{q:κ×dM},KV kvs vs->kvs[i]?=some p->vs[i]?=some q->p.1=q.1/\ZF p.2 q.2:=by
 intro kvs vs i p q r;unfold KV at r
 induction r generalizing i with
 | nil=>intro h;simp at h
 | cons h t ih =>
  intro e1 e2;cases i with
  | zero =>
   have e1:some _=some p:=e1;have e2:some _=some q:=e2;cases e1;cases e2;exact h
  | succ i=>exact ih (i:=i) e1 e2
theorem Qh{P:dO}{w:dP}{K:uFg}{tg:Expr}(it d:dN)(o:Obj)(kvs:List (ZM×V))(vs:List (ZM×dM))(ep:Nat)(hne:d≠it)(rel:KV kvs vs)(hD:∀h:Heap,h.get? d=some o->h.DictAt (Yx P w) d vs ep) :
  WZ P w K tg (EW d o kvs) [it] it (fun i h=>h.IsKeyIter it d i vs.length ep) where
 mem:=by simp
 obj:=fun i h st b hb=>by
  have e:b=it:=by simpa using hb
  subst e;obtain⟨ob,ho,hc,hd⟩:=st;exact⟨ob,ho,fun v q=>by rw[hd] at q;cases q⟩
 keep:=fun i h h' st k=>st.at fun ob q=>k it (by simp) ob q
 item:=by
  intro X hP hw hK hc i pins s U H E I hf st hg;subst hP hw hK;obtain⟨f0,f1,f2,f3,f4,f5⟩:=hf it (by simp);obtain⟨ed,hi⟩:=hg;obtain⟨hod,_⟩:=(show ZL X.prog X.w H s.heap d (.frz o (.dK kvs)) from I.hok d _ ed);have W:=Walks.dictKeys (prog:=X.prog) (w:=X.w) (A:=X.A) (knd:=Yx X.prog X.w) (I.ok.hd hc) it d hne vs ep;refine W.item i s _ _ (by rw[← rel.length];exact hi) ⟨st,hD _ hod⟩ fun v h' tk hv st' kk=>?_;obtain⟨k,x,hx,hk⟩:=hv;have I1:ZE X pins U H {s with heap:=h',toks:=tk }:=I.turned (fun b ob hb e=>kk b ob (by simpa using hb) e) f0 f1 f3 f4 f5;obtain⟨ob,ho,hcl,hdt⟩:=id st'.1;obtain⟨p,hp⟩:∃p,kvs[i]?=some p:=⟨_,xC hi⟩;have hpk:p.1=k:=(KV.get rel hp hx).1;refine⟨_,rfl,Ba (s:={s with heap:=h',toks:=tk }) (n:="dict_keyiterator") ho hcl hdt aA ⟨kV p.1,H,I1,by rw[hpk];exact Sh hk,⟨rfl,p,hp,rfl⟩,st'.1,fun b hb=>(hf b hb).1⟩⟩
 done:=by
  intro X hP hw hK hc i pins s U H E I hf st hg;subst hP hw hK;obtain⟨f0,f1,f2,f3,f4,f5⟩:=hf it (by simp);obtain⟨ed,hi⟩:=hg;obtain⟨hod,_⟩:=(show ZL X.prog X.w H s.heap d (.frz o (.dK kvs)) from I.hok d _ ed);exact wpAny_pyNext_dict_end (I.ok.hd hc) st (hD _ hod) (wU (by rw[← rel.length];exact hi)) fun h' eb=>⟨rfl,I.turned (t':=s.toks) (fun b ob hb e=>eb b ob hb e) f0 f1 f3 f4 f5⟩
 self:=fun _ _ _ _ _ st h=>wpAny_pyIter_keyiter st h
section
variable{te:TE}
inductive JX(R:It->Hp->Prop)(x:V)(H1:Hp):Prop
 |mk(d o kvs)(_:x=.ref d)(_:H1 d=some (.frz o (.dK kvs)))(_:R (EW d o kvs) H1)
def SD(te:TE):TI:=fun U H R=>te U H fun x H1=>JX R x H1
theorem LZ(hl:QE X l te):QI X tg l (SD te):=⟨by
 intro pins s U H R I h;refine thn (hl.h pins s U H _ I h) fun u s1 ⟨x,H1,I1,r1,d,o,kvs,ex,ed,q⟩=>?_;subst ex;obtain rfl:u=Value.ref d:=r1;obtain⟨hod,z,hsys,vs,rel,o',es,ep,ho',c⟩:=(show ZL X.prog X.w H1 s1.heap d (.frz o (.dK kvs)) from I1.hok d _ ed);rw[hod] at ho';cases ho';have hD:∀h:Heap,h.get? d=some o->h.DictAt (Yx X.prog X.w) d vs ep:=fun h e=>⟨o,es,e,c⟩;refine wpAny_pyIter_dict hsys (hD _ hod) ?_;have lt:d<s1.heap.objs.size:=xH hod;refine⟨s1.heap.objs.size,[s1.heap.objs.size],_,_,H1,rfl,I1.kept (t':=s1.toks) fun b ob e=>xA _ e,Qh s1.heap.objs.size d o kvs vs ep (xY lt) rel hD,⟨_,xG _ rfl,rfl,rfl⟩,fun b hb=>?_,q⟩;have e:b=s1.heap.objs.size:=by simpa using hb
 subst e
 exact I1.fpOk (xD _) (I1.hok.fresh (xD _))⟩
end
theorem L3(Pv:Nat->List V->Hp->Prop)(h0:Pv 0 [] H)(hn:kvs.length<=1000000)(hl:∀i ys H,i<=kvs.length->Pv i ys H->H d=some (.frz o (.dK kvs)))(hlen:∀i ys H,Pv i ys H->ys.length<=i)(step:∀i p ys H,kvs[i]?=some p->Pv i ys H->Wh nl fv g tt te (kV p.1) H (fun y H'=>Pv (i+1) (ys ++ [y]) H') fun H'=>Pv (i+1) ys H')(hd:∀ys H,Pv kvs.length ys H->∀l,H l=none->Q (.ref l) (upd H l (.lst ys))) :
  Vk (EW d o kvs) nl fv g tt te Q H:=by
 have hml:(kvs.map fun p=>kV p.1).length=kvs.length:=xB ..;refine BL (xs:=kvs.map fun p=>kV p.1) Pv h0 (by rw[hml];exact hn) ?_ ?_ ?_ hlen ?_ ?_
 ·intro i H ys hi p;rw[hml] at hi;exact⟨hl i ys H (yN hi) p,hi⟩
 ·rintro i H x H' ys hi p ⟨rfl,q,hq,rfl⟩;exact⟨rfl,by rw[xJ,hq];rfl⟩
 ·intro H ys p;rw[hml] at p ⊢;exact⟨hl _ ys H (xD _) p,xD _⟩
 ·grind
 ·intro ys H p;rw[hml] at p;exact hd ys H p
inductive Bs(K:uFg)(xs:aG)(H:Hp)(Q:VK):Prop
 |mk(a) (ns)(_:xs=[.ref a])(_:ZG K H a (ns.map V.int))(_:ns ≠ [])(_:∀m,m∈ns->(∀x∈ns,x<=m)->Q (.int m) H)
theorem XW:∀{us:dG},ZH (ns.map V.int) us->∃xs:List (Int×Tok),xs.map (·.1)=ns/\us=xs.map fun p=>Value.int p.1 p.2:=by
 induction ns with
 | nil=>intro us r;cases r;exact⟨[],rfl,rfl⟩
 | cons n ns ih =>
  intro us r;cases r with
  | cons r1 r2 =>
   obtain⟨t,rfl⟩:=r1;obtain⟨xs,e1,e2⟩:=ih r2;exact⟨(n,t)::xs,by rw[yF,e1],by rw[yF,e2]⟩
theorem QK(hc:X.calm=true):QC X (.builtin "max") (Bs X.K):=⟨by
 intro pins s U H xs us Q I r h;obtain⟨a,ns,rfl,ha,hne,q⟩:=h;obtain⟨u,rfl,ru⟩:=Vg r;cases ru;obtain⟨its,rv,p,_⟩:=I.list ha;obtain⟨ps,e1,e2⟩:=XW rv;subst e2;have hl:s.heap.IsList a (intItems ps.toArray):=by
  have:=p.isList;have e:intItems ps.toArray=(ps.map fun p=>Value.int p.1 p.2).toArray:=by unfold intItems;simp
  rw[e];exact this
 have hps:0<ps.toArray.size:=by grind
 refine max_intList (I.ok.hd hc) hl hps fun v h' tk hv k=>?_;obtain⟨b1,b2⟩:=argBest_gt (numAt ps.toArray) (ps.toArray.size - 1);generalize argBest (fun i j=>decide (numAt ps.toArray i > numAt ps.toArray j)) (ps.toArray.size - 1)=j at hv b1 b2;obtain⟨t,rfl⟩:=intItems_at hv;have num:∀i:Nat,i<ps.length->ns[i]?=some (numAt ps.toArray i):=fun i hi=>by
  rw[← e1,xJ];unfold numAt;rw[List.getElem?_toArray,xC hi];rfl
 have hsz:ps.toArray.size=ps.length:=xS ..;have hnl:ns.length=ps.length:=by rw[← e1,xB]
 refine⟨.int (numAt ps.toArray j),H,I.kept k,⟨t,rfl⟩,q _ (xO (num j (by lia))) fun x hx=>?_⟩;obtain⟨i,hi⟩:=List.getElem?_of_mem hx;have hil:i<ps.length:=by have:=(xE.mp hi).1;lia
 rw[num i hil] at hi;cases hi
 exact b2 i (by lia)⟩
section
variable{o:Expr}{te:TE}
end
theorem LF(n:Nat)(f:Nat->Option (List V))(Pv:Nat->List V->Hp->Prop)(h0:Pv 0 [] H)(hn:n<=1000000)(hgo:∀i H ys,i<n->Pv i ys H->J.go i H)(hy:∀i H x H' ys,i<n->Pv i ys H->J.yld i H x H'->∃p us,f i=some us/\x=.ref p/\H p=none/\H'=upd H p (.tup us))(hst:∀H ys,Pv n ys H->J.stop n H)(hlen:∀i ys H,Pv i ys H->ys.length<=i)(step:∀i us p ys H,i<n->f i=some us->Pv i ys H->H p=none->Wh nl fv g tt te (.ref p) (upd H p (.tup us)) (fun y H'=>Pv (i+1) (ys ++ [y]) H') fun H'=>Pv (i+1) ys H')(hd:∀ys H,Pv n ys H->∀l,H l=none->Q (.ref l) (upd H l (.lst ys))) :
  Vk J nl fv g tt te Q H:=by
 have mono:∀{x:V}{H:Hp}{Y Y':V->Hp->Prop}{N N':Hp->Prop},Wh nl fv g tt te x H Y N->Y=Y'->N=N'->Wh nl fv g tt te x H Y' N':=fun h e1 e2=>by subst e1;subst e2;exact h
 refine⟨fun i m ys H=>m=n - i/\i<=n/\Pv i ys H,⟨n,by simp,xZ _,h0⟩,?_⟩;rintro i m ys H ⟨rfl,hi,p⟩;have hl:=hlen i ys H p;have hz:(1000000:Nat)<sizeLine:=by decide
 by_cases hlt:i<n
 ·refine .inr ⟨hgo i H ys hlt p,by lia,n - (i+1),by lia,fun x H' y=>?_⟩;obtain⟨q,us,hf,rfl,hq,rfl⟩:=hy i H x H' ys hlt p y;refine mono (step i us q ys H hlt hf p hq) ?_ ?_
  ·funext y H4;apply propext;exact⟨fun q=>⟨rfl,hlt,q⟩,fun q=>q.2.2⟩
  ·funext H3;apply propext;exact⟨fun q=>⟨rfl,hlt,q⟩,fun q=>q.2.2⟩
 ·grind
theorem NV{K:uFg}{l:dN}{nl:Nat}{fv:St}{g:TG}{tt:Tv}{te:TE}{Q:VK}{H:Hp}(xs:aG)(Pv:Nat->List V->Hp->Prop)(h0:Pv 0 [] H)(hn:xs.length<=1000000)(hl:∀i ys H,i<=xs.length->Pv i ys H->ZG K H l xs)(hlen:∀i ys H,Pv i ys H->ys.length<=i)(step:∀i x p ys H,xs[i]?=some x->Pv i ys H->H p=none->Wh nl fv g tt te (.ref p) (upd H p (.tup [.int i,x])) (fun y H'=>Pv (i+1) (ys ++ [y]) H') fun H'=>Pv (i+1) ys H')(hd:∀ys H,Pv xs.length ys H->∀l,H l=none->Q (.ref l) (upd H l (.lst ys))) :
  Vk (Dq K l) nl fv g tt te Q H:=by
 refine LF xs.length (fun i=>(xs[i]?).map fun x=>[.int i,x]) Pv h0 hn (fun i H ys hi p=>⟨xs,hl i ys H (yN hi) p,hi⟩) ?_ (fun H ys p=>⟨xs,hl _ ys H (xD _) p,xD _⟩) hlen ?_ hd
 ·rintro i H x H' ys hi p ⟨q,a,rfl,hq,rfl,ha⟩;exact⟨q,_,by rw[ha xs (hl i ys H (yN hi) p)];rfl,rfl,hq,rfl⟩
 ·grind
theorem NY{K:uFg}{a:dN}{xs:aG}{nl:Nat}{fv:St}{g:TG}{tt:Tv}{te:TE}{Q:VK}{H:Hp}(Pv:Nat->List V->Hp->Prop)(h0:Pv 0 [] H)(hn:xs.length<=1000000)(hl:∀i ys H,i<=xs.length->Pv i ys H->ZP K H a xs)(hlen:∀i ys H,Pv i ys H->ys.length<=i)(step:∀i x ys H,xs[i]?=some x->Pv i ys H->Wh nl fv g tt te x H (fun y H'=>Pv (i+1) (ys ++ [y]) H') fun H'=>Pv (i+1) ys H')(hd:∀ys H,Pv xs.length ys H->∀l,H l=none->Q (.ref l) (upd H l (.lst ys))) :
  Vk (EM K a) nl fv g tt te Q H:=by
 refine BL (xs:=xs) Pv h0 hn ?_ ?_ ?_ hlen step hd
 ·intro i H ys hi p;exact⟨xs,xs[i],hl i ys H (yN hi) p,by simp[hi]⟩
 ·rintro i H x H' ys hi p ⟨rfl,y⟩;exact⟨rfl,y xs (hl i ys _ (yN hi) p)⟩
 ·intro H ys p;exact⟨xs,hl _ ys H (xD _) p,xD _⟩
section
variable{X:Cx}
inductive Aq(K:uFg)(xs:aG)(H:Hp)(Q:VK):Prop
 |mk(p ys)(_:xs=[.ref p])(_:((ZG K H p ys/\∀l,H l=none->Q (.ref l) (upd H l (.tup ys)))\/(ZP K H p ys/\Q (.ref p) H)))
theorem LI:QC X (.type "tuple") (Aq X.K):=.imp ⟨R0⟩ fun _ _ _ ⟨p,y,a,b⟩=>⟨p,y,a,b⟩
end
def We(cmp:Nat->Nat->(Bool->dJ->Prop)->dJ->Prop)(r:Nat->Nat)(N:Nat)(s:dJ):Prop:=∀i j C,i<N->j<N->C (decide (r i<r j)) s->cmp i j C s
def kp(r:Nat->Nat)(p:Array Nat)(i:Nat):Nat:=r (p.getD i 0)
def Pm(N:Nat)(p:Array Nat):Prop:=p.toList.Perm (List.range N)
def YJ(r:Nat->Nat)(p:Array Nat)(m:Nat):Prop:=∀i,i+1<m->kp r p i<=kp r p (i+1)
def AX(r:Nat->Nat)(p:Array Nat)(m:Nat):Prop:=∀i,i+1<m->kp r p (i+1)<=kp r p i
section
variable{s:dJ}{r:Nat->Nat}{N:Nat}{p:Array Nat}
theorem Pm.size(h:Pm N p):p.size=N:=by
 have:=h.length_eq;rw[zO] at this;simpa using this
theorem Pm.lt(h:Pm N p)(hi:i<N):p.getD i 0<N:=by
 have hs:i<p.size:=by rw[h.size];exact hi
 have e:p.getD i 0=p[i]:=by simp[Array.getD,hs]
 have m:p[i]∈p.toList:=by simp
 rw[e];exact yR.mp (h.mem_iff.mp m)
theorem Pm.rev(h:Pm N p)(i j:Nat):Pm N (kas_rev p i j):=(Array.perm_iff_toList_perm.mp (mirror_perm p i j _)).trans h
theorem Pm.bub(h:Pm N p)(i d:Nat):Pm N (bubble p i d):=(Array.perm_iff_toList_perm.mp (bubble_perm p i d)).trans h
theorem Bl(h:p[i]?=q[j]?):kp r p i=kp r q j:=by
 unfold kp;rw[wC,wC,h]
theorem CY(h:Pm N p)(hj:j<=N):kp r (kas_rev p i j) k=if i<=k/\k<j then kp r p (i+j - 1 - k) else kp r p k:=by
 have e:=getElem?_mirror_all (xs:=p) (i:=i) (j:=j) (by rw[h.size];exact hj) k
 by_cases c:i<=k/\k<j
 ·rw[if_pos c] at e ⊢;exact Bl e
 ·rw[if_neg c] at e ⊢;exact Bl e
theorem DW(h:Pm N p)(hk:k<N)(hl:l<=k):kp r (bubble p k (k - l)) i=if i=l then kp r p k else if l<i/\i<=k then kp r p (i - 1) else kp r p i:=by
 have e:=getElem?_bubble (xs:=p) (src:=k) (by rw[h.size];exact hk) (k - l) (by lia) i;have x:k - (k - l)=l:=by lia
 rw[x] at e
 by_cases c:i=l
 ·rw[if_pos c] at e ⊢;exact Bl e
 ·rw[if_neg c] at e ⊢
  by_cases d:l<i/\i<=k
  ·rw[if_pos d] at e ⊢;exact Bl e
  ·rw[if_neg d] at e ⊢;exact Bl e
theorem E7(hR:We cmp r N s)(hp:Pm N p):∀f n,1<=n->n+f<=N->YJ r p n->(∀m,n<=m->m<=n+f->YJ r p m->(m<n+f->kp r p m<kp r p (m - 1))->Q m s)->(kas_asc p f n).kasWp cmp Q s
 | 0,n,h1,h2,hu,k=>k n (xD _) (xD _) hu (fun z=>by lia)
 | f+1,n,h1,h2,hu,k=>by
  refine hR _ _ _ (hp.lt (by lia)) (hp.lt (by lia)) ?_
  by_cases c:r (p.getD n 0)<r (p.getD (n - 1) 0)
  ·rw[xN c];exact k n (xD _) (by lia) hu fun _=>c
  ·rw[xT c];refine E7 hR hp f (n+1) (by lia) (by lia) (fun i hi=>?_) fun m a b u d=>k m (by lia) (by lia) u (fun z=>d (by lia))
   by_cases e:i+1<n
   ·exact hu i e
   ·have:i=n - 1:=by lia
    subst this;rw[show n - 1+1=n by lia];unfold kp;lia
theorem EJ(h:Pm N p)(hn:n<=N)(he:∀i,a<=i->i<n->kp r p i=kp r p (n - 1)):kp r (kas_rev p a n) k=kp r p k:=by
 rw[CY h hn]
 by_cases c:a<=k/\k<n
 ·rw[if_pos c,he (a+n - 1 - k) (by lia) (by lia),he k c.1 c.2]
 ·rw[if_neg c]
theorem Cz(hR:We cmp r N s):∀f p n q,Pm N p->1<=n->n+f<=N->q+1<=n->AX r p n->(∀k,n - (q+1)<=k->k<n->kp r p k=kp r p (n - 1))->
  (∀p' m q',Pm N p'->n<=m->m<=n+f->q'+1<=m->AX r p' m->(∀k,m - (q'+1)<=k->k<m->kp r p' k=kp r p' (m - 1))->Q (p',m,q') s)->(kas_desc f p n q).kasWp cmp Q s
 | 0,p,n,q,hp,h1,h2,hq,hd,he,k=>k p n q hp (xD _) (xD _) hq hd he
 | f+1,p,n,q,hp,h1,h2,hq,hd,he,k=>by
  refine hR _ _ _ (hp.lt (by lia)) (hp.lt (by lia)) ?_
  by_cases c:r (p.getD n 0)<r (p.getD (n - 1) 0)
  ·rw[xN c];have step:AX r p (n+1):=fun i hi=>by
    by_cases e:i+1<n
    ·exact hd i e
    ·have:i=n - 1:=by lia
     subst this;rw[show n - 1+1=n by lia];unfold kp;lia
   show (if true=true then (if q > 0 then kas_desc f (kas_rev p (n - (q+1)) n) (n+1) 0 else kas_desc f p (n+1) 0) else _).kasWp cmp Q s;rw[if_pos rfl]
   by_cases z:q > 0
   ·rw[if_pos z];have same:∀k,kp r (kas_rev p (n - (q+1)) n) k=kp r p k:=fun k=>EJ hp (by lia) he;refine Cz hR f _ (n+1) 0 (hp.rev _ _) (by lia) (by lia) (by lia) (fun i hi=>?_) (fun k a b=>?_) fun p' m q' a b c' d e g=>k p' m q' a (by lia) (by lia) d e g
    ·rw[same,same];exact step i hi
    ·have:k=n+1 - 1:=by lia
     rw[this]
   ·rw[if_neg z];refine Cz hR f p (n+1) 0 hp (by lia) (by lia) (by lia) step (fun k a b=>?_) fun p' m q' a b c' d e g=>k p' m q' a (by lia) (by lia) d e g;have:k=n+1 - 1:=by lia
    rw[this]
  ·rw[xT c];show (if false=true then _ else KasT.ask (p.getD (n - 1) 0) (p.getD n 0) fun d=>if d=true then .ret (p,n,q) else kas_desc f p (n+1) (q+1)).kasWp cmp Q s;rw[if_neg xI];refine hR _ _ _ (hp.lt (by lia)) (hp.lt (by lia)) ?_
   by_cases d:r (p.getD (n - 1) 0)<r (p.getD n 0)
   ·rw[xN d];exact k p n q hp (xD _) (by lia) hq hd he
   ·rw[xT d];have eq:kp r p n=kp r p (n - 1):=by unfold kp;lia
    refine Cz hR f p (n+1) (q+1) hp (by lia) (by lia) (by lia) (fun i hi=>?_) (fun k a b=>?_) fun p' m q' a b c' d e g=>k p' m q' a (by lia) (by lia) d e g
    ·by_cases e:i+1<n
     ·exact hd i e
     ·grind
    ·grind
theorem Um(h:YJ r p m):∀d i,i+d<m->kp r p i<=kp r p (i+d)
 | 0,i,_=>xD _
 | d+1,i,hi=>xW (Um h d i (by lia)) (h (i+d) (by lia))
theorem cE(h:Pm N p)(hn:n<=N)(hd:AX r p n):YJ r (kas_rev p 0 n) n:=fun i hi=>by
 rw[CY h hn,CY h hn,if_pos (by lia),if_pos (by lia)];have:=hd (0+n - 1 - (i+1)) (by lia);rw[show 0+n - 1 - (i+1)+1=0+n - 1 - i by lia] at this;exact this
def DE(r:Nat->Nat)(N:Nat)(Q:Nat×Array Nat->dJ->Prop)(s:dJ):Prop:=∀m p,1<=m->m<=N->Pm N p->YJ r p m->Q (m,p) s
theorem FP(hR:We cmp r N s)(h:Pm N p)(k:DE r N Q s)(h1:1<=n)(hn:n<=N)(hd:AX r p n):(kas_tail3 n N p).kasWp cmp Q s:=by
 unfold kas_tail3;rw[KasT.kasWp_bind];exact E7 hR (h.rev 0 n) (N - n) n h1 (by lia) (cE h hn hd) fun m a b u _=>k m _ (by lia) (by lia) (h.rev 0 n) u
theorem KD(hR:We cmp r N s)(h:Pm N p)(k:DE r N Q s)(hn:n+1<=N)(hd:AX r p (n+1)):(kas_descPart n N p).kasWp cmp Q s:=by
 unfold kas_descPart;rw[KasT.kasWp_bind];refine Cz hR (N - (n+1)) p (n+1) 0 h (by lia) (by lia) (by lia) hd (fun k a b=>by rw[show k=n+1 - 1 by lia]) fun p' m q' a b c d e g=>?_;dsimp only
 by_cases z:q' > 0
 ·rw[if_pos z];have same:∀k,kp r (kas_rev p' (m - (q'+1)) m) k=kp r p' k:=fun k=>EJ a (by lia) g;exact FP hR (a.rev _ _) k (by lia) (by lia) fun i hi=>by rw[same,same];exact e i hi
 ·rw[if_neg z];exact FP hR a k (by lia) (by lia) e
theorem Pc(hR:We cmp r N s)(h:Pm N p)(h1:1<=N)(k:DE r N Q s):(kas_count N p).kasWp cmp Q s:=by
 unfold kas_count;rw[KasT.kasWp_bind];refine E7 hR h (N - 1) 1 (xD _) (by lia) (fun i hi=>by lia) fun m a b u d=>?_
 by_cases z:m=N
 ·rw[if_pos (by rw[z];exact beq_self_eq_true N)];exact k m p a (by lia) h u
 ·rw[if_neg (fun e=>z (eq_of_beq e))];have dm:=d (by lia)
  by_cases y:m > 1
  ·rw[if_pos y];refine hR _ _ _ (h.lt (by lia)) (h.lt (by lia)) ?_
   by_cases c:r (p.getD 0 0)<r (p.getD (m - 1) 0)
   ·rw[xN c];exact k m p a (by lia) h u
   ·rw[xT c];have all:∀i,0<=i->i<m->kp r p i=kp r p (m - 1):=fun i _ hi=>by
     have h0:=Um u i 0 (by lia);have h2:=Um u (m - 1 - i) i (by lia);rw[show 0+i=i by lia] at h0;rw[show i+(m - 1 - i)=m - 1 by lia] at h2;have h3:kp r p (m - 1)<=kp r p 0:=by unfold kp;lia
     lia
    have same:∀k,kp r (kas_rev p 0 m) k=kp r p k:=fun k=>EJ h (by lia) all;refine KD hR (h.rev _ _) k (by lia) fun i hi=>?_;rw[same,same]
    by_cases e:i+1<m
    ·grind
    ·grind
  ·rw[if_neg y];refine KD hR h k (by lia) fun i hi=>?_;rw[show i=m - 1 by lia,show m - 1+1=m by lia];exact yN dm
theorem Ee(hR:We cmp r N s)(h:Pm N p)(hk:k<N)(hu:YJ r p k)(q:∀l,l<=k->(∀i,i<l->kp r p i<=kp r p k)->(∀i,l<=i->i<k->kp r p k<=kp r p i)->Q l s) :
  ∀f l m,l<=m->m<=k->m - l<=f->(∀i,i<l->kp r p i<=kp r p k)->(∀i,m<=i->i<k->kp r p k<=kp r p i)->(kas_place p k f l m).kasWp cmp Q s
 | 0,l,m,a,b,c,lo,hi=>q l (by lia) lo fun i x y=>hi i (by lia) y
 | f+1,l,m,a,b,c,lo,hi=>by
  show (if l>=m then KasT.ret l else _).kasWp cmp Q s
  by_cases z:l>=m
  ·rw[if_pos z];exact q l (by lia) lo fun i x y=>hi i (by lia) y
  ·rw[if_neg z];refine hR _ _ _ (h.lt hk) (h.lt (by lia)) ?_
   by_cases y:r (p.getD k 0)<r (p.getD ((l+m) / 2) 0)
   ·rw[xN y];refine Ee hR h hk hu q f l ((l+m) / 2) (by lia) (by lia) (by lia) lo fun i x w=>?_;have:=Um hu (i - (l+m) / 2) ((l+m) / 2) (by lia);rw[show (l+m) / 2+(i - (l+m) / 2)=i by lia] at this;exact xW (yN y) this
   ·rw[xT y];refine Ee hR h hk hu q f ((l+m) / 2+1) m (by lia) b (by lia) (fun i x=>?_) hi;have:=Um hu ((l+m) / 2 - i) i (by lia);rw[show i+((l+m) / 2 - i)=(l+m) / 2 by lia] at this;exact xW this (Nat.le_of_not_lt y)
theorem KN(hR:We cmp r N s):∀f p k,Pm N p->k+f<=N->YJ r p k->(∀p',Pm N p'->YJ r p' (k+f)->Q p' s)->(kas_bin f p k).kasWp cmp Q s
 | 0,p,k,h,hk,hu,q=>q p h hu
 | f+1,p,k,h,hk,hu,q=>by
  show ((kas_place p k k 0 k).bind fun l=>kas_bin f (bubble p k (k - l)) (k+1)).kasWp cmp Q s;rw[KasT.kasWp_bind];refine Ee hR h (by lia) hu (fun l a lo hi=>?_) k 0 k (by lia) (by lia) (by lia) (fun i x=>by lia) fun i x y=>by lia
  refine KN hR f _ (k+1) (h.bub _ _) (by lia) (fun i x=>?_) fun p' a b=>q p' a (by rw[show k+(f+1)=k+1+f by lia];exact b);rw[DW h (by lia) a,DW h (by lia) a]
  by_cases c:i=l
  ·grind
  ·rw[if_neg c]
   by_cases d:i+1=l
   ·rw[if_pos d,if_neg (by lia)];exact lo i (by lia)
   ·rw[if_neg d]
    by_cases e:l<i
    ·rw[if_pos (by lia),if_pos (by lia),show i+1 - 1=i - 1+1 by lia];exact hu (i - 1) (by lia)
    ·rw[if_neg (by lia),if_neg (by lia)];exact hu i (by lia)
theorem RL(hR:We cmp r N s)(h2:1<=N)(q:∀p,Pm N p->YJ r p N->Q p s):(kas_sort N).kasWp cmp Q s:=by
 unfold kas_sort;rw[KasT.kasWp_bind];refine Pc hR (by show (List.toArray (List.range N)).toList.Perm _;exact List.Perm.refl _) h2 fun m p a b hp u=>?_
 by_cases c:m<N
 ·rw[if_pos c];refine KN hR _ p _ hp (by lia) (by rw[Nat.max_eq_left a];exact u) fun p' x y=>q p' x ?_;rw[show max m 1+(N - max m 1)=N by lia] at y;exact y
 ·rw[if_neg c];exact q p hp (by rw[show N=m by lia];exact u)
end
structure TK (lt:Nat->Nat->Bool):Prop where
 irr:∀i,lt i i=false
 tr:∀i j k,lt i j=true->lt j k=true->lt i k=true
 neg:∀i j k,lt i j=true->lt i k=true\/lt k j=true
def rk(lt:Nat->Nat->Bool)(N i:Nat):Nat:=(List.range N).countP fun k=>lt k i
theorem G0(h:∀k,p k=true->q k=true)(hp:p i=false)(hq:q i=true):∀l:List Nat,i∈l->l.countP p<l.countP q
 | [],m=>nomatch m
 | x::l,m=>by
  have le:=List.countP_mono_left (l:=l) (p:=p) (q:=q) fun k _=>h k;rw[List.countP_cons,List.countP_cons];rcases xF.mp m with rfl | m
  ·rw[hp,hq];simp;lia
  ·have:=G0 h hp hq l m
   by_cases z:p x=true
   ·rw[z,h x z];simp;lia
   ·cases e:q x with
    | true=>simp[z];lia
    | false=>simp[z];lia
theorem Ck(W:TK lt)(hi:i<N):decide (rk lt N i<rk lt N j)=lt i j:=by
 unfold rk;cases e:lt i j with
 | true=>exact xN (G0 (fun k h=>W.tr k i j h e) (W.irr i) e _ (yR.mpr hi))
 | false =>
  refine xT (Nat.not_lt.mpr (List.countP_mono_left fun k _ h=>?_));rcases W.neg k j i h with z | z
  ·exact z
  ·rw[e] at z;cases z
theorem Pm.out{α:Type}{vs:List α}{d:α}(h:Pm vs.length p):(p.toList.map fun i=>vs.getD i d).Perm vs:=by
 have e:(List.range vs.length).map (fun i=>vs.getD i d)=vs:=by
  apply List.ext_getElem
  ·simp
  ·intro i h1 h2;simp[h2]
 have:=h.map fun i=>vs.getD i d;rw[e] at this;exact this
theorem YJ.pair(hp:Pm N p)(u:YJ r p N):p.toList.Pairwise fun i j=>r i<=r j:=by
 rw[List.pairwise_iff_getElem];intro i j hi hj hij;have hs:=hp.size;have hi':i<p.size:=by simpa using hi
 have hj':j<p.size:=by simpa using hj
 have:=Um u (j - i) i (by lia);rw[show i+(j - i)=j by lia] at this;unfold kp at this;simpa [Array.getD,hi',hj'] using this
theorem FV{α:Type}{vs:List α}{d:α}{lt:α->α->Bool}(hp:Pm vs.length p)(W:TK fun i j=>lt (vs.getD i d) (vs.getD j d))(u:YJ (rk (fun i j=>lt (vs.getD i d) (vs.getD j d)) vs.length) p vs.length) :
  (p.toList.map fun i=>vs.getD i d).Perm vs/\(p.toList.map fun i=>vs.getD i d).Pairwise fun a b=>lt b a=false:=by
 refine⟨hp.out,?_⟩;rw[zX];have h1:=u.pair hp;have hm:∀i∈p.toList,i<vs.length:=fun i hi=>yR.mp (hp.mem_iff.mp hi);refine yY ?_ h1;intro i j hi hj h;have:=Ck W (i:=j) (j:=i) (hm j hj);rw[xT (Nat.not_lt.mpr h)] at this;exact this.symm
def ltK:List ZM->List ZM->Bool
 | .inl x::r,.inl y::t=>if x=y then ltK r t else decide (x<y)
 | .inr x::r,.inr y::t=>if x=y then ltK r t else decide (x.cps.toList<y.cps.toList)
 | _,_=>false
def shp(k:List ZM):List Bool:=k.map Sum.isLeft
theorem DM{x y:Str}(h:x≠y)(h2:¬x.cps.toList<y.cps.toList):y.cps.toList<x.cps.toList:=by
 by_cases c:y.cps.toList<x.cps.toList
 ·exact c
 ·exfalso;apply h;have e:x.cps.toList=y.cps.toList:=List.le_antisymm (List.not_lt.mp c) (List.not_lt.mp h2);cases x;cases y;simp only[Str.mk.injEq];exact Array.toList_inj.mp e
theorem dC{x y:Str}(h:x.cps.toList<y.cps.toList):x≠y:=fun e=>by subst e;exact List.lt_irrefl _ h
theorem AS:∀a:List ZM,ltK a a=false
 | []=>rfl
 | .inl x::r=>by rw[ltK,if_pos rfl];exact AS r
 | .inr x::r=>by rw[ltK,if_pos rfl];exact AS r
theorem B4:∀a b c:List ZM,ltK a b=true->ltK b c=true->ltK a c=true
 | .inl x::r,.inl y::t,.inl z::u,h1,h2=>by
  rw[ltK] at h1 h2 ⊢
  by_cases e1:x=y
  ·rw[if_pos e1] at h1;subst e1
   by_cases e2:x=z
   ·rw[if_pos e2] at h2 ⊢;exact B4 r t u h1 h2
   ·rw[if_neg e2] at h2 ⊢;exact h2
  ·grind
 | .inr x::r,.inr y::t,.inr z::u,h1,h2=>by
  rw[ltK] at h1 h2 ⊢
  by_cases e1:x=y
  ·rw[if_pos e1] at h1;subst e1
   by_cases e2:x=z
   ·rw[if_pos e2] at h2 ⊢;exact B4 r t u h1 h2
   ·rw[if_neg e2] at h2 ⊢;exact h2
  ·grind
 | [],_,_,h1,_=>by cases h1
 | .inl _::_,[],_,h1,_=>by cases h1
 | .inr _::_,[],_,h1,_=>by cases h1
 | .inl _::_,.inr _::_,_,h1,_=>by cases h1
 | .inr _::_,.inl _::_,_,h1,_=>by cases h1
 | .inl _::_,.inl _::_,[],_,h2=>by cases h2
 | .inr _::_,.inr _::_,[],_,h2=>by cases h2
 | .inl _::_,.inl _::_,.inr _::_,_,h2=>by cases h2
 | .inr _::_,.inr _::_,.inl _::_,_,h2=>by cases h2
theorem Cs:∀a b c:List ZM,shp a=shp c->ltK a b=true->ltK a c=true\/ltK c b=true
 | .inl x::r,.inl y::t,.inl z::u,hs,h=>by
  have hs':shp r=shp u:=by unfold shp at hs ⊢;simpa using hs
  rw[ltK] at h;rw[ltK,ltK]
  by_cases e1:x=z
  ·subst e1;rw[if_pos rfl]
   by_cases e2:x=y
   ·rw[if_pos e2] at h ⊢;exact Cs r t u hs' h
   ·rw[if_neg e2] at h ⊢;exact .inr h
  ·grind
 | .inr x::r,.inr y::t,.inr z::u,hs,h=>by
  have hs':shp r=shp u:=by unfold shp at hs ⊢;simpa using hs
  rw[ltK] at h;rw[ltK,ltK]
  by_cases e1:x=z
  ·subst e1;rw[if_pos rfl]
   by_cases e2:x=y
   ·rw[if_pos e2] at h ⊢;exact Cs r t u hs' h
   ·rw[if_neg e2] at h ⊢;exact .inr h
  ·rw[if_neg e1]
   by_cases l:x.cps.toList<z.cps.toList
   ·exact .inl (xN l)
   ·have l2:=DM e1 l
    by_cases e2:x=y
    ·subst e2;rw[if_neg (fun q=>e1 q.symm)];exact .inr (xN l2)
    ·grind
 | [],_,_,_,h1=>by cases h1
 | .inl _::_,[],_,_,h1=>by cases h1
 | .inr _::_,[],_,_,h1=>by cases h1
 | .inl _::_,.inr _::_,_,_,h1=>by cases h1
 | .inr _::_,.inl _::_,_,_,h1=>by cases h1
 | .inl _::_,.inl _::_,[],hs,_=>by simp[shp] at hs
 | .inr _::_,.inr _::_,[],hs,_=>by simp[shp] at hs
 | .inl _::_,.inl _::_,.inr _::_,hs,_=>by simp[shp] at hs
 | .inr _::_,.inr _::_,.inl _::_,hs,_=>by simp[shp] at hs
theorem E9:∀a b:List ZM,shp a=shp b->ltK a b=false->ltK b a=false->a=b
 | [],[],_,_,_=>rfl
 | .inl x::r,.inl y::t,hs,h1,h2=>by
  have hs':shp r=shp t:=by unfold shp at hs ⊢;simpa using hs
  rw[ltK] at h1 h2
  by_cases e:x=y
  ·subst e;rw[if_pos rfl] at h1 h2;rw[E9 r t hs' h1 h2]
  ·grind
 | .inr x::r,.inr y::t,hs,h1,h2=>by
  have hs':shp r=shp t:=by unfold shp at hs ⊢;simpa using hs
  rw[ltK] at h1 h2
  by_cases e:x=y
  ·subst e;rw[if_pos rfl] at h1 h2;rw[E9 r t hs' h1 h2]
  ·rw[if_neg e] at h1;rw[if_neg (fun q=>e q.symm)] at h2;exact absurd (DM e (of_decide_eq_false h1)) (of_decide_eq_false h2)
 | [],_::_,hs,_,_=>by simp[shp] at hs
 | .inl _::_,[],hs,_,_=>by simp[shp] at hs
 | .inr _::_,[],hs,_,_=>by simp[shp] at hs
 | .inl _::_,.inr _::_,hs,_,_=>by simp[shp] at hs
 | .inr _::_,.inl _::_,hs,_,_=>by simp[shp] at hs
section
variable{prog:dO}{w:dP}{A:dQ}{s:dJ}
theorem SL(h:Q (decide (x<y)) s):wpAny (model prog w) A (oneLt' (true&&i==0) (.int x t) (.int y u)) Q E s:=by
 rw[wO];cases i==0 with
 | true=>exact oneLt_int h
 | false=>exact kat_one _ _ (lt_int (show PySem.W.BoolBack Q (.bool (decide (x<y))) s from h))
theorem cM(h:Q (decide (x.cps.toList<y.cps.toList)) s):wpAny (model prog w) A (oneLt' (true&&i==0) (.str x t) (.str y u)) Q E s:=by
 rw[wO];cases i==0 with
 | true=>exact oneLt_str h
 | false=>exact kat_one _ _ (lt_str (show PySem.W.BoolBack Q (.bool (decide (x.cps.toList<y.cps.toList))) s from h))
theorem Cg:∀k1 k2 us vs i,shp k1=shp k2->ZH (k1.map kV) us->ZH (k2.map kV) vs->Q (ltK k1 k2) s->KatLex prog w A true false Q (us.zip vs) i s
 | [],[],_,_,i,_,.nil,.nil,h=>kat_nil h
 | .inl x::r,.inl y::t,_,_,i,hs,.cons r1 rr,.cons q1 qq,h=>by
  obtain⟨t1,rfl⟩:=r1;obtain⟨t2,rfl⟩:=q1;have hs':shp r=shp t:=by unfold shp at hs ⊢;simpa using hs
  rw[ltK] at h;refine kat_cons (wpAny_eqBool_int ?_)
  by_cases e:x=y
  ·rw[if_pos e] at h;rw[beq_iff_eq.mpr e];exact kat_yes (Cg r t _ _ (i+1) hs' rr qq h)
  ·rw[if_neg e] at h;rw[beq_eq_false_iff_ne.mpr e];exact kat_no (SL h)
 | .inr x::r,.inr y::t,_,_,i,hs,.cons r1 rr,.cons q1 qq,h=>by
  obtain⟨t1,rfl⟩:=r1;obtain⟨t2,rfl⟩:=q1;have hs':shp r=shp t:=by unfold shp at hs ⊢;simpa using hs
  rw[ltK] at h;refine kat_cons (wpAny_eqBool_str ?_)
  by_cases e:x=y
  ·rw[if_pos e] at h;rw[xN e];exact kat_yes (Cg r t _ _ (i+1) hs' rr qq h)
  ·rw[if_neg e] at h;rw[xT e];exact kat_no (cM h)
 | .inl _::_,.inr _::_,_,_,_,hs,_,_,_=>by simp[shp] at hs
 | .inr _::_,.inl _::_,_,_,_,hs,_,_,_=>by simp[shp] at hs
 | [],_::_,_,_,_,hs,_,_,_=>by simp[shp] at hs
 | _::_,[],_,_,_,hs,_,_,_=>by simp[shp] at hs
def C8(prog:dO)(w:dP)(A:dQ)(s:dJ)(a:dN)(vs:dG)(r:Nat->Nat):Prop:=2<=vs.length->∀h':Heap,(∀b o,b≠a->s.heap.get? b=some o->h'.get? b=some o)->
 ∀Q:SortKind->dJ->Prop,(∀ κ,We (kas_ask prog w A κ vs) r vs.length {s with heap:=h' }->Q κ {s with heap:=h' })->wpAny (model prog w) A (keyKind' vs.toArray) Q (fun _ _=>False) {s with heap:=h' }
theorem Iz(ho:s.heap.get? a=some (seqObj "list" vs.toArray n))(h64:vs.length<64)(hk:C8 prog w A s a vs r)(q:∀p:Array Nat,Pm vs.length p->YJ r p vs.length->P (.done (.ret .none)) {s with heap:=sortedHeap s.heap a vs (List.toArray (p.toList.map fun i=>vs.getD i Value.none)) }):wpAny (model prog w) A (Builtin.«list.sort» ⟨[.ref a],[]⟩) P E s:=by
 have la:a<s.heap.objs.size:=xH ho;obtain⟨e1,h1⟩:∃e1,(s.heap.update a (Obj.mapSeq fun _=>(#[]:Array dM))).get? a=some (seqObj "list" #[] e1):=⟨_,get?_update_seq ho fun _=>#[]⟩;have old:∀b o,b≠a->s.heap.get? b=some o->(((s.heap.update a (Obj.mapSeq fun _=>(#[]:Array dM))).push (seqObj "tuple" vs.toArray 0)).push (seqObj "list" #[] 0)).get? b=some o:=fun b o nb e =>
  xA _ (xA _ (by rw[zC _ _ _ _ nb];exact e))
 have h6:(((s.heap.update a (Obj.mapSeq fun _=>(#[]:Array dM))).push (seqObj "tuple" vs.toArray 0)).push (seqObj "list" #[] 0)).get? a=some (seqObj "list" #[] e1):=xA _ (xA _ h1);rw[list_sort_plain];refine wpAny_bind (listItems_at ho rfl (wpAny_bind (listUpdate_at ho rfl (wpAny_bind (seqEpoch_at h1 rfl (wpAny_bind (wpAny_newTuple (wpAny_bind (wpAny_newList (wpAny_holding ?_))))))))))<;>try (rw[sizeLine_eq];simp;lia)
 show wpAny (model prog w) A _ P E {s with heap:=((s.heap.update a (Obj.mapSeq fun _=>(#[]:Array dM))).push (seqObj "tuple" vs.toArray 0)).push (seqObj "list" #[] 0) };dsimp only
 by_cases h2:vs.toArray.size<2
 ·have l2:vs.length<2:=by simpa using h2
  rw[if_pos h2,if_pos h2];refine wpAny_bind (wpAny_pure ?_);rw[StateT.run_pure];refine wpAny_bind (wpAny_pure ?_);dsimp only;have em:(Array.map (fun x=>x.2) (arrOf (SortSt.mk' general' (vs.toArray.zip vs.toArray) #[] 7 none)))=List.toArray ((List.toArray (List.range vs.length)).toList.map fun i=>vs.getD i Value.none):=by
   show Array.map (fun x=>x.2) (vs.toArray.zip vs.toArray)=_
   match vs,l2 with
   | [],_=>simp
   | [v],_=>simp[wP]
  rw[em];have pm:Pm vs.length (List.toArray (List.range vs.length)):=List.Perm.refl _;have sz:(List.toArray ((List.toArray (List.range vs.length)).toList.map fun i=>vs.getD i Value.none)).size<=sizeLine+1:=by rw[sizeLine_eq];simp;lia
  refine wpAny_bind (seqEpoch_at h6 rfl (wpAny_bind (listUpdate_at h6 rfl ?_ (xZ _) sz)));simp only[bne_self_eq_false,zK,if_false];exact wpAny_pure (q _ pm fun i hi=>by lia)
 ·have l2:2<=vs.length:=by simp at h2;lia
  rw[if_neg h2,if_neg h2];refine wpAny_bind (wpAny_mono (hk l2 _ old (fun κ s'=>s'={s with heap:=((s.heap.update a (Obj.mapSeq fun _=>(#[]:Array dM))).push (seqObj "tuple" vs.toArray 0)).push (seqObj "list" #[] 0) }/\We (kas_ask prog w A κ vs) r vs.length s') fun κ hr=>⟨rfl,hr⟩) (fun κ s0 hq=>?_) fun _ _ x=>x.elim);obtain⟨rfl,hr⟩:=hq;refine wpAny_bind (wpAny_mono (kat_run (ks:=vs) (vs:=vs) (κ:=κ) (G:=fun p s'=>s'={s with heap:=((s.heap.update a (Obj.mapSeq fun _=>(#[]:Array dM))).push (seqObj "tuple" vs.toArray 0)).push (seqObj "list" #[] 0) }/\Pm vs.length p/\YJ r p vs.length) (Q:=fun st' s'=>s'={s with heap:=((s.heap.update a (Obj.mapSeq fun _=>(#[]:Array dM))).push (seqObj "tuple" vs.toArray 0)).push (seqObj "list" #[] 0) }/\∃p:Array Nat,(arrOf st').map (·.2)=List.toArray (p.toList.map fun i=>vs.getD i Value.none)/\failedOf st'=none/\Pm vs.length p/\YJ r p vs.length) rfl l2 h64 (fun p st' s' a1 a2 a3 a4=>⟨a4.1,p,kat_snds rfl a2,a3,a4.2⟩) (RL hr (by lia) fun p a b=>⟨rfl,a,b⟩)) ?_ fun _ _ e=>e);rintro⟨⟨⟩,st'⟩ s' ⟨rfl,p,ho',hf,hp,hu⟩;dsimp only;rw[ho'];have sz:(List.toArray (p.toList.map fun i=>vs.getD i Value.none)).size<=sizeLine+1:=by rw[sizeLine_eq];simp[hp.size];lia
  refine wpAny_bind (seqEpoch_at h6 rfl (wpAny_bind (listUpdate_at h6 rfl ?_ (xZ _) sz)));rw[hf];simp only[bne_self_eq_false,zK,if_false];exact wpAny_pure (q p hp hu)
theorem SU(hl:s.heap.IsList l vs.toArray)(h64:vs.length<64)(hk:∀h0:Heap,(∀b o,s.heap.get? b=some o->h0.get? b=some o)->C8 prog w A.in1.in1 {s with heap:=h0 } (s.heap.objs.size+1) vs r)(q:∀p:Array Nat,Pm vs.length p->YJ r p vs.length->Q (.ref (s.heap.objs.size+1)) {s with heap:=sortedAll s.heap vs (List.toArray (p.toList.map fun i=>vs.getD i Value.none)) }):wpAny (model prog w) A (call (.builtin "sorted") [.ref l]) Q E s:=by
 refine Calls.call_function_entry kind_sorted plain_sorted entry_sorted (args_sorted1 _) ?_;have hz:vs.length<=sizeLine:=by rw[sizeLine_eq];lia
 unfold Builtin.«sorted»;refine wpAny_bind (m:=checkCount "sorted" 1 1 _) (wpAny_pure (wpAny_bind (collect_list hl (wpAny_bind (wpAny_newList ?_ hz)) hz)));have zz:((s.heap.push (seqObj "list" #[] 0)).update s.heap.objs.size (Obj.mapSeq (· ++ vs.toArray))).objs.size=s.heap.objs.size+1:=by rw[Heap.size_update];exact size_push' _ _
 have hL:(((s.heap.push (seqObj "list" #[] 0)).update s.heap.objs.size (Obj.mapSeq (· ++ vs.toArray))).push (seqObj "list" vs.toArray 0)).get? (s.heap.objs.size+1)=some (seqObj "list" vs.toArray 0):=by have:=xG ((s.heap.push (seqObj "list" #[] 0)).update s.heap.objs.size (Obj.mapSeq (· ++ vs.toArray))) (o:=seqObj "list" vs.toArray 0) rfl;rw[zz] at this;exact this
 have old:∀b o,s.heap.get? b=some o->(((s.heap.push (seqObj "list" #[] 0)).update s.heap.objs.size (Obj.mapSeq (· ++ vs.toArray))).push (seqObj "list" vs.toArray 0)).get? b=some o:=fun b o e =>
  xA _ (by rw[zC _ _ _ _ (xY (xH e))];exact xA _ e)
 show wpAny _ _ _ _ _ {s with heap:=((s.heap.push (seqObj "list" #[] 0)).update s.heap.objs.size (Obj.mapSeq (· ++ vs.toArray))).push (seqObj "list" vs.toArray 0) };rw[zz];exact wpAny_bind (wpAny_holding (wpAny_call_entry slot_list_sort ⟨_,hL,rfl⟩ entry_list_sort (Iz hL h64 (hk _ old) fun p hp hu=>⟨_,rfl,wpAny_pure ⟨_,rfl,q p hp hu⟩⟩) (args_list_sort _)))
end
def YB(H:Hp)(p:dN×List ZM):Prop:=H p.1=some (.tup (p.2.map kV))
inductive TB(K:uFg)(xs:aG)(H:Hp)(Q:VK):Prop
 |mk(a:dN) (ps:List (dN×List ZM)) (sh:List Bool)(_:xs=[.ref a])(_:ZG K H a (ps.map fun p=>V.ref p.1))(_:ps.length<64)(_:(∀p∈ps,YB H p/\shp p.2=sh))(_:sh ≠ [])(_:∀(l:dN)(ms:List (dN×List ZM)),H l=none->ms.Perm ps->ms.Pairwise (fun p q=>ltK q.2 p.2=false)->Q (.ref l) (upd H l (.lst (ms.map fun p=>V.ref p.1))))
theorem Iy:∀{ps:List (dN×List ZM)}{its:dG},ZH (ps.map fun p=>V.ref p.1) its->its=ps.map fun p=>Value.ref p.1
 | [],_,.nil=>rfl
 | p::ps,_,.cons r rr=>by cases r;rw[yF,Iy rr]
theorem EH:∀ps:List (dN×List ZM),ZH (ps.map fun p=>V.ref p.1) (ps.map fun p=>Value.ref p.1)
 | []=>.nil
 | p::ps=>.cons rfl (EH ps)
theorem Fi{pins:List (dN×Obj)}{U:St}{H:Hp}{s:dJ}(I:ZE X pins U H s){sh:List Bool}(hne:sh ≠ []){h':Heap}(hk:∀p o,YB H p->s.heap.get? p.1=some o->h'.get? p.1=some o):∀ps:List (dN×List ZM),(∀p∈ps,YB H p/\shp p.2=sh)->
  ∃fs,KatTups h' (ps.map fun p=>Value.ref p.1) fs/\fs.length=ps.length/\∀v∈fs,Looks (model X.prog X.w) h' (typeOf v) (.type (if sh.head hne then "int" else "str"))
 | [],_=>⟨[],.nil,rfl,fun v hv=>by simp at hv⟩
 | p::ps,h=>by
  obtain⟨fs,h1,h2,h3⟩:=Fi I hne hk ps fun q hq=>h q (yC _ hq);obtain⟨ht,hs⟩:=h p xU;obtain⟨a,ks⟩:=p;obtain⟨its,rv,⟨o,e1,e2,n,e3⟩,_⟩:=I.tuple (ZP.of ht);cases ks with
  | nil=>exact absurd hs.symm hne
  | cons k r =>
   cases k with
   | inl x =>
    subst hs;cases rv with
    | cons r1 rr =>
     obtain⟨t,rfl⟩:=r1;refine⟨.int x t::fs,KatTups.cons (hk (a,.inl x::r) o ht e1) e2 e3 (by simp) h1,by rw[xX,xX,h2],fun v hv=>?_⟩;rcases xF.mp hv with rfl | hv
     ·exact Looks.of_pure rfl
     ·exact h3 v hv
   | inr x =>
    subst hs;cases rv with
    | cons r1 rr =>
     obtain⟨t,rfl⟩:=r1;refine⟨.str x t::fs,KatTups.cons (hk (a,.inr x::r) o ht e1) e2 e3 (by simp) h1,by rw[xX,xX,h2],fun v hv=>?_⟩;rcases xF.mp hv with rfl | hv
     ·exact Looks.of_pure rfl
     ·exact h3 v hv
theorem E6{ps:List (dN×List ZM)}{sh:List Bool}{H:Hp}(ht:∀p∈ps,YB H p/\shp p.2=sh):∃sh',∀i,shp (ps.getD i (ps.headD (0,[]))).2=sh':=by
 cases ps with
 | nil=>exact⟨[],fun i=>by simp[shp]⟩
 | cons p ps =>
  refine⟨sh,fun i=>?_⟩;rw[xL];cases e:(p::ps)[i]? with
  | none=>exact(ht p xU).2
  | some x=>exact(ht x (xO e)).2
theorem cX:QC X (.builtin "sorted") (TB X.K):=⟨by
 intro pins s U H xs us Q I r h;obtain⟨a,ps,sh,rfl,ha,hl,ht,hne,q⟩:=h;obtain⟨u,rfl,ru⟩:=Vg r;cases ru;obtain⟨its,rv,p,_⟩:=I.list ha;have ei:=Iy rv;subst ei;obtain⟨sh',hsh⟩:=E6 ht;have W:TK fun i j=>ltK (ps.getD i (ps.headD (0,[]))).2 (ps.getD j (ps.headD (0,[]))).2:=⟨fun i=>AS _,fun i j k=>B4 _ _ _,fun i j k=>Cs _ _ _ ((hsh i).trans (hsh k).symm)⟩;have hlen:(ps.map fun p=>Value.ref p.1).length=ps.length:=xB ..;refine SU (r:=rk (fun i j=>ltK (ps.getD i (ps.headD (0,[]))).2 (ps.getD j (ps.headD (0,[]))).2) ps.length) p.isList (by rw[hlen];exact hl) (fun h0 hk0 l2 h' hk Q' hQ=>?_) fun pa hp hu=>?_
 ·have hold:∀(p:dN×List ZM)(o:Obj),YB H p->s.heap.get? p.1=some o->h'.get? p.1=some o:=fun p o _ e=>hk _ _ (xY (zB (xH e))) (hk0 _ _ e);obtain⟨fs,f1,f2,f3⟩:=Fi (h':=h') I hne hold ps ht;have tt:(Value.type (if sh.head hne then "int" else "str") != Value.type "tuple")=true:=by cases sh.head hne<;>rfl
  have t2:(Value.type (if sh.head hne then "int" else "str")== Value.type (if sh.head hne then "int" else "str"))=true:=by cases sh.head hne<;>rfl
  refine kat_kind (s:={s with heap:=h' }) f1 (by lia) f3 t2 (hQ _ fun i j C hi hj hC=>?_);rw[tt];rw[hlen] at hi hj;have get:∀{i},i<ps.length->∃p its o n,ps.getD i (ps.headD (0,[]))=p/\(ps.map fun p=>Value.ref p.1).getD i Value.none=.ref p.1/\ZH (p.2.map kV) its/\h'.get? p.1=some o/\o.data=.seq its.toArray n:=fun {i} hi=>by
   have e:ps[i]?=some ps[i]:=xC hi;have m:=zJ hi;obtain⟨its,rv,⟨o,e1,e2,n,e3⟩,_⟩:=I.tuple (ZP.of (ht _ m).1);exact⟨ps[i],its,o,n,by rw[xL,e];rfl,by rw[xL,xJ,e];rfl,rv,hold _ o (ht _ m).1 e1,e3⟩
  obtain⟨x,xs,ox,nx,ex,gx,vx,hx,dx⟩:=get hi;obtain⟨y,ys,oy,ny,ey,gy,vy,hy,dy⟩:=get hj;rw[Ck W hi] at hC;have s1:=hsh i;have s2:=hsh j;rw[ex] at hC s1;rw[ey] at hC s2;show wpAny (model X.prog X.w) X.A.in1.in1 (keyLt' (tuples' true) _ _) C (fun _ _=>False) {s with heap:=h' };rw[gx,gy];have sz:xs.length=ys.length:=by
   have a1:=vx.length;have a2:=vy.length
   have a3:(shp x.2).length=(shp y.2).length:=by rw[s1,s2]
   unfold shp at a3;rw[xB] at a1 a2 a3;rw[xB] at a3;lia
  refine kat_lt hx dx hy dy ?_;rw[xT (by simp[sz])];exact Cg x.2 y.2 xs ys 0 (s1.trans s2.symm) vx vy hC
 ·rw[hlen] at hp hu;obtain⟨b1,b2⟩:=FV (lt:=fun a b:dN×List ZM=>ltK a.2 b.2) hp W hu;obtain⟨e,he⟩:=sortedAll_at s.heap (ps.map fun p=>Value.ref p.1) (List.toArray (pa.toList.map fun i=>(ps.map fun p=>Value.ref p.1).getD i Value.none));have eo:(pa.toList.map fun i=>(ps.map fun p=>Value.ref p.1).getD i Value.none)=(pa.toList.map fun i=>ps.getD i (ps.headD (0,[]))).map fun p=>Value.ref p.1:=by
   rw[wK];refine wM fun i hi=>?_;have li:i<ps.length:=yR.mp (hp.mem_iff.mp hi);show _=Value.ref (ps.getD i (ps.headD (0,[]))).1;rw[xL,xL,xJ,xC li];rfl
  rw[eo] at he ⊢;generalize (pa.toList.map fun i=>ps.getD i (ps.headD (0,[])))=ms at b1 b2 he ⊢;have hz:ms.length=ps.length:=b1.length_eq;refine⟨.ref (s.heap.objs.size+1),_,I.laid (t':=s.toks) (o:=.lst (ms.map fun p=>V.ref p.1)) (fun b o=>sortedAll_old) (wS _) ?_,rfl,q _ ms (I.hok.fresh (wS _)) b1 b2⟩
  exact⟨by rw[xB,hz];exact xW (yN hl) aA,ms.map fun p=>Value.ref p.1,e,EH ms,by simpa using he⟩⟩
def LL(r:Nat->Nat)(a b:Nat):Prop:=r a<r b\/(r a=r b/\a<b)
theorem LL.le(h:LL r a b):r a<=r b:=by rcases h with h | h<;>lia
structure Tl (N m:Nat) (p:Array Nat):Prop where
 pm:Pm N p
 tl:∀j,m<=j->j<N->p.getD j 0=j
 hd:∀j,j<m->p.getD j 0<m
def VB(r:Nat->Nat)(p:Array Nat)(m:Nat):Prop:=∀i,i+1<m->LL r (p.getD i 0) (p.getD (i+1) 0)
def Dt(r:Nat->Nat)(p:Array Nat)(m:Nat):Prop:=∀i,i+1<m->LL r (p.getD (i+1) 0) (p.getD i 0)
section
variable{s:dJ}{r:Nat->Nat}{N:Nat}{p:Array Nat}
theorem VB.up(h:VB r p m):YJ r p m:=fun i hi=>(h i hi).le
theorem Vt(h:Pm N p)(hj:j<=N):(kas_rev p i j).getD k 0=if i<=k/\k<j then p.getD (i+j - 1 - k) 0 else p.getD k 0:=CY (r:=id) h hj
theorem CK(h:Pm N p)(hk:k<N)(hl:l<=k):(bubble p k (k - l)).getD i 0=if i=l then p.getD k 0 else if l<i/\i<=k then p.getD (i - 1) 0 else p.getD i 0:=DW (r:=id) h hk hl
theorem Tl.step(h:Tl N n p)(hn:n<N):Tl N (n+1) p:=⟨h.pm,fun j a b=>h.tl j (by lia) b,fun j hj=>by
 by_cases e:j<n
 ·have:=h.hd j e;lia
 ·have:j=n:=by lia
  subst this
  rw[h.tl j (xD _) hn];lia⟩
theorem Tl.rev(h:Tl N n p)(hj:j<=n)(hn:n<=N):Tl N n (kas_rev p i j):=⟨h.pm.rev i j,fun k a b=>by rw[Vt h.pm (by lia),if_neg (by lia)];exact h.tl k a b,fun k hk=>by
 rw[Vt h.pm (by lia)]
 by_cases c:i<=k/\k<j
 ·rw[if_pos c];exact h.hd _ (by lia)
 ·rw[if_neg c];exact h.hd k hk⟩
theorem DQ(hR:We cmp r N s):∀f n,1<=n->n+f<=N->Tl N n p->VB r p n->(∀m,n<=m->m<=n+f->Tl N m p->VB r p m->(m<n+f->r (p.getD m 0)<r (p.getD (m - 1) 0))->Q m s)->(kas_asc p f n).kasWp cmp Q s
 | 0,n,h1,h2,ht,hu,k=>k n (xD _) (xD _) ht hu (fun z=>by lia)
 | f+1,n,h1,h2,ht,hu,k=>by
  refine hR _ _ _ (ht.pm.lt (by lia)) (ht.pm.lt (by lia)) ?_
  by_cases c:r (p.getD n 0)<r (p.getD (n - 1) 0)
  ·rw[xN c];exact k n (xD _) (by lia) ht hu fun _=>c
  ·rw[xT c];refine DQ hR f (n+1) (by lia) (by lia) (ht.step (by lia)) (fun i hi=>?_) fun m a b t u d=>k m (by lia) (by lia) t u (fun z=>d (by lia))
   by_cases e:i+1<n
   ·exact hu i e
   ·have:i=n - 1:=by lia
    subst this;rw[show n - 1+1=n by lia];have e1:=ht.tl n (xD _) (by lia);have e2:=ht.hd (n - 1) (by lia);rw[e1] at c ⊢;unfold LL;lia
structure Dn (r:Nat->Nat) (p:Array Nat) (z n:Nat):Prop where
 a:∀i,i+1<=z->LL r (p.getD (i+1) 0) (p.getD i 0)
 b:∀i,i+1=z->r (p.getD (i+1) 0)<r (p.getD i 0)
 c:∀i,z<=i->i+1<n->r (p.getD i 0)=r (p.getD (i+1) 0)/\p.getD i 0<p.getD (i+1) 0
theorem Dn.eq{b n:Nat}(h:Dn r p b n):∀d,b+d<n->r (p.getD b 0)=r (p.getD (b+d) 0)
 | 0,_=>rfl
 | d+1,hd=>(h.eq d (by lia)).trans (h.c (b+d) (by lia) (by lia)).1
theorem Dn.flip{b n:Nat}(h:Dn r p b n)(hp:Pm N p)(hb:b<n)(hn:n<=N):Dt r (kas_rev p b n) n:=fun i hi=>by
 rw[Vt hp hn,Vt hp hn]
 by_cases c1:i+1<b
 ·rw[if_neg (by lia),if_neg (by lia)];exact h.a i (by lia)
 ·by_cases c2:i+1=b
  ·rw[if_pos (by lia),if_neg (by lia),show b+n - 1 - (i+1)=n - 1 by lia];have e:=h.eq (n - 1 - b) (by lia);rw[show b+(n - 1 - b)=n - 1 by lia] at e;have e2:=h.b i c2;rw[c2] at e2;exact .inl (by lia)
  ·rw[if_pos (by lia),if_pos (by lia)];have e:=h.c (b+n - 1 - (i+1)) (by lia) (by lia);rw[show b+n - 1 - (i+1)+1=b+n - 1 - i by lia] at e;exact .inr e
theorem CT(hR:We cmp r N s):∀f p n q,Tl N n p->1<=n->n+f<=N->q+1<=n->Dn r p (n - (q+1)) n ->
  (∀p' m q',Tl N m p'->n<=m->m<=n+f->q'+1<=m->Dn r p' (m - (q'+1)) m->Q (p',m,q') s)->(kas_desc f p n q).kasWp cmp Q s
 | 0,p,n,q,hp,h1,h2,hq,hd,k=>k p n q hp (xD _) (xD _) hq hd
 | f+1,p,n,q,hp,h1,h2,hq,hd,k=>by
  refine hR _ _ _ (hp.pm.lt (by lia)) (hp.pm.lt (by lia)) ?_
  by_cases c:r (p.getD n 0)<r (p.getD (n - 1) 0)
  ·rw[xN c];show (if true=true then (if q > 0 then kas_desc f (kas_rev p (n - (q+1)) n) (n+1) 0 else kas_desc f p (n+1) 0) else _).kasWp cmp Q s;rw[if_pos rfl]
   by_cases z:q > 0
   ·rw[if_pos z];have fl:=hd.flip hp.pm (by lia) (by lia);have last:r ((kas_rev p (n - (q+1)) n).getD n 0)<r ((kas_rev p (n - (q+1)) n).getD (n - 1) 0):=by
     rw[Vt hp.pm (by lia),Vt hp.pm (by lia),if_neg (by lia),if_pos (by lia),show n - (q+1)+n - 1 - (n - 1)=n - (q+1) by lia];have e:=hd.eq q (by lia);rw[show n - (q+1)+q=n - 1 by lia] at e;lia
    refine CT hR f _ (n+1) 0 ((hp.rev (by lia) (by lia)).step (by lia)) (by lia) (by lia) (by lia) ⟨fun i hi=>?_,fun i hi=>?_,fun i a b=>by lia⟩ fun p' m q' a b c' d e=>k p' m q' a (by lia) (by lia) d e
    ·by_cases e:i+1<n
     ·exact fl i e
     ·have:i=n - 1:=by lia
      subst this;rw[show n - 1+1=n by lia];exact .inl last
    ·grind
   ·rw[if_neg z];have q0:q=0:=by lia
    subst q0;refine CT hR f p (n+1) 0 (hp.step (by lia)) (by lia) (by lia) (by lia) ⟨fun i hi=>?_,fun i hi=>?_,fun i a b=>by lia⟩ fun p' m q' a b c' d e=>k p' m q' a (by lia) (by lia) d e
    ·by_cases e:i+1<n
     ·exact hd.a i (by lia)
     ·have:i=n - 1:=by lia
      subst this;rw[show n - 1+1=n by lia];exact .inl c
    ·grind
  ·rw[xT c];show (if false=true then _ else KasT.ask (p.getD (n - 1) 0) (p.getD n 0) fun d=>if d=true then .ret (p,n,q) else kas_desc f p (n+1) (q+1)).kasWp cmp Q s;rw[if_neg xI];refine hR _ _ _ (hp.pm.lt (by lia)) (hp.pm.lt (by lia)) ?_
   by_cases d:r (p.getD (n - 1) 0)<r (p.getD n 0)
   ·rw[xN d];exact k p n q hp (xD _) (by lia) hq hd
   ·rw[xT d];have e1:=hp.tl n (xD _) (by lia);have e2:=hp.hd (n - 1) (by lia);have eb:n+1 - (q+1+1)=n - (q+1):=by lia
    refine CT hR f p (n+1) (q+1) (hp.step (by lia)) (by lia) (by lia) (by lia) (by
     rw[eb];refine⟨hd.a,hd.b,fun i a b=>?_⟩
     by_cases e:i+1<n
     ·exact hd.c i a e
     ·have:i=n - 1:=by lia
      subst this;rw[show n - 1+1=n by lia]
      exact⟨by lia,by lia⟩) fun p' m q' a b c' d e=>k p' m q' a (by lia) (by lia) d e
theorem PQ(h:Pm N p)(hn:n<=N)(hd:Dt r p n):VB r (kas_rev p 0 n) n:=fun i hi=>by
 rw[Vt h hn,Vt h hn,if_pos (by lia),if_pos (by lia)];have:=hd (0+n - 1 - (i+1)) (by lia);rw[show 0+n - 1 - (i+1)+1=0+n - 1 - i by lia] at this;exact this
def Ex(r:Nat->Nat)(N:Nat)(Q:Nat×Array Nat->dJ->Prop)(s:dJ):Prop:=∀m p,1<=m->m<=N->Tl N m p->VB r p m->Q (m,p) s
theorem Kg(hR:We cmp r N s)(h:Tl N n p)(k:Ex r N Q s)(h1:1<=n)(hn:n<=N)(hd:Dt r p n):(kas_tail3 n N p).kasWp cmp Q s:=by
 unfold kas_tail3;rw[KasT.kasWp_bind];exact DQ hR (N - n) n h1 (by lia) (h.rev (xD _) hn) (PQ h.pm hn hd) fun m a b t u _=>k m _ (by lia) (by lia) t u
theorem FJ(hR:We cmp r N s)(h:Tl N (n+1) p)(k:Ex r N Q s)(hn:n+1<=N)(hd:Dn r p n (n+1)):(kas_descPart n N p).kasWp cmp Q s:=by
 unfold kas_descPart;rw[KasT.kasWp_bind];refine CT hR (N - (n+1)) p (n+1) 0 h (by lia) (by lia) (by lia) hd fun p' m q' a b c d e=>?_;dsimp only
 by_cases z:q' > 0
 ·rw[if_pos z];exact Kg hR (a.rev (xD _) (by lia)) k (by lia) (by lia) (e.flip a.pm (by lia) (by lia))
 ·rw[if_neg z];exact Kg hR a k (by lia) (by lia) fun i hi=>e.a i (by lia)
theorem OG(hR:We cmp r N s)(h:Tl N 1 p)(h1:1<=N)(k:Ex r N Q s):(kas_count N p).kasWp cmp Q s:=by
 unfold kas_count;rw[KasT.kasWp_bind];refine DQ hR (N - 1) 1 (xD _) (by lia) h (fun i hi=>by lia) fun m a b t u d=>?_
 by_cases z:m=N
 ·rw[if_pos (by rw[z];exact beq_self_eq_true N)];exact k m p a (by lia) t u
 ·rw[if_neg (fun e=>z (eq_of_beq e))];have dm:=d (by lia)
  by_cases y:m > 1
  ·rw[if_pos y];refine hR _ _ _ (h.pm.lt (by lia)) (h.pm.lt (by lia)) ?_
   by_cases c:r (p.getD 0 0)<r (p.getD (m - 1) 0)
   ·rw[xN c];exact k m p a (by lia) t u
   ·rw[xT c];have all:∀i,i<m->r (p.getD i 0)=r (p.getD (m - 1) 0):=fun i hi=>by
     have h0:=Um u.up i 0 (by lia);have h2:=Um u.up (m - 1 - i) i (by lia);rw[show 0+i=i by lia] at h0;rw[show i+(m - 1 - i)=m - 1 by lia] at h2;unfold kp at h0 h2;lia
    refine FJ hR ((t.rev (xD _) (by lia)).step (by lia)) k (by lia) ⟨fun i hi=>?_,fun i hi=>?_,fun i a b=>by lia⟩
    ·rw[Vt h.pm (by lia),Vt h.pm (by lia)]
     by_cases e:i+1<m
     ·rw[if_pos (by lia),if_pos (by lia)];have e2:=u (0+m - 1 - (i+1)) (by lia);rw[show 0+m - 1 - (i+1)+1=0+m - 1 - i by lia] at e2;have a1:=all (0+m - 1 - (i+1)) (by lia);have a2:=all (0+m - 1 - i) (by lia);rcases e2 with e2 | e2
      ·lia
      ·exact .inr ⟨by lia,e2.2⟩
     ·rw[if_neg (by lia),if_pos (by lia)];have e3:i+1=m:=by lia
      rw[e3,show 0+m - 1 - i=0 by lia];have:=all 0 (by lia);exact .inl (by lia)
    ·rw[Vt h.pm (by lia),Vt h.pm (by lia),if_neg (by lia),if_pos (by lia),hi,show 0+m - 1 - i=0 by lia];have:=all 0 (by lia);lia
  ·rw[if_neg y];have m1:m=1:=by lia
   subst m1;refine FJ hR (t.step (by lia)) k (by lia) ⟨fun i hi=>?_,fun i hi=>?_,fun i a b=>by lia⟩
   ·have:i=0:=by lia
    subst this;exact .inl dm
   ·have:i=0:=by lia
    subst this;exact dm
theorem Dx(hR:We cmp r N s)(h:Pm N p)(hk:k<N)(hu:YJ r p k)(q:∀l,l<=k->(∀i,i<l->kp r p i<=kp r p k)->(∀i,l<=i->i<k->kp r p k<kp r p i)->Q l s) :
  ∀f l m,l<=m->m<=k->m - l<=f->(∀i,i<l->kp r p i<=kp r p k)->(∀i,m<=i->i<k->kp r p k<kp r p i)->(kas_place p k f l m).kasWp cmp Q s
 | 0,l,m,a,b,c,lo,hi=>q l (by lia) lo fun i x y=>hi i (by lia) y
 | f+1,l,m,a,b,c,lo,hi=>by
  show (if l>=m then KasT.ret l else _).kasWp cmp Q s
  by_cases z:l>=m
  ·rw[if_pos z];exact q l (by lia) lo fun i x y=>hi i (by lia) y
  ·rw[if_neg z];refine hR _ _ _ (h.lt hk) (h.lt (by lia)) ?_
   by_cases y:r (p.getD k 0)<r (p.getD ((l+m) / 2) 0)
   ·rw[xN y];refine Dx hR h hk hu q f l ((l+m) / 2) (by lia) (by lia) (by lia) lo fun i x w=>?_;have:=Um hu (i - (l+m) / 2) ((l+m) / 2) (by lia);rw[show (l+m) / 2+(i - (l+m) / 2)=i by lia] at this;exact yI y this
   ·rw[xT y];refine Dx hR h hk hu q f ((l+m) / 2+1) m (by lia) b (by lia) (fun i x=>?_) hi;have:=Um hu ((l+m) / 2 - i) i (by lia);rw[show i+((l+m) / 2 - i)=(l+m) / 2 by lia] at this;exact xW this (Nat.le_of_not_lt y)
theorem Gj(hR:We cmp r N s):∀f p k,Tl N k p->k+f<=N->VB r p k->(∀p',Pm N p'->VB r p' (k+f)->Q p' s)->(kas_bin f p k).kasWp cmp Q s
 | 0,p,k,h,hk,hu,q=>q p h.pm hu
 | f+1,p,k,h,hk,hu,q=>by
  show ((kas_place p k k 0 k).bind fun l=>kas_bin f (bubble p k (k - l)) (k+1)).kasWp cmp Q s;rw[KasT.kasWp_bind];refine Dx hR h.pm (by lia) hu.up (fun l a lo hi=>?_) k 0 k (by lia) (by lia) (by lia) (fun i x=>by lia) fun i x y=>by lia
  have ek:=h.tl k (xD _) (by lia);refine Gj hR f _ (k+1) ⟨h.pm.bub _ _,fun j x y=>?_,fun j x=>?_⟩ (by lia) (fun i x=>?_) fun p' a b=>q p' a (by rw[show k+(f+1)=k+1+f by lia];exact b)
  ·rw[CK h.pm (by lia) a,if_neg (by lia),if_neg (by lia)];exact h.tl j (by lia) y
  ·rw[CK h.pm (by lia) a]
   by_cases c:j=l
   ·rw[if_pos c,ek];lia
   ·rw[if_neg c]
    by_cases d:l<j/\j<=k
    ·rw[if_pos d];have:=h.hd (j - 1) (by lia);lia
    ·rw[if_neg d];have:=h.hd j (by lia);lia
  ·rw[CK h.pm (by lia) a,CK h.pm (by lia) a]
   by_cases c:i=l
   ·rw[if_pos c,if_neg (by lia),if_pos (by lia),show i+1 - 1=l by lia];exact .inl (hi l (by lia) (by lia))
   ·rw[if_neg c]
    by_cases d:i+1=l
    ·rw[if_pos d,if_neg (by lia)];have e1:=lo i (by lia);have e2:=h.hd i (by lia);unfold kp at e1;rw[ek] at e1 ⊢;unfold LL;lia
    ·rw[if_neg d]
     by_cases e:l<i
     ·rw[if_pos (by lia),if_pos (by lia),show i+1 - 1=i - 1+1 by lia];exact hu (i - 1) (by lia)
     ·rw[if_neg (by lia),if_neg (by lia)];exact hu i (by lia)
theorem Mf(hR:We cmp r N s)(h2:1<=N)(q:∀p,Pm N p->VB r p N->Q p s):(kas_sort N).kasWp cmp Q s:=by
 unfold kas_sort;rw[KasT.kasWp_bind];have id0:∀j,j<N->(List.toArray (List.range N)).getD j 0=j:=fun j hj=>by simp[Array.getD,hj]
 refine OG hR ⟨by show (List.toArray (List.range N)).toList.Perm _;exact List.Perm.refl _,fun j _ hj=>id0 j hj,fun j hj=>by rw[id0 j (by lia)];exact hj⟩ h2 fun m p a b hp u=>?_
 by_cases c:m<N
 ·rw[if_pos c];refine Gj hR _ p _ (by rw[Nat.max_eq_left a];exact hp) (by lia) (by rw[Nat.max_eq_left a];exact u) fun p' x y=>q p' x ?_;rw[show max m 1+(N - max m 1)=N by lia] at y;exact y
 ·rw[if_neg c];exact q p hp.pm (by rw[show N=m by lia];exact u)
theorem LL.tr(h:LL r a b)(g:LL r b c):LL r a c:=by unfold LL at *;lia
theorem VB.lt(h:VB r p m):∀d i,i+d+1<m->LL r (p.getD i 0) (p.getD (i+d+1) 0)
 | 0,i,hi=>h i hi
 | d+1,i,hi=>(VB.lt h d i (by lia)).tr (h (i+d+1) (by lia))
theorem VB.pair(hp:Pm N p)(u:VB r p N):p.toList.Pairwise (LL r):=by
 rw[List.pairwise_iff_getElem];intro i j hi hj hij;have hs:=hp.size;have hi':i<p.size:=by simpa using hi
 have hj':j<p.size:=by simpa using hj
 have:=u.lt (j - i - 1) i (by lia);rw[show i+(j - i - 1)+1=j by lia] at this;simpa [Array.getD,hi',hj'] using this
end
def kI(ks:List Int)(i:Nat):Int:=ks.getD i 0
def LK(ks:List Int)(a b:Nat):Prop:=kI ks a<kI ks b\/(kI ks a=kI ks b/\a<b)
theorem XX(ks:List Int):TK fun i j=>decide (kI ks i<kI ks j):=⟨fun i=>xT (Int.lt_irrefl _),fun i j k a b=>by have:=yU a;have:=yU b;exact xN (by lia),
 fun i j k a=>by
  have:=yU a
  by_cases c:kI ks i<kI ks k
  ·exact .inl (xN c)
  ·exact .inr (xN (by lia))⟩
def Tu(ks:List Int):Nat->Nat:=rk (fun i j=>decide (kI ks i<kI ks j)) ks.length
theorem DY(hi:i<ks.length):(Tu ks i<Tu ks j)↔kI ks i<kI ks j:=by
 have:=Ck (XX ks) (i:=i) (j:=j) hi;unfold Tu
 by_cases c:kI ks i<kI ks j
 ·grind
 ·grind
theorem LL.key(hi:i<ks.length)(hj:j<ks.length)(h:LL (Tu ks) i j):LK ks i j:=by
 have a:=DY (ks:=ks) (i:=i) (j:=j) hi;have b:=DY (ks:=ks) (i:=j) (j:=i) hj;rcases h with h | ⟨h1,h2⟩
 ·exact .inl (a.mp h)
 ·refine .inr ⟨?_,h2⟩;have:¬kI ks i<kI ks j:=fun z=>by have:=a.mpr z;lia
  have:¬kI ks j<kI ks i:=fun z=>by have:=b.mpr z;lia
  lia
theorem VB.keys(hp:Pm ks.length p)(u:VB (Tu ks) p ks.length):p.toList.Pairwise (LK ks):=by
 have hm:∀i∈p.toList,i<ks.length:=fun i hi=>yR.mp (hp.mem_iff.mp hi);exact yY (fun hi hj h=>LL.key (hm _ hi) (hm _ hj) h) (u.pair hp)
def ZY(H:Hp)(P:dN)(nm:Str):Prop:=∃ps t,H P=some (.tbl ps)/\ps[0]?=some (.str nm t)
theorem ZY.same(h:ZY H P nm)(k:ZC H H'):ZY H' P nm:=let ⟨ps,t,a,b⟩:=h;⟨ps,t,k _ _ a,b⟩
theorem ZY.x(h:ZY H P nm)(hs:H s=some (.lst xs))(k:ZI s H H'):ZY H' P nm:=let ⟨ps,t,a,b⟩:=h;⟨ps,t,k _ _ (fun z=>by rw[z,hs] at a;cases a) a,b⟩
def Xx(H H':Hp):Prop:=∀b ps,H b=some (.tbl ps)->∃more,H' b=some (.tbl (ps++more))
theorem ZY.call(h:ZY H P nm)(k:Xx H H'):ZY H' P nm:=by
 obtain⟨ps,t,a,b⟩:=h;obtain⟨m,e⟩:=k _ _ a;refine⟨_,t,e,?_⟩;have h0:0<ps.size:=by grind
 rw[Array.getElem?_append_left h0];exact b
section
variable{P:dO}{w:dP}{K:Frag}{mg:dE}{base:Heap}
theorem SH{A:dQ}{outer:List Env}{s:dJ}{H:Hp}{k:Nat}{name qual:Str}{params:Arguments}{body:Expr}{scope:Scope}{pm ctv:dM}{c f:dN}{x:Str}{u:dM}{v:V}{te:TE}{Q:VK}(hr:ZN k A)(e0:VL P w K mg base A outer s H)(ho:s.heap.get? f=some (kla_obj name qual params body scope [] pm c ctv))(hcd:s.heap.CodeRec (.ref c) qual)(S:ZR [x] [x] scope)(hb:bindArgs (kla_fn name qual params body scope [] pm (.ref c) ctv) ⟨[u],[]⟩=pure [(x,u)])(r:ZF v u)(hbody:PE (Y2 YY P w K mg base [x] qual scope f (.ref c) A outer s H E0) body te)(hq:te (start [x] [v]) H Q) :
  codeAny (model P w) A (.call (.ref f) ⟨[u],[]⟩) (CR YY outer P w H s Q E0) s:=by
 have lim:s.heap.NoLimit:=e0.mod.nolimit.keeps fun b o e=>(e0.bs b o e).1;have hkind:∀y ∈ [(x,u)],scope.names.lookup y.1=some .local\/(scope.names.lookup y.1=some .cell/\((cellsFrom (s.heap.objs.size+1) scope.names []).lookup y.1).isSome=true):=fun⟨n,v⟩ hy=>by
  have e:(n,v)=(x,u):=by simpa using hy
  cases e;rcases S.par x xU with q | q
  ·exact .inl q
  ·exact .inr ⟨q,PySem.W.cellsFrom_some _ _ _ (.inl q)⟩
 refine kla_callFunE hr.depth ho rfl S.co S.gen rfl hcd ?_;rw[hb];refine wpAny_pure (wpAny_newFunctionEnv_cells S.kind hkind fun env he s1 xx=>?_);subst he;refine⟨lim.keeps xx.toInCall.keep,kla_codeExpr ?_⟩;have I:ZE (Y2 YY P w K mg base [x] qual scope f (.ref c) A outer s H E0) [] (start [x] [v]) H s1:=Kt (ps:=[x]) S hr.hd e0 rfl (.cons r .nil) xx;exact wpAny_mono (hbody [] s1 _ H _ I hq) (fun v s' ⟨v',H',J,rv,q⟩=>⟨v',H',J.os,J.bare,J.base,J.hok,rv,q⟩) fun e s' hs=>hs
end
theorem OL{pos p2:Pos}{c cv:dM}(l:dG)(h:TriplesOk l)(e:codeAmong pos (l ++ [rawInt p2.line,rawInt p2.col,c])=some cv):codeAmong pos l=some cv\/cv=c:=by
 fun_induction TriplesOk l with
 | case1 =>
  simp only[zR,codeAmong,rawInt] at e;split at e
  ·cases e;exact .inr rfl
  ·cases e
 | case2 a t b u x rest ih =>
  simp only[yH,codeAmong] at e ⊢;split at e
  ·rename_i hc;rw[if_pos hc];exact .inl e
  ·rename_i hc;rw[if_neg hc];exact ih h e
 | case3 l h1 h2=>exact h.elim
structure Jq (X:Cx) (c P:dN) (nm:Str):Prop where
 code:X.env.code=.ref c
 hd:CodeHd X.base c P
 blt:X.base.BuiltinsAt X.mg P
 nmq:X.env.qual ++ "<lambda>"=nm
 gl:mainGlobals≠P
section
variable{X:Cx}{pins:List (dN×Obj)}{U:St}{H:Hp}{s:dJ}{c P:dN}{nm:Str}{params:Arguments}{body:Expr}{scope:Scope}{lpos:Pos}
theorem ZE.pin1{f:dN}{o:Obj}(I:ZE X pins U H s)(fp:Yr X pins H f)(ho:s.heap.get? f=some o)(hc:∀v,o.data ≠ .cell v):ZE X (pins ++ [(f,o)]) U H s:=I.pins_of fun p hp=>(xR.mp hp).elim (fun z=>I.pin p (xM _ z)) fun z=>by
 have e:p=(f,o):=by simpa using z
 subst e;exact⟨ho,fp.1,fp.2.1,fp.2.2.1,hc⟩
theorem NJ{Q:dD}(I:ZE X pins U H s)(L:Jq X c P nm)(hT:ZY X.H₀ P nm)(hcl:closureFor scope X.env=pure [])(hdef:defaultsOf params X.env=([],[]))(k:∀ (f c':dN) (ctv:dM) (oc:Obj) (vs:Array dM) (t:Tok) (H':Hp) (s':dJ),ZE X (pins ++ [(f,kla_obj "<lambda>" nm params body scope [] ((X.mg "__name__").getD .none) c' ctv)]) U H' s'->s'.heap.get? c'=some oc->oc.data=.fields vs->vs[1]?=some (.str nm t)->H' c'=some (.own P)->ZY H' P nm->ZC H H'->Q (.ref f) s') :
  wpAny (model X.prog X.w) X.A (eval (.Lambda params body scope lpos) X.env) Q X.xe s:=by
 have hTH:=hT.call I.base.tbls;obtain⟨ps,tp,hP,hps⟩:=hTH;obtain⟨qs,nm',t',eP,tr,hps',rows⟩:=I.hok P _ hP;rw[hps] at hps';cases hps';have C:=L.hd.keeps I.bk;have G:s.heap.Ns mainGlobals X.mg:=let ⟨o,es,ep,e,r⟩:=I.ok.mod.glob;⟨o,es,ep,I.bk _ _ e,r⟩
 have B:s.heap.BuiltinsAt X.mg P:=let ⟨bm,o,a1,a2,a3,a4,a5,a6⟩:=L.blt;⟨bm,o,a1,a2,a3,a4,I.bk _ _ a5,a6⟩
 refine kla_eval hdef ?_;rw[L.nmq];cases hf:codeAmong lpos qs.toList with
 | some cv =>
  obtain⟨c',rfl,own,c2,oc,vs,t2,e3,e4,e5,e6⟩:=rows _ _ hf;cases e3;refine kla_makeFunctionHit (mg:=X.mg) hcl I.ok.glob G L.code C eP tr hf B fun ctv h' tk hk hsz=>?_;have hk2:∀b u,s.heap.get? b=some u->(h'.push (kla_obj "<lambda>" nm params body scope [] ((X.mg "__name__").getD .none) c' ctv)).get? b=some u:=fun b u e=>xA _ (hk b u e);have I2:ZE X pins U H {s with heap:=h'.push (kla_obj "<lambda>" nm params body scope [] ((X.mg "__name__").getD .none) c' ctv),toks:=tk }:=I.kept hk2;exact k h'.objs.size c' ctv oc vs t2 H _ (I2.pin1 (I.fpOk hsz (I.hok.fresh hsz)) (xG _ rfl) (fun v z=>by cases z)) (hk2 _ _ e4) e5 e6 own ⟨ps,tp,hP,hps⟩ fun _ _ e=>e
 | none =>
  refine kla_makeFunction (mg:=X.mg) hcl I.ok.glob G L.code C eP tr hf L.gl B fun c' ctv h' tk hx hge hlt hrec htb=>?_;obtain⟨c2,oc,vs,t2,e3,e4,e5,e6⟩:=hrec;cases e3;have hcn:H c'=none:=I.hok.fresh hge;have hcP:c'≠P:=fun z=>by rw[z] at hge;exact absurd (yI (xH eP) hge) (yZ _)
  have ext:∀b u,b≠P->s.heap.get? b=some u->(h'.push (kla_obj "<lambda>" nm params body scope [] ((X.mg "__name__").getD .none) c' ctv)).get? b=some u:=fun b u n e=>xA _ (hx b u n e);have hoc:=xA (kla_obj "<lambda>" nm params body scope [] ((X.mg "__name__").getD .none) c' ctv) e4;have hPt:=xA (kla_obj "<lambda>" nm params body scope [] ((X.mg "__name__").getD .none) c' ctv) htb;have hszz:s.heap.objs.size<=h'.objs.size:=yN (yS hge hlt);have hfo:=xG h' (o:=kla_obj "<lambda>" nm params body scope [] ((X.mg "__name__").getD .none) c' ctv) rfl;generalize (h'.push (kla_obj "<lambda>" nm params body scope [] ((X.mg "__name__").getD .none) c' ctv))=h2 at ext hoc hPt hfo ⊢;have hPu:upd H c' (.own P) P=some (.tbl ps):=by rw[Zc hcP.symm];exact hP
  have hok:YN X.prog X.w (upd H c' (.own P)) h2:=fun b u e=>by
   by_cases b1:b=c'
   ·subst b1;rw[Zg] at e;cases e;exact⟨oc,hoc⟩
   ·rw[Zc b1] at e
    by_cases b2:b=P
    ·subst b2;rw[hP] at e;cases e;refine⟨_,nm,tp,hPt,by rw[Array.toList_append];exact TriplesOk_snoc _ _ _ _ tr,hps,fun pos cv ec=>?_⟩;rw[Array.toList_append] at ec;rcases OL _ tr ec with z | z
     ·obtain⟨c3,f1,f2,c4,o4,v4,t4,f3,f4,f5⟩:=rows _ _ z;cases f3;have nb:c3≠b:=fun y=>by rw[y,hP] at f2;cases f2
      exact⟨c3,f1,by rw[Zc (fun y=>by rw[y,hcn] at f2;cases f2)];exact f2,c3,o4,v4,t4,rfl,ext _ _ nb f4,f5⟩
     ·exact⟨c',z,Zg,c',oc,vs,t2,rfl,hoc,e5,e6⟩
    ·refine(I.hok b u e).stay (fun d v hd q=>ext d v ?_ q) (fun d q=>by rw[Zc (Zi q hcn)];exact q) fun d xs q=>by rw[Zc (Zi q hcn)];exact q
     rcases hd with z | z
     ·rw[z];exact b2
     ·intro y;rw[y,hP] at z;cases z
  have un:Un X.fs [] H (upd H c' (.own P)) s.heap h2:=by
   have nP:∀b,H b=none->b≠P:=fun b n z=>by rw[z,hP] at n;cases n
   have lt:∀b o,s.heap.get? b=some o->b≠c':=fun b o e z=>by rw[z] at e;exact absurd (yI (xH e) hge) (yZ _)
   refine⟨fun b o e n _ _=>ext b o (nP b n) e,fun b o e n _ _=>⟨o.slots,ext b o (nP b n) e⟩,fun b o e n _=>by rw[Zc (lt b o e)];exact n,fun b o e _=>?_,fun b xs e=>by rw[Zc (Zi e hcn)];exact e,fun b o u e=>by rw[Zc (Zi e hcn)];exact e,fun b ps e=>⟨#[],by rw[Zc (Zi e hcn),e];simp⟩⟩
   by_cases b2:b=P
   ·exact⟨_,by rw[b2];exact hPt⟩
   ·exact⟨o,ext b o b2 e⟩
  have I2:ZE X pins U (upd H c' (.own P)) {s with heap:=h2,toks:=tk }:=I.un un hok;have hfn:(upd H c' (.own P)) h'.objs.size=none:=by rw[Zc (zU hlt)];exact I.hok.fresh hszz
  exact k h'.objs.size c' ctv oc vs t2 _ _ (I2.pin1 (I.fpOk hszz hfn) hfo (fun v z=>by cases z)) hoc e5 e6 Zg ⟨ps,tp,hPu,hps⟩ (ZC.new hcn)
theorem ON{k:Nat}{A:dQ}{f c':dN}{ctv pm:dM}{oc:Obj}{vs:Array dM}{t:Tok}{x:Str}{u:dM}{v w:V}{te:TE}(I:ZE X pins U H s)(hA:A.frames=X.A.frames)(hr:ZN k A)(hf:s.heap.get? f=some (kla_obj "<lambda>" nm params body scope [] pm c' ctv))(ho:s.heap.get? c'=some oc)(e1:oc.data=.fields vs)(e2:vs[1]?=some (.str nm t))(hc:H c'=some (.own P))(hT:ZY H P nm)(S:ZR [x] [x] scope)(hb:bindArgs (kla_fn "<lambda>" nm params body scope [] pm (.ref c') ctv) ⟨[u],[]⟩=pure [(x,u)])(r:ZF v u)(hbody:∀H2:Hp,PE (Y2 YY X.prog X.w X.K X.mg X.base [x] nm scope f (.ref c') A X.stack s H2 E0) body te)(hq:∀H2:Hp,(∀b ys,H b=some (.tup ys)->H2 b=some (.tup ys))->te [some v] H2 fun z H3=>z=w/\H3=H2) :
  wpAny (model X.prog X.w) A (call (.ref f) [u]) (fun r s'=>ZF w r/\ZE X pins U H s'/\s'.heap.get? c'=some oc) (fun _ _=>False) s:=by
 classical
 obtain⟨ps,tp,hP,hps⟩:=hT
 let H2:Hp:=fun b=>if b=P\/H b=some (.own P) then none else H b
 have sub:∀b o,H2 b=some o->H b=some o/\b≠P/\o ≠ .own P:=fun b o e=>by grind
 have up:∀b o,H b=some o->b≠P->o ≠ .own P->H2 b=some o:=fun b o e n1 n2=>by grind
 have non:∀b,H b=none->H2 b=none:=fun b e=>by
  cases q:H2 b with
  | none=>rfl
  | some o=>rw[(sub b o q).1] at e;cases e
 have tup2:∀b ys,H b=some (.tup ys)->H2 b=some (.tup ys):=fun b ys e=>up b _ e (fun z=>by rw[z,hP] at e;cases e) (fun z=>by cases z);have hok2:YN X.prog X.w H2 s.heap:=fun b o e=>by
  obtain⟨h1,h2,h3⟩:=sub b o e;refine(I.hok b o h1).stay (fun _ _ _ q=>q) (fun d q=>up d _ q (fun z=>by rw[z,hP] at q;cases q) (fun z=>by cases z;exact h2 rfl)) tup2
 have e0:=I.env0;have e02:VL X.prog X.w X.K X.mg X.base A X.stack s H2:=⟨hA.trans e0.frames,e0.mod,fun b o e=>⟨(e0.bs b o e).1,non b (e0.bs b o e).2⟩,e0.bsz,e0.funs,fun b hb=>non b (e0.frf b hb),hok2,e0.bare⟩;refine wpAny_call (codeAny_mono (SH (Q:=fun z H3=>z=w/\H3=H2) hr e02 hf ⟨c',oc,vs,t,rfl,ho,e1,e2⟩ S hb r (hbody H2) (hq H2 tup2)) fun rr s' h=>?_);cases rr with
 | error e=>exact h.elim
 | ok fl =>
  cases fl with
  | next=>exact False.elim h
  | brk=>exact False.elim h
  | cont=>exact False.elim h
  | ret uu =>
   obtain⟨z,H3,os,bare,un,hok3,rz,ez,eH⟩:=h;subst ez eH;have hc2:H2 c'=none:=if_pos (.inr hc);have hP2:H2 P=none:=if_pos (.inl rfl);have nfr:∀b o,H b=some o->b∉frs X.stack:=fun b o e z=>by rw[I.stkFree b z] at e;cases e
   have own2:∀d,H d=some (.own P)->H2 d=none:=fun d q=>if_pos (.inr q);have hokH:YN X.prog X.w H s'.heap:=fun b o e=>by
    by_cases b0:o=.own P
    ·subst b0;obtain⟨ob,eb⟩:=I.hok b _ e;exact⟨ob,un.keep _ _ eb (own2 _ e) (nfr _ _ e) (by simp)⟩
    by_cases b1:b=P
    ·subst b1;refine(I.hok b o e).stay (fun d v hd q=>?_) (fun _ q=>q) fun _ _ q=>q;rcases hd with z | z
     ·subst z;exact un.keep _ _ q hP2 (nfr _ _ e) (by simp)
     ·exact un.keep _ _ q (own2 _ z) (nfr _ _ z) (by simp)
    ·have b1':b≠P/\o ≠ .own P:=⟨b1,b0⟩;refine(hok3 b o (up b o e b1'.1 b1'.2)).stay (fun _ _ _ q=>q) (fun d q=>(sub d _ q).1) fun d xs q=>(sub d _ q).1
   refine⟨rz,I.call' (ch:=[]) os ⟨fun b o e n hb hx=>un.keep b o e (non b n) hb hx,fun b o e n hb hx=>un.slot b o e (non b n) hb hx,fun b o e n hx=>n,fun b o e hx=>un.there b o e hx,fun _ _ e=>e,fun _ _ _ e=>e,fun b ps e=>⟨#[],by rw[e];simp⟩⟩ hokH bare (fun b z=>absurd z (by simp)),un.keep _ _ ho hc2 (nfr _ _ hc) (by simp)⟩
end
def Cp(b:Bool)(ks:List Int)(x y:Nat):Prop:=(if b=true then kI ks y<kI ks x else kI ks x<kI ks y)\/(kI ks x=kI ks y/\x<y)
def Ac(b:Bool)(ks:List Int)(vs out:dG):Prop:=∃p:List Nat,p.Perm (List.range vs.length)/\p.Pairwise (Cp b ks)/\out=p.map fun i=>vs.getD i Value.none
theorem EB{α:Type}{l:List α}{d:α}(h:i<l.length):l.reverse.getD i d=l.getD (l.length - 1 - i) d:=by grind
theorem LG(hl:ks.length=vs.length)(hp:Pm vs.length p)(u:VB (Tu ks) p vs.length):Ac false ks vs (p.toList.map fun i=>vs.getD i Value.none) :=
 ⟨p.toList,hp,by rw[← hl] at hp u;exact(u.keys hp).imp fun h=>by unfold Cp;rw[if_neg xI];exact h,rfl⟩
theorem Me(hl:ks.length=vs.length)(hp:Pm vs.length p)(u:VB (Tu ks.reverse) p vs.length):Ac true ks vs (p.toList.map fun i=>vs.reverse.getD i Value.none).reverse:=by
 have hm:∀i∈p.toList,i<vs.length:=fun i hi=>yR.mp (hp.mem_iff.mp hi);have e1:(List.range vs.length).map (fun i=>vs.length - 1 - i)=(List.range vs.length).reverse:=by
  apply List.ext_getElem
  ·simp
  ·intro i h1 h2;simp
 refine⟨(p.toList.map fun i=>vs.length - 1 - i).reverse,(List.reverse_perm _).trans ?_,?_,?_⟩
 ·have:=hp.map fun i=>vs.length - 1 - i;rw[e1] at this;exact this.trans (List.reverse_perm _)
 ·rw[List.pairwise_reverse,zX];have hp':Pm ks.reverse.length p:=by rw[zD,hl];exact hp
  have u':VB (Tu ks.reverse) p ks.reverse.length:=by rw[zD,hl];exact u
  refine yY ?_ (u'.keys hp');intro i j hi hj h;have hi:=hm i hi;have hj:=hm j hj;unfold LK kI at h;rw[EB (by lia),EB (by lia),hl] at h;unfold Cp kI;rw[if_pos rfl];rcases h with h | ⟨h1,h2⟩
  ·exact .inl h
  ·exact .inr ⟨h1.symm,by lia⟩
 ·rw[List.map_reverse,wK];congr 1;refine wM fun i hi=>?_;exact EB (hm i hi)
section
variable{X:Cx}{pins:List (dN×Obj)}{U:St}{H:Hp}{s:dJ}
theorem ZE.track{D:dN}{u:HO}(I:ZE X pins U H s)(fp:Yr X pins H D)(h0:X.s₀.heap.objs.size<=D)(new:ZL X.prog X.w (upd H D u) s.heap D u):ZE X pins U (upd H D u) s:=by
 obtain⟨f0,f1,f2,f3,f4,f5⟩:=fp;refine⟨I.ok,I.os,I.bare,⟨I.base.keep,I.base.slot,fun b o e n hx=>?_,I.base.there,fun b xs e=>?_,fun b o v e=>?_,fun b ps e=>?_⟩,I.loc,I.cell,?_,fun x c e=>?_,fun p hp=>?_,Iv I.hok f0 new,I.len⟩
 ·rw[Zc (fun z=>by rw[z] at e;exact absurd (yI (xH e) h0) (yZ _))];exact I.base.free b o e n hx
 ·have:=I.base.tups b xs e;rw[Zc (Zi this f0)];exact this
 ·have:=I.base.frzs b o v e;rw[Zc (Zi this f0)];exact this
 ·obtain⟨m,e2⟩:=I.base.tbls b ps e;exact⟨m,by rw[Zc (Zi e2 f0)];exact e2⟩
 ·rw[Zc f1.symm];exact I.free
 ·rw[Zc (f4 x c e)];exact I.freeC x c e
 ·obtain⟨a1,a2,a3⟩:=I.pin p hp;exact⟨a1,by rw[Zc (f5 p hp)];exact a2,a3⟩
theorem ZE.reup{D:dN}{g:Array dM->Array dM}(I:ZE X pins U H s)(fp:Yr X pins H D):ZE X pins U H {s with heap:=s.heap.update D (Obj.mapSeq g) } :=
 I.turned (it:=D) (t':=s.toks) (fun b o hb e=>by rw[zC _ _ _ _ hb];exact e) fp.1 fp.2.1 fp.2.2.2.1 fp.2.2.2.2.1 fp.2.2.2.2.2
theorem ZE.pin2(I:ZE X pins U H s)(fa:Yr X pins H a)(fb:Yr X pins H b)(ha:s.heap.get? a=some oa)(hb:s.heap.get? b=some ob)(ca:∀v,oa.data ≠ .cell v)(cb:∀v,ob.data ≠ .cell v):ZE X (pins ++ [(a,oa),(b,ob)]) U H s :=
 I.pins_of fun p hp=>(xR.mp hp).elim (fun z=>I.pin p (xM _ z)) fun z=>by
  rcases xF.mp z with e | z
  ·subst e;exact⟨ha,fa.1,fa.2.1,fa.2.2.1,ca⟩
  ·have e:p=(b,ob):=by simpa using z
   subst e;exact⟨hb,fb.1,fb.2.1,fb.2.2.1,cb⟩
theorem ZE.at1(I:ZE X (pins++pl) U H s)(h:p∈pl):s.heap.get? p.1=some p.2:=(I.pin p (xM _ (xM _ h))).1
def Ec(X:Cx)(pins:List (dN×Obj))(U:St)(H:Hp)(f:dM)(c':dN)(oc:Obj)(vs:dG)(ks:List Int):Prop:=∀(i:Nat)(v:dM)(k:Int),vs[i]?=some v->ks[i]?=some k->∀(pl:List (dN×Obj))(s:dJ),ZE X (pins++pl) U H s->s.heap.get? c'=some oc ->
 wpAny (model X.prog X.w) X.A.in1.in1 (call f [v]) (fun r s'=>(∃t,r=.int k t)/\ZE X (pins++pl) U H s'/\s'.heap.get? c'=some oc) (fun _ _=>False) s
variable{a kS:dN}{keys:Array dM}{b:Bool}{e e1:Nat}{Pf:PySem.Fin->dJ->Prop}{E:dD}
theorem KQ{st:SortSt}{o:dG}(I:ZE X (pins ++ [(kS,seqObj "list" keys e),(a,seqObj "list" #[] e1)]) U H s)(fk:Yr X pins H kS)(fa:Yr X pins H a)(hka:kS≠a)(hz1:keys.size<64)(ho:o.length<64)(hs:(arrOf st).map (·.2)=List.toArray o)(hfl:failedOf st=none)(h:∀ (s':dJ) (c:Nat),ZE X pins U H s'->s'.heap.get? a=some (seqObj "list" (List.toArray (if b then o.reverse else o)) c)->Pf (.done (.ret .none)) s') :
  wpAny (model X.prog X.w) X.A.in1.in1 (ksk_tail a b e1 (.ref kS) st) Pf E s:=by
 have nk:=I.at1 (p:=(kS,seqObj "list" keys e)) (.head _);have na:=I.at1 (p:=(a,seqObj "list" #[] e1)) (.tail _ (.head _));have na1:(s.heap.update kS (Obj.mapSeq fun _=>(#[]:Array dM))).get? a=some (seqObj "list" #[] e1):=by rw[zC _ _ _ _ hka.symm];exact na
 have I1:=(I.unpinned).reup (g:=fun _=>(#[]:Array dM)) fk;have hout:(if b then ((arrOf st).map (·.2)).reverse else (arrOf st).map (·.2))=List.toArray (if b then o.reverse else o):=by
  rw[hs];cases b<;>simp
 unfold ksk_tail
 try dsimp only
 refine wpAny_bind (listUpdate_at nk rfl ?_ (by rw[sizeLine_eq];lia) (xZ _));refine wpAny_bind (wpAny_letGo ?_);refine wpAny_bind (seqEpoch_at na1 rfl ?_);rw[hout];have hz:(List.toArray (if b then o.reverse else o)).size<=sizeLine+1:=by
  rw[sizeLine_eq];cases b<;>simp<;>lia
 refine wpAny_bind (listUpdate_at na1 rfl ?_ (xZ _) hz);rw[hfl];simp only[bne_self_eq_false,zK,if_false];have I2:=I1.reup (g:=fun _=>List.toArray (if b then o.reverse else o)) fa;exact wpAny_pure (h _ _ I2 (get?_update_seq na1 fun _=>List.toArray (if b then o.reverse else o)))
theorem cW{α β:Type}{l:List α}{m:List β}(h:l.length=m.length):(l.zip m).reverse=l.reverse.zip m.reverse:=by
 unfold List.zip;rw[List.reverse_zipWith h]
theorem NZ(h:IntsAre kv ks):IntsAre kv.reverse ks.reverse:=by
 induction h with
 | nil=>exact .nil
 | cons n t _ ih=>rw[List.reverse_cons,List.reverse_cons];exact ksk_snoc ih
theorem IJ(h:IntsAre kv ks):∀{i:Nat},i<ks.length->∃t,kv.getD i Value.none=.int (kI ks i) t:=by
 induction h with
 | nil=>intro i hi;simp at hi
 | cons n t _ ih =>
  intro i hi;cases i with
  | zero=>exact⟨t,rfl⟩
  | succ i =>
   obtain⟨t',e⟩:=ih (i:=i) (by simpa using hi);exact⟨t',by unfold kI at e ⊢;simpa using e⟩
theorem XU(h:IntsAre kv ks)(s:dJ):We (kas_ask X.prog X.w A oneType' kv) (Tu ks) ks.length s:=by
 intro i j C hi hj hC;obtain⟨t,ei⟩:=IJ h hi;obtain⟨u,ej⟩:=IJ h hj;unfold kas_ask;rw[ei,ej,keyLt'_oneType];refine oneLt_int ?_;have:=DY (ks:=ks) (i:=i) (j:=j) hi
 by_cases c:kI ks i<kI ks j
 ·rw[xN c];rw[xN (this.mpr c)] at hC;exact hC
 ·grind
theorem MH(I:ZE X (pins ++ [(kS,seqObj "list" keys e),(a,seqObj "list" #[] e1)]) U H s)(fk:Yr X pins H kS)(fa:Yr X pins H a)(hka:kS≠a)(hk:IntsAre keys.toList ks)(hlen:ks.length=vs.length)(h64:vs.length<64)(h:∀s' out c,ZE X pins U H s'->s'.heap.get? a=some (seqObj "list" (List.toArray out) c)->Ac b ks vs out->Pf (.done (.ret .none)) s') :
  wpAny (model X.prog X.w) X.A.in1.in1 (ksk_end a b vs.toArray e1 (.ref kS) keys) Pf E s:=by
 have hsz:keys.size=vs.length:=by
  have h1:=hk.length;rw[yP] at h1;lia
 have step:∀t:Sem PySem.Fin,wpAny (model X.prog X.w) X.A.in1.in1 t Pf E s->wpAny (model X.prog X.w) X.A.in1.in1 (if b=true then (do let _ ← rule "list.sort.reverse";t) else t) Pf E s:=by
  intro t ht;split
  ·exact wpAny_bind (wpAny_rule ht)
  ·exact ht
 obtain⟨kv,ks2,v2,hpr,hi2,hl2,hl3,fin⟩:∃(kv:dG)(ks2:List Int)(v2:dG),(if b=true then (keys.zip vs.toArray).reverse else keys.zip vs.toArray)=kv.toArray.zip v2.toArray/\IntsAre kv ks2/\ks2.length=v2.length/\v2.length=vs.length /\
   ∀p:Array Nat,Pm v2.length p->VB (Tu ks2) p v2.length->Ac b ks vs (if b then (p.toList.map fun i=>v2.getD i Value.none).reverse else p.toList.map fun i=>v2.getD i Value.none):=by
  cases b with
  | false =>
   refine⟨keys.toList,ks,vs,by rw[if_neg xI,Array.toArray_toList],hk,hlen,rfl,fun p hp u=>?_⟩;rw[if_neg xI];exact LG hlen hp u
  | true =>
   refine⟨keys.toList.reverse,ks.reverse,vs.reverse,?_,NZ hk,by rw[zD,zD,hlen],zD,fun p hp u=>?_⟩
   ·rw[if_pos rfl];apply Array.toList_inj.mp;rw[Array.toList_reverse,ksk_zip,cW (by rw[yP];exact hsz)];simp
   ·rw[if_pos rfl];rw[zD] at hp u;exact Me hlen hp u
 have hkl:kv.length=v2.length:=by have:=hi2.length;lia
 unfold ksk_end
 try dsimp only
 refine step _ ?_;rw[hpr]
 by_cases h2:vs.toArray.size<2
 ·rw[if_pos h2,if_pos h2];refine wpAny_bind (wpAny_pure ?_);rw[StateT.run_pure];refine wpAny_bind (wpAny_pure ?_)
  try dsimp only
  have l2:v2.length<2:=by simp at h2;lia
  have pm:Pm v2.length (List.toArray (List.range v2.length)):=List.Perm.refl _;have ko:=fin _ pm fun i hi=>by lia
  have eo:((List.toArray (List.range v2.length)).toList.map fun i=>v2.getD i Value.none)=v2:=by
   apply List.ext_getElem
   ·simp
   ·intro i h1 h2;simp at h1;simp[h1]
  rw[eo] at ko;refine KQ (o:=v2) (b:=b) I fk fa hka (by lia) (by lia) ?_ rfl fun s' c I' e'=>h s' _ c I' e' ko;show Array.map (fun x=>x.2) (kv.toArray.zip v2.toArray)=_;apply Array.toList_inj.mp;rw[Array.toList_map,ksk_zip];simp only[List.toList_toArray];rw[List.map_snd_zip (by lia)]
 ·rw[if_neg h2,if_neg h2];have l2:2<=v2.length:=by simp at h2;lia
  rw[ksk_kind hk (by lia)];refine wpAny_bind (wpAny_pure ?_);refine wpAny_bind (wpAny_mono (kat_run (ks:=kv) (vs:=v2) (κ:=oneType') (G:=fun p s'=>s'=s/\Pm v2.length p/\VB (Tu ks2) p v2.length) (Q:=fun st' s'=>s'=s/\∃p:Array Nat,(arrOf st').map (·.2)=List.toArray (p.toList.map fun i=>v2.getD i Value.none)/\failedOf st'=none/\Pm v2.length p/\VB (Tu ks2) p v2.length) hkl l2 (by lia) (fun p st' s' a1 a2 a3 a4=>⟨a4.1,p,kat_snds hkl a2,a3,a4.2⟩) (Mf (by have:=XU (X:=X) (A:=X.A.in1.in1) hi2 s;rw[hl2] at this;exact this) (by lia) fun p a b=>⟨rfl,a,b⟩)) ?_ fun _ _ e=>e);rintro⟨⟨⟩,st'⟩ s' ⟨rfl,p,ho',hf,hp,hu⟩
  try dsimp only
  have hpl:(p.toList.map fun i=>v2.getD i Value.none).length=v2.length:=by rw[xB,yP,hp.size]
  exact KQ (o:=p.toList.map fun i=>v2.getD i Value.none) (b:=b) I fk fa hka (by lia) (by lia) ho' hf fun s' c I' e'=>h s' _ c I' e' (fin p hp hu)
theorem bB(I:ZE X (pins ++ [(kS,seqObj "list" #[] 0),(a,seqObj "list" #[] e1)]) U H s)(hc:s.heap.get? c'=some oc)(fk:Yr X pins H kS)(fa:Yr X pins H a)(hka:kS≠a)(nck:c'≠kS)(hlen:ks.length=vs.length)(h64:vs.length<64)(turn:Ec X pins U H f c' oc vs ks)(h:∀s' out c,ZE X pins U H s'->s'.heap.get? a=some (seqObj "list" (List.toArray out) c)->Ac b ks vs out->Pf (.done (.ret .none)) s') :
  wpAny (model X.prog X.w) X.A.in1.in1 (ksk_rest a f b vs.toArray e1 (.ref kS)) Pf E s:=by
 unfold ksk_rest;refine wpAny_bind (wpAny_rule ?_)
 first
  | rw[List.forIn_toArray]
  | (rw[← Array.forIn_toList];simp only[List.toList_toArray])
  | rw[← Array.forIn_toList]
 refine wpAny_bind (ksk_fold (fun i s'=>∃kA e,ZE X (pins ++ [(kS,seqObj "list" kA e),(a,seqObj "list" #[] e1)]) U H s'/\s'.heap.get? c'=some oc/\IntsAre kA.toList (ks.take i)) vs 0 s ⟨#[],0,I,hc,by simpa using IntsAre.nil⟩ ?step ?done)
 case step =>
  rintro j x s' hx ⟨kA,e,I',hc',hk⟩;simp only[Nat.zero_add] at hk ⊢;have hj:j<vs.length:=(xE.mp hx).1;obtain⟨k,hkj⟩:∃k,ks[j]?=some k:=⟨_,xC (by lia)⟩;have hz:kA.size<=vs.length:=by
   have h1:=hk.length;rw[yP,xV] at h1;lia
  refine wpAny_bind (wpAny_attempt (wpAny_mono (turn j x k hx hkj _ s' I' hc') (fun v s'' he=>?_) fun _ _ hF=>hF.elim));obtain⟨⟨t2,rfl⟩,I2,hc2⟩:=he
  try dsimp only
  have nk:=I2.at1 (p:=(kS,seqObj "list" kA e)) (.head _);have na:=I2.at1 (p:=(a,seqObj "list" #[] e1)) (.tail _ (.head _));have ek:ks.take (j+1)=ks.take j ++ [k]:=by rw[yG,hkj];simp
  have ea:(kA.push (Value.int k t2)).toList=kA.toList ++ [Value.int k t2]:=by simp
  refine wpAny_bind (listUpdate_at nk rfl ?_ (by rw[sizeLine_eq];lia) (xW (Nat.le_of_eq (Array.size_push ..)) (by rw[sizeLine_eq];lia)));have I3:=(I2.unpinned).reup (g:=(·.push (.int k t2))) fk;refine wpAny_pure ⟨rfl,kA.push (.int k t2),_,I3.pin2 fk fa (get?_update_seq nk (·.push (.int k t2))) (by rw[zC _ _ _ _ hka.symm];exact na) (fun v z=>by cases z) (fun v z=>by cases z),?_,by rw[ea,ek];exact ksk_snoc hk⟩;show (s''.heap.update kS _).get? c'=_;rw[zC _ _ _ _ nck];exact hc2
 case done =>
  rintro s' ⟨kA,e,I',hc',hk⟩;have hk':IntsAre kA.toList ks:=by grind
  have nk:=I'.at1 (p:=(kS,seqObj "list" kA e)) (.head _)
  try dsimp only
  refine wpAny_bind (listItems_at nk rfl ?_);exact MH I' fk fa hka hk' hlen h64 h
theorem Mg(I:ZE X pins U H s)(hc:s.heap.get? c'=some oc)(fa:Yr X pins H a)(ho:s.heap.get? a=some (seqObj "list" vs.toArray n))(nca:c'≠a)(hlen:ks.length=vs.length)(h64:vs.length<64)(turn:Ec X pins U H f c' oc vs ks)(h:∀s' out c,ZE X pins U H s'->s'.heap.get? a=some (seqObj "list" (List.toArray out) c)->Ac b ks vs out->Pf (.done (.ret .none)) s') :
  wpAny (model X.prog X.w) X.A.in1.in1 (ksk_tree a f b) Pf E s:=by
 have ha:a<s.heap.objs.size:=xH ho;obtain⟨e1,ho1⟩:∃e1,(s.heap.update a (Obj.mapSeq fun _=>(#[]:Array dM))).get? a=some (seqObj "list" #[] e1):=⟨_,get?_update_seq ho fun _=>#[]⟩;have hkS:((s.heap.update a (Obj.mapSeq fun _=>(#[]:Array dM))).push (seqObj "tuple" vs.toArray 0)).objs.size=s.heap.objs.size+1:=by rw[size_push',Heap.size_update]
 have I1:=I.reup (g:=fun _=>(#[]:Array dM)) fa;have I2:ZE X pins U H {s with heap:=((s.heap.update a (Obj.mapSeq fun _=>(#[]:Array dM))).push (seqObj "tuple" vs.toArray 0)).push (seqObj "list" #[] 0) }:=I1.kept (t':=s.toks) fun b u e=>xA _ (xA _ e);have fk:Yr X pins H ((s.heap.update a (Obj.mapSeq fun _=>(#[]:Array dM))).push (seqObj "tuple" vs.toArray 0)).objs.size:=I.fpOk (by rw[hkS];lia) (I.hok.fresh (by rw[hkS];lia));unfold ksk_tree;refine wpAny_bind (listItems_at ho rfl ?_);refine wpAny_bind (listUpdate_at ho rfl ?_ (by rw[xS,sizeLine_eq];lia) (xZ _));refine wpAny_bind (seqEpoch_at ho1 rfl ?_);refine wpAny_bind (wpAny_newTuple ?_ (by show vs.length<=_;rw[sizeLine_eq];lia));refine wpAny_bind (wpAny_newList ?_ (xZ _));refine wpAny_holding ?_;refine bB (s:={s with heap:=((s.heap.update a (Obj.mapSeq fun _=>(#[]:Array dM))).push (seqObj "tuple" vs.toArray 0)).push (seqObj "list" #[] 0) }) (kS:=((s.heap.update a (Obj.mapSeq fun _=>(#[]:Array dM))).push (seqObj "tuple" vs.toArray 0)).objs.size)
  (I2.pin2 fk fa (xG _ rfl) (xA _ (xA _ ho1)) (fun v z=>by cases z) (fun v z=>by cases z)) ?_ fk fa (by rw[hkS];exact zU (zB ha)) (by rw[hkS];exact xY (zB (xH hc))) hlen h64 turn h
 refine xA _ (xA _ ?_);rw[zC _ _ _ _ nca];exact hc
theorem PL(I:ZE X pins U H s)(hc:s.heap.get? c'=some oc)(hl:s.heap.IsList l vs.toArray)(hlen:ks.length=vs.length)(h64:vs.length<64)(ha1:argsOk "sorted" ⟨[.ref l],kw⟩)(ha2:∀x,argsOk "list.sort" ⟨[.ref x],kw⟩)(ht:∀x,Builtin.«list.sort» ⟨[.ref x],kw⟩=ksk_tree x f b)(turn:Ec X pins U H f c' oc vs ks)(h:∀D s' out c,ZE X pins U H s'->Yr X pins H D->X.s₀.heap.objs.size<=D->s'.heap.get? D=some (seqObj "list" (List.toArray out) c)->Ac b ks vs out->Q (.ref D) s') :
  wpAny (model X.prog X.w) X.A (call (.builtin "sorted") [.ref l] kw) Q E s:=by
 refine call_function_entry_kw kind_sorted plain_sorted entry_sorted ha1 ?_;unfold Builtin.«sorted»;refine wpAny_bind (m:=checkCount "sorted" 1 1 _) (wpAny_pure ?_);refine wpAny_bind (collect_list hl ?_ (by rw[sizeLine_eq];lia));refine wpAny_bind (wpAny_newList ?_ (by rw[sizeLine_eq];lia));have hsz:((s.heap.push (seqObj "list" #[] 0)).update s.heap.objs.size (Obj.mapSeq (· ++ vs.toArray))).objs.size=s.heap.objs.size+1:=by
  rw[Heap.size_update,size_push']
 have hoL:(((s.heap.push (seqObj "list" #[] 0)).update s.heap.objs.size (Obj.mapSeq (· ++ vs.toArray))).push (seqObj "list" vs.toArray 0)).get? (s.heap.objs.size+1)=some (seqObj "list" vs.toArray 0):=by
  rw[← hsz];exact xG _ rfl
 have keep:∀b o,s.heap.get? b=some o->(((s.heap.push (seqObj "list" #[] 0)).update s.heap.objs.size (Obj.mapSeq (· ++ vs.toArray))).push (seqObj "list" vs.toArray 0)).get? b=some o:=fun b o q=>by
  have hlt:b<s.heap.objs.size:=xH q;rw[Heap.get?_push_ne _ _ _ (by rw[hsz];exact xY (zB hlt)),zC _ _ _ _ (xY hlt),Heap.get?_push_ne _ _ _ (xY hlt)];exact q
 show wpAny _ _ _ _ _ {s with heap:=((s.heap.push (seqObj "list" #[] 0)).update s.heap.objs.size (Obj.mapSeq (· ++ vs.toArray))).push (seqObj "list" vs.toArray 0) };rw[hsz];refine wpAny_bind (wpAny_holding (wpAny_call_entry_kw slot_list_sort ⟨_,hoL,rfl⟩ entry_list_sort ?body (ha2 _)))
 case body =>
  have ht':=ht (s.heap.objs.size+1);show wpAny (model X.prog X.w) X.A.in1.in1 (Builtin.«list.sort» ⟨[.ref (s.heap.objs.size+1)],kw⟩) _ _ _;rw[ht'];have I1:ZE X pins U H {s with heap:=((s.heap.push (seqObj "list" #[] 0)).update s.heap.objs.size (Obj.mapSeq (· ++ vs.toArray))).push (seqObj "list" vs.toArray 0) }:=I.kept (t':=s.toks) keep;have fa:Yr X pins H (s.heap.objs.size+1):=I.fpOk (by lia) (I.hok.fresh (by lia));refine Mg (s:={s with heap:=((s.heap.push (seqObj "list" #[] 0)).update s.heap.objs.size (Obj.mapSeq (· ++ vs.toArray))).push (seqObj "list" vs.toArray 0) }) I1 (keep _ _ hc) fa hoL (xY (zB (xH hc))) hlen h64 turn fun s' out c I' ho' ko=>⟨_,rfl,?_⟩;exact wpAny_pure ⟨_,rfl,h _ s' out c I' fa (zP I.sz) ho' ko⟩
end
inductive Jc(K:Frag)(b:Bool)(te:TE)(vs:aG)(H:Hp)(Q:VK):Prop
 |mk(a:dN) (xs:aG) (ks:List Int)(_:vs=[.ref a])(_:ZG K H a xs)(_:xs.length<64)(_:ks.length=xs.length)(_:(∀(i:Nat)(x:V)(k:Int),xs[i]?=some x->ks[i]?=some k->∀H2:Hp,(∀b ys,H b=some (.tup ys)->H2 b=some (.tup ys))->te [some x] H2 fun z H3=>z=.int k/\H3=H2))(_:∀(l:dN)(p:List Nat)(H':Hp),ZC H H'->H' l=none->p.Perm (List.range xs.length)->p.Pairwise (Cp b ks)->Q (.ref l) (upd H' l (.lst (p.map fun i=>xs.getD i .non))))
theorem Gn(r:ZH xs vs):∀p:List Nat,ZH (p.map fun i=>xs.getD i .non) (p.map fun i=>vs.getD i Value.none)
 | []=>.nil
 | i::p=>.cons (by
   show ZF (xs.getD i .non) (vs.getD i Value.none);rw[xL,xL];cases e:xs[i]? with
   | none=>rw[r.none_of e];rfl
   | some x=>obtain⟨u,e2,r2⟩:=r.get e;rw[e2];exact r2) (Gn r p)
section
variable{X:Cx}{c P:dN}{nm x:Str}{params:Arguments}{body:Expr}{scope:Scope}{lpos p kp kp2 pos:Pos}{e:Expr}{te:TE}{k:Nat}
structure JD (X:Cx) (nm x:Str) (params:Arguments) (body:Expr) (scope:Scope) (te:TE):Prop where
 cl:closureFor scope X.env=pure []
 df:defaultsOf params X.env=([],[])
 S:ZR [x] [x] scope
 bd:∀(pm cv ctv u:dM),bindArgs (kla_fn "<lambda>" nm params body scope [] pm cv ctv) ⟨[u],[]⟩=pure [(x,u)]
 bo:∀(f:dN)(cv:dM)(A:dQ)(s:dJ)(H2:Hp),QE (Y2 YY X.prog X.w X.K X.mg X.base [x] nm scope f cv A X.stack s H2 E0) body te
theorem OZ{b:Bool}{kw:dN->List (Str×dM)}{pins:List (dN×Obj)}{U:St}{H:Hp}{s:dJ}{Q:VK}{a f c':dN}{ctv pm:dM}{oc:Obj}{vs:Array dM}{t:Tok}{H1:Hp}(Lo:JD X nm x params body scope te)(hr:ZN k X.A)(hk:3<=k)(ha1:∀l f,argsOk "sorted" ⟨[.ref l],kw f⟩)(ha2:∀x f,argsOk "list.sort" ⟨[.ref x],kw f⟩)(ht:∀x f,Builtin.«list.sort» ⟨[.ref x],kw f⟩=ksk_tree x (.ref f) b)(I:ZE X (pins ++ [(f,kla_obj "<lambda>" nm params body scope [] pm c' ctv)]) U H s)(ho:s.heap.get? c'=some oc)(e1:oc.data=.fields vs)(e2:vs[1]?=some (.str nm t))(own:H c'=some (.own P))(hT:ZY H P nm)(sm:ZC H1 H)(h:Jc X.K b te [.ref a] H1 Q):wpAny (model X.prog X.w) X.A (call (.builtin "sorted") [.ref a] (kw f)) (EP X pins U Q) X.xe s:=by
 obtain⟨a',xs,ks,ea,hS,h64,hlen,hkey,q⟩:=h;cases ea;have hS':ZG X.K H a xs:=by
  rcases hS with(z | ⟨o,z⟩) | z
  ·exact .inl (.inl (sm _ _ z))
  ·exact .inl (.inr ⟨o,sm _ _ z⟩)
  ·exact .inr z
 obtain⟨its,rv,pl,_⟩:=I.list hS';have hl:=rv.length;have hr2:ZN (k - 2) X.A.in1.in1:=(ZN.in1 (k:=k - 2) (ZN.in1 (k:=k - 2+1) (hr.mono (by lia))));refine PL (f:=.ref f) (oc:=oc) (ks:=ks) (b:=b) I ho pl.isList (by lia) (by lia) (ha1 a f) (fun x=>ha2 x f) (fun x=>ht x f) (fun i v kk hv hkk pl2 s2 I2 ho2=>?_) fun D s' out cc I' fp hD hdo ko=>?_
 ·have hx:∃xv,xs[i]?=some xv/\ZF xv v:=by
   have hi:i<xs.length:=by have:=(xE.mp hv).1;lia
   obtain⟨u,e3,r3⟩:=rv.get (xC hi);rw[hv] at e3;cases e3;exact⟨_,xC hi,r3⟩
  obtain⟨xv,hxv,rxv⟩:=hx;refine wpAny_mono (ON (P:=P) (pm:=pm) (ctv:=ctv) (te:=te) (w:=.int kk) I2 rfl hr2 ?_ ho2 e1 e2 own hT Lo.S (Lo.bd _ _ _ _) rxv (fun H2=>(Lo.bo _ _ _ _ _).h) fun H2 hH2=>hkey i xv kk hxv hkk H2 fun b ys e=>hH2 b ys (sm _ _ e)) (fun r s3 ⟨r1,r2,r3⟩=>⟨r1,r2,r3⟩) fun _ _ z=>z;exact(I2.pin _ (xM _ (zL _ (xM _ xU)))).1
 ·obtain⟨pp,hp1,hp2,rfl⟩:=ko;have hl3:xs.length=its.length:=hl;have hpl:pp.length=xs.length:=by have:=hp1.length_eq;rw[zO] at this;lia
  refine⟨.ref D,_,(I'.track (u:=.lst (pp.map fun i=>xs.getD i .non)) fp hD ⟨?_,pp.map fun i=>its.getD i Value.none,cc,Gn rv pp,hdo⟩).unpinned,rfl,q D pp H sm fp.1 (by rw[hl3];exact hp1) hp2⟩;rw[xB,hpl];exact xW (yN h64) aA
theorem L7{t:TA}(L:Jq X c P nm)(hT:ZY X.H₀ P nm)(hr:ZN k X.A)(hk:3<=k)(n:Nm X.env.scope "sorted" .globalImplicit)(hm:X.mg "sorted"=none)(ha:QA X [e] t)(Lo:JD X nm x params body scope te)(hs:backTo pos (starEach [e] X.env)=(false,eval e X.env)::backTo pos (starEach [] X.env):=by rfl)(hpl:(backTo pos (starEach [e] X.env)).any (·.1)=false:=by rfl) :
  QE X (.Call (.Name "sorted" p) [e] [⟨some "key", .Lambda params body scope lpos,kp⟩] pos) (Az (Jc X.K false te) t):=⟨by
 intro pins s U H Q I h;refine wpAny_Call_Name_kw (Vi I n.1 hm E5 ?_ n.2.2.2 n.2.1);refine PyProof.Rows.callWith_kw (thn (ha.h pos pins s U H _ I h) fun us s1 ⟨vs,H1,I1,r1,q1⟩=>?_) hs hpl rfl rfl;obtain⟨a,xs,ks,ea,rest⟩:=id q1;subst ea;obtain⟨u,rfl,ru⟩:=Vg r1;cases ru;refine PyProof.Rows.kws_cons (NJ I1 L hT Lo.cl Lo.df fun f c' ctv oc vs t H' s' I2 ho e1 e2 own hT' sm=>PyProof.Rows.kws_nil ?_)
 exact OZ (kw:=fun f=>[(Str.ofString "key", .ref f)]) Lo hr hk (fun l f=>ksk_s1 _ _) (fun x f=>ksk_l1 _ _) (fun x f=>ksk_t1 _ _) I2 ho e1 e2 own hT' sm q1⟩
end
theorem I0{K:Frag}{h:Heap}{c P:dN}(X:K.In h)(e:PySem.W.codeHdIn K c P=true):CodeHd h c P:=PySem.W.codeHd_of_K X e
def TF(K:Frag)(mg:dE)(x:Str)(st:Stmt)(c:dN):Prop:=∃f oc od kV doc pm an ct osl,
 K.lookup f=some ⟨oc,od,.func (PySem.W.fnOf x x (Wo st) (Yy st) (Zs st) .none kV doc pm an (.ref c) ct),osl⟩/\PySem.W.codeIn K (.ref c) x=true/\PySem.W.keepIn K (.ref f)=true/\mg x=some (.ref f)
theorem cJ{K:Frag}{mg:dE}{h:Heap}{x:Str}{st:Stmt}{f c:dN}{oc:dM}{od an:Option dN}{osl:Array (Option dM)}{kV doc pm ct:dM}(KX:K.In h)(G:h.Ns mainGlobals mg)(a:PySem.W.nsIn K mainGlobals x=some (some (.ref f)))(l:K.lookup f=some ⟨oc,od,.func (PySem.W.fnOf x x (Wo st) (Yy st) (Zs st) .none kV doc pm an (.ref c) ct),osl⟩)(cc:PySem.W.codeIn K (.ref c) x=true)(k:PySem.W.keepIn K (.ref f)=true):TF K mg x st c:=⟨f,oc,od,kV,doc,pm,an,ct,osl,l,cc,k,PySem.W.mg_of KX G a⟩
structure JT (K:Frag) (mg:dE) (c P:dN):Prop where
 hd:PySem.W.codeHdIn K c P=true
 bm:∃bm o,mg "__builtins__"=some (.ref bm)/\bm≠builtinsNs/\bm≠mainGlobals/\bm≠P/\K.lookup bm=some o/\o.cls=.type "module" /\ o.dict=some builtinsNs/\o.data=.plain
 gl:mainGlobals≠P
section
variable{P:dO}{w:dP}{K:uFg}{mg:dE}{base:Heap}
theorem TF.fnQ{x:Str}{st:Stmt}{N ps:dF}{k:Nat}{sp:Sp}{c T:dN}(h:TF K mg x st c)(B:JT K mg c T)(kb:K.In base)(S:ZR N ps (Zs st))(hb:∀ (kV doc pm:dM) (an:Option dN) (cdv ct:dM) (us:dG),us.length=ps.length->bindArgs (PySem.W.fnOf x x (Wo st) (Yy st) (Zs st) .none kV doc pm an cdv ct) ⟨us,[]⟩=pure (ps.zip us))(len:∀vs H Q E,sp vs H Q E->vs.length=ps.length)(hbody:∀ (f:dN) (A:dQ) (outer:List Env) (s:dJ) (H:Hp) (vs:aG) (Q:VK) (E:XK),ZN k (A.deeper (envOfC x (Zs st) s.heap.objs.size f (.ref c)))->Jq (Y2 YY P w K mg base N x (Zs st) f (.ref c) A outer s H E).nox c T (x ++ ".<locals>." ++ "<lambda>")->sp vs H Q E -> ∃t,UV (Y2 YY P w K mg base N x (Zs st) f (.ref c) A outer s H E).nox (Yy st) t/\t {nx:=fun _ H'=>Q .non H',rt:=Q } (start N vs) H):Fn P w K mg base x ps (k+1) sp:=by
 obtain⟨f,oc,od,kV,doc,pm,an,ct,osl,lk,hcd,kp,hm⟩:=h;refine⟨f,_,hm,kp,.all (hb kV doc pm an (.ref c) ct),Ko lk hcd S len fun A outer s H vs Q E hr hsp=>?_⟩;have L:Jq (Y2 YY P w K mg base N x (Zs st) f (.ref c) A outer s H E).nox c T (x ++ ".<locals>." ++ "<lambda>") :=
  ⟨rfl,I0 kb B.hd,let ⟨bm,o,a1,a2,a3,a4,a5,a6⟩:=B.bm;⟨bm,o,a1,a2,a3,a4,kb _ _ a5,a6⟩,rfl,B.gl⟩
 obtain⟨t,h,q⟩:=hbody f A outer s H vs Q E hr L hsp;exact⟨t,h.h.nox,q⟩
end
section
variable{P:dO}{w:dP}{K:uFg}{mg:dE}{base:Heap}{x nm:Str}{scope:Scope}{f:dN}{cv:dM}{A:dQ}{outer:List Env}{s:dJ}{H:Hp}{E:XK}{pos:Pos}
theorem Sr:Av (Y2 YY P w K mg base [x] nm scope f cv A outer s H E) (TZ K):=⟨EI (X:=Y2 YY P w K mg base [x] nm scope f cv A outer s H E)⟩
theorem Sl(n:Nm scope x .local:=by decide +kernel):QE (Y2 YY P w K mg base [x] nm scope f cv A outer s H E) (.Name x pos) (YD 0):=qvN 0 (xN n)
theorem Xm{y:Str}{v:V}{u:dM}(hm:mg y=some u)(r:ZF v u)(n:Nm scope y .globalImplicit:=by decide +kernel):QE (Y2 YY P w K mg base [x] nm scope f cv A outer s H E) (.Name y pos) (tC v):=Yg hm r (xN n)
end
structure Tb where
 c:dN
 P:dN
 nm:Str
def Uf(ts:List Tb)(b:dN):Option HO:=(ts.find? fun t=>t.P==b).map fun t=>.tbl #[.str t.nm 0]
def Lc(ts:List Tb)(H:Hp):Prop:=∀t∈ts,ZY H t.P t.nm
def Cf(K:uFg)(ts:List Tb):Sp:=fun vs H Q _=>∃(a:dN)(ns:List Int),vs=[.ref a]/\ZG K H a (ns.map V.int)/\ns.length<=63/\Lc ts H/\∀H',Q (.bl true) H'
theorem RA{P:dO}{w:dP}{K:uFg}{mg mb:dE}{k:Nat}{fa a:dN}{fd:FuncData}{x:Str}{s₁:dJ}{vs:dG}{ns:List Int}{ts:List Tb}(KX:K.In s₁.heap)(hns:s₁.heap.Ns mainGlobals mg)(hb:s₁.heap.Ns builtinsNs mb)(hbb:∀x:Str,x ≠ "__name__" -> mb x=bootBuiltins x)(hlim:s₁.heap.NoLimit)(hg:s₁.gens=#[])(ha:s₁.heap.get? a=some {cls:=.type "list", data:=.seq vs.toArray })(hi:IntsAre vs ns)(hl:ns.length<=63)(hr:ZN k callerA)(hts:∀t∈ts,s₁.heap.get? t.P=some {cls:=.none,data:=.fields #[] }/\PySem.W.codeHdIn K t.c t.P=true/\K.lookup t.P=none)(hnd:(ts.map (·.P)).Nodup)(F:∀base:Heap,K.In base->base.Ns mainGlobals mg->YG P w K mg base YY k fa fd [x] (Cf K ts))(hbind:∀s u,BindsTo s fd ⟨[u],[]⟩ [(x,u)]) :
  codeAny (model P w) callerA (.call (.ref fa) ⟨[.ref a],[]⟩) (fun r s'=>r=.ok (.ret (.bool true))/\OldK s₁.heap s'.heap/\s'.os=s₁.os/\AllBare s'.gens) s₁:=by
 have rv:=GR hi;have lenV:=hi.length;have hl':ns.length<=sizeLine:=xW hl aA;have tabS:∀b u,Uf ts b=some u->∃t∈ts,t.P=b/\u=.tbl #[.str t.nm 0]:=fun b u e=>by
  unfold Uf at e;obtain⟨t,h1,h2⟩:=yD.mp e;exact⟨t,List.mem_of_find?_eq_some h1,by simpa using List.find?_some h1,h2.symm⟩
 have tabN:∀t∈ts,∃u,Uf ts t.P=some u:=fun t ht=>by
  unfold Uf;cases e:ts.find? (fun t'=>t'.P==t.P) with
  | none=>have:=List.find?_eq_none.mp e t ht;simp at this
  | some t'=>exact⟨_,rfl⟩
 have tabE:∀t∈ts,Uf ts t.P=some (.tbl #[.str t.nm 0]):=fun t ht=>by
  obtain⟨u,e⟩:=tabN t ht;obtain⟨t',h1,h2,h3⟩:=tabS _ _ e;have:t'=t:=by
   have e1:∀{l:List Tb}{t t':Tb},(l.map (·.P)).Nodup->t∈l->t'∈l->t'.P=t.P->t'=t:=by
    intro l
    induction l with
    | nil=>intro t t' _ h;cases h
    | cons y l ih =>
     intro t t' hn h h' hp;rw[yF,yK] at hn;rcases xF.mp h with z | z
     ·grind
     ·grind
   exact e1 hnd ht h1 h2
  rw[e,h3,this]
 have core:∀H:Hp,(∀b u,H b=some u->(b=a/\∃o xs,u=.frz o (.lst xs))\/Uf ts b=some u)->Lc ts H->ZG K H a (ns.map V.int)->YN P w H s₁.heap->(H a≠none->K.lookup a=none)->
   codeAny (model P w) callerA (.call (.ref fa) ⟨[.ref a],[]⟩) (fun r s'=>r=.ok (.ret (.bool true))/\OldK s₁.heap s'.heap/\s'.os=s₁.os/\AllBare s'.gens) s₁:=by
  intro H hO hT hS hok hK;have base_of:∀{b:dN}{o:Obj},s₁.heap.get? b=some o->H b=none->(Jj s₁.heap H).get? b=some o:=fun e n=>Qs e n;have noA:∀{b:dN}{o:Obj}{es:Array DictEntry}{ep:Nat},s₁.heap.get? b=some o->o.data=.dict es ep->H b=none:=fun {b o es ep} e d=>by
   cases q:H b with
   | none=>rfl
   | some u =>
    rcases hO b u q with⟨e',_⟩ | e'
    ·grind
    ·grind
  have nsK:∀{b:dN}{m:dE},s₁.heap.Ns b m->(Jj s₁.heap H).Ns b m:=fun {b m} ⟨o,es,ep,e,d,r⟩=>⟨o,es,ep,base_of e (noA e d),d,r⟩
  have hKb:K.In (Jj s₁.heap H):=fun b o e=>base_of (KX b o e) (by
   cases q:H b with
   | none=>rfl
   | some u =>
    rcases hO b u q with⟨e',_⟩ | e'
    ·subst e';rw[hK (by rw[q];simp)] at e;cases e
    ·obtain⟨t,h1,h2,_⟩:=tabS b u e';subst h2
     rw[(hts t h1).2.2] at e;cases e)
  have hM:Mod K mg (Jj s₁.heap H):=⟨hKb,nsK hns,⟨mb,nsK hb,hbb⟩,let ⟨mc,h1,h2⟩:=hlim;⟨mc,nsK h1,h2⟩⟩;have e0:VL P w K mg (Jj s₁.heap H) callerA [] s₁ H:=⟨rfl,hM,fun b o e=>Mz e,Nat.le_of_eq (O3 _ _),trivial,fun b hb=>absurd (show b∈([]:dI) from hb) (by simp),hok,.of_eq hg⟩;refine codeAny_mono ((F _ hKb (nsK hns)).run callerA [] s₁ H ⟨[.ref a],[]⟩ [.ref a] [.ref a] (fun v _=>v=.bl true) E0 hr e0 (hbind s₁ (.ref a)) (.cons rfl .nil) ⟨a,ns,rfl,hS,hl,hT,fun _=>rfl⟩) fun r s' h=>?_;cases r with
  | error e=>exact h.elim
  | ok fl =>
   cases fl with
   | next=>exact False.elim h
   | brk=>exact False.elim h
   | cont=>exact False.elim h
   | ret u =>
    obtain⟨v,H',os,bare,un,hok',r',q⟩:=h;have q':v=.bl true:=q;subst q';obtain rfl:u=Value.bool true:=r';have nfs:∀b:dN,b∉frs []:=fun b z=>absurd (show b∈([]:dI) from z) (by simp);refine⟨rfl,⟨fun b o e=>?_,fun b o e=>un.there b o e (by simp)⟩,os,bare⟩;cases q:H b with
    | none=>exact .inl (un.keep b o e q (nfs b) (by simp))
    | some u =>
     rcases hO b u q with⟨_,ob,xs,z⟩ | z
     ·subst z;have z2:=un.frzs b ob _ q;obtain⟨e1,_⟩:=hok b _ q;obtain⟨e2,_⟩:=hok' b _ z2;rw[e] at e1;cases e1;exact .inl e2
     ·obtain⟨t,h1,h2,h3⟩:=tabS b u z;subst h2 h3;obtain⟨e1,e2,_⟩:=hts t h1;rw[e1] at e;cases e;obtain⟨more,z2⟩:=un.tbls _ _ q;obtain⟨qs,_,_,e3,_⟩:=hok' _ _ z2;obtain⟨oc,vv,_,_,_,_,_,_,_,f1,f2,f3,f4,_⟩:=I0 KX e2;exact .inr (.inl ⟨⟨t.c,oc,vv,f1,f2,f3,f4⟩,rfl,#[],qs,rfl,by rw[e3];simp⟩)
 have tabOk:∀(H:Hp),(∀t∈ts,H t.P=some (.tbl #[.str t.nm 0]))->∀b u,Uf ts b=some u->ZL P w H s₁.heap b u:=fun H hH b u z=>by
  obtain⟨t,h1,h2,h3⟩:=tabS b u z;subst h2 h3;exact⟨#[],t.nm,0,(hts t h1).1,trivial,rfl,fun pos cv e=>by cases e⟩
 have nPa:∀t∈ts,t.P≠a:=fun t ht z=>by
  have:=(hts t ht).1;rw[z,ha] at this;cases this
 cases hk:K.lookup a with
 | some o =>
  have e:=KX a o hk;rw[ha] at e;cases e;refine core (Uf ts) (fun b u z=>.inr z) (fun t ht=>⟨_,_,tabE t ht,rfl⟩) (.inr ⟨_,vs.toArray,_,hk,rfl,rfl,rfl,by rw[xS,lenV];exact hl',by simpa using rv⟩) (fun b u z=>tabOk _ tabE b u z) fun z=>?_;exfalso;cases q:Uf ts a with
  | none=>exact z q
  | some u=>obtain⟨t,h1,h2,_⟩:=tabS a u q;exact nPa t h1 h2
 | none =>
  have hH:∀t∈ts,(fun b=>if b=a then some (HO.frz {cls:=.type "list", data:=.seq vs.toArray } (.lst (ns.map V.int))) else Uf ts b) t.P=some (.tbl #[.str t.nm 0]):=fun t ht=>by
   show (if t.P=a then _ else _)=_;rw[if_neg (nPa t ht)];exact tabE t ht
  refine core (fun b=>if b=a then some (.frz {cls:=.type "list", data:=.seq vs.toArray } (.lst (ns.map V.int))) else Uf ts b) (fun b u z=>?_) (fun t ht=>⟨_,_,hH t ht,rfl⟩) (.inl (.inr ⟨{cls:=.type "list", data:=.seq vs.toArray },if_pos rfl⟩)) (fun b u z=>?_) fun _=>hk
  ·grind
  ·by_cases hb:b=a
   ·have z':=(if_pos hb).symm.trans z;cases z';subst hb;exact⟨ha,by rw[xB];exact hl',vs,_,rv,ha⟩
   ·exact tabOk _ hH b u ((if_neg hb).symm.trans z)
theorem walkLawT{l:PySem.W.OpenLaw}{q:dO}{loose:dF}{XP:(dE)->Heap->Prop}{YP:dP->Heap->Prop}{d:DefRec}{K KT:Params->uFg}{ts:List Tb}(hn:l.most=some 63)(hdf:d.params.defaults=[])(hY:∀w h,YP w h->(KT w.params).In h)(hsub:∀p h,(KT p).In h->(K p).In h)(hts:∀p,∀t∈ts,(KT p).lookup t.P=some {cls:=.none,data:=.fields #[] }/\PySem.W.codeHdIn (K p) t.c t.P=true/\(K p).lookup t.P=none)(hnd:(ts.map (·.P)).Nodup)(F:∀w mg fa h,(K w.params).In h->h.Ns mainGlobals mg->mg d.name=some (.ref fa)-> ∃fd:FuncData,(∀s u,BindsTo s fd ⟨[u],[]⟩ [("_law_script", u)])/\∀base:Heap,(K w.params).In base->base.Ns mainGlobals mg->YG l.prog w (K w.params) mg base YY 40 fa fd ["_law_script"] (Cf (K w.params) ts)) :
  PySem.W.WalkO q loose XP YP l.row.toRowW d [] (fun f vs=>PySem.call f vs):=by
 refine Att.attach_call hn hdf fun w s₀ s₁ mg mb fa o pm cd doc a vs ns G Y ho hd hcd hmg hobj hints hlen hg=>?_;have KT':=hY w _ Y;have KX:=hsub _ _ KT';obtain⟨fd,hb,hF⟩:=F w mg fa _ KX G.T.g hmg;exact RA KX G.T.g G.T.b G.T.builtins G.T.nolimit hg hobj hints hlen ⟨rfl,aA,aA⟩ (fun t ht=>⟨KT' _ _ (hts w.params t ht).1,(hts w.params t ht).2⟩) hnd hF hb
theorem Mh(h:∀p∈scope.names,p.2 ≠ .free):closureFor scope env=pure []:=by
 have go:∀(l:List (Str×NameKind))(cs:List (Str×dN)),(∀p∈l,p.2 ≠ .free)->
   (forIn l cs (fun(x:Str×NameKind) (r:List (Str×dN))=>if (x.2==NameKind.free)=true then (do let a ← cellOf env x.1;pure (ForInStep.yield ((x.1,a)::r)):Sem (ForInStep (List (Str×dN)))) else pure (ForInStep.yield r)):Sem _)=pure cs:=by
  intro l
  induction l with
  | nil=>intro cs _;rfl
  | cons p l ih =>
   intro cs hp;rw[List.forIn_cons];have e2:(p.2==NameKind.free)=false:=by simpa using hp p xU
   simp only[e2,zK,if_false,pure_bind];exact ih cs fun q hq=>hp q (yC _ hq)
 unfold closureFor;have e':=congrArg (fun m:Sem (List (Str×dN))=>m >>= fun r=>pure r) (go scope.names [] h);simp only[pure_bind] at e';exact e'
theorem Frag.In.left{K T:Frag}{h:Heap}(x:Frag.In (K++T:List (dN×Obj)) h):K.In h:=fun a o e=>x a o (by
 show List.lookup a (K++T)=some o;rw[List.lookup_append];have:List.lookup a K=some o:=e
 rw[this];rfl)
section
variable{ta:TE}
def Nh(K:Frag)(ta:TE):TT:=fun U H Q=>ta U H fun x H'=>∃k,GD K x H' k/\Q k H'
theorem Gk(ha:QE X a ta)(he:∀whole,isTrue a X.env whole=(do let v ← whole;standAt a.pos;holding [v] (truthy v))):QT X a (Nh X.K ta):=⟨by
 have ha:=ha.h;intro pins s U H Q I h
 exact isTrue_plain (thn (ha pins s U H _ I h) fun v s1 ⟨x,H1,I1,r1,q1⟩=>RH pins s1 U H1 x v Q I1 r1 q1) (he _)⟩
end
def VA(h:Heap)(d:dN)(es:Array DictEntry)(ep:Nat):Prop:=∃o,h.get? d=some o/\o.ExactDict/\o.data=.dict es ep
theorem VA.ty{s:dJ}{d:dN}{es:Array DictEntry}{ep:Nat}(h:VA s.heap d es ep):s.TypeIs (.ref d) "dict" := let ⟨o,e,c,_⟩:=h;⟨o,e,c.1⟩
theorem MK(lo:(d==sysModules)=false)(h:VA s.heap d es ep)(q:Q (.ref s.heap.objs.size) {s with heap:=s.heap.push {cls:=.type "dict_keyiterator", data:=.fields #[.ref d,.int 0 0,.int es.size 0,.int ep 0] } }) :
  wpAny (model prog w) A (pyIter (.ref d)) Q E s:=by
 have ty:=h.ty;obtain⟨o,e1,e2,e3⟩:=h;refine wpAny_pyIter_slot ty PySem.F.slot_dict_iter (wpAny_call_entry PySem.F.slot_dict_iter ty PySem.F.entry_dict_iter ?_ (PySem.F.args_dict_iter_1 _));unfold Builtin.«dict.__iter__» Builtin.Dict.dictSlotNone;refine wpAny_bind (wpAny_bind (wpAny_notOrdered_dict ty ?_));show wpAny _ _ (pure (Value.ref d)) _ _ s;refine wpAny_pure ?_;show wpAny _ _ (Builtin.Dict.showsAll d >>= _) _ _ s;unfold Builtin.Dict.showsAll;rw[if_neg (by rw[lo];simp)];refine wpAny_bind (wpAny_pure (wpAny_bind (wpAny_dictEntries e1 e3 (wpAny_bind (wpAny_dictEpoch e1 e3 (wpAny_bind (wpAny_newObj_type (wpAny_pure ⟨_,rfl, "dict_keyiterator", _,⟨_,xG _ rfl,rfl⟩,PySem.F.slot_dict_keyiterator_next.lookup,?_⟩))))))));simpa [rawInt] using q
theorem Np(hI:s.heap.IsKeyIter it d i es.size ep)(h:VA s.heap d es ep)(hi:i<es.size)(q:∀h',h'.IsKeyIter it d (i+1) es.size ep->Heap.SameBut it s.heap h'->Q (some es[i].key) {s with heap:=h' }) :
  wpAny (model prog w) A (pyNext (.ref it)) Q E s:=by
 have ty:=hI.typeIs;obtain⟨o,i1,i2,i3⟩:=hI;obtain⟨od,e1,e2,e3⟩:=h;unfold pyNext;refine wpAny_bind (wpAny_attempt (wpAny_callSpecial?_slot (name:=Str.ofString "__next__") ty PySem.F.slot_dict_keyiterator_next (wpAny_call_entry PySem.F.slot_dict_keyiterator_next ty PySem.F.entry_dict_keyiterator_next ?_ (PySem.F.args_dict_keyiterator_next_1 _))));refine wpAny_bind (wpAny_pure (wpAny_bind (wpAny_bind ?_)))
 first | refine wpAny_bind (wpAny_typeNameOfWhole_keyiter ty (wpAny_pure (wpAny_bind (wpAny_fieldsOf i1 i3 ?_)))) | refine wpAny_bind (wpAny_typeNameOf_keyiter ty (wpAny_pure (wpAny_bind (wpAny_fieldsOf i1 i3 ?_))))
 simp only[show Builtin.Dict_items.ownsTuple "dict_keyiterator"=false by decide,zK,if_false];show wpAny _ _ (if (Value.ref d==Value.none)=true then _ else _) _ _ s;rw[if_neg (show ¬((Value.ref d==Value.none)=true) from xI)];refine wpAny_bind (wpAny_pure (wpAny_bind (wpAny_dictEntries e1 e3 ?_)));rw[if_neg (by simp)];refine wpAny_bind (wpAny_pure (wpAny_bind (wpAny_dictEpoch e1 e3 ?_)));rw[if_neg (by simp)];refine wpAny_pure ?_;simp only[show ¬((i:Int)<0) from by lia,if_false,yM,zF hi];refine wpAny_bind ?_
 first | refine wpAny_bind (wpAny_typeNameOfWhole_keyiter ty (wpAny_pure (wpAny_bind (wpAny_isOneOf_keyiter ty ?_)))) | refine wpAny_bind (wpAny_typeNameOf_keyiter ty (wpAny_pure (wpAny_bind (wpAny_isOneOf_keyiter ty ?_))))
 show wpAny _ _ (setField (.ref it) 1 (rawInt ((i:Int)+1)) >>= _) _ _ s;refine wpAny_bind (wpAny_setField i1 i3 (by simp) ?_);have I2:(s.heap.update it (Obj.mapFields (·.setIfInBounds 1 (rawInt ((i:Int)+1))))).IsKeyIter it d (i+1) es.size ep :=
  ⟨_,zH _ i1 (Obj.isFreed_of_fields (Obj.data_mapFields i3 _)),(Obj.cls_mapFields ..).trans i2,by rw[Obj.data_mapFields i3];simp[rawInt]⟩
 refine wpAny_bind (wpAny_holding (wpAny_bind (wpAny_isOneOf_keyiter (s:={s with heap:=s.heap.update it (Obj.mapFields (·.setIfInBounds 1 (rawInt ((i:Int)+1)))) }) I2.typeIs ?_)));show wpAny _ _ (pure es[i].key) _ _ _;exact wpAny_pure (wpAny_pure ⟨_,rfl,wpAny_pure (q _ I2 (Heap.SameBut.update ..))⟩)
theorem Xc(hh:A.handled=none)(hI:s.heap.IsKeyIter it d es.size es.size ep)(h:VA s.heap d es ep)(q:∀h',Heap.ExtBut it s.heap h'->Q none {s with heap:=h' }):wpAny (model prog w) A (pyNext (.ref it)) Q E s:=by
 have ty:=hI.typeIs;obtain⟨o,i1,i2,i3⟩:=hI;obtain⟨od,e1,e2,e3⟩:=h;unfold pyNext;refine wpAny_bind (wpAny_attempt (wpAny_callSpecial?_slot (name:=Str.ofString "__next__") ty PySem.F.slot_dict_keyiterator_next (wpAny_call_entry PySem.F.slot_dict_keyiterator_next ty PySem.F.entry_dict_keyiterator_next ?_ (PySem.F.args_dict_keyiterator_next_1 _))));refine wpAny_bind (wpAny_pure (wpAny_bind (wpAny_bind ?_)))
 first | refine wpAny_bind (wpAny_typeNameOfWhole_keyiter ty (wpAny_pure (wpAny_bind (wpAny_fieldsOf i1 i3 ?_)))) | refine wpAny_bind (wpAny_typeNameOf_keyiter ty (wpAny_pure (wpAny_bind (wpAny_fieldsOf i1 i3 ?_))))
 simp only[show Builtin.Dict_items.ownsTuple "dict_keyiterator"=false by decide,zK,if_false];show wpAny _ _ (if (Value.ref d==Value.none)=true then _ else _) _ _ s;rw[if_neg (show ¬((Value.ref d==Value.none)=true) from xI)];refine wpAny_bind (wpAny_pure (wpAny_bind (wpAny_dictEntries e1 e3 ?_)));rw[if_neg (by simp)];refine wpAny_bind (wpAny_pure (wpAny_bind (wpAny_dictEpoch e1 e3 ?_)));rw[if_neg (by simp)];refine wpAny_pure ?_;simp only[show ¬((es.size:Int)<0) from by lia,if_false,yM,Array.getElem?_eq_none (xD es.size)];refine wpAny_bind ?_
 first | refine wpAny_bind (wpAny_typeNameOfWhole_keyiter ty (wpAny_pure ?_)) | refine wpAny_bind (wpAny_typeNameOf_keyiter ty (wpAny_pure ?_))
 show wpAny _ _ (setField (.ref it) 0 .none >>= _) _ _ s;refine wpAny_bind (wpAny_setField i1 i3 (by simp) ?_);show wpAny _ _ (newExc (.type "StopIteration") [] >>= _) _ _ _;refine wpAny_bind ?_;simp only[newExc,newTuple];refine wpAny_bind (wpAny_newObj_type ?_ (by size_fits));refine wpAny_bind (m:=firstArgMember _ _) (wpAny_of_eq (a:=Value.none) (by first | rfl | (simp only[firstArgMember];rfl)) ?_);refine wpAny_newObj_type ?_ (by size_fits);simp only[raiseNew];refine wpAny_bind (wpAny_handled ?_);rw[show A.in1.handled=none from hh];refine wpAny_bind (wpAny_pure (wpAny_throw ?_));exact wpAny_bind (wpAny_isInstance (T:="StopIteration") (b:=true) ⟨_,xG _ rfl,rfl⟩ isSubtype_stop (wpAny_pure (q _ (((Heap.SameBut.update ..).extBut.push _).push _))))
theorem NT(hh:A.handled=none)(I d:dN)(hne:d≠I)(es:Array DictEntry)(ep:Nat):Walks prog w A I [I,d] [I] es.size (fun i v=>∃e,es[i]?=some e/\v=e.key) (fun i h=>h.IsKeyIter I d i es.size ep/\VA h d es ep) where
 sub:=by intro b hb;rw[xQ.mp hb];exact xU
 frame:=by rintro i h h' ⟨⟨o,a1,a2⟩,o',b1,b2⟩ hk;exact⟨⟨o,hk I (by simp) _ a1,a2⟩,o',hk d (by simp) _ b1,b2⟩
 item:=by
  rintro i s Q E hi ⟨a,b⟩ q;obtain⟨o',b1,b2⟩:=id b;exact Np a b hi fun h' a' sb=>q _ h' s.toks ⟨_,zF hi,rfl⟩ ⟨a',o',sb.extBut d o' hne b1,b2⟩ fun b o hb e=>sb.extBut b o (fun z=>hb (by rw[z];exact xQ.mpr rfl)) e
 done:=by rintro s Q E ⟨a,b⟩ q;exact Xc hh a b fun h' sb=>q h' s.toks fun b o hb e=>sb b o (fun z=>hb (by rw[z];exact xQ.mpr rfl)) e
 self:=by rintro i s Q E ⟨a,b⟩ q;exact wpAny_pyIter_keyiter a q
theorem NP(lo:(d==sysModules)=false):KdlSrc prog w "dict" d d es.size (fun i v=>∃e,es[i]?=some e/\v=e.key) (fun h=>VA h d es ep) where
 type:=by intro s h;exact h.ty
 there:=by rintro h ⟨o,e,_⟩;exact⟨xH e,xH e⟩
 keep:=by rintro h h' ⟨o,e,r⟩ hk;exact⟨o,hk d (.inl rfl) o e,r⟩
 notList:=by rfl
 notTuple:=by rfl
 hint:=by intro A E s Q h q;exact kdl_hint_dict h.ty q
 iter:=by
  intro A s hh h;obtain⟨o,e,r⟩:=id h;exact⟨_,_,fun E Q q=>MK lo h q,NT hh _ d (xY (xH e)) es ep,⟨_,xG _ rfl,rfl,rfl⟩,o,xA _ e,r⟩
theorem Qv(K:KdlSrc prog w T r d n P OK)(hh:A.handled=none)(hok:OK s.heap)(hn:n<=sizeLine)(q:∀h1 tk acc,(∀b o,s.heap.get? b=some o->h1.get? b=some o)->s.heap.objs.size<h1.objs.size->ItemsOf P acc n->R acc.toList {s with heap:=h1,toks:=tk }):wpAny (model prog w) A (collect (.ref r)) R E s:=by
 obtain⟨l1,l2⟩:=K.there _ hok;unfold collect;refine wpAny_bind (wpAny_runValue (codeAny_builtin entry_proto_collect' ?_));rw[Around.under_plainId PySem.F.plain_proto_collect _];show wpAny _ A.in1 (newList [] >>= fun l=>again (.builtin "list.__iadd__" ⟨[l,.ref r],[]⟩)) _ _ s;refine wpAny_bind (wpAny_newObj_type (wpAny_pure ⟨plainId_quiet PySem.F.plain_list_iadd _,codeAny_builtin entry_list_iadd' ?_⟩));rw[Around.under_plainId PySem.F.plain_list_iadd _];show wpAny _ A.in1 (Builtin.List.listExtendWith (.ref s.heap.objs.size) (.ref r) (.ref s.heap.objs.size)) _ _ _
 let S0:dJ:={s with heap:=s.heap.push {cls:=.type "list", data:=.seq ([]:dG).toArray } }
 let RR:Result->dJ->Prop:=fun o s'=>∃(h1:Heap)(tk:Nat)(acc:Array dM)(c:Nat),o=.ok (.ret (.ref s.heap.objs.size))/\s'={s with heap:=h1,toks:=tk }/\(∀b o,s.heap.get? b=some o->h1.get? b=some o)/\h1.get? s.heap.objs.size=some {cls:=.type "list", dict:=none,data:=.seq acc c,slots:=#[] }/\ItemsOf P acc n
 have go:=kdl_extend (A:=A) (s:=S0) (R:=RR) K hh (K.keep _ _ hok fun b _ o e=>xA _ e) s.heap.objs.size (zU l1) (zU l2) (.ref s.heap.objs.size) 0 (xG _ rfl)
  (fun h1 tk acc c hk hS hacc=>⟨h1,tk,acc,c,rfl,rfl,fun b o e=>hk b o (xY (xH e)) (xA _ e),hS,hacc⟩) hn
 have fin:∀(h1:Heap)(tk:Nat)(acc:Array dM)(c:Nat),(∀b o,s.heap.get? b=some o->h1.get? b=some o)->h1.get? s.heap.objs.size=some {cls:=.type "list", dict:=none,data:=.seq acc c,slots:=#[] }->ItemsOf P acc n ->
   wpAny (model prog w) A (do
    let o ← load s.heap.objs.size
    match o.data with
    | .seq xs _=>pure xs.toList
    | _=>unsupported "internal:collect") R E {s with heap:=h1,toks:=tk }:=fun h1 tk acc c hk hS hacc=>wpAny_bind (wpAny_load hS (wpAny_pure (q h1 tk acc hk (xH hS) hacc)))
 refine wpAny_mono go (fun f s' x=>?_) fun e s' x=>?_
 ·cases f with
  | done f =>
   obtain⟨h1,tk,acc,c,e,rfl,hk,hS,hacc⟩:=x;cases e;exact fin h1 tk acc c hk hS hacc
  | again c1 =>
   refine⟨x.1,codeAny_mono x.2 fun o s2 y=>?_⟩;obtain⟨h1,tk,acc,c,rfl,rfl,hk,hS,hacc⟩:=y;exact fin h1 tk acc c hk hS hacc
 ·obtain⟨_,_,_,_,e',_⟩:=x;cases e'
theorem Xi{T:String}{r d:dN}{n:Nat}{P:Nat->dM->Prop}{OK:Heap->Prop}{Q:dD}(K:KdlSrc prog w T r d n P OK)(hh:A.handled=none)(hok:OK s.heap)(h64:n<64)(q:∀ (h1:Heap) (tk:Nat) (vs:dG),(∀b o,s.heap.get? b=some o->h1.get? b=some o)->s.heap.objs.size<=h1.objs.size->vs.length=n->(∀j v,vs[j]?=some v->P j v)->∃rk:Nat->Nat, (∀h0:Heap,(∀b o,h1.get? b=some o->h0.get? b=some o)->C8 prog w A.in1.in1 {s with heap:=h0,toks:=tk } h1.objs.size vs rk)/\ ∀p:Array Nat,Pm vs.length p->YJ rk p vs.length->Q (.ref h1.objs.size) {s with heap:=sortedHeap (h1.push (seqObj "list" vs.toArray 0)) h1.objs.size vs (List.toArray (p.toList.map fun i=>vs.getD i Value.none)),toks:=tk }) :
  wpAny (model prog w) A (call (.builtin "sorted") [.ref r]) Q E s:=by
 have hz:n<=sizeLine:=by rw[sizeLine_eq];lia
 refine Calls.call_function_entry kind_sorted plain_sorted entry_sorted (args_sorted1 _) ?_;unfold Builtin.«sorted»;refine wpAny_bind (m:=checkCount "sorted" 1 1 _) (wpAny_pure (wpAny_bind (Qv K hh hok hz fun h1 tk acc hk big hacc=>?_)));have hl:acc.toList.length=n:=by rw[yP];exact hacc.1
 obtain⟨rk,hS,hQ⟩:=q h1 tk acc.toList hk (yN big) hl fun j v e=>hacc.2 j v (by rw[← zT];exact e);refine wpAny_bind (wpAny_newList ?_ (by rw[hl];exact hz));have hL:(h1.push (seqObj "list" acc.toList.toArray 0)).get? h1.objs.size=some (seqObj "list" acc.toList.toArray 0):=xG _ rfl;show wpAny _ _ _ _ _ {s with heap:=h1.push (seqObj "list" acc.toList.toArray 0),toks:=tk };exact wpAny_bind (wpAny_holding (wpAny_call_entry slot_list_sort ⟨_,hL,rfl⟩ entry_list_sort (Iz (s:={s with heap:=h1.push (seqObj "list" acc.toList.toArray 0),toks:=tk }) hL (by rw[hl];exact h64) (hS _ fun b o e=>xA _ e) fun p hp hu=>⟨_,rfl,wpAny_pure ⟨_,rfl,hQ p hp hu⟩⟩) (args_list_sort _)))
def byK(ps:List (dN×List ZM))(i j:Nat):Bool:=ltK (ps.getD i (ps.headD (0,[]))).2 (ps.getD j (ps.headD (0,[]))).2
theorem HN(ht:∀p∈ps,YB H p/\shp p.2=sh):TK (byK ps):=by
 obtain⟨sh',hsh⟩:=E6 ht;exact⟨fun i=>AS _,fun i j k=>B4 _ _ _,fun i j k=>Cs _ _ _ ((hsh i).trans (hsh k).symm)⟩
theorem Nu{pins:List (dN×Obj)}{U:St}{H:Hp}{s:dJ}(I:ZE X pins U H s){ps:List (dN×List ZM)}{sh:List Bool}(ht:∀p∈ps,YB H p/\shp p.2=sh)(hne:sh ≠ []){A':dQ}{h1:Heap}{tk:Nat}{a:dN}(hk1:∀b o,s.heap.get? b=some o->b≠a/\h1.get? b=some o):C8 X.prog X.w A' {s with heap:=h1,toks:=tk } a (ps.map fun p=>Value.ref p.1) (rk (byK ps) ps.length):=by
 intro l2 h' hk Q' hQ;have W:=HN ht;obtain⟨sh',hsh⟩:=E6 ht;have hlen:(ps.map fun p=>Value.ref p.1).length=ps.length:=xB ..;have hold:∀(p:dN×List ZM)(o:Obj),YB H p->s.heap.get? p.1=some o->h'.get? p.1=some o:=fun p o _ e=>hk _ _ (hk1 _ _ e).1 (hk1 _ _ e).2;obtain⟨fs,f1,f2,f3⟩:=Fi (h':=h') I hne hold ps ht;have tt:(Value.type (if sh.head hne then "int" else "str") != Value.type "tuple")=true:=by cases sh.head hne<;>rfl
 have t2:(Value.type (if sh.head hne then "int" else "str")== Value.type (if sh.head hne then "int" else "str"))=true:=by cases sh.head hne<;>rfl
 refine kat_kind (s:={s with heap:=h',toks:=tk }) f1 (by lia) f3 t2 (hQ _ fun i j C hi hj hC=>?_);rw[tt];rw[hlen] at hi hj;have get:∀{i},i<ps.length->∃p its o n,ps.getD i (ps.headD (0,[]))=p/\(ps.map fun p=>Value.ref p.1).getD i Value.none=.ref p.1/\ZH (p.2.map kV) its/\h'.get? p.1=some o/\o.data=.seq its.toArray n:=fun {i} hi=>by
  have e:ps[i]?=some ps[i]:=xC hi;have m:=zJ hi;obtain⟨its,rv,⟨o,e1,e2,n,e3⟩,_⟩:=I.tuple (ZP.of (ht _ m).1);exact⟨ps[i],its,o,n,by rw[xL,e];rfl,by rw[xL,xJ,e];rfl,rv,hold _ o (ht _ m).1 e1,e3⟩
 obtain⟨x,xs,ox,nx,ex,gx,vx,hx,dx⟩:=get hi;obtain⟨y,ys,oy,ny,ey,gy,vy,hy,dy⟩:=get hj;rw[Ck W hi] at hC;unfold byK at hC;have s1:=hsh i;have s2:=hsh j;rw[ex] at hC s1;rw[ey] at hC s2;show wpAny (model X.prog X.w) A' (keyLt' (tuples' true) _ _) C (fun _ _=>False) {s with heap:=h',toks:=tk };rw[gx,gy];have sz:xs.length=ys.length:=by
  have a1:=vx.length;have a2:=vy.length
  have a3:(shp x.2).length=(shp y.2).length:=by rw[s1,s2]
  unfold shp at a3;rw[xB] at a1 a2 a3;rw[xB] at a3;lia
 refine kat_lt hx dx hy dy ?_;rw[xT (by simp[sz])];exact Cg x.2 y.2 xs ys 0 (s1.trans s2.symm) vx vy hC
theorem Mn{P:dO}{w:dP}:∀{kvs:List (List ZM×V)}{xs:List (List ZM×dN×dM)},Paired (fun(p:List ZM×V) (q:List ZM×dN×dM)=>p.1=q.1/\H q.2.1=some (.tup (p.1.map kV))/\ZF p.2 q.2.2) kvs xs ->
  (xs.map fun q=>(q.2.1,q.1)).map (·.2)=kvs.map (·.1)/\∀p∈xs.map (fun q=>(q.2.1,q.1)),YB H p:=by
 intro kvs xs h
 induction h with
 | nil=>exact⟨rfl,fun p hp=>nomatch hp⟩
 | @cons a b as bs r t ih =>
  refine⟨by rw[yF,yF,yF,ih.1,r.1],fun p hp=>?_⟩;rcases xF.mp hp with rfl | hp
  ·have:=r.2.1;rw[r.1] at this;exact this
  ·exact ih.2 p hp
inductive Tr(xs:aG)(H:Hp)(Q:VK):Prop
 |mk(d:dN) (kvs:List (List ZM×V)) (sh:List Bool)(_:xs=[.ref d])(_:H d=some (.dT kvs))(_:kvs.length<64)(_:(∀p∈kvs,shp p.1=sh))(_:sh ≠ [])(_:∀(l:dN)(ms:List (dN×List ZM)),H l=none->(∀p∈ms,YB H p)->(ms.map (·.2)).Perm (kvs.map (·.1))->ms.Pairwise (fun p q=>ltK q.2 p.2=false)->(kvs.map (·.1)).Nodup->Q (.ref l) (upd H l (.lst (ms.map fun p=>V.ref p.1))))
theorem Sk(hc:X.calm=true):QC X (.builtin "sorted") Tr:=⟨by
 intro pins s U H xs us Q I r h;obtain⟨d,kvs,sh,rfl,ed,h64,hsh,hne,q⟩:=h;obtain⟨u,rfl,ru⟩:=Vg r;cases ru;obtain⟨z,lo,es,rel,o,ents,ep,e1,e2,e3,e4,e5⟩:=(show ZL X.prog X.w H s.heap d (.dT kvs) from I.hok d _ ed);obtain⟨k1,k2⟩:=Mn (P:=X.prog) (w:=X.w) rel;have hlen:kvs.length=es.length:=rel.length;have hsz:ents.size=es.length:=by rw[← yP,e4,xB]
 have ek:kvs.map (·.1)=es.map (·.1):=by rw[← k1,wK];rfl
 refine Xi (NP (es:=ents) (ep:=ep) lo) (I.ok.hd hc) ⟨o,e1,e2,e3⟩ (by rw[hsz,← hlen];exact h64) fun h1 tk vs hk big hvl hv=>?_;obtain⟨ps,hps⟩:∃ps,ps=es.map fun q=>(q.2.1,q.1):=⟨_,rfl⟩;rw[← hps] at k1 k2;have hpl:ps.length=es.length:=by rw[hps,xB]
 have evs:vs=ps.map fun p=>Value.ref p.1:=by
  refine List.ext_getElem? fun i=>?_
  by_cases hi:i<vs.length
  ·obtain⟨e,he,ev⟩:=hv i vs[i] (xC hi);rw[xC hi,ev,hps,wK,xJ];rw[← zT,e4,xJ] at he;obtain⟨x,hx,rfl⟩:=yD.mp he;rw[hx];rfl
  ·grind
 subst evs
 have ht:∀p∈ps,YB H p/\shp p.2=sh:=fun p hp=>⟨k2 p hp,by
  have:p.2∈kvs.map (·.1):=by rw[← k1];exact yQ.mpr ⟨p,hp,rfl⟩
  obtain⟨x,hx,e⟩:=yQ.mp this;rw[← e]
  exact hsh x hx⟩
 have hml:(ps.map fun p=>Value.ref p.1).length=ps.length:=xB ..;refine⟨rk (byK ps) ps.length,fun h0 hk0=>Nu I ht hne fun b o e=>⟨xY (xH (hk b o e)),hk0 b o (hk b o e)⟩,fun pa hp hu=>?_⟩;rw[hml] at hp hu;obtain⟨b1,b2⟩:=FV (d:=ps.headD (0,[])) (lt:=fun a b:dN×List ZM=>ltK a.2 b.2) hp (HN ht) hu;obtain⟨e,he⟩:=sortedHeap_at (h:=h1.push (seqObj "list" (ps.map fun p=>Value.ref p.1).toArray 0)) (a:=h1.objs.size) (vs:=ps.map fun p=>Value.ref p.1) (n:=0) (out:=List.toArray (pa.toList.map fun i=>(ps.map fun p=>Value.ref p.1).getD i Value.none)) (xG _ rfl);have eo:(pa.toList.map fun i=>(ps.map fun p=>Value.ref p.1).getD i Value.none)=(pa.toList.map fun i=>ps.getD i (ps.headD (0,[]))).map fun p=>Value.ref p.1:=by
  rw[wK];refine wM fun i hi=>?_;have li:i<ps.length:=yR.mp (hp.mem_iff.mp hi);show _=Value.ref (ps.getD i (ps.headD (0,[]))).1;rw[xL,xL,xJ,xC li];rfl
 rw[eo] at he ⊢;generalize (pa.toList.map fun i=>ps.getD i (ps.headD (0,[])))=ms at b1 b2 he ⊢;have hz:ms.length=ps.length:=b1.length_eq;refine⟨.ref h1.objs.size,_,I.laid (t':=tk) (o:=.lst (ms.map fun p=>V.ref p.1)) (fun b o e=>?_) big ?_,rfl,q _ ms (I.hok.fresh big) (fun p hp=>k2 p (b1.mem_iff.mp hp)) (by rw[← k1];exact b1.map _) b2 (by rw[ek];exact e5)⟩
 ·have l1:=xH (hk b o e);rw[sortedHeap_old (b:=b) (xY l1) (by rw[size_push'];exact zB l1)];exact xA _ (hk b o e)
 ·exact⟨by rw[xB,hz,hpl,← hlen];exact z,ms.map fun p=>Value.ref p.1,e,EH ms,by simpa using he⟩⟩
def e0:Str:=⟨#[]⟩
def ltS(x y:Str):Bool:=decide (x.cps.toList<y.cps.toList)
theorem GQ(x:Str):ltS x x=false:=xT (List.lt_irrefl _)
theorem L6(a:ltS x y=true)(b:ltS y z=true):ltS x z=true:=xN (List.lt_trans (yU a) (yU b))
theorem Gq(a:ltS x y=false)(b:ltS y x=false):x=y:=by
 by_cases e:x=y
 ·exact e
 ·exact absurd (DM e (of_decide_eq_false a)) (of_decide_eq_false b)
theorem Pj(d:dN)(lo:(d==sysModules)=false):MeetsIn prog w (Builtin.«dict.items» ⟨[.ref d],[]⟩) (fun _ R s=>s.TypeIs (.ref d) "dict" /\ R (.ok (.ret (.ref s.heap.objs.size))) {s with heap:=s.heap.push {cls:=.type "dict_items", data:=.fields #[.ref d] } }) :=
 .of_wp fun A R s ⟨ty,q⟩=>by
  unfold Builtin.«dict.items» Builtin.Dict.noArgs;refine wpAny_bind (wpAny_bind (wpAny_notOrdered_dict ty ?_));show wpAny _ _ (pure d) _ _ s;refine wpAny_pure ?_;show wpAny _ _ (Builtin.Dict.showsAll d >>= _) _ _ s;unfold Builtin.Dict.showsAll;rw[if_neg (by rw[lo];simp)];exact wpAny_bind (wpAny_pure (wpAny_bind (wpAny_newObj_type (wpAny_pure ⟨_,rfl,q⟩))))
theorem cY(hv:s.heap.IsItemsView v d)(h:VA s.heap d es ep)(q:Q (.ref s.heap.objs.size) {s with heap:=s.heap.push {cls:=.type "dict_itemiterator", data:=.fields #[.none,.bool false,.ref d,.int 0 0,.int es.size 0,.int ep 0,.none,.none] } }):wpAny (model prog w) A (pyIter (.ref v)) Q E s:=by
 have ty:=hv.typeIs;obtain⟨ov,v1,v2,v3⟩:=hv;obtain⟨o,e1,e2,e3⟩:=h;refine wpAny_pyIter_slot ty PySem.F.slot_dict_items_iter (wpAny_call_entry PySem.F.slot_dict_items_iter ty PySem.F.entry_dict_items_iter ?_ (PySem.F.args_dict_items_iter_1 _));unfold Builtin.«dict_items.__iter__»;refine wpAny_bind (wpAny_pure (wpAny_bind ?_));unfold Builtin.Dict_items.dictOf;refine wpAny_bind (wpAny_field v1 v3 (x:=.ref d) rfl (wpAny_pure (wpAny_bind ?_)));unfold Builtin.Dict_items.newIterator;refine wpAny_bind (wpAny_dictEntries e1 e3 (wpAny_bind (wpAny_dictEpoch e1 e3 ?_)));simp only[show Builtin.Dict_items.ownsTuple "dict_itemiterator"=true by decide,if_true];refine wpAny_newObj_type (wpAny_pure ⟨_,rfl, "dict_itemiterator", _,⟨_,xG _ rfl,rfl⟩,PySem.F.slot_dict_itemiterator_next.lookup,?_⟩) (by simp only[sizeOk,Builtin.Dict_items.ownedTupleFields,xS,xK,xX,List.length_nil,sizeLine_eq];lia);simpa [rawInt,Builtin.Dict_items.ownedTupleFields] using q
theorem Qp(hI:IsItemIter s.heap it d i es.size ep ok ov)(h:VA s.heap d es ep)(hi:i<es.size)(q:∀h',IsItemIterOut h' it d (i+1) es.size ep es[i].key es[i].val s.heap.objs.size->h'.get? s.heap.objs.size=some {cls:=.type "tuple", data:=.seq #[es[i].key,es[i].val] }->h'.objs.size=s.heap.objs.size+1->(∀b o,b≠it->s.heap.get? b=some o->h'.get? b=some o)->Q (some (.ref s.heap.objs.size)) {s with heap:=h' }) :
  wpAny (model prog w) A (pyNext (.ref it)) Q E s:=by
 obtain⟨hp,g,dr,tk,os⟩:=s;obtain⟨od,e1,e2,e3⟩:=h;have ty:Shared.TypeIs ⟨hp,g,dr,tk,os⟩ (.ref it) "dict_itemiterator" := ⟨_,hI,rfl⟩;unfold pyNext;refine wpAny_bind (wpAny_attempt (wpAny_callSpecial?_slot (name:=Str.ofString "__next__") ty PySem.F.slot_dict_itemiterator_next (wpAny_call_entry PySem.F.slot_dict_itemiterator_next ty PySem.F.entry_dict_itemiterator_next ?_ (PySem.F.args_dict_itemiterator_next_1 _))));refine wpAny_bind (wpAny_pure (wpAny_bind (wpAny_bind ?_)))
 first | refine wpAny_bind (wpAny_typeNameOfWhole_itemiter ty (wpAny_pure (wpAny_bind (wpAny_fieldsOf hI rfl ?_)))) | refine wpAny_bind (wpAny_typeNameOf_itemiter ty (wpAny_pure (wpAny_bind (wpAny_fieldsOf hI rfl ?_))))
 simp only[show Builtin.Dict_items.ownsTuple "dict_itemiterator"=true by decide,if_true];show wpAny _ _ (if (Value.ref d==Value.none)=true then _ else _) _ _ _;rw[if_neg (show ¬((Value.ref d==Value.none)=true) from xI)];refine wpAny_bind (wpAny_pure (wpAny_bind (wpAny_dictEntries e1 e3 ?_)));rw[if_neg (by simp)];refine wpAny_bind (wpAny_pure (wpAny_bind (wpAny_dictEpoch e1 e3 ?_)));rw[if_neg (by simp)];refine wpAny_pure ?_;simp only[show ¬((i:Int)<0) from by lia,if_false,yM,zF hi];refine wpAny_bind ?_
 first | refine wpAny_bind (wpAny_typeNameOfWhole_itemiter ty (wpAny_pure (wpAny_bind (wpAny_isOneOf_itemiter ty ?_)))) | refine wpAny_bind (wpAny_typeNameOf_itemiter ty (wpAny_pure (wpAny_bind (wpAny_isOneOf_itemiter ty ?_))))
 show wpAny _ _ (setField (.ref it) 3 (rawInt ((i:Int)+1)) >>= _) _ _ ⟨hp,g,dr,tk,os⟩;refine wpAny_bind (wpAny_setField_rec hI (by simp) fun h1 a1 b1=>?_);have b1:Heap.SameBut it hp h1:=b1;have a1:IsItemIter h1 it d (i+1) es.size ep ok ov:=by
  have e:((i+1:Nat):Int)=(i:Int)+1:=by lia
  unfold IsItemIter;rw[e];simpa [rawInt] using a1
 have ty1:Shared.TypeIs ⟨h1,g,dr,tk,os⟩ (.ref it) "dict_itemiterator" := ⟨_,a1,rfl⟩;refine wpAny_bind (wpAny_holding (wpAny_bind (wpAny_isOneOf_itemiter ty1 (wpAny_bind (wpAny_isOneOf_itemiter ty1 ?_)))));show wpAny _ _ (Builtin.Dict_items.pairFromOwner (.ref it) 6 es[i].key es[i].val) _ _ ⟨h1,g,dr,tk,os⟩;unfold Builtin.Dict_items.pairFromOwner;refine wpAny_bind (wpAny_newTuple ?_);have a2:IsItemIter (h1.push {cls:=.type "tuple", data:=.seq #[es[i].key,es[i].val] }) it d (i+1) es.size ep ok ov:=xA _ a1;have z1:h1.objs.size=hp.objs.size:=b1.1;have hil:it<hp.objs.size:=xH hI;have t2:(h1.push {cls:=.type "tuple", data:=.seq #[es[i].key,es[i].val] }).get? hp.objs.size=some {cls:=.type "tuple", data:=.seq #[es[i].key,es[i].val] }:=by rw[← z1];exact xG _ rfl
 have z2:(h1.push {cls:=.type "tuple", data:=.seq #[es[i].key,es[i].val] }).objs.size=hp.objs.size+1:=by rw[yX,z1]
 have k2:∀b o,b≠it->hp.get? b=some o->(h1.push {cls:=.type "tuple", data:=.seq #[es[i].key,es[i].val] }).get? b=some o:=fun b o hb e=>xA _ (b1.extBut b o hb e);generalize h1.push {cls:=.type "tuple", data:=.seq #[es[i].key,es[i].val] }=h2 at a2 t2 z2 k2;show wpAny _ _ (Builtin.Dict_items.ownedTupleIsFree (.ref it) >>= _) _ _ ⟨h2,g,dr,tk,os⟩;rw[z1];refine wpAny_bind ?_;unfold Builtin.Dict_items.ownedTupleIsFree;refine wpAny_bind (wpAny_field a2 rfl (x:=.none) rfl (wpAny_pure ?_));simp only[if_true];refine wpAny_bind (wpAny_field a2 rfl (x:=ok) rfl (wpAny_bind (wpAny_field a2 rfl (x:=ov) rfl (wpAny_bind (wpAny_setField_rec a2 (by simp) fun h3 a3 b3=>?_)))));have b3:Heap.SameBut it h2 h3:=b3;have a3:IsItemIter h3 it d (i+1) es.size ep es[i].key ov:=a3;refine wpAny_bind (wpAny_setField_rec a3 (by simp) fun h4 a4 b4=>?_);have b4:Heap.SameBut it h3 h4:=b4;have a4:IsItemIter h4 it d (i+1) es.size ep es[i].key es[i].val:=a4;refine wpAny_bind (wpAny_setField_rec a4 (by simp) fun h5 a5 b5=>?_);have b5:Heap.SameBut it h4 h5:=b5;have a5:IsItemIterOut h5 it d (i+1) es.size ep es[i].key es[i].val hp.objs.size:=a5;refine wpAny_bind (wpAny_setField_rec a5 (by simp) fun h6 a6 b6=>?_);have b6:Heap.SameBut it h5 h6:=b6;have a6:IsItemIterOut h6 it d (i+1) es.size ep es[i].key es[i].val hp.objs.size:=a6;have kk:∀b o,b≠it->h2.get? b=some o->h6.get? b=some o:=fun b o hb e=>b6.extBut b o hb (b5.extBut b o hb (b4.extBut b o hb (b3.extBut b o hb e)));exact wpAny_bind (wpAny_letGo (wpAny_pure (wpAny_pure ⟨_,rfl,wpAny_pure (q h6 a6 (kk _ _ (zU hil) t2) (by show h6.objs.size=hp.objs.size+1;rw[b6.1,b5.1,b4.1,b3.1,z2]) fun b o hb e=>kk b o hb (k2 b o hb e))⟩)))
theorem Ow(hh:A.handled=none)(hI:IsItemIter s.heap it d i es.size ep ok ov)(h:VA s.heap d es ep)(hi:es.size<=i)(q:∀h',Heap.ExtBut it s.heap h'->Q none {s with heap:=h' }):wpAny (model prog w) A (pyNext (.ref it)) Q E s:=by
 obtain⟨od,e1,e2,e3⟩:=h;have ty:s.TypeIs (.ref it) "dict_itemiterator" := ⟨_,hI,rfl⟩;unfold pyNext;refine wpAny_bind (wpAny_attempt (wpAny_callSpecial?_slot (name:=Str.ofString "__next__") ty PySem.F.slot_dict_itemiterator_next (wpAny_call_entry PySem.F.slot_dict_itemiterator_next ty PySem.F.entry_dict_itemiterator_next ?_ (PySem.F.args_dict_itemiterator_next_1 _))));refine wpAny_bind (wpAny_pure (wpAny_bind (wpAny_bind ?_)))
 first | refine wpAny_bind (wpAny_typeNameOfWhole_itemiter ty (wpAny_pure (wpAny_bind (wpAny_fieldsOf hI rfl ?_)))) | refine wpAny_bind (wpAny_typeNameOf_itemiter ty (wpAny_pure (wpAny_bind (wpAny_fieldsOf hI rfl ?_))))
 simp only[show Builtin.Dict_items.ownsTuple "dict_itemiterator"=true by decide,if_true];show wpAny _ _ (if (Value.ref d==Value.none)=true then _ else _) _ _ s;rw[if_neg (show ¬((Value.ref d==Value.none)=true) from xI)];refine wpAny_bind (wpAny_pure (wpAny_bind (wpAny_dictEntries e1 e3 ?_)));rw[if_neg (by simp)];refine wpAny_bind (wpAny_pure (wpAny_bind (wpAny_dictEpoch e1 e3 ?_)));rw[if_neg (by simp)];refine wpAny_pure ?_;simp only[show ¬((i:Int)<0) from by lia,if_false,yM,Array.getElem?_eq_none hi];refine wpAny_bind ?_
 first | refine wpAny_bind (wpAny_typeNameOfWhole_itemiter ty (wpAny_pure ?_)) | refine wpAny_bind (wpAny_typeNameOf_itemiter ty (wpAny_pure ?_))
 show wpAny _ _ (setField (.ref it) 2 .none >>= _) _ _ s;refine wpAny_bind (wpAny_setField hI rfl (by simp) ?_);show wpAny _ _ (newExc (.type "StopIteration") [] >>= _) _ _ _;refine wpAny_bind ?_;simp only[newExc,newTuple];refine wpAny_bind (wpAny_newObj_type ?_ (by size_fits));refine wpAny_bind (m:=firstArgMember _ _) (wpAny_of_eq (a:=Value.none) (by first | rfl | (simp only[firstArgMember];rfl)) ?_);refine wpAny_newObj_type ?_ (by size_fits);simp only[raiseNew];refine wpAny_bind (wpAny_handled ?_);rw[show A.in1.handled=none from hh];refine wpAny_bind (wpAny_pure (wpAny_throw ?_));exact wpAny_bind (wpAny_isInstance (T:="StopIteration") (b:=true) ⟨_,xG _ rfl,rfl⟩ isSubtype_stop (wpAny_pure (q _ (((Heap.SameBut.update ..).extBut.push _).push _))))
section
variable{X:Cx}{pins:List (dN×Obj)}{U:St}{H:Hp}{s:dJ}
theorem ZE.freezeT{d:dN}{o:Obj}{kvs:List (List ZM×V)}(I:ZE X pins U H s)(e:H d=some (.dT kvs))(ho:s.heap.get? d=some o):ZE X pins U (upd H d (.frz o (.dT kvs))) s:=by
 have ne:∀b u,H b=some u->(∀ks,u ≠ .dT ks)->b≠d:=fun b u q n z=>by rw[z,e] at q;exact n _ (Option.some.inj q).symm
 exact I.write (h':=s.heap) (t':=s.toks) (x:=d) (e:=d) (o:=.frz o (.dT kvs)) (by rw[e];exact True.intro) (.inl rfl) (fun _ _ _ q=>q) ⟨o,ho⟩
  ⟨ho,(show ZL X.prog X.w H s.heap d (.dT kvs) from I.hok d _ e).stay (fun _ _ _ z=>z) (fun c z=>by rw[Zc (ne c _ z fun _ y=>nomatch y)];exact z) fun c xs z=>by rw[Zc (ne c _ z fun _ y=>nomatch y)];exact z⟩
theorem ZE.nofrzT{d:dN}{kvs:List (List ZM×V)}(I:ZE X pins U H s)(e:H d=some (.dT kvs)):∀o u,X.H₀ d≠some (.frz o u):=fun o u z=>by
 have:=I.base.frzs d o u z;rw[e] at this;cases this
theorem ZE.thawT{d:dN}{o:Obj}{kvs:List (List ZM×V)}(I:ZE X pins U H s)(e:H d=some (.frz o (.dT kvs)))(nf:∀o u,X.H₀ d≠some (.frz o u)):ZE X pins U (upd H d (.dT kvs)) s:=by
 have hne:∀b u,H b=some u->(∀x,u ≠ .frz o x)->b≠d:=fun b u q n z=>by rw[z,e] at q;exact n _ (Option.some.inj q).symm
 have hnn:∀b,H b=none->b≠d:=fun b q z=>by rw[z,e] at q;cases q
 refine⟨I.ok,I.os,I.bare,⟨I.base.keep,I.base.slot,fun b ob q n hx=>?_,I.base.there,fun b xs q=>?_,fun b ob u q=>?_,fun b ps q=>?_⟩,I.loc,I.cell,?_,fun x c q=>?_,fun p hp=>?_,fun b u q=>?_,I.len⟩
 ·have:=I.base.free b ob q n hx;rw[Zc (hnn b this)];exact this
 ·have:=I.base.tups b xs q;rw[Zc (hne b _ this fun _ z=>nomatch z)];exact this
 ·have:=I.base.frzs b ob u q;rw[Zc (fun z=>nf ob u (by rw[← z];exact q))];exact this
 ·obtain⟨m,hm⟩:=I.base.tbls b ps q;exact⟨m,by rw[Zc (hne b _ hm fun _ z=>nomatch z)];exact hm⟩
 ·rw[Zc (hnn _ I.free)];exact I.free
 ·rw[Zc (hnn _ (I.freeC x c q))];exact I.freeC x c q
 ·obtain⟨p1,p2,p3,p4,p5⟩:=I.pin p hp;exact⟨p1,by rw[Zc (hnn _ p2)];exact p2,p3,p4,p5⟩
 ·have st:∀{u:HO},ZL X.prog X.w H s.heap b u->ZL X.prog X.w (upd H d (.dT kvs)) s.heap b u:=fun k=>k.stay (fun _ _ _ z=>z) (fun c z=>by rw[Zc (hne c _ z fun _ y=>nomatch y)];exact z) fun c xs z=>by rw[Zc (hne c _ z fun _ y=>nomatch y)];exact z
  by_cases hb:b=d
  ·subst hb;rw[Zg] at q;cases q;exact st (show ZL X.prog X.w H s.heap b (.frz o (.dT kvs)) from I.hok b _ e).2
  ·rw[Zc hb] at q;exact st (I.hok b u q)
end
section
variable{te:TE}
inductive Aa(te:TE)(U:St)(H:Hp)(Q:VK):Prop
 |mk(d kvs)(_:H d=some (.dT kvs))(_:∀o,te U (upd H d (.frz o (.dT kvs))) fun v H'=>H' d=some (.frz o (.dT kvs))/\Q v (upd H' d (.dT kvs)))
theorem Xq(h:QE X e te):QE X e (Aa te):=⟨by
 intro pins s U H Q I q;obtain⟨d,kvs,ed,q⟩:=q;obtain⟨z,y,vs,r,o,es,ep,ho,c⟩:=(show ZL X.prog X.w H s.heap d (.dT kvs) from I.hok d _ ed);have nf:=I.nofrzT ed
 exact thn (h.h pins s U _ _ (I.freezeT ed ho) (q o)) fun u s1 ⟨x,H1,I1,r1,e1,q1⟩=>⟨x,_,I1.thawT e1 nf,r1,q1⟩⟩
end
def Es(d:dN)(o:Obj)(kvs:List (List ZM×V)):It :=
 ⟨fun i H=>H d=some (.frz o (.dT kvs))/\i<kvs.length,fun i H v H'=>∃p a x,kvs[i]?=some x/\H a=some (.tup (x.1.map kV))/\v=.ref p/\H p=none/\H'=upd H p (.tup [.ref a,x.2]),fun i H=>H d=some (.frz o (.dT kvs))/\kvs.length<=i⟩
theorem KT.at{H:Hp}:∀{kvs:List (List ZM×V)}{xs:List (List ZM×dN×dM)},Paired (fun(p:List ZM×V) (q:List ZM×dN×dM)=>p.1=q.1/\H q.2.1=some (.tup (p.1.map kV))/\ZF p.2 q.2.2) kvs xs->∀{i:Nat}{x:List ZM×V}{y:List ZM×dN×dM},kvs[i]?=some x->xs[i]?=some y->H y.2.1=some (.tup (x.1.map kV))/\ZF x.2 y.2.2:=by
 intro kvs xs h
 induction h with
 | nil=>intro i x y h1;simp at h1
 | @cons a b as bs r t ih =>
  intro i x y h1 h2;cases i with
  | zero=>cases h1;cases h2;exact r.2
  | succ i=>exact ih h1 h2
theorem Xa{P:dO}{w:dP}{K:uFg}{elts:List Expr}{ek:Nat}{epos:Pos}(it d:dN)(o:Obj)(kvs:List (List ZM×V))(es:Array DictEntry)(ep:Nat)(hne:d≠it)(hsz:es.size=kvs.length)(hD:o.ExactDict/\o.data=.dict es ep) :
  WZ P w K (.Tuple elts ek epos) (Es d o kvs) [it] it (fun i h=>∃ok ov,IsItemIter h it d i es.size ep ok ov) where
 mem:=by simp
 obj:=fun i h st b hb=>by grind
 keep:=fun i h h' st k=>by
  obtain⟨ok,ov,st⟩:=st;exact⟨ok,ov,k it (by simp) _ st⟩
 item:=by
  intro X hP hw hK hc i pins s U H E I hf st hg;subst hP hw hK;obtain⟨ok,ov,st⟩:=st;obtain⟨f0,f1,f2,f3,f4,f5⟩:=hf it (by simp);obtain⟨ed,hi⟩:=hg;obtain⟨hod,z,lo,xs,rel,o',es',ep',ho',c1,c2,c3,c4⟩:=(show ZL X.prog X.w H s.heap d (.frz o (.dT kvs)) from I.hok d _ ed);rw[hod] at ho';cases ho';rw[hD.2] at c2;cases c2;have hi':i<es.size:=by lia
  obtain⟨x,hx⟩:∃x,kvs[i]?=some x:=⟨_,xC hi⟩;obtain⟨y,hy⟩:∃y,xs[i]?=some y:=⟨_,xC (by rw[← rel.length];exact hi)⟩;have ee:es[i]'hi'=entryOfKey (tupleKind (Yx X.prog X.w)) y:=by
   have:es.toList[i]?=some (entryOfKey (tupleKind (Yx X.prog X.w)) y):=by rw[c3,xJ,hy];rfl
   rw[zT,zF hi'] at this;exact Option.some.inj this
  obtain⟨ha,rv⟩:=KT.at rel hx hy;refine Qp st ⟨o,hod,hD⟩ hi' fun h' ho hT hsz' kp=>?_;rw[ee] at ho hT;refine⟨_,rfl,?_⟩;have hp:H s.heap.objs.size=none:=I.hok.fresh (xD _);have ltp:∀c o,s.heap.get? c=some o->c≠s.heap.objs.size:=fun c o e=>xY (xH e);have kp':∀c o,c ∉ [it]->s.heap.get? c=some o->h'.get? c=some o:=fun c o hc e=>kp c o (fun q=>hc (by simp[q])) e;have ntr:∀c u,H c=some u->c ∉ [it]:=fun c u e hc=>by
   have:=(hf c hc).1;rw[this] at e;cases e
  have I1:ZE X pins U (upd H s.heap.objs.size (.tup [.ref y.2.1,x.2])) {s with heap:=h' }:=by
   refine I.step (g':=s.gens) (d':=s.drawn) (t':=s.toks) (ch:=[it]) (fun c hc=>?_) (fun c o _ _ hc e _=>kp' c o hc e) (fun c o _ _ hc e _=>⟨o.slots,kp' c o hc e⟩) (fun c o hc e n=>by rw[Zc (ltp c o e)];exact n)
    (fun c o hc e=>⟨o,kp' c o hc e⟩) (fun c us e=>by rw[Zc (Zi e hp)];exact e) (fun c o u e=>by rw[Zc (Zi e hp)];exact e) (fun c ps e=>⟨#[],by rw[Zc (Zi e hp),e];simp⟩) (fun m hm=>?_) ?_ I.bare
   ·obtain⟨f0,f1,f2,f3,f4,f5⟩:=hf c hc;exact⟨f3,f1,f4,f5⟩
   ·refine hm.at fun o e=>kp' _ o (fun hc=>?_) e;exact(hf _ hc).2.1 rfl
   ·intro c u e
    by_cases hcp:c=s.heap.objs.size
    ·subst hcp;rw[Zg] at e;cases e;exact⟨aB rfl,[.ref y.2.1,y.2.2],.cons rfl (.cons rv .nil),⟨_,hT,rfl,_,rfl⟩⟩
    ·rw[Zc hcp] at e;refine(I.hok c u e).stay (fun d v hd q=>kp' d v ?_ q) (fun d q=>by rw[Zc (Zi q hp)];exact q) fun d us q=>by rw[Zc (Zi q hp)];exact q
     rcases hd with rfl | hd
     ·exact ntr _ u e
     ·exact ntr _ _ hd
  refine wpAny_letOwnedTupleGo_items (s:={s with heap:=h' }) ho fun h2 z2 e2=>?_;have nz:it≠s.heap.objs.size:=ltp it _ st;have I2:ZE X pins U (upd H s.heap.objs.size (.tup [.ref y.2.1,x.2])) {s with heap:=h2 }:=I1.turned (s:={s with heap:=h' }) (it:=it) (t':=s.toks) (fun c o hc e=>(e2.2 c hc).trans e) (by rw[Zc nz];exact f0) f1 f3 f4 f5;refine⟨.ref s.heap.objs.size,_,I2,rfl,⟨s.heap.objs.size,y.2.1,x,hx,ha,rfl,hp,rfl⟩,⟨_,_,z2⟩,fun c hc=>?_⟩;obtain rfl:c=it:=by simpa using hc
  rw[Zc nz];exact f0
 done:=by
  intro X hP hw hK hc i pins s U H E I hf st hg;subst hP hw hK;obtain⟨ok,ov,st⟩:=st;obtain⟨f0,f1,f2,f3,f4,f5⟩:=hf it (by simp);obtain⟨ed,hi⟩:=hg;obtain⟨hod,_⟩:=(show ZL X.prog X.w H s.heap d (.frz o (.dT kvs)) from I.hok d _ ed);exact Ow (I.ok.hd hc) st ⟨o,hod,hD⟩ (by lia) fun h' eb=>⟨rfl,I.turned (t':=s.toks) (fun b ob hb e=>eb b ob hb e) f0 f1 f3 f4 f5⟩
 self:=fun _ _ _ _ _ st h=>by
  obtain⟨ok,ov,st⟩:=st;exact PySem.W.kcp_self st h
section
variable{te:TE}
inductive Ja(R:It->Hp->Prop)(x:V)(H1:Hp):Prop
 |mk(d ob kvs)(_:x=.ref d)(_:H1 d=some (.frz ob (.dT kvs)))(_:R (Es d ob kvs) H1)
def NU(te:TE):TI:=fun U H R=>te U H fun x H1=>Ja R x H1
theorem NC{elts:List Expr}{ek:Nat}{epos apos cpos:Pos}(hl:QE X o te)(hbase:attributeBase o "items" X.env (eval o X.env)=eval o X.env:=by rfl)(hline:(apos.endLine==cpos.line)=true:=by rfl) :
  QI X (.Tuple elts ek epos) (.Call (.Attribute o "items" apos) [] [] cpos) (NU te):=⟨by
 intro pins s U H R I h;refine wpAny_Call_method0_late hbase hline (thn (hl.h pins s U H _ I h) fun u s1 ⟨x,H1,I1,r1,d,ob,kvs,ex,ed,q⟩=>?_);subst ex;obtain rfl:u=Value.ref d:=r1;obtain⟨hod,z,lo,xs,rel,o',es,ep,ho',c1,c2,c3,c4⟩:=(show ZL X.prog X.w H1 s1.heap d (.frz ob (.dT kvs)) from I1.hok d _ ed);rw[hod] at ho';cases ho';have hE:VA s1.heap d es ep:=⟨ob,hod,c1,c2⟩;have hsz:es.size=kvs.length:=by rw[← yP,c3,xB,rel.length]
 refine⟨"dict","dict.items", PySem.F.plainAttrs_dict,PySem.F.slot_dict_items,PySem.F.type_dict_items,hE.ty,fun b hb=>?_,Calls.callWith_builtin rfl (PySem.evalArgs_none ?_)⟩
 ·cases hb;exact⟨ob,hod,c1.2.1⟩
 refine call_meetsIn PySem.F.slot_dict_items hE.ty PySem.F.entry_dict_items (PySem.F.args_dict_items_1 _) (Pj d lo) ⟨hE.ty,?_⟩;have I2:ZE X pins U H1 {s1 with heap:=s1.heap.push {cls:=.type "dict_items", data:=.fields #[.ref d] } }:=I1.kept (t':=s1.toks) fun b ob e=>xA _ e;have lt2:d<(s1.heap.push {cls:=.type "dict_items", data:=.fields #[.ref d] }).objs.size:=xH (xA _ hod);refine cY (es:=es) (ep:=ep) (v:=s1.heap.objs.size) ⟨_,xG _ rfl,rfl,rfl⟩ ⟨ob,xA _ hod,c1,c2⟩ ?_;refine⟨_,[_],_,_,H1,rfl,I2.kept (t':=s1.toks) fun b ob e=>xA _ e,Xa _ d ob kvs es ep (xY lt2) hsz ⟨c1,c2⟩,⟨.none,.none,xG _ rfl⟩,fun b hb=>?_,q⟩;obtain rfl:=xQ.mp hb
 exact I2.fpOk (xD _) (I2.hok.fresh (xD _))⟩
end
theorem LB(Pv:Nat->List V->Hp->Prop)(h0:Pv 0 [] H)(hn:kvs.length<=1000000)(hl:∀i ys H,i<=kvs.length->Pv i ys H->H d=some (.frz o (.dT kvs)))(hlen:∀i ys H,Pv i ys H->ys.length<=i)(step:∀i x a p ys H,kvs[i]?=some x->H a=some (.tup (x.1.map kV))->Pv i ys H->H p=none->Wh nl fv g tt te (.ref p) (upd H p (.tup [.ref a,x.2])) (fun y H'=>Pv (i+1) (ys ++ [y]) H') fun H'=>Pv (i+1) ys H')(hd:∀ys H,Pv kvs.length ys H->∀l,H l=none->Q (.ref l) (upd H l (.lst ys))) :
  Vk (Es d o kvs) nl fv g tt te Q H:=by
 have mono:∀{x:V}{H:Hp}{Y Y':V->Hp->Prop}{N N':Hp->Prop},Wh nl fv g tt te x H Y N->Y=Y'->N=N'->Wh nl fv g tt te x H Y' N':=fun h e1 e2=>by subst e1;subst e2;exact h
 refine⟨fun i m ys H=>m=kvs.length - i/\i<=kvs.length/\Pv i ys H,⟨kvs.length,by simp,xZ _,h0⟩,?_⟩;rintro i m ys H ⟨rfl,hi,p⟩;have hl':=hlen i ys H p;have hz:(1000000:Nat)<sizeLine:=by decide
 by_cases hlt:i<kvs.length
 ·refine .inr ⟨⟨hl i ys H hi p,hlt⟩,by lia,kvs.length - (i+1),by lia,fun x H' y=>?_⟩;obtain⟨q,a,x',hx,ha,rfl,hq,rfl⟩:=y;refine mono (step i x' a q ys H hx ha p hq) ?_ ?_
  ·funext y H4;apply propext;exact⟨fun q=>⟨rfl,hlt,q⟩,fun q=>q.2.2⟩
  ·funext H3;apply propext;exact⟨fun q=>⟨rfl,hlt,q⟩,fun q=>q.2.2⟩
 ·have e:i=kvs.length:=by lia
  subst e;exact .inl ⟨⟨hl _ ys H (xD _) p,xD _⟩,by lia,hd ys H p⟩
end L2
namespace PySem.F
theorem sub_rgi_reversed:isSubtype (.type "range_iterator") (.type "reversed")=pure false:=by rw[isSubtype_type];kernel_rfl
end PySem.F
namespace L2
open PySem PySem.Spec PyProof.Rows PySem.W
theorem L5:bootBuiltins "reversed"=some (.type "reversed"):=aA
def rgi(a n c:Int):Obj:={cls:=.type "range_iterator", data:=.fields #[rawInt a,rawInt n,rawInt c] }
theorem RU(hr:IsRange s.heap r a b 1 t u v)(h1 : -(2^62)<=a)(h2:a<2^62)(h3 : -(2^62)<=b)(h4:b<2^62)(h:Q (.ref s.heap.objs.size) {s with heap:=s.heap.push (rgi (a+(Builtin.Range.rangeSize a b 1 - 1) * 1) (Builtin.Range.rangeSize a b 1) (-1)) }):wpAny (model prog w) A (call (.builtin "range.__reversed__") [.ref r]) Q E s:=by
 have hT:s.TypeIs (.ref r) "range" := ⟨_,hr,rfl⟩;refine wpAny_call_entry PySem.F.slot_range_reversed hT PySem.F.entry_range_reversed ?_ (PySem.F.args_range_reversed_1 _);unfold Builtin.«range.__reversed__»;refine wpAny_bind (wpAny_of_eq (a:=Value.ref r) rfl ?_);unfold Builtin.Range.rangeFields;refine wpAny_bind (wpAny_bind (wpAny_field hr rfl (x:=.int a t) rfl (wpAny_bind (wpAny_of_eq (a:=some a) rfl (wpAny_bind (wpAny_field hr rfl (x:=.int b u) rfl (wpAny_bind (wpAny_of_eq (a:=some b) rfl (wpAny_bind (wpAny_field hr rfl (x:=.int 1 v) rfl (wpAny_bind (wpAny_of_eq (a:=some 1) rfl (wpAny_pure ?_)))))))))))));dsimp only;have e:(Builtin.Range.rangeFitsLong a&&Builtin.Range.rangeFitsLong b&&Builtin.Range.rangeFitsLong 1&&Builtin.Range.rangeFitsLong (-1)&&Builtin.Range.rangeFitsLong (a - 1)&&Builtin.Range.rangeFitsLong (Builtin.Range.rangeSize a b 1))=true:=by
  rw[rangeSize_one];simp only[Builtin.Range.rangeFitsLong,wA,decide_eq_true_eq];split<;>lia
 rw[e];simp only[Bool.not_true,zK,if_false,if_true];exact wpAny_bind (wpAny_newObj_type (wpAny_pure ⟨_,rfl,h⟩))
theorem Rw(hr:IsRange s.heap r a b 1 t u v)(h1 : -(2^62)<=a)(h2:a<2^62)(h3 : -(2^62)<=b)(h4:b<2^62)(h:Q₁ (.ref s.heap.objs.size) {s with heap:=s.heap.push (rgi (a+(Builtin.Range.rangeSize a b 1 - 1) * 1) (Builtin.Range.rangeSize a b 1) (-1)) }) :
  codeAny (model prog w) A (.call (.builtin "reversed.__new__") ⟨[.type "reversed", .ref r],[]⟩) (wants Q₁ E) s:=by
 have hT:s.TypeIs (.ref r) "range" := ⟨_,hr,rfl⟩;refine codeAny_of_tree ?_;show wpAny _ A.in1 (do checkBuiltinCall "reversed.__new__" ⟨[.type "reversed", .ref r],[]⟩;again (.builtin "reversed.__new__" ⟨[.type "reversed", .ref r],[]⟩)) _ _ s;refine wpAny_bind (wpAny_of_eq (PySem.F.newCall_reversed_1 _) (wpAny_pure ⟨plainId_quiet PySem.F.plain_reversed_new _,codeAny_builtin PySem.F.entry_reversed_new ?_⟩));rw[Around.under_plainId PySem.F.plain_reversed_new _];unfold Builtin.«reversed.__new__»;refine wpAny_bind (wpAny_of_eq (newClass_reversed _) ?_)
 try dsimp only
 refine wpAny_bind (wpAny_of_eq (a:=()) (by first | rfl | kernel_rfl) ?_);refine wpAny_bind (wpAny_of_eq (a:=()) (by first | rfl | kernel_rfl) ?_)
 try dsimp only
 refine wpAny_bind (wpAny_specialOf hT PySem.F.slot_range_reversed.lookup ?_)
 try dsimp only
 refine wpAny_bind (wpAny_of_eq (PySem.F.slot_range_reversed.bind _) ?_)
 try dsimp only
 have hb:¬((Value.builtin "range.__reversed__"==Value.none)=true):=xI
 first
 | rw[if_neg hb]
 | (show wpAny _ _ (if (Value.builtin "range.__reversed__"==Value.none)=true then _ else _) _ _ _;rw[if_neg hb])
 refine wpAny_bind (wpAny_rule ?_);refine wpAny_bind (m:=runValue (.call (.builtin "range.__reversed__") ⟨[.ref r],[]⟩)) (show wpAny _ _ (call (.builtin "range.__reversed__") [.ref r]) _ _ _ from RU hr h1 h2 h3 h4 ?_)
 first
 | exact wpAny_pure h
 | exact wpAny_bind (wpAny_pure (wpAny_pure h))
theorem Qr(hr:IsRange s.heap r a b 1 t u v)(h1 : -(2^62)<=a)(h2:a<2^62)(h3 : -(2^62)<=b)(h4:b<2^62)(h:Q (.ref s.heap.objs.size) {s with heap:=s.heap.push (rgi (a+(Builtin.Range.rangeSize a b 1 - 1) * 1) (Builtin.Range.rangeSize a b 1) (-1)) }):wpAny (model prog w) A (call (.type "reversed") [.ref r]) Q E s:=by
 refine callType_other (U:="range_iterator") (Q₁:=fun obj s₁=>obj=.ref s.heap.objs.size/\s₁={s with heap:=s.heap.push (rgi (a+(Builtin.Range.rangeSize a b 1 - 1) * 1) (Builtin.Range.rangeSize a b 1) (-1)) }) aA PySem.F.create_reversed ⟨_,_,PySem.F.mro_reversed⟩ PySem.F.made_reversed PySem.F.sub_rgi_reversed (PySem.F.typeCall_reversed_1 _) (Rw hr h1 h2 h3 h4 ⟨rfl,rfl⟩) ?_;rintro obj s₁ ⟨rfl,rfl⟩;exact⟨⟨_,xG _ rfl,rfl⟩,h⟩
section
variable{X:Cx}{tg:Expr}
end
section
variable{X:Cx}{tg:Expr}
end
theorem P0:typeLookup (.type "range_iterator") "__len__"=pure none:=by rw[typeLookup_type,builtinLookup_eq_fast];kernel_rfl
theorem Ms:typeLookup (.type "range_iterator") "__length_hint__"=pure (some (.builtin "range_iterator.__length_hint__")):=by rw[typeLookup_type,builtinLookup_eq_fast];kernel_rfl
theorem Om{r:dN}{Q:Bool->dJ->Prop}{x sp:Int}{n:Nat}(hT:IsRangeIter s.heap r x n sp)(hn:n<=sizeLine)(h:∀tk,Q false {s with toks:=tk }):wpAny (model prog w) A (Builtin.List.listLengthHint (.ref r)) Q E s:=by
 unfold Builtin.List.listLengthHint;refine wpAny_bind (wpAny_specialOf ⟨_,hT,rfl⟩ P0 ?_)
 try dsimp only
 refine wpAny_ite_split (fun hab=>absurd hab aA) (fun _=>?_);refine wpAny_ite_split (fun hab=>absurd hab aA) (fun _=>?_);refine wpAny_bind (wpAny_specialOf ⟨_,hT,rfl⟩ Ms ?_);generalize hid:("range_iterator.__length_hint__":String)=id0
 wp_delta
 rw[show splitId id0=some ("range_iterator","__length_hint__") from by subst hid;decide +kernel];subst hid;refine wpAny_bind (wpAny_isInstance (T:="range_iterator") (b:=true) ⟨_,hT,rfl⟩ (by rw[isSubtype_type];kernel_rfl) ?_);refine wpAny_ite_split (fun hab=>absurd hab aA) (fun _=>?_);refine wpAny_ite_split (fun _=>?_) (fun hab=>absurd aA hab);refine wpAny_ite_split (fun _=>?_) (fun hab=>absurd aA hab);refine wpAny_bind (wpAny_call_entry PySem.F.slot_range_iterator_length_hint ⟨_,hT,rfl⟩ PySem.F.entry_range_iterator_length_hint ?_ (PySem.F.args_range_iterator_length_hint_1 _));unfold Builtin.«range_iterator.__length_hint__»;refine wpAny_bind (wpAny_of_eq (a:=Value.ref r) rfl ?_);refine wpAny_bind (wpAny_field hT rfl (x:=.int n 0) rfl ?_);dsimp only;unfold retInt;refine wpAny_bind (wpAny_mkInt ?_);refine wpAny_pure ⟨_,rfl,?_⟩;refine wpAny_bind (wpAny_of_eq (a:=some (n:Int)) rfl ?_);dsimp only;have hz:Builtin.List.listTooLong (Int.toNat n)=false:=by unfold Builtin.List.listTooLong;exact xT (by lia)
 rw[hz];exact wpAny_pure (h _)
theorem XZ{r:dN}{x sp:Int}{n:Nat}{Q:dD}(hh:A.handled=none)(hr:IsRangeIter s.heap r x n sp)(hn:n<=sizeLine)(hQ:∀h' tk acc c,(∀b o,b≠r->s.heap.get? b=some o->h'.get? b=some o)->h'.get? s.heap.objs.size=some {cls:=.type "list", dict:=none,data:=.seq acc c,slots:=#[] }-> ItemsOf (fun i v=>∃t,v=.int (x+(i:Int) * sp) t) acc n->Q (.ref s.heap.objs.size) {s with heap:=h',toks:=tk }) :
  wpAny (model prog w) A (call (.type "list") [.ref r]) Q E s:=by
 refine callType_codes (Q₁:=fun obj s₁=>obj=.ref s.heap.objs.size/\s₁={s with heap:=s.heap.push {cls:=.type "list", data:=.seq #[] } }) PySem.F.called_list (PySem.F.typeCall_list_1 _) PySem.F.entry_list_init
  (code_list_new _ ⟨rfl,rfl⟩) fun obj s₁ h₁=>?_
 obtain⟨rfl,rfl⟩:=h₁;have hS0:(s.heap.push {cls:=.type "list", data:=.seq #[] }).get? s.heap.objs.size=some {cls:=.type "list", data:=.seq #[] }:=xG _ rfl;have hlr:r<s.heap.objs.size:=xH hr;have kp0:∀b o,s.heap.get? b=some o->(s.heap.push {cls:=.type "list", data:=.seq #[] }).get? b=some o:=fun b o e=>xA _ e;have lt0:∀b o,s.heap.get? b=some o->b≠s.heap.objs.size:=fun b o e=>xY (xH e);refine⟨⟨_,hS0,rfl⟩,PySem.F.args_list_init_2 _ _,?_⟩;have fin:=hQ;generalize hSz:s.heap.objs.size=S at hS0 fin lt0 hlr ⊢;have hSr:S≠r:=zU hlr;show wpAny _ _ (do let old ← Builtin.List.listItems (.ref S);Builtin.List.listUpdate (.ref S) (fun _=>#[]);letGo old.toList.reverse;Builtin.List.listExtendWith (.ref S) (.ref r) .none) _ _ _;have hr1:=kp0 _ _ hr;generalize (s.heap.push {cls:=.type "list", data:=.seq #[] })=h1 at hS0 kp0 hr1 ⊢;refine wpAny_bind ?_;unfold Builtin.List.listItems;refine wpAny_bind (wpAny_seqItems hS0 rfl (wpAny_pure ?_));show wpAny _ _ (updateSeq S (fun _=>#[]) >>= fun _=>letGo (#[]:Array dM).toList.reverse >>= fun _=>Builtin.List.listExtendWith (.ref S) (.ref r) .none) _ _ _;refine wpAny_bind (wpAny_updateSeq hS0 rfl ?_);have hS₂:=zH (Obj.mapSeq (fun _=>(#[]:Array dM))) hS0 rfl;have oth:∀b o,b≠S->h1.get? b=some o->(h1.update S (Obj.mapSeq (fun _=>(#[]:Array dM)))).get? b=some o :=
  fun b o hb e=>(wB _ _ (Ne.symm hb)).trans e
 have hr2:=oth _ _ hSr.symm hr1;generalize (h1.update S (Obj.mapSeq (fun _=>(#[]:Array dM))))=h2 at hS₂ oth hr2 ⊢;refine wpAny_bind (wpAny_letGo ?_);have W:=Walks.range (prog:=prog) (w:=w) (A:=A.in1.in1) hh r x sp n;have hSf:S ∉ [r]:=by simp only[xF,yE,or_false];exact hSr
 have key:∀(h:Heap)(c₁ tk:Nat),IsRangeIter h r x n sp->(∀b o,b≠S->h2.get? b=some o->h.get? b=some o)->
   h.get? S=some {cls:=.type "list", data:=.seq #[] c₁ }->codeAny (model prog w) A.in1 (.builtin "list.extend.loop" ⟨[.ref S,.ref r,.none],[]⟩) (wants (fun r s₂=>r=.none/\Q (.ref S) s₂) E) {s with heap:=h,toks:=tk }:=by
  intro h c₁ tk hst hk hS₁;refine codeAny_extend_loopS W.toS hn S hSf .none n 0 _ #[] c₁ rfl (xZ _) (by show IsRangeIter h r (x+((0:Nat):Int) * sp) ((n:Int) - ((0:Nat):Int)) sp;rw[show x+((0:Nat):Int) * sp=x by lia,show (n:Int) - ((0:Nat):Int)=n by lia];exact hst) hS₁ (ItemsOf.nil _) fun s' acc' c' hm hS' hacc=>?_;rw[Moved.eq_with hm];refine⟨rfl,fin s'.heap s'.toks acc' c' (fun b o hb e=>?_) hS' hacc⟩;have hbS:=lt0 b o e;refine hm.heap b o (fun hmem=>?_) (hk b o hbS (oth b o hbS (kp0 b o e)));rcases xF.mp hmem with e' | hmem
  ·exact hbS e'
  ·exact hb (xQ.mp hmem)
 unfold Builtin.List.listExtendWith;refine wpAny_bind (wpAny_typeOf (T:="range_iterator") ⟨_,hr2,rfl⟩ ?_);have hx:Builtin.List.listSameRef (.ref S) (.ref r)=false:=by simp[Builtin.List.listSameRef,hSr]
 simp only[hx,show (Value.type "range_iterator"==Value.type "list")=false by decide,show (Value.type "range_iterator"==Value.type "tuple")=false by decide,Bool.or_false,zK,if_false];refine wpAny_bind (wpAny_pyIter_rangeiter hr2 ?_);refine wpAny_bind (wpAny_holding (Om hr2 hn fun tk1=>?_));refine wpAny_ite_split (fun _=>?_) (fun _=>wpAny_pure ⟨plainId_quiet PySem.F.plain_extend_loop _,key _ _ _ hr2 (fun b o _ e=>e) hS₂⟩);refine wpAny_bind (wpAny_rule ?_);refine wpAny_bind ?_;show wpAny _ _ (updateSeq S (·.push .none) >>= fun _=>updateSeq S (·.pop)) _ _ _;refine wpAny_bind (wpAny_updateSeq hS₂ rfl ?_);have hS₃:=zH (Obj.mapSeq (·.push Value.none)) hS₂ rfl;refine wpAny_updateSeq (hz:=by seq_fits) hS₃ rfl ?_;have hS₄:=zH (Obj.mapSeq (·.pop)) hS₃ rfl;have o2:∀b o,b≠S->h2.get? b=some o->((h2.update S (Obj.mapSeq (·.push Value.none))).update S (Obj.mapSeq (·.pop))).get? b=some o:=fun b o hb e =>
  (wB _ _ (Ne.symm hb)).trans ((wB _ _ (Ne.symm hb)).trans e)
 exact wpAny_pure ⟨plainId_quiet PySem.F.plain_extend_loop _,key _ _ _ (o2 _ _ hSr.symm hr2) o2 hS₄⟩
theorem Lm:∀n acc,acc.length=n->(∀(j:Nat) v,acc[j]?=some v->∃t,v=.int ((n:Int) - 1 - j) t)->ZH ((List.range n).reverse.map fun i:Nat=>V.int (i:Int)) acc
 | 0,[],_,_=>.nil
 | n+1,v::acc,hl,h=>by
  obtain⟨t,rfl⟩:=h 0 v rfl;rw[wP,List.reverse_append,List.reverse_singleton,List.singleton_append,yF];refine .cons ⟨t,by congr 1;lia⟩ (Lm n acc (by simpa using hl) fun j v e=>?_);obtain⟨t,ht⟩:=h (j+1) v e;exact⟨t,by rw[ht];congr 1;lia⟩
inductive Bt(Q:VK)(vs:aG)(H1:Hp):Prop
 |mk(n:Nat)(_:vs=[.int n])(_:n<1000000)(_:∀l,H1 l=none->Q (.ref l) (upd H1 l (.lst ((List.range n).reverse.map fun i:Nat=>V.int (i:Int)))))
def Oc(ta:TA):TE:=fun U H Q=>ta U H fun vs H1=>Bt Q vs H1
theorem cS{a:Expr}{ta:TA}{p q q' pos pos' pos'':Pos}(hc:X.calm=true)(hgl:Nm X.env.scope "list" .globalImplicit)(hml:X.mg "list"=none)(hgr:Gl X "reversed")(hmr:X.mg "reversed"=none)(hg:Gl X "range")(hm:X.mg "range"=none)(ha:QA X [a] ta)(hs:starEach [a] X.env=[(false,eval a X.env)]:=by rfl)(hs2:starEach [.Call (.Name "range" p) [a] [] pos] X.env=[(false,eval (.Call (.Name "range" p) [a] [] pos) X.env)]:=by rfl)(hs3:starEach [.Call (.Name "reversed" q) [.Call (.Name "range" p) [a] [] pos] [] pos'] X.env=[(false,eval (.Call (.Name "reversed" q) [.Call (.Name "range" p) [a] [] pos] [] pos') X.env)]:=by rfl) :
  QE X (.Call (.Name "list" q') [.Call (.Name "reversed" q) [.Call (.Name "range" p) [a] [] pos] [] pos'] [] pos'') (Oc ta):=⟨by
 have ha:=ha.h;intro pins s U H Q I h;refine wpAny_Call_Name_kw (Vi I hgl.1 hml boot_list ?_ hgl.2.2.2 hgl.2.1);refine PyProof.Rows.callWith_type1 ?_ hs3 rfl;rw[hs3];refine Calls.spliced_cons ?_;refine Call_ (Vi I hgr hmr L5 (PyProof.Rows.callWith_type1 ?_ hs2 rfl));rw[hs2];refine Calls.spliced_cons ?_;refine Call_ (Vi I hg hm boot_range (PyProof.Rows.callWith_type1 (thn (ha pos pins s U H _ I h) fun us s1 ⟨vs,H1,I1,r1,n,e,hn,q⟩=>?_) hs rfl));subst e;cases r1 with
 | cons r rr =>
  cases rr;obtain⟨t,rfl⟩:=r;refine call_range_1 (Calls.spliced_nil ?_);refine Qr (IsRange.new ..) (by lia) (by lia) (by lia) (by lia) ?_;refine Calls.spliced_nil ?_;have en:Builtin.Range.rangeSize 0 (n:Int) 1=(n:Int):=by rw[rangeSize_one];split<;>lia
  have I2:ZE X pins U H1 {s1 with heap:=s1.heap.push {cls:=.type "range", data:=.fields #[.int 0 s1.toks,.int n t,.int 1 (s1.toks+1)] },toks:=s1.toks+1+1 }:=I1.kept fun b o e=>xA _ e;rw[en];refine XZ (x:=0+((n:Int) - 1) * 1) (sp:=-1) (n:=n) (I2.ok.hd hc) (xG _ rfl) (xW (yN hn) aA) fun h' tk acc c' hk hS hacc=>?_;refine⟨.ref _,_,I2.laid (t':=tk) (o:=.lst ((List.range n).reverse.map fun i:Nat=>V.int (i:Int))) (fun b u e=>hk b u (xY (xH e)) (xA _ e)) (by show _<=(Array.push _ _).size;rw[Array.size_push];exact wS _) ⟨?_,acc.toList,c',?_,by rw[Array.toArray_toList];exact hS⟩,rfl,q _ (I2.hok.fresh (by show _<=(Array.push _ _).size;rw[Array.size_push];exact wS _))⟩
  ·rw[xB,zD,zO];exact xW (yN hn) aA
  ·exact Lm n acc.toList (by rw[yP];exact hacc.1) fun j v e=>by
    obtain⟨t,ht⟩:=hacc.2 j v (by rw[← zT];exact e)
    exact⟨t,by rw[ht];congr 1;lia⟩⟩
end L2
namespace Law
open PySem L2
local macro_rules | `(tactic| walk_at "hp")=>`(tactic| first | exact Zg | assumption | (rw[Zc (by first | assumption | (apply Ne.symm;assumption))];walk_at "hp"))
local macro_rules | `(tactic| walk_at "sq")=>`(tactic| first | assumption | exact ZG.of (by walk_at "hp"))
local macro_rules | `(tactic| walk_at "dc")=>`(tactic| first | decide | assumption | lia)
local macro_rules | `(tactic| walk_at "rd1")=>`(tactic| first | refine Z6 ?_ | refine Zp ?_ | refine Z7 (fun _=>?_) (fun _=>?_) | refine Wc (fun _=>?_) (fun _=>?_) | refine iteB (fun _=>?_) (fun _=>?_) | refine⟨_,rfl,?_⟩ | refine⟨_,_,rfl,rfl,?_⟩ | refine⟨_,_,rfl,rfl,(.inr ⟨by decide,by decide⟩:Jx _ _),?_⟩ | refine⟨_,_,rfl,rfl,(⟨by walk_at "dc", by walk_at "dc"⟩:Hu _ _),?_⟩ | refine⟨_,_,rfl,rfl,(⟨by decide,by decide,by decide⟩:Ly _ _),?_⟩ | refine⟨_,_,rfl,rfl,(show (0:Int)<_ by walk_at "dc"),?_⟩ | refine⟨_,_,_,_,rfl,rfl,(by walk_at "sq"),(by rfl),?_⟩ | refine⟨_,_,_,_,rfl,rfl,(by walk_at "sq"),Xh (by lia) (by lia),?_⟩ | refine⟨_,_,_,_,rfl,rfl,(by walk_at "hp"),(by rfl),?_⟩ | refine⟨_,_,rfl,.inl (by walk_at "sq"),?_⟩ | fail "rd")
local macro_rules | `(tactic| walk_at "rd")=>`(tactic| repeat' walk_at "rd1")
def top(i:Nat):Stmt:=PySem.Challenge.pw_forsworn_k61_whole_sixty_cases_in_a_line.main.body.getD i (.Pass ⟨0,0,0,0⟩)
structure Txt (mg:dE):Prop where
 len:mg "len"=none
 list:mg "list"=none
 range:mg "range"=none
 isinstance:mg "isinstance"=none
 bool:mg "bool"=none
 int:mg "int"=none
 str:mg "str"=none
 tuple:mg "tuple"=none
 zip:mg "zip"=none
 all:mg "all"=none
 sorted:mg "sorted"=none
 max:mg "max"=none
 reversed:mg "reversed"=none
 enumerate:mg "enumerate"=none
 sum:mg "sum"=none
 set:mg "set"=none
inductive VT(vs:aG)(H:Hp)(Q:VK)(z3:XK):Prop
 |mk(i)(_:vs=[.int i])(_:Q (.bl true) H)
abbrev L0:Stmt:=top 85
theorem Ox(Zgq:YC K mg "_law_whole" L0)(T:Txt mg):Fn P w K mg base "_law_whole" ["_law_found"] 1 VT:=by
 refine Zgq.fq ["_law_found"] fun H vs Q E hr h=>?_;obtain⟨i,rfl,k⟩:=h;refine⟨rfl,_,(Ze (Zm (Ab (Z5 Ud T.isinstance Vx (Za Q0 (Za (Vz (v:=.ty "int") T.int En rfl) Zb))) (JZ (Qu (Z5 Ud T.isinstance Vx (Za Q0 (Za (Vz (v:=.ty "bool") T.bool Fd rfl) Zb)))))))),?_⟩;obtain⟨t1,ty1,e1⟩:=isi (K:=K) (H:=H) (d:=.int i) rfl "int" aA;obtain⟨t2,ty2,e2⟩:=isi (K:=K) (H:=H) (d:=.int i) rfl "bool" aA;exact⟨_,rfl,_, "int", t1,_,rfl,ty1,e1,_,rfl,Z6 ⟨_,rfl,_, "bool", t2,_,rfl,ty2,e2,_,rfl,k⟩⟩
inductive VM(n:Nat)(vs:aG)(H:Hp)(Q:VK)(z3:XK):Prop
 |mk(v1 v2) (d)(_:vs=[v1,v2])(_:YF H d v1)(_:YF H d v2)(_:d.deep<=n)(_:∀H',ZC H H'->Q (.bl true) H')
abbrev BG:Stmt:=top 86
theorem Pq:ZR ["_law_found","_law_due","_law_one","_law_other"] ["_law_found","_law_due"] (Zs BG):=fsc
theorem Kk(Ut:YC K mg "_law_same" BG)(T:Txt mg)(Zcw:Fn P w K mg base "_law_whole" ["_law_found"] 1 VT)(Ug:Fn P w K mg base "_law_same" ["_law_found","_law_due"] (k+1) (fun vs H Q E=>0<n/\VM (n - 1) vs H Q E)):Fn P w K mg base "_law_same" ["_law_found","_law_due"] (k+2) (VM n):=by
 refine Ut.fnQ Pq (fun _ _ _ _ _ _=>al2 fun _ _=>rfl) (fun vs H Q E h=>?_) (fun f cdv A outer s H vs Q E hr h=>?_)
 ·obtain⟨v1,v2,d,rfl,_⟩:=h;rfl
 ·obtain⟨v1,v2,d,rfl,r1,r2,hf,q⟩:=h;have hk:1<=k+1:=Nat.le_add_left _ _
  refine⟨_,(Zd (Zn (Zt Eo Q5 Y3 (Zu _)) (Ze (Zm (Ul Eo Q0 Y3 (Zu _)))) Zq) (Zd (Zn (Yu (Z5 Ud T.isinstance Vx (Za Q5 (Za (Vz (v:=.ty "bool") T.bool Fd rfl) Zb)))) (Ze (Zm (Ab (Z5 Ud T.isinstance Vx (Za Q0 (Za (Vz (v:=.ty "bool") T.bool Fd rfl) Zb))) (JZ (Ul Y4 Q0 Q5 (Zu _)))))) Zq) (Zd (Zn (Yu (Z5 Ud T.isinstance Vx (Za Q5 (Za (Vz (v:=.ty "int") T.int En rfl) Zb)))) (Ze (Zm (Ab (Zk Zcw (Za Q0 Zb)) (JZ (Ul Y4 Q0 Q5 (Zu _)))))) Zq) (Zd (Zn (Yu (Z5 Ud T.isinstance Vx (Za Q5 (Za (Vz (v:=.ty "str") T.str Hz rfl) Zb)))) (Ze (Zm (Ab (Z5 Ud T.isinstance Vx (Za Q0 (Za (Vz (v:=.ty "str") T.str Hz rfl) Zb))) (JZ (Ul Y4 Q0 Q5 (Zu _)))))) Zq) (Zd (Zn (QW.pt (Bf (Zt Bc (Z5 Ud T.isinstance Vx (Za Q5 (Za (Vz (v:=.ty "list") T.list Vc rfl) Zb))) (Z5 Ud T.isinstance Vx (Za Q0 (Za (Vz (v:=.ty "list") T.list Vc rfl) Zb))) (Zu _)) (Bz (Zt Bc (Z5 Ud T.isinstance Vx (Za Q5 (Za (Vz (v:=.ty "tuple") T.tuple Du rfl) Zb))) (Z5 Ud T.isinstance Vx (Za Q0 (Za (Vz (v:=.ty "tuple") T.tuple Du rfl) Zb))) (Zu _))))) (Ze (Zm Wj)) Zq) (Zd (Zn (Zt Bc (Z5 Y8 T.len Yz (Za Q0 Zb)) (Z5 Y8 T.len Yz (Za Q5 Zb)) (Zu _)) (Ze (Zm Wj)) Zq) (Zd (Wi PassesOwn.never rfl (QX T.zip (Za Q0 (Za Q5 Zb))) (B7 (by rfl) (Yp (Yv 2) (Yp (Yv 3) Vy)))
 (Ze (Zn (Wq (Yu (Zk Ug (Za Q6 (Za Q7 Zb))))) (Ze (Zm Wj)) Zq)))
 (Ze (Zm Wj))))))))),?_⟩
  have q0:=q H (ZC.refl _);have ne:∀{b:Bool}{A B:Prop},B->if (!decide (V.bl b=V.bl b))=true then A else B:=fun h=>Wc (fun z=>absurd rfl z) fun _=>h
  have dt:∀v:V,decide (v=v)=true:=fun v=>xN rfl;obtain⟨tb2,yb2,eb2⟩:=isi (K:=K) r2 "bool" aA;obtain⟨ti2,yi2,ei2⟩:=isi (K:=K) r2 "int" aA;obtain⟨ts2,ys2,es2⟩:=isi (K:=K) r2 "str" aA;obtain⟨tl2,yl2,el2⟩:=isi (K:=K) r2 "list" aA;obtain⟨tt2,yt2,et2⟩:=isi (K:=K) r2 "tuple" aA;obtain⟨tb1,yb1,eb1⟩:=isi (K:=K) r1 "bool" aA;obtain⟨ts1,ys1,es1⟩:=isi (K:=K) r1 "str" aA;obtain⟨tl1,yl1,el1⟩:=isi (K:=K) r1 "list" aA;obtain⟨tt1,yt1,et1⟩:=isi (K:=K) r1 "tuple" aA;refine⟨_,rfl,rfl,_,rfl,?_⟩;rw[r2.none_iff];cases d with
  | non =>
   cases r1;exact Z6 ⟨_,rfl,rfl,q0⟩
  | bl b =>
   cases r1;cases r2;refine Zp ⟨_,rfl,_, "bool", tb2,_,rfl,yb2,eb2,_,rfl,Z6 ⟨_,rfl,_, "bool", tb1,_,rfl,yb1,eb1,_,rfl,Z6 ⟨_,rfl,_,rfl,rfl,?_⟩⟩⟩;rw[dt];exact q0
  | int i =>
   cases r1;cases r2;refine Zp ⟨_,rfl,_, "bool", tb2,_,rfl,yb2,eb2,_,rfl,Zp ⟨_,rfl,_, "int", ti2,_,rfl,yi2,ei2,_,rfl,Z6 ⟨_,rfl,i,rfl,_,rfl,Z6 ⟨_,rfl,_,rfl,rfl,?_⟩⟩⟩⟩;rw[dt];exact q0
  | str x =>
   cases r1;cases r2;refine Zp ⟨_,rfl,_, "bool", tb2,_,rfl,yb2,eb2,_,rfl,Zp ⟨_,rfl,_, "int", ti2,_,rfl,yi2,ei2,_,rfl,Zp ⟨_,rfl,_, "str", ts2,_,rfl,ys2,es2,_,rfl,Z6 ⟨_,rfl,_, "str", ts1,_,rfl,ys1,es1,_,rfl,Z6 ⟨_,rfl,_,rfl,rfl,?_⟩⟩⟩⟩⟩;rw[dt];exact q0
  | lst ds =>
   refine Zp ⟨_,rfl,_, "bool", tb2,_,rfl,yb2,eb2,_,rfl,Zp ⟨_,rfl,_, "int", ti2,_,rfl,yi2,ei2,_,rfl,Zp ⟨_,rfl,_, "str", ts2,_,rfl,ys2,es2,_,rfl,Zp ⟨_,rfl,_, "list", tl2,_,rfl,yl2,el2,_,rfl,_, "list", tl1,_,rfl,yl1,el1,rfl,_,rfl,ne ⟨_,rfl,_, "tuple", tt2,_,rfl,yt2,et2,_,rfl,_, "tuple", tt1,_,rfl,yt1,et1,rfl,_,rfl,ne ?_⟩⟩⟩⟩⟩;obtain⟨a1,vs1,rfl,g1,p1⟩:=r1;obtain⟨a2,vs2,rfl,g2,p2⟩:=r2;have hl:vs1.length=vs2.length:=p1.length.trans p2.length.symm;refine⟨_,rfl,a1,vs1,rfl,.inl (ZG.of g1),_,rfl,a2,vs2,rfl,.inl (ZG.of g2),rfl,_,rfl,Wc (fun z=>absurd (by rw[hl]) z) (fun _=>⟨_,rfl,_,rfl,a1,a2,rfl,.inl ⟨vs1,vs2,ZG.of g1,ZG.of g2,?_⟩⟩)⟩;refine Gm vs1 vs2 hl (fun i U H'=>ZC H H'/\∃w3 w4,U=[some (.ref a1),some (.ref a2),w3,w4]) ⟨ZC.refl _,none,none,rfl⟩ (fun i U H' _ ⟨sm,_⟩=>⟨ZG.of (sm _ _ g1),ZG.of (sm _ _ g2)⟩) ?_ fun U H' ⟨sm,_⟩=>q H' sm;rintro i x y p U H' hx hy ⟨sm,w3,w4,rfl⟩ hp;obtain⟨dx,ex,rx⟩:=p1.get hx;obtain⟨dy,ey,ry⟩:=p2.get hy;rw[ex] at ey;cases ey;have sm':=sm.trans (ZC.new (o:=.tup [x,y]) hp);have dd:=Ey ex;have hn':V2 ds+1<=n:=hf;exact⟨p,_,rfl,ZP.of Zg,rfl,x,[y],rfl,y,[],rfl,rfl,_,rfl,_,rfl,by lia,x,y,dx,rfl,rx.mono' sm',ry.mono' sm',by lia,fun H2 sm2=>⟨_,rfl,Zp ⟨sm'.trans sm2,_,_,rfl⟩⟩⟩
  | tup ds =>
   refine Zp ⟨_,rfl,_, "bool", tb2,_,rfl,yb2,eb2,_,rfl,Zp ⟨_,rfl,_, "int", ti2,_,rfl,yi2,ei2,_,rfl,Zp ⟨_,rfl,_, "str", ts2,_,rfl,ys2,es2,_,rfl,Zp ⟨_,rfl,_, "list", tl2,_,rfl,yl2,el2,_,rfl,_, "list", tl1,_,rfl,yl1,el1,rfl,_,rfl,ne ⟨_,rfl,_, "tuple", tt2,_,rfl,yt2,et2,_,rfl,_, "tuple", tt1,_,rfl,yt1,et1,rfl,_,rfl,ne ?_⟩⟩⟩⟩⟩;obtain⟨a1,vs1,rfl,g1,p1⟩:=r1;obtain⟨a2,vs2,rfl,g2,p2⟩:=r2;have hl:vs1.length=vs2.length:=p1.length.trans p2.length.symm;refine⟨_,rfl,a1,vs1,rfl,.inr (ZP.of g1),_,rfl,a2,vs2,rfl,.inr (ZP.of g2),rfl,_,rfl,Wc (fun z=>absurd (by rw[hl]) z) (fun _=>⟨_,rfl,_,rfl,a1,a2,rfl,.inr ⟨vs1,vs2,ZP.of g1,ZP.of g2,?_⟩⟩)⟩;refine Gm vs1 vs2 hl (fun i U H'=>ZC H H'/\∃w3 w4,U=[some (.ref a1),some (.ref a2),w3,w4]) ⟨ZC.refl _,none,none,rfl⟩ (fun i U H' _ ⟨sm,_⟩=>⟨ZP.of (sm _ _ g1),ZP.of (sm _ _ g2)⟩) ?_ fun U H' ⟨sm,_⟩=>q H' sm;rintro i x y p U H' hx hy ⟨sm,w3,w4,rfl⟩ hp;obtain⟨dx,ex,rx⟩:=p1.get hx;obtain⟨dy,ey,ry⟩:=p2.get hy;rw[ex] at ey;cases ey;have sm':=sm.trans (ZC.new (o:=.tup [x,y]) hp);have dd:=Ey ex;have hn':V2 ds+1<=n:=hf;exact⟨p,_,rfl,ZP.of Zg,rfl,x,[y],rfl,y,[],rfl,rfl,_,rfl,_,rfl,by lia,x,y,dx,rfl,rx.mono' sm',ry.mono' sm',by lia,fun H2 sm2=>⟨_,rfl,Zp ⟨sm'.trans sm2,_,_,rfl⟩⟩⟩
theorem XE(Ut:YC K mg "_law_same" BG):Fn P w K mg base "_law_same" ["_law_found","_law_due"] k (fun _ _ _ _=>False):=by
 obtain⟨f,fd,F,hm⟩:=Ut;exact⟨f,fd,hm,F.kp,F.binds fun _ _ _ _ _ _ us hl=>match us,hl with | [_,_],_=>rfl,⟨fun _ _ _ _ h=>h.elim,fun _ _ _ _ _ _ _ _ _ _ _ _ _ h=>h.elim⟩⟩
theorem IM(Ut:YC K mg "_law_same" BG)(T:Txt mg)(Zcw:Fn P w K mg base "_law_whole" ["_law_found"] 1 VT):∀n:Nat,Fn P w K mg base "_law_same" ["_law_found","_law_due"] (n+2) (VM n)
 | 0=>Kk (k:=0) Ut T Zcw ((XE Ut).imp fun _ _ _ _ h=>absurd h.1 (yZ _))
 | n+1=>Kk (k:=n+1) Ut T Zcw ((IM Ut T Zcw n).imp fun _ _ _ _ h=>h.2)
@[elab_as_elim] theorem nw {a:dN}{o:HO}{H:Hp}{motive:Hp->Prop}(ha:H a=none) (h:∀H',ZC H H'->H' a=some o->motive H'):motive (upd H a o):=h _ (ZC.new ha) Zg
section
variable{K:uFg}
inductive JJ(K:uFg)(vs:aG)(H:Hp)(Q:VK)(z3:XK):Prop
 |mk(a:dN) (ns:List Int)(_:vs=[.ref a])(_:ZG K H a (ns.map V.int))(_:∀(s la:dN)(H':Hp),H s=none->H la=none->ZX H' s la->ZC H H'->Q (.ref s) H')
abbrev IE:Stmt:=top 83
theorem OY(Zgr:YC K mg "_law_src" IE)(T:Txt mg):Fn P w K mg base "_law_src" ["_law_script"] 1 (JJ K):=by
 refine Zgr.fq ["_law_script"] fun H vs Q E hr h=>?_;obtain⟨a,ns,rfl,hS,k⟩:=h;refine⟨rfl,_,(Ze (Zm (Ym (Za (Vl JH T.list Vc (Za (Ak HD Q0 A4 (JU Zf)) Zb)) (Za Zf (Za Zf (Za Zf (Za Zf Zb)))))))),?_⟩;refine⟨_,rfl,_,rfl,a,_,rfl,hS,fun l hl=>?_⟩;have hc:∃ms:List Int,Vb (ns.map V.int) none (some 63)=ms.map V.int:=by
  unfold Vb;rw[← List.map_drop,← List.map_take];exact⟨_,rfl⟩
 obtain⟨ms,ec⟩:=hc;refine⟨l,_,rfl,.inl (ZG.of Zg),fun l2 hl2=>⟨aB rfl,fun s hs=>?_⟩⟩;have n1:l2≠l:=fun z=>by rw[z,Zg] at hl2;cases hl2
 have s1:ZC H (upd H l (.lst (Vb (ns.map V.int) none (some 63)))):=ZC.new hl;have s2:=s1.trans (ZC.new (o:=.lst (Vb (ns.map V.int) none (some 63))) hl2);have n2:l2≠s:=fun z=>by rw[← z,Zg] at hs;cases hs
 refine k s l2 _ (s2.free hs) (s1.free hl2) ⟨ms,0,0,1,0,Zg,by rw[Zc n2,Zg,ec],aA,n2⟩ (s2.trans (ZC.new hs))
inductive WU(vs:aG)(H:Hp)(Q:VK)(z3:XK):Prop
 |mk(s la) (b)(_:vs=[.ref s,.int b])(_:ZX H s la)(_:0<b)(_:b<1073741824)(_:∀d H',0<=d->d<b->ZX H' s la->ZI s H H'->Q (.int d) H')
abbrev HL:Stmt:=top 84
theorem Pu(Zgs:YC K mg "_law_next" HL)(T:Txt mg):Fn P w K mg base "_law_next" ["_law_src_here","_law_base"] 1 WU:=by
 refine Zgs.fq ["_law_src_here","_law_base","_law_cell","_law_digit"] fun H vs Q E hr h=>?_;obtain⟨s,la,b,rfl,⟨ns,i,big,st,cnt,hs,hla,hi,hne⟩,hb0,hb1,k⟩:=h;refine⟨rfl,_,(Zd (AF (Zy Vd (Zh Z3 Q0 Zf) Zf) (AN Q0 Zf AZ)) (Zd (Zn (Zt Wr (Zh Z3 Q0 Zf) Zf (Zu _)) (Zd (Zx 2 Zf) (Zd (Zn (Zt Uy (Zh Z3 Q0 Zf) (Z5 Y8 T.len Yz (Za (Zh Z3 Q0 Zf) Zb)) (Zu _)) (Zd (Zx 2 (Zh Z3 (Zh Z3 Q0 Zf) (Zh Z3 Q0 Zf))) (Ze (AF (Zy Vd (Zh Z3 Q0 Zf) Zf) (AN Q0 Zf AZ)))) Zq) (Zd (AF (Zy JF (Zy Vd (Zy Vd (Zy KY (Zh Z3 Q0 Zf) Zf) (Zy JF Q6 Zf)) (Zh Z3 Q0 Zf)) Zf) (AN Q0 Zf AZ)) (Ze (Zn (Zt JV Q6 (Zy MC Zf Zf) (Zu _)) (Ze (AF Q6 (AN Q0 Zf AZ))) Zq))))) Zq) (Zd (Zn (Zt Da (Zh Z3 Q0 Zf) Zf (Zu _)) (Zd (Zx 3 (Zy JF (Zh Z3 Q0 Zf) Q5)) (Zd (AF (Zy Eh (Zh Z3 Q0 Zf) Q5) (AN Q0 Zf AZ)) (Ze (Zm Q7)))) Zq) (Ze (Zm (Zy JF (Zy Eh (Zy JF (Zy KY (Zh Z3 Q0 Zf) Zf) Zf) Zf) Q5)))))),?_⟩;have fin:∀(H1:Hp)(i' big st cnt d:Int),0<=d->d<b->ZI s H H1->H1 s=some (.lst [.ref la,.int i',.int big,.int st,.int cnt])->0<=i'->Q (.int d) H1:=fun H1 i' big st cnt d h0 h1 sx hs1 hi1 =>
  k d H1 h0 h1 ⟨ns,i',big,st,cnt,hs1,sx _ _ hne hla,hi1,hne⟩ sx
 walk_at "rd"
 all_goals refine fin _ _ _ _ _ _ (Int.emod_nonneg _ (by lia)) (Int.emod_lt_of_pos _ hb0) ?_ Zg (by lia)
 all_goals repeat (first | exact ZI.refl | refine ZI.trans ?_ ZI.upd)
end
inductive UQ(vs:aG)(H:Hp)(Q:VK)(z3:XK):Prop
 |mk(s la) (n)(_:vs=[.ref s,.int n])(_:ZX H s la)(_:0<=n)(_:n<=100)(_:∀x H',(x.length:Int)=n->AQ x->ZX H' s la->ZI s H H'->Q (.str x) H')
theorem Rj(cl:List Nat):(List.map cs (cl.map fun c=>(⟨#[c]⟩:Str))).flatten=cl:=by
 induction cl with
 | nil=>rfl
 | cons c r ih=>rw[yF,yF,wI,ih];rfl
abbrev B0:Stmt:=top 88
theorem cV:ZR ["_law_src_here","_law_many","_law_letters"] ["_law_src_here","_law_many"] (Zs B0):=fsc
theorem Hg:Nm (Zs B0) "_law_letters" .cell:=aA
theorem Mb:Nm (Zs B0) "_law_src_here" .cell:=aA
theorem Qw(Zgt:YC K mg "_law_word" B0)(T:Txt mg)(Ww:Fn P w K mg base "_law_next" ["_law_src_here","_law_base"] 1 WU):Fn P w K mg base "_law_word" ["_law_src_here","_law_many"] 2 UQ:=by
 refine Zgt.fq ["_law_src_here","_law_many","_law_letters"] fun H vs Q E hr h=>?_;obtain⟨s,la,n,rfl,hsrc,hn0,hn1,k⟩:=h
 refine⟨rfl,_,(Zd (CC (i:=2) cV.nd Hg Yq) (Ze (Zm (Wd F.plainAttrs_str F.slot_str_join F.type_str_join MD Yq (Za (Wv (locs:=["_law_k"]) (fr:=[("_law_src_here", 0),("_law_letters", 2)]) ⟨rfl,aA,aA,aA,aA,aA⟩ (.consN Mb (.consN Hg .nil)) rfl (BC T.range (Za Q5 Zb)) ⟨fun _ _ _ _ _ _=>by
  have cnd:(inN ["_law_k"] [("_law_src_here", 0),("_law_letters", 2)]).Nodup:=aA
  exact⟨(Yw 0 cnd),Uz,(Zh Et (Vn 2) (Zk Ww (Za (Vn 1) (Za Zf Zb)) (n:=nmC)))⟩⟩) Zb))))),?_⟩
 refine⟨rfl,_,rfl,n,rfl,by lia,by lia,?_⟩;refine GM (n:=n.toNat) (fun i ys H2=>ZX H2 s la/\ZI s H H2/\∃cl:List Nat,cl.length=i/\ys=cl.map (fun c=>V.str ⟨#[c]⟩)/\∀c∈cl,97<=c/\c<=122) ⟨hsrc,ZI.refl,[],rfl,rfl,(fun _ z=>nomatch z)⟩ (by lia) ?_ ?_ ?_
 ·rintro i ys H2 ⟨_,_,cl,h1,rfl,_⟩;rw[xB];lia
 ·rintro i ys H2 hi ⟨hs2,sx2,cl,h1,rfl,hc⟩ ls hls;obtain⟨a,rfl⟩:=Us hls;refine⟨⟨[_],rfl,rfl⟩,?_⟩;walk_at "rd";refine⟨s,la,26,rfl,hs2,aA,aA,fun d H3 d0 d1 hs3 sx3=>?_⟩;refine⟨letters,d,_,rfl,rfl,aA,DS d0 d1,hs3,sx2.trans sx3,cl ++ [97+d.toNat],by rw[xK,h1];rfl,by rw[xP];rfl,fun c hc'=>?_⟩;rcases xR.mp hc' with z | z
  ·exact hc c z
  ·have:c=97+d.toNat:=by simpa using z
   lia
 ·rintro ys H2 ⟨hs2,sx2,cl,h1,rfl,hc⟩ l hl;have e:(cl.map fun c=>V.str ⟨#[c]⟩)=(cl.map fun c=>(⟨#[c]⟩:Str)).map V.str:=by rw[wK];rfl
  have sumlen:∀l:List Nat,((l.map fun c=>(⟨#[c]⟩:Str)).map (·.length)).sum=l.length:=by
   intro l
   induction l with
   | nil=>rfl
   | cons c r ih=>rw[yF,yF,List.sum_cons,ih,xX];show 1+r.length=_;lia
  refine⟨_,l,cl.map fun c=>(⟨#[c]⟩:Str),rfl,rfl,ZG.of (by rw[Zg,e]),?_,?_⟩
  ·rw[sumlen,xB];show cl.length+cl.length * 0<=16777216;lia
  ·have ej:cs (Txt.join "" (cl.map fun c=>(⟨#[c]⟩:Str)))=cl:=by rw[Ni,Rj]
   refine k _ _ ?_ (fun c hc'=>hc c (by rw[ej] at hc';exact hc')) (hs2.keep (ZC.new hl)) (sx2.trans (ZI.new hl));rw[← Wp,ej,h1];lia
theorem ph{α:Type} [DecidableEq α]:∀(L M:List α),L.Nodup->(∀a∈L,a∈M)->L.length<=M.length
 | [],_,_,_=>xZ _
 | a::L,M,nd,h=>by
  obtain⟨n1,n2⟩:=yK.mp nd;have ha:=h a xU;have:=ph L (M.erase a) n2 fun b hb=>(List.mem_erase_of_ne (fun(e:b=a)=>n1 (by rw[← e];exact hb))).mpr (h b (yC _ hb));rw[List.length_erase_of_mem ha] at this;have hp:0<M.length:=List.length_pos_of_mem ha;rw[xX];lia
def Wx(stem:Str)(j:Nat):Str:=stem++⟨#[97+j % 26]⟩++⟨#[97+j / 26]⟩
theorem C4(stem:Str)(j:Nat):cs (Wx stem j)=cs stem ++ [97+j % 26,97+j / 26]:=by
 unfold Wx;rw[Cd,Cd];simp[cs]
theorem bU(h:Wx stem i=Wx stem j):i=j:=by
 have e:cs (Wx stem i)=cs (Wx stem j):=by rw[h]
 rw[C4,C4] at e;have e2:=List.append_cancel_left e;injection e2 with e3 e4
 injection e4 with e5 _
 lia
theorem HU(stem:Str)(j:Nat):(Wx stem j).length=stem.length+2:=by
 rw[← Wp,C4,xK,Wp];rfl
theorem bA(h:AQ stem)(hj:j<676):AQ (Wx stem j):=by
 intro c hc;rw[C4] at hc;rcases xR.mp hc with z | z
 ·exact h c z
 ·simp at z;lia
theorem Xj{names:dF}{stem:Str}(h:∀j,j<names.length->Wx stem j∈names):Wx stem names.length∉names:=by
 intro hm;have nd:((List.range (names.length+1)).map (Wx stem)).Nodup:=by
  rw[List.nodup_iff_pairwise_ne,zX];exact List.Pairwise.imp (fun h e=>h (bU e)) (List.nodup_iff_pairwise_ne.mp List.nodup_range)
 have:=ph _ names nd fun a ha=>by grind
 rw[xB,zO] at this;lia
theorem Lf(x:Str)(names:dF):inV (.str x) (names.map V.str)=decide (x∈names):=by
 unfold inV;rw[List.any_map,zE,List.any_eq_true,zS];constructor
 ·rintro⟨y,hy,e⟩;have:y=x:=by simpa [eqV] using e
  rw[← this];exact hy
 ·intro h;exact⟨x,h,by simp[eqV]⟩
theorem GX(names:dF):(names.map V.str).all Uv=true:=by
 rw[List.all_map,List.all_eq_true];intro x _;rfl
def Wl(x:Str):Prop:=AQ x/\1<=x.length/\x.length<=12
section
variable{K:uFg}
inductive WA(K:uFg)(vs:aG)(H:Hp)(Q:VK)(z3:XK):Prop
 |mk(a:dN) (names:dF) (x:Str)(_:vs=[.ref a,.str x])(_:ZG K H a (names.map V.str))(_:names.length<=600)(_:Wl x)(_:∀y:Str,Wl y->y∉names->Q (.str y) H)
abbrev Kz:Stmt:=top 87
theorem RF(Zgu:YC K mg "_law_unlike" Kz)(T:Txt mg):Fn P w K mg base "_law_unlike" ["_law_names_here","_law_name"] 1 (WA K):=by
 refine Zgu.fq ["_law_names_here","_law_name","_law_letters","_law_stem","_law_tries"] fun H vs Q E hr h=>?_;obtain⟨a,names,x,rfl,hS,hn,⟨hx1,hx2,hx3⟩,k⟩:=h;refine⟨rfl,_,(Zd (Zx 2 Yq) (Zd (Zx 3 (Ak Cr Q5 A4 (JU Zf))) (Zd (Wi PassesOwn.never rfl (BC T.range (Za (Zy Vd (Z5 Y8 T.len Yz (Za Q0 Zb)) Zf) Zb)) (Yv 4) (Zd (Zn (Zt Fg Q5 Q0 rfl) (Ze (Zm Q5)) Zq) (Ze (Zx 1 (Zy BZ (Zy BZ Q7 (Zh Et Q6 (Zy JF Q8 Zf))) (Zh Et Q6 (Zy Eh Q8 Zf))))))) (Ze (Zm Q5))))),?_⟩;have hz:(13:Nat)<=sizeLine:=by decide
 refine⟨_,rfl,10,rfl,x,rfl,by lia,?_⟩;have hst:cs (Txt.slice x none (some 10))=(cs x).take 10:=Fh x aA;have hstl:(Txt.slice x none (some 10)).length<=10:=by rw[← Wp,hst,xV];lia
 have hsto:AQ (Txt.slice x none (some 10)):=fun c hc=>hx1 c (by rw[hst] at hc;exact zW hc);show Ua _ _ _ [some (.ref a),some (.str x),some (.str letters),some (.str (Txt.slice x none (some 10))),none] H;generalize Txt.slice x none (some 10)=stem at hstl hsto;refine⟨_,rfl,a,_,rfl,.inl hS,_,_,rfl,rfl,_,rfl,by lia,by rw[xB];lia,?_⟩;refine Dv (names.length+1) (by rw[xB];lia) (fun i U H'=>H'=H/\∃(cur:Str)(v:Option V),U=[some (.ref a),some (.str cur),some (.str letters),some (.str stem),v]/\Wl cur/\(i=0\/cur=Wx stem (i - 1))/\∀j,j+1<i->Wx stem j∈names)
  ⟨rfl,x,none,rfl,⟨hx1,hx2,hx3⟩,.inl rfl,fun j hj=>by lia⟩ ?_ ?_
 ·rintro i U H' hi ⟨rfl,cur,v,rfl,hc,hci,hal⟩;refine⟨_,rfl,_,rfl,a,_,rfl,.inl hS,rfl,GX names,_,rfl,?_⟩;rw[Lf];refine Wc (fun hnin=>?_) (fun hin=>?_)
  ·exact⟨_,rfl,k cur hc hnin⟩
  ·have hi':i<=600:=by lia
   refine⟨_,rfl,_,rfl,_,rfl,_,_,rfl,rfl,by show (0:Int)<26;decide,letters,_,_,rfl,rfl,aA,DS (Int.emod_nonneg _ aA) (Int.emod_lt_of_pos _ aA),stem,_,rfl,rfl,?_,?_⟩
   ·show stem.length+1<=sizeLine;lia
   refine⟨_,rfl,_,rfl,_,_,rfl,rfl,⟨aA,aA⟩,letters,_,_,rfl,rfl,aA,DS (Int.ediv_nonneg (by lia) aA) (by lia),_,_,rfl,rfl,?_,?_⟩
   ·show (stem++_).length+1<=sizeLine;rw[PySem.Str.length_append];show stem.length+1+1<=sizeLine;lia
   have e1:((0:Int)+(i:Nat)) % 26=((i % 26:Nat):Int):=by lia
   have e2:((0:Int)+(i:Nat)) / 26=((i / 26:Nat):Int):=by lia
   refine⟨rfl,Wx stem i,some (.int (0+(i:Nat))),?_,⟨bA hsto (by lia),by rw[HU];lia,by rw[HU];lia⟩,.inr rfl,fun j hj=>?_⟩
   ·show [some (V.ref a),some (V.str _),some (V.str letters),some (V.str stem),some (V.int _)]=_;unfold Wx;rw[e1,e2];rfl
   ·grind
 ·rintro U H' ⟨rfl,cur,v,rfl,hc,hci,hal⟩;refine⟨_,rfl,k cur hc ?_⟩;rcases hci with z | z
  ·lia
  ·rw[z];exact Xj fun j hj=>hal j (by lia)
inductive UR(vs:aG)(H:Hp)(Q:VK)(z3:XK):Prop
 |mk(s la:dN) (n:Int)(_:vs=[.ref s,.int n])(_:ZX H s la)(_:0<=n)(_:n<=100)(_:∀(l:dN)(names:dF)(H':Hp),(names.length:Int)=n->names.Nodup->(∀x∈names,Wl x)->H l=none->H' l=some (.lst (names.map V.str))->ZX H' s la->ZI s H H'->Q (.ref l) H')
abbrev FW:Stmt:=top 89
theorem SN(Zgv:YC K mg "_law_names" FW)(T:Txt mg)(Ww:Fn P w K mg base "_law_next" ["_law_src_here","_law_base"] 1 WU)(Zgw:Fn P w K mg base "_law_word" ["_law_src_here","_law_many"] 2 UQ)(Zz2:Fn P w K mg base "_law_unlike" ["_law_names_here","_law_name"] 1 (WA K)):Fn P w K mg base "_law_names" ["_law_src_here","_law_many"] 3 UR:=by
 refine Zgv.fq ["_law_src_here","_law_many","_law_style","_law_stem","_law_at","_law_names_here","_law_k","_law_name"] fun H vs Q E hr h=>?_;obtain⟨s,la,n,rfl,hsrc,hn0,hn1,k⟩:=h;refine⟨rfl,_,(Zd (Zx 2 (Zk Ww (Za Q0 (Za Zf Zb)))) (Zd (Zx 3 (Zk Zgw (Za Q0 (Za (Zy Vd Zf (Zk Ww (Za Q0 (Za Zf Zb)))) Zb)))) (Zd (Zx 4 (Zk Ww (Za Q0 (Za (Z5 El T.len Yz (Za Q7 Zb)) Zb)))) (Zd (Zx 5 (Ym Zb)) (Zd (Wi PassesOwn.never rfl (BC T.range (Za Q5 Zb)) (Yv 6) (Zd (Zx 7 (Zy BZ (Zy BZ (Ak Cr Q7 A4 (JU Q8)) (Zk Zgw (Za Q0 (Za Zf Zb)))) (Ak Cr Q7 (JU (Zy Vd Q8 Zf)) A4))) (Zd (Zn (Zt Y4 Q6 Zf (Zu _)) (Ze (Zx 7 (Ak Cr Q7 A4 (JU (Zy Vd Zf (Zk Ww (Za Q0 (Za (Z5 El T.len Yz (Za Q7 Zb)) Zb)))))))) Zq) (Zd (Zn (Zt Y4 Q6 Zf (Zu _)) (Ze (Zx 7 (Zk Zgw (Za Q0 (Za (Zy Vd Zf (Zk Ww (Za Q0 (Za Zf Zb)))) Zb))))) Zq) (Ze (Zo (Wd aD aE aF Wk Q9 (Za (Zk Zz2 (Za Q9 (Za Qb Zb))) Zb)))))))) (Ze (Zm Q9))))))),?_⟩;have hz:(200:Nat)<=sizeLine:=by decide
 refine⟨_,rfl,s,la,3,rfl,hsrc,aA,aA,fun style H1 st0 st1 hs1 sx1=>?_⟩;refine⟨_,rfl,_,rfl,s,la,11,rfl,hs1,aA,aA,fun d1 H2 d10 d11 hs2 sx2=>?_⟩;refine⟨_,_,rfl,rfl,s,la,_,rfl,hs2,by lia,by lia,fun stem H3 hl3 hlow3 hs3 sx3=>?_⟩;refine⟨_,rfl,_,rfl,stem,rfl,by lia,s,la,_,rfl,hs3,by lia,by lia,fun at_ H4 at0 at1 hs4 sx4=>?_⟩;refine⟨aB rfl,fun l hl4=>?_⟩;have sx:ZI s H H4:=((sx1.trans sx2).trans sx3).trans sx4;obtain⟨nls,nlla⟩:=hs4.ne hl4;have hlH:H l=none:=by
  cases e:H l with
  | none=>rfl
  | some o=>exact absurd (sx l o nls e) (by rw[hl4];simp)
 refine⟨_,rfl,n,rfl,by lia,by lia,?_⟩;show Ad _ _ _ _ [some (.ref s),some (.int n),some (.int style),some (.str stem),some (.int at_),some (.ref l),none,none] (upd H4 l (.lst []));have mkn:∀x:Str,AQ x->1<=x.length->x.length<=12->Wl x:=fun x a b c=>⟨a,b,c⟩;refine Dv n.toNat rfl (fun i U H'=>∃(names:dF)(v1 v2:Option V),U=[some (.ref s),some (.int n),some (.int style),some (.str stem),some (.int at_),some (.ref l),v1,v2]/\names.length=i/\names.Nodup/\(∀x∈names,Wl x)/\H' l=some (.lst (names.map V.str))/\ZX H' s la/\ZI s H H')
  ⟨[],none,none,rfl,rfl,List.nodup_nil,(fun _ z=>nomatch z),Zg,hs4.keep (ZC.new hl4),sx.trans (ZI.new hl4)⟩ ?_ ?_
 ·rintro i U H5 hi ⟨names,v1,v2,rfl,hlen,hnd,hall,hl5,hs5,sx5⟩;have e1:cs (Txt.slice stem none (some at_))=(cs stem).take at_.toNat:=Fh stem at0;have e2:cs (Txt.slice stem (some (at_+1)) none)=(cs stem).drop (at_+1).toNat:=OR stem (by lia);have l1:(Txt.slice stem none (some at_)).length<=11:=by rw[← Wp,e1,xV,Wp];lia
  have l2:(Txt.slice stem (some (at_+1)) none).length+(at_+1).toNat=stem.length:=by rw[← Wp,e2,List.length_drop,Wp];lia
  have l1':(Txt.slice stem none (some at_)).length=at_.toNat:=by rw[← Wp,e1,xV,Wp];lia
  refine⟨_,rfl,_,rfl,at_,rfl,stem,rfl,by lia,_,rfl,s,la,1,rfl,hs5,aA,aA,fun x1 H6 hx1 hlow1 hs6 sx6=>?_⟩;have hl6:H6 l=some (.lst (names.map V.str)):=sx6 l _ nls hl5;refine⟨_,_,rfl,rfl,by lia,?_⟩;refine⟨_,rfl,_,rfl,_,_,rfl,rfl,_,rfl,stem,rfl,by lia,?_⟩;have l3:(Txt.slice stem none (some at_)++x1).length=at_.toNat+1:=by rw[PySem.Str.length_append,l1'];lia
  refine⟨_,_,rfl,rfl,by rw[l3];lia,?_⟩;have hname:Wl (Txt.slice stem none (some at_)++x1++Txt.slice stem (some (at_+1)) none):=by
   refine mkn _ (fun c hc=>?_) ?_ ?_
   ·rw[Cd,Cd,e1,e2] at hc;rcases xR.mp hc with hc | hc
    ·rcases xR.mp hc with hc | hc
     ·exact hlow3 c (zW hc)
     ·exact hlow1 c hc
    ·exact hlow3 c (List.mem_of_mem_drop hc)
   ·rw[PySem.Str.length_append,l3];lia
   ·rw[PySem.Str.length_append,l3];lia
  generalize Txt.slice stem none (some at_)++x1++Txt.slice stem (some (at_+1)) none=nm0 at hname;show Ua _ _ _ [some (.ref s),some (.int n),some (.int style),some (.str stem),some (.int at_),some (.ref l),some (.int (0+(i:Nat))),some (.str nm0)] H6;have app:∀(D:YK),(∀ U H',(∃(names:dF)(v1 v2:Option V),U=[some (.ref s),some (.int n),some (.int style),some (.str stem),some (.int at_),some (.ref l),v1,v2]/\names.length=i+1/\names.Nodup/\(∀x∈names,Wl x)/\H' l=some (.lst (names.map V.str))/\ZX H' s la/\ZI s H H')->D.nx U H')->
    ∀(x:Str)(H6:Hp),Wl x->H6 l=some (.lst (names.map V.str))->ZX H6 s la->ZI s H H6 ->
    EK (DJ K "list" VP (YD 5) (Vr (Jw (WA K) (Vr (YD 5) (Vr (YD 7) Ub))) Ub)) D
     [some (.ref s),some (.int n),some (.int style),some (.str stem),some (.int at_),some (.ref l),some (.int (0+(i:Nat))),some (.str x)] H6:=by
   intro D hD x H6 hx hl6 hs6 sx6;refine⟨_,rfl,.inl ⟨rfl,_,ZG.of hl6⟩,_,rfl,_,rfl,l,names,x,rfl,ZG.of hl6,by lia,hx,fun y hy hny=>?_⟩;refine⟨l,_,_,rfl,rfl,hl6,by rw[xB];lia,hD _ _ ⟨names ++ [y],_,_,rfl,by rw[xK,hlen];rfl,Eu hnd hny,fun z hz=>?_,?_,?_,?_⟩⟩
   ·grind
   ·rw[Zg,xP];rfl
   ·exact hs6.keepX ZI.upd nls nlla
   ·intro b o hb e;have:b≠l:=fun z=>by rw[z,hlH] at e;cases e
    rw[Zc this];exact sx6 b o hb e
  have step2:∀(D:YK),(∀ U H',(∃(names:dF)(v1 v2:Option V),U=[some (.ref s),some (.int n),some (.int style),some (.str stem),some (.int at_),some (.ref l),v1,v2]/\names.length=i+1/\names.Nodup/\(∀x∈names,Wl x)/\H' l=some (.lst (names.map V.str))/\ZX H' s la/\ZI s H H')->D.nx U H')->
    ∀(x:Str)(H6:Hp),Wl x->H6 l=some (.lst (names.map V.str))->ZX H6 s la->ZI s H H6 ->
    Ua (Dp (BK (J0 CL (YD 2) (tC (.int 2)))) (Ju (Jw UQ (Vr (YD 0) (Vr (J0 (Jv fun i j=>.int (i+j)) (tC (.int 1)) (Jw WU (Vr (YD 0) (Vr (tC (.int 12)) Ub)))) Ub))) (Wb 7)) Yb)
     (EK (DJ K "list" VP (YD 5) (Vr (Jw (WA K) (Vr (YD 5) (Vr (YD 7) Ub))) Ub))) D
     [some (.ref s),some (.int n),some (.int style),some (.str stem),some (.int at_),some (.ref l),some (.int (0+(i:Nat))),some (.str x)] H6:=by
   intro D hD x H6 hx hl6 hs6 sx6;refine⟨_,rfl,rfl,_,rfl,Z7 (fun _=>?_) (fun _=>?_)⟩
   ·refine⟨_,rfl,_,rfl,s,la,12,rfl,hs6,aA,aA,fun d H7 d0 d1 hs7 sx7=>?_⟩;refine⟨_,_,rfl,rfl,s,la,_,rfl,hs7,by lia,by lia,fun y H8 hy1 hy2 hs8 sx8=>?_⟩;exact app D hD y H8 ⟨hy2,by lia,by lia⟩ (sx8 l _ nls (sx7 l _ nls hl6)) hs8 ((sx6.trans sx7).trans sx8)
   ·exact app D hD x H6 hx hl6 hs6 sx6
  refine⟨_,rfl,rfl,_,rfl,Z7 (fun _=>?_) (fun _=>?_)⟩
  ·refine⟨_,rfl,_,rfl,_,rfl,stem,rfl,by lia,s,la,_,rfl,hs6,by lia,by lia,fun d H7 d0 d1 hs7 sx7=>?_⟩;refine⟨_,_,rfl,rfl,_,rfl,stem,rfl,by lia,?_⟩;have e3:cs (Txt.slice stem none (some (1+d)))=(cs stem).take (1+d).toNat:=Fh stem (by lia);refine step2 _ (fun U H' h=>h) _ H7 ⟨fun c hc=>hlow3 c (by rw[e3] at hc;exact zW hc),?_,?_⟩ (sx7 l _ nls hl6) hs7 ((sx5.trans sx6).trans sx7)
   ·rw[← Wp,e3,xV,Wp];lia
   ·rw[← Wp,e3,xV,Wp];lia
  ·exact step2 _ (fun U H' h=>h) nm0 H6 hname hl6 hs6 (sx5.trans sx6)
 ·rintro U H5 ⟨names,v1,v2,rfl,hlen,hnd,hall,hl5,hs5,sx5⟩;exact⟨_,rfl,k l names H5 (by lia) hnd hall hlH hl5 hs5 sx5⟩
end
def okc(c:Nat):Bool:=decide (97<=c)&&decide (c<=122)
def U0(x:Str):Bool:=(decide (1<=x.length)&&decide (x.length<=12))&&(cs x).all okc
theorem Qi(h:Wl x):U0 x=true:=by
 obtain⟨h1,h2,h3⟩:=h;unfold U0;rw[xN h2,xN h3,wO,wO,List.all_eq_true];intro c hc;obtain⟨a,b⟩:=h1 c hc;unfold okc;rw[xN a,xN b];rfl
inductive UC(vs:aG)(H:Hp)(Q:VK)(z3:XK):Prop
 |mk(x)(_:vs=[.str x])(_:x.length<=1000)(_:∀H',ZC H H'->Q (.bl (U0 x)) H')
theorem HG(hi:i<x.length):(cs x)[i]?=some (x.cps.getD i 0):=by
 unfold cs;have:i<x.cps.size:=hi;rw[wC,zF this,zT,zF this];rfl
theorem leA(c:Nat):(!decide ((⟨#[c]⟩:Str).cps.toList<("a":Str).cps.toList))=decide (97<=c):=by
 have e:("a":Str).cps.toList=[97]:=aA
 rw[e];show (!decide (([c]:List Nat)<[97]))=_;rw[zE,Bool.not_eq_true',decide_eq_false_iff_not,zS,Ib];lia
theorem leZ(c:Nat):(!decide (("z":Str).cps.toList<(⟨#[c]⟩:Str).cps.toList))=decide (c<=122):=by
 have e:("z":Str).cps.toList=[122]:=aA
 rw[e];show (!decide (([122]:List Nat)<[c]))=_;rw[zE,Bool.not_eq_true',decide_eq_false_iff_not,zS,Ib];lia
theorem Fq{α β:Type}{l:List α}{i:Nat}{a:α}(f:α->β)(h:l[i]?=some a):(l.take (i+1)).map f=(l.take i).map f ++ [f a]:=by
 rw[yG,h,xP];rfl
abbrev FX:Stmt:=top 38
theorem MI(Zgx:YC K mg "is_name" FX)(T:Txt mg)(hL:∃t,mg "LONGEST_NAME"=some (.int 12 t)):Fn P w K mg base "is_name" ["text"] 1 UC:=by
 obtain⟨tL,c_LONGEST_NAME⟩:=hL;have r_LONGEST_NAME:ZF (.int 12) (.int 12 tL):=⟨tL,rfl⟩;refine Zgx.fq ["text"] fun H vs Q E hr h=>?_;obtain⟨x,rfl,hx,k⟩:=h
 refine⟨rfl,_,(Ze (Zm (Ab (IW Wr Wr Zf (Z5 El T.len Yz (Za Q0 Zb)) (Yg c_LONGEST_NAME r_LONGEST_NAME)) (JZ (Z5 (NO (by rfl)) T.all PB (Za (Wv (locs:=["sign"]) (fr:=[]) ⟨rfl,aA,aA,aA,aA,aA⟩ .nil rfl (Ol Q0) ⟨fun _ _ _ _ _ _=>by
  have cnd:(inN ["sign"] []).Nodup:=aA
  exact⟨(Yw 0 cnd),Uz,(IW KA KA Yq (Yj 0) Yq)⟩⟩) Zb)))))),?_⟩
 have hz:(1000:Nat)<=sizeLine:=by decide
 refine⟨_,rfl,x,rfl,by lia,_,_,rfl,rfl,_,rfl,Z7 (fun h1=>?_) (fun h1=>?_)⟩
 ·refine⟨_,_,rfl,rfl,_,rfl,Z7 (fun h2=>?_) (fun h2=>?_)⟩
  ·refine⟨_,rfl,x,rfl,?_⟩;refine RK (fun i ys H'=>H'=H/\ys=((cs x).take i).map fun c=>V.bl (okc c)) ⟨rfl,rfl⟩ (by lia) ?_ ?_ ?_
   ·rintro i ys H' ⟨_,rfl⟩;rw[xB,xV];lia
   ·rintro i ys H' hi ⟨rfl,rfl⟩ ls hls;obtain⟨a,rfl⟩:=Us hls;refine⟨⟨[_],rfl,rfl⟩,Z6 ?_⟩;refine⟨_,rfl,_,_,rfl,rfl,_,rfl,?_⟩;rw[leA];refine Z7 (fun h3=>?_) (fun h3=>?_)
    ·refine⟨_,_,rfl,rfl,rfl,?_⟩;dsimp only;rw[leZ,Fq _ (HG hi)];unfold okc;rw[xN h3,wO]
    ·refine⟨rfl,?_⟩;rw[Fq _ (HG hi)];unfold okc;rw[xT h3,wJ]
   ·rintro ys H' ⟨rfl,rfl⟩ l hl;refine⟨l,(cs x).map okc,rfl,ZG.of (by rw[Zg,← Wp,yJ,wK];rfl),?_⟩;have e:((cs x).map okc).all id=U0 x:=by
     unfold U0;rw[List.all_map,xN (show 1<=x.length by lia),xN (show x.length<=12 by lia)];rfl
    rw[e];exact k _ (ZC.new hl)
  ·refine(?_:Q (.bl false) H);have e:U0 x=false:=by
    unfold U0;rw[xT (show ¬x.length<=12 by lia),Bool.and_false,wJ]
   rw[← e];exact k H (ZC.refl _)
 ·refine⟨_,rfl,Zp ?_⟩;have e:U0 x=false:=by
   unfold U0;rw[xT (show ¬ 1<=x.length by lia),wJ,wJ]
  rw[← e];exact k H (ZC.refl _)
section
variable{w:dP}{K:uFg}
inductive ZQ where
 | come (n:Str) (d w:Int) | rise (n:Str) (d w:Int) | die (n:Str) (d:Int) (h:Str)
def Z0:List ZQ->Str->Option Int
 | [],_=>none
 | .come m d _::r,n=>if m=n then some d else Z0 r n
 | .rise _ _ _::r,n=>Z0 r n
 | .die _ _ _::r,n=>Z0 r n
def Yk:List ZQ->Str->Option (Int×Str)
 | [],_=>none
 | .die m d h::r,n=>if m=n then some (d,h) else Yk r n
 | .come _ _ _::r,n=>Yk r n
 | .rise _ _ _::r,n=>Yk r n
theorem KH(a b:List ZQ)(n:Str):Z0 (a++b) n=(Z0 a n).or (Z0 b n):=by
 induction a with
 | nil=>rfl
 | cons x r ih =>
  cases x with
  | come m d w =>
   rw[yH,Z0,Z0]
   by_cases e:m=n
   ·rw[if_pos e,if_pos e];rfl
   ·rw[if_neg e,if_neg e,ih]
  | rise m d w=>rw[yH,Z0,Z0,ih]
  | die m d h=>rw[yH,Z0,Z0,ih]
theorem NA(a b:List ZQ)(n:Str):Yk (a++b) n=(Yk a n).or (Yk b n):=by
 induction a with
 | nil=>rfl
 | cons x r ih =>
  cases x with
  | come m d w=>rw[yH,Yk,Yk,ih]
  | rise m d w=>rw[yH,Yk,Yk,ih]
  | die m d h =>
   rw[yH,Yk,Yk]
   by_cases e:m=n
   ·rw[if_pos e,if_pos e];rfl
   ·rw[if_neg e,if_neg e,ih]
theorem Pl{ds:List ZQ}{n:Str}{d w:Int}(h:Z0 ds n=none)(x:Str):Z0 (ds ++ [.come n d w]) x=if x=n then some d else Z0 ds x:=by
 rw[KH,Z0,Z0]
 by_cases e:x=n
 ·subst e;rw[if_pos rfl,if_pos rfl,h];rfl
 ·rw[if_neg (Ne.symm e),if_neg e];cases Z0 ds x<;>rfl
theorem Hw{ds:List ZQ}{n:Str}{d w:Int}(x:Str):Yk (ds ++ [.come n d w]) x=Yk ds x:=by
 rw[NA,Yk,Yk];cases Yk ds x<;>rfl
def V4(ds:List ZQ)(n:Str)(day:Int):Bool:=match Yk ds n with
 | some x=>decide (x.1<=day)
 | none=>false
def V5(dc dw dd dh:dN):List (Str×V):=Zj "heirs" (.ref dh) (Zj "deaths" (.ref dd) (Zj "weights" (.ref dw) (Zj "comings" (.ref dc) [])))
theorem Bx(dc dw dd dh:dN):(V5 dc dw dd dh).lookup ("comings":Str)=some (.ref dc):=by
 unfold V5;rw[Yt,if_neg aA,Yt,if_neg aA,Yt,if_neg aA,Yt,if_pos rfl]
theorem Il(dc dw dd dh:dN):(V5 dc dw dd dh).lookup ("weights":Str)=some (.ref dw):=by
 unfold V5;rw[Yt,if_neg aA,Yt,if_neg aA,Yt,if_pos rfl]
theorem BX(dc dw dd dh:dN):(V5 dc dw dd dh).lookup ("deaths":Str)=some (.ref dd):=by
 unfold V5;rw[Yt,if_neg aA,Yt,if_pos rfl]
theorem KZ(dc dw dd dh:dN):(V5 dc dw dd dh).lookup ("heirs":Str)=some (.ref dh):=by
 unfold V5;rw[Yt,if_pos rfl]
def DL(m:Str):Prop:=¬m="heirs" /\ ¬m="deaths" /\ ¬m="weights" /\ ¬m="comings"
instance (m:Str):Decidable (DL m):=by unfold DL;exact inferInstance
theorem Wn(dc dw dd dh:dN)(h:DL m:=by decide +kernel):(V5 dc dw dd dh).lookup m=none:=by
 obtain⟨a,b,c,d⟩:=h;unfold V5;rw[Yt,if_neg a,Yt,if_neg b,Yt,if_neg c,Yt,if_neg d];rfl
structure FL where
 p:dN
 dc:dN
 dw:dN
 dd:dN
 dh:dN
structure ZT (C:dN) (H:Hp) (L:FL) (ds:List ZQ):Prop where
 ob:∃dx,H L.p=some (.ins C dx (V5 L.dc L.dw L.dd L.dh))
 c:∃kvs:List (ZM×V),H L.dc=some (.dK kvs)/\kvs.length<=ds.length/\∀n:Str,Zr kvs (.inr n)=(Z0 ds n).map V.int
 w:∃kvs:List (ZM×V),H L.dw=some (.dK kvs)/\kvs.length<=ds.length
 d:∃kvs:List (ZM×V),H L.dd=some (.dK kvs)/\kvs.length<=ds.length/\∀n:Str,Zr kvs (.inr n)=(Yk ds n).map fun x=>V.int x.1
 h:∃kvs:List (ZM×V),H L.dh=some (.dK kvs)/\kvs.length<=ds.length/\∀n:Str,Zr kvs (.inr n)=(Yk ds n).map fun x=>V.str x.2
 a1:L.dc≠L.dw
 a2:L.dc≠L.dd
 a3:L.dc≠L.dh
 a4:L.dw≠L.dd
 a5:L.dw≠L.dh
 a6:L.dd≠L.dh
def CW(H H':Hp):Prop:=∀b o,(∀xs,o ≠ .lst xs)->H b=some o->H' b=some o
theorem ZC.n(h:ZC H H'):CW H H':=fun b o _ e=>h b o e
theorem ZI.n(h:ZI s H H')(hs:H s=some (.lst xs)):CW H H':=fun b o n e=>h b o (fun z=>by rw[z,hs] at e;exact n xs (Option.some.inj e).symm) e
theorem ZT.keep(h:ZT C H L ds)(k:CW H H'):ZT C H' L ds:=by
 obtain⟨⟨dx,ob⟩,⟨k1,c1,c2⟩,⟨k2,w1,w2⟩,⟨k3,d1,d2⟩,⟨k4,h1,h2⟩,a1,a2,a3,a4,a5,a6⟩:=h;exact⟨⟨dx,k _ _ (fun _ z=>nomatch z) ob⟩,⟨k1,k _ _ (fun _ z=>nomatch z) c1,c2⟩,⟨k2,k _ _ (fun _ z=>nomatch z) w1,w2⟩,⟨k3,k _ _ (fun _ z=>nomatch z) d1,d2⟩,⟨k4,k _ _ (fun _ z=>nomatch z) h1,h2⟩,a1,a2,a3,a4,a5,a6⟩
def WV(H H':Hp):Prop:=(∀b xs,H b=some (.lst xs)->H' b=some (.lst xs))/\∀b xs,H b=some (.tup xs)->H' b=some (.tup xs)
theorem WV.updD(h:H l=some (.dK kvs)):WV H (upd H l (.dK kvs')) :=
 ⟨fun b xs e=>by rw[Zc (fun z=>by rw[z,h] at e;cases e)];exact e,fun b xs e=>by rw[Zc (fun z=>by rw[z,h] at e;cases e)];exact e⟩
structure VC (K:uFg) (C:dN):Prop where
 cl:Tg K C
 nc:ZV K C "comings"
 nw:ZV K C "weights"
 nd:ZV K C "deaths"
 nh:ZV K C "heirs"
variable{C:dN}
inductive WD(vs:aG)(H:Hp)(Q:VK)(z3:XK):Prop
 |mk(d)(_:vs=[.int d])(_:0<=d)(_:d<=9999)(_:Q .non H)
abbrev FR:Stmt:=top 32
theorem Qf(Zgy:YC K mg "check_day" FR)(C0:∃t,mg "LAST_DAY"=some (.int 9999 t)):Fn P w K mg base "check_day" ["day"] 1 WD:=by
 obtain⟨t0,c_LAST_DAY⟩:=C0;have r_LAST_DAY:ZF (.int 9999) (.int 9999 t0):=⟨t0,rfl⟩;refine Zgy.fq ["day"] fun H vs Q E hr h=>?_;obtain⟨d,rfl,h0,h1,k⟩:=h;refine⟨rfl,_,(Ze (Zn (Wq (AE Wr Wr Zf Q0 (Yg c_LAST_DAY r_LAST_DAY))) (Ze Yn) Zq)),?_⟩;refine⟨_,rfl,_,_,rfl,rfl,_,rfl,Z7 (fun _=>?_) (fun z=>absurd h0 z)⟩;refine⟨_,_,rfl,rfl,_,rfl,Wc (fun z=>absurd h1 z) (fun _=>k)⟩
inductive BU(vs:aG)(H:Hp)(Q:VK)(z3:XK):Prop
 |mk(d)(_:vs=[.int d])(_:1<=d)(_:d<=1000)(_:Q .non H)
abbrev Hy:Stmt:=top 33
theorem SI(Zgz:YC K mg "check_weight" Hy)(C0:∃t,mg "MOST_WEIGHT"=some (.int 1000 t)):Fn P w K mg base "check_weight" ["weight"] 1 BU:=by
 obtain⟨t0,c_MOST_WEIGHT⟩:=C0;have r_MOST_WEIGHT:ZF (.int 1000) (.int 1000 t0):=⟨t0,rfl⟩;refine Zgz.fq ["weight"] fun H vs Q E hr h=>?_;obtain⟨d,rfl,h0,h1,k⟩:=h;refine⟨rfl,_,(Ze (Zn (Wq (AE Wr Wr Zf Q0 (Yg c_MOST_WEIGHT r_MOST_WEIGHT))) (Ze Yn) Zq)),?_⟩;refine⟨_,rfl,_,_,rfl,rfl,_,rfl,Z7 (fun _=>?_) (fun z=>absurd h0 z)⟩;refine⟨_,_,rfl,rfl,_,rfl,Wc (fun z=>absurd h1 z) (fun _=>k)⟩
inductive WE(C:dN)(vs:aG)(H:Hp)(Q:VK)(z3:XK):Prop
 |mk(L) (ds) (n) (d)(_:vs=[.ref L.p,.str n])(_:ZT C H L ds)(_:Z0 ds n=some d)(_:Q .non H)
abbrev Le:Stmt:=Yc (top 42) 17
theorem RZ(Zg0:ZU K C "check_known" "Folk.check_known" Le)(Tc:VC K C):Mt P w K mg base C "check_known" ["self","name"] 1 (WE C):=by
 refine Zg0.mq ["self","name"] fun H vs Q E hr h=>?_;obtain⟨L,ds,n,d,rfl,F,hn,k⟩:=h;refine⟨rfl,_,(Ze (Zn (Zt (Lp hr) Q5 (Zw Q0) rfl) (Ze Yn) Zq)),?_⟩;obtain⟨dx,ob⟩:=F.ob;obtain⟨kvs,c1,c2,c3⟩:=F.c;refine⟨_,rfl,_,rfl,L.p,C,dx,_,_,rfl,ob,Tc.cl,Tc.nc,Bx _ _ _ _,L.dc,_,rfl,YA.k (k:=Sum.inr n) c1,_,rfl,?_⟩;rw[c3,hn];exact Zp k
inductive VS(C:dN)(vs:aG)(H:Hp)(Q:VK)(z3:XK):Prop
 |mk(L) (ds) (n) (d day)(_:vs=[.ref L.p,.str n,.int day])(_:ZT C H L ds)(_:Z0 ds n=some d)(_:d<=day)(_:Q .non H)
abbrev Ip:Stmt:=Yc (top 42) 18
theorem XJ(Zg1:ZU K C "check_there" "Folk.check_there" Ip)(Tc:VC K C):Mt P w K mg base C "check_there" ["self","name","day"] 1 (VS C):=by
 refine Zg1.mq ["self","name","day"] fun H vs Q E hr h=>?_;obtain⟨L,ds,n,d,day,rfl,F,hn,hd,k⟩:=h;refine⟨rfl,_,(Ze (Zn (Zt Uy Q6 (A6 hr (Zw Q0) Q5 (fun _ _=>rfl)) (Zu _)) (Ze Yn) Zq)),?_⟩;obtain⟨dx,ob⟩:=F.ob;obtain⟨kvs,c1,c2,c3⟩:=F.c;have g:=YA.k (k:=Sum.inr n) c1;rw[c3,hn] at g;refine⟨_,rfl,_,rfl,L.p,C,dx,_,_,rfl,ob,Tc.cl,Tc.nc,Bx _ _ _ _,_,rfl,L.dc,.int d,rfl,g,?_⟩;exact⟨_,_,rfl,rfl,_,rfl,Z7 (fun z=>absurd z (by lia)) (fun _=>k)⟩
inductive WG(C:dN)(vs:aG)(H:Hp)(Q:VK)(z3:XK):Prop
 |mk(L) (ds) (n) (day)(_:vs=[.ref L.p,.str n,.int day])(_:ZT C H L ds)(_:Q (.bl (V4 ds n day)) H)
abbrev KU:Stmt:=Yc (top 42) 11
theorem MF(Zg2:ZU K C "died_by" "Folk.died_by" KU)(Tc:VC K C):Mt P w K mg base C "died_by" ["self","name","day"] 1 (WG C):=by
 refine Zg2.mq ["self","name","day"] fun H vs Q E hr h=>?_;obtain⟨L,ds,n,day,rfl,F,k⟩:=h;refine⟨rfl,_,(Ze (Zm (Ab (Ul (Bn hr) Q5 (Zw Q0) rfl) (JZ (Ul Wr (A6 hr (Zw Q0) Q5 (fun _ _=>rfl)) Q6 (Zu _)))))),?_⟩;obtain⟨dx,ob⟩:=F.ob;obtain⟨kvs,c1,c2,c3⟩:=F.d;have g:=YA.k (k:=Sum.inr n) c1;rw[c3] at g;unfold V4 at k;refine⟨_,rfl,_,rfl,L.p,C,dx,_,_,rfl,ob,Tc.cl,Tc.nd,BX _ _ _ _,L.dd,_,rfl,g,_,rfl,?_⟩;cases e:Yk ds n with
 | none =>
  rw[e] at k;exact Zp k
 | some x =>
  rw[e] at k g;refine Z6 ?_;exact⟨_,rfl,L.p,C,dx,_,_,rfl,ob,Tc.cl,Tc.nd,BX _ _ _ _,_,rfl,L.dd,.int x.1,rfl,g,_,rfl,_,_,rfl,rfl,k⟩
end
section
variable{C:dN}
inductive TU(C:dN)(vs:aG)(H:Hp)(Q:VK)(z3:XK):Prop
 |mk(p dx)(_:vs=[.ref p])(_:H p=some (.ins C dx []))(_:∀L H',L.p=p->ZT C H' L []->(∀b o,H b=some o->b≠p->H' b=some o)->(∀b,b=L.dc\/b=L.dw\/b=L.dd\/b=L.dh->H b=none)->Q .non H')
abbrev Ir:Stmt:=Yc (top 42) 0
theorem Oy(Zg3:ZU K C "__init__" "Folk.__init__" Ir)(Tc:VC K C):Mt P w K mg base C "__init__" ["self"] 1 (TU C):=by
 refine Zg3.mq ["self"] fun H vs Q E hr h=>?_;obtain⟨p,dx,rfl,hp,k⟩:=h;refine⟨rfl,_,(Zd (Ve Q0 AR) (Zd (Ve Q0 AR) (Zd (Ve Q0 AR) (Ze (Ve Q0 AR))))),?_⟩;intro dc hdc;have p1:p≠dc:=Zi hp hdc;refine⟨_,rfl,p,C,dx,[],rfl,(by rw[Zc p1];exact hp),Tc.cl,Tc.nc,(by show 0<1000;decide),?_⟩;have g1:(upd (upd H dc (.dK [])) p (.ins C dx (Zj "comings" (.ref dc) []))) p=some (.ins C dx (Zj "comings" (.ref dc) [])):=Zg;have c1:(upd (upd H dc (.dK [])) p (.ins C dx (Zj "comings" (.ref dc) []))) dc=some (.dK []):=by rw[Zc p1.symm,Zg]
 have s1:∀b o,H b=some o->b≠p->(upd (upd H dc (.dK [])) p (.ins C dx (Zj "comings" (.ref dc) []))) b=some o:=fun b o e n=>by rw[Zc n,Zc (Zi e hdc)];exact e
 generalize (upd (upd H dc (.dK [])) p (.ins C dx (Zj "comings" (.ref dc) [])))=H1 at g1 c1 s1 ⊢;intro dw hdw;have p2:p≠dw:=Zi g1 hdw;have q1:dc≠dw:=Zi c1 hdw;refine⟨_,rfl,p,C,dx,_,rfl,(by rw[Zc p2];exact g1),Tc.cl,Tc.nw,(by show 1<1000;decide),?_⟩;have g2:(upd (upd H1 dw (.dK [])) p (.ins C dx (Zj "weights" (.ref dw) (Zj "comings" (.ref dc) [])))) p=some (.ins C dx (Zj "weights" (.ref dw) (Zj "comings" (.ref dc) []))):=Zg;have c2:(upd (upd H1 dw (.dK [])) p (.ins C dx (Zj "weights" (.ref dw) (Zj "comings" (.ref dc) [])))) dc=some (.dK []):=by rw[Zc p1.symm,Zc q1];exact c1
 have w2:(upd (upd H1 dw (.dK [])) p (.ins C dx (Zj "weights" (.ref dw) (Zj "comings" (.ref dc) [])))) dw=some (.dK []):=by rw[Zc p2.symm,Zg]
 have s2:∀b o,H b=some o->b≠p->(upd (upd H1 dw (.dK [])) p (.ins C dx (Zj "weights" (.ref dw) (Zj "comings" (.ref dc) [])))) b=some o:=fun b o e n=>by rw[Zc n,Zc (Zi (s1 b o e n) hdw)];exact s1 b o e n
 generalize (upd (upd H1 dw (.dK [])) p (.ins C dx (Zj "weights" (.ref dw) (Zj "comings" (.ref dc) []))))=H2 at g2 c2 w2 s2 ⊢;intro dd hdd;have p3:p≠dd:=Zi g2 hdd;have q2:dc≠dd:=Zi c2 hdd;have q3:dw≠dd:=Zi w2 hdd;have z1:(Zj "comings" (V.ref dc) []).length<=0+1:=Ag "comings" (V.ref dc) [];have z2:=Ag "weights" (V.ref dw) (Zj "comings" (V.ref dc) []);have z3:=Ag "deaths" (V.ref dd) (Zj "weights" (V.ref dw) (Zj "comings" (V.ref dc) []));refine⟨_,rfl,p,C,dx,_,rfl,(by rw[Zc p3];exact g2),Tc.cl,Tc.nd,(by lia),?_⟩;have g3:(upd (upd H2 dd (.dK [])) p (.ins C dx (Zj "deaths" (.ref dd) (Zj "weights" (.ref dw) (Zj "comings" (.ref dc) []))))) p=some (.ins C dx (Zj "deaths" (.ref dd) (Zj "weights" (.ref dw) (Zj "comings" (.ref dc) [])))):=Zg;have c3:(upd (upd H2 dd (.dK [])) p (.ins C dx (Zj "deaths" (.ref dd) (Zj "weights" (.ref dw) (Zj "comings" (.ref dc) []))))) dc=some (.dK []):=by rw[Zc p1.symm,Zc q2];exact c2
 have w3:(upd (upd H2 dd (.dK [])) p (.ins C dx (Zj "deaths" (.ref dd) (Zj "weights" (.ref dw) (Zj "comings" (.ref dc) []))))) dw=some (.dK []):=by rw[Zc p2.symm,Zc q3];exact w2
 have d3:(upd (upd H2 dd (.dK [])) p (.ins C dx (Zj "deaths" (.ref dd) (Zj "weights" (.ref dw) (Zj "comings" (.ref dc) []))))) dd=some (.dK []):=by rw[Zc p3.symm,Zg]
 have s3:∀b o,H b=some o->b≠p->(upd (upd H2 dd (.dK [])) p (.ins C dx (Zj "deaths" (.ref dd) (Zj "weights" (.ref dw) (Zj "comings" (.ref dc) []))))) b=some o:=fun b o e n=>by rw[Zc n,Zc (Zi (s2 b o e n) hdd)];exact s2 b o e n
 generalize (upd (upd H2 dd (.dK [])) p (.ins C dx (Zj "deaths" (.ref dd) (Zj "weights" (.ref dw) (Zj "comings" (.ref dc) [])))))=H3 at g3 c3 w3 d3 s3 ⊢;intro dh hdh;have p4:p≠dh:=Zi g3 hdh;have q4:dc≠dh:=Zi c3 hdh;have q5:dw≠dh:=Zi w3 hdh;have q6:dd≠dh:=Zi d3 hdh;refine⟨_,rfl,p,C,dx,_,rfl,(by rw[Zc p4];exact g3),Tc.cl,Tc.nh,(by lia),?_⟩;refine k ⟨p,dc,dw,dd,dh⟩ _ rfl ⟨⟨dx,Zg⟩,⟨[],?_,xD _,fun n=>rfl⟩,⟨[],?_,xD _⟩,⟨[],?_,xD _,fun n=>rfl⟩,⟨[],?_,xD _,fun n=>rfl⟩,q1,q2,q4,q3,q5,q6⟩ (fun b o e n=>?_) fun b hb=>?_
 ·show (upd (upd H3 dh _) p _) dc=_;rw[Zc p1.symm,Zc q4];exact c3
 ·show (upd (upd H3 dh _) p _) dw=_;rw[Zc p2.symm,Zc q5];exact w3
 ·show (upd (upd H3 dh _) p _) dd=_;rw[Zc p3.symm,Zc q6];exact d3
 ·show (upd (upd H3 dh _) p _) dh=_;rw[Zc p4.symm,Zg]
 ·rw[Zc n,Zc (Zi (s3 b o e n) hdh)];exact s3 b o e n
 ·cases eb:H b with
  | none=>rfl
  | some o =>
   rcases hb with z | z | z | z<;>subst z
   ·rw[hdc] at eb;cases eb
   ·have:=s1 _ _ eb p2.symm;rw[hdw] at this;cases this
   ·have:=s2 _ _ eb p3.symm;rw[hdd] at this;cases this
   ·have:=s3 _ _ eb p4.symm;rw[hdh] at this;cases this
inductive WL(C:dN)(vs:aG)(H:Hp)(Q:VK)(z3:XK):Prop
 |mk(L) (ds) (n) (day wt)(_:vs=[.ref L.p,.str n,.int day,.int wt])(_:ZT C H L ds)(_:ds.length<40)(_:Wl n)(_:0<=day)(_:day<=9999)(_:1<=wt)(_:wt<=1000)(_:Z0 ds n=none)(_:∀H',ZC H H'->Q .non H')
abbrev FN:Stmt:=Yc (top 42) 14
theorem Ml(Zg4:ZU K C "check_coming" "Folk.check_coming" FN)(T:Txt mg)(Tc:VC K C)(C0:∃t,mg "MOST_FOLK"=some (.int 40 t))(Z0b:Fn P w K mg base "is_name" ["text"] 1 UC)(Wy:Fn P w K mg base "check_day" ["day"] 1 WD)(Z0c:Fn P w K mg base "check_weight" ["weight"] 1 BU) :
  Mt P w K mg base C "check_coming" ["self","name","day","weight"] 2 (WL C):=by
 obtain⟨t0,c_MOST_FOLK⟩:=C0;have r_MOST_FOLK:ZF (.int 40) (.int 40 t0):=⟨t0,rfl⟩;refine Zg4.mq ["self","name","day","weight"] fun H vs Q E hr h=>?_;obtain⟨L,ds,n,day,wt,rfl,F0,hl,hnm,d0,d1,w0,w1,hc,k⟩:=h;refine⟨rfl,_,(Zd (Zn (Wq (Yu (Zk Z0b (Za Q5 Zb)))) (Ze Yn) Zq) (Zd (Zo (Zk Wy (Za Q6 Zb))) (Zd (Zo (Zk Z0c (Za Q7 Zb))) (Zd (Zn (Zt (Bn hr) Q5 (Zw Q0) rfl) (Ze Yn) Zq) (Ze (Zn (Zt JV (Z5 LC T.len Yz (Za (Zw Q0) Zb)) (Yg c_MOST_FOLK r_MOST_FOLK) (Zu _)) (Ze Yn) Zq)))))),?_⟩;refine⟨_,rfl,n,rfl,by have:=hnm.2.2;lia,fun H1 s1=>⟨_,rfl,?_⟩⟩;rw[Qi hnm];refine Zp ?_;have F:=F0.keep (ZC.n s1);obtain⟨dx,ob⟩:=F.ob;obtain⟨kvs,c1,c2,c3⟩:=F.c;have g:=YA.k (k:=Sum.inr n) c1;rw[c3,hc] at g;refine⟨_,rfl,day,rfl,d0,d1,?_⟩;refine⟨_,rfl,wt,rfl,w0,w1,?_⟩;refine⟨_,rfl,_,rfl,L.p,C,dx,_,_,rfl,ob,Tc.cl,Tc.nc,Bx _ _ _ _,L.dc,_,rfl,g,_,rfl,Zp ?_⟩;refine⟨_,rfl,L.p,C,dx,_,_,rfl,ob,Tc.cl,Tc.nc,Bx _ _ _ _,L.dc,kvs,rfl,c1,_,_,rfl,rfl,_,rfl,Z7 (fun z=>absurd z (by lia)) (fun _=>?_)⟩;exact k H1 s1
end
section
variable{w:dP}{C:dN}
def Ws(f:Str->Option (List (ZM×V))):ZQ->Str->Option (List (ZM×V))
 | .come n d w,m=>if m=n then some [(.inl d,.int w)] else f m
 | .rise n d w,m=>if m=n then (f m).map fun l=>Z2 l (.inl d) (.int w) else f m
 | .die _ _ _,m=>f m
def kw(ds:List ZQ):Str->Option (List (ZM×V)):=ds.foldl Ws fun _=>none
theorem Fm(ds:List ZQ)(x:ZQ):kw (ds ++ [x])=Ws (kw ds) x:=by
 unfold kw;rw[List.foldl_append];rfl
def JN:List ZQ->List Str
 | []=>[]
 | .come n _ _::r=>n::JN r
 | .rise _ _ _::r=>JN r
 | .die _ _ _::r=>JN r
theorem bF(a b:List ZQ):JN (a++b)=JN a++JN b:=by
 induction a with
 | nil=>rfl
 | cons x r ih=>cases x<;>simp[JN,ih]
theorem KP{l:List (ZM×V)}{k:ZM}{v:V}{p:ZM×V}(h:p∈Z2 l k v):p=(k,v)\/p∈l:=by
 unfold Z2 at h;split at h
 ·grind
 ·grind
def ES(l:List (ZM×V)):Prop:=∀p∈l,∃d w,p=(.inl d,.int w)
theorem HE:∀(ds:List ZQ)(f:Str->Option (List (ZM×V))),(∀n l,f n=some l->ES l)->∀n l,ds.foldl Ws f n=some l->ES l
 | [],f,h,n,l,e=>h n l e
 | x::r,f,h,n,l,e=>by
  refine HE r (Ws f x) (fun m l' e'=>?_) n l e;cases x with
  | come n' d w' =>
   rw[Ws] at e';split at e'
   ·cases e';intro p hp;exact⟨d,w',xQ.mp hp⟩
   ·exact h m l' e'
  | rise n' d w' =>
   rw[Ws] at e';split at e'
   ·cases e2:f m with
    | none=>rw[e2] at e';cases e'
    | some l0 =>
     rw[e2] at e';cases e';intro p hp;rcases KP hp with rfl | hp
     ·exact⟨d,w',rfl⟩
     ·exact h m l0 e2 p hp
   ·exact h m l' e'
  | die n' d h'=>exact h m l' e'
theorem NL(h:kw ds n=some l):ES l:=HE ds _ (fun _ _ z=>by cases z) n l h
def Bj(kv:Option (List (ZM×V)))(day wt:Int):Prop:=∃l m,kv=some l/\Zr l (.inl m)=some (.int wt)/\m<=day/\∀d v,Zr l (.inl d)=some v->d<=day->d<=m
theorem GN:Zr [((.inl d:ZM),v)] (.inl j)=if j=d then some v else none:=by
 by_cases e:j=d
 ·subst e;rw[if_pos rfl];exact Vj rfl
 ·rw[if_neg e];simp[Zr,wE,Ne.symm e]
theorem Hr:∀(ds:List ZQ)(f:Str->Option (List (ZM×V)))(g:Str->Option Int),(∀m,(f m).isSome=(g m).isSome)->∀m,(ds.foldl Ws f m).isSome=((g m).or (Z0 ds m)).isSome
 | [],f,g,h,m=>by rw[Z0];show (f m).isSome=_;rw[h m];cases g m<;>rfl
 | x::r,f,g,h,m=>by
  have e:Z0 (x::r) m=(Z0 [x] m).or (Z0 r m):=KH [x] r m;have ih:=Hr r (Ws f x) (fun m=>(g m).or (Z0 [x] m)) (fun m=>?_) m
  ·rw[List.foldl_cons,ih,e];cases g m<;>rfl
  ·cases x with
   | come n d w =>
    rw[Ws,Z0,Z0]
    by_cases z:m=n
    ·rw[if_pos z,if_pos z.symm];cases g m<;>rfl
    ·rw[if_neg z,if_neg (Ne.symm z),h m];cases g m<;>rfl
   | rise n d w =>
    rw[Ws,Z0,Z0];have hm:=h m
    by_cases z:m=n
    ·grind
    ·grind
   | die n d w=>rw[Ws,Z0,Z0,h m];cases g m<;>rfl
theorem QD(ds:List ZQ)(n:Str):(kw ds n).isSome=(Z0 ds n).isSome:=by
 have:=Hr ds (fun _=>none) (fun _=>none) (fun _=>rfl) n;exact this
structure WO (H:Hp) (L:FL) (ds:List ZQ) (wa:dH):Prop where
 w:∃kvs:List (ZM×V),H L.dw=some (.dK kvs)/\kvs.length<=ds.length/\∀n l,kw ds n=some l->Zr kvs (.inr n)=some (.ref (wa n))/\H (wa n)=some (.dK l)/\l.length<=ds.length
 ord:∃kvs:List (ZM×V),H L.dc=some (.dK kvs)/\(kvs.map fun p=>kV p.1)=(JN ds).map V.str
 ap:∀n l,kw ds n=some l->wa n≠L.dc/\wa n≠L.dw/\wa n≠L.dd/\wa n≠L.dh
 inj:∀n m l l',kw ds n=some l->kw ds m=some l'->wa n=wa m->n=m
theorem WO.keep(h:WO H L ds wa)(k:CW H H'):WO H' L ds wa:=by
 obtain⟨⟨k1,w1,w2,w3⟩,⟨k2,o1,o2⟩,ap,inj⟩:=h;exact⟨⟨k1,k _ _ (fun _ z=>nomatch z) w1,w2,fun n l e=>let ⟨a,b,c⟩:=w3 n l e;⟨a,k _ _ (fun _ z=>nomatch z) b,c⟩⟩,⟨k2,k _ _ (fun _ z=>nomatch z) o1,o2⟩,ap,inj⟩
theorem WO.start(h:ZT C H L []):WO H L [] wa:=by
 obtain⟨k,w1,w2⟩:=h.w;obtain⟨k2,c1,c2,_⟩:=h.c;exact⟨⟨k,w1,w2,(fun n l e=>by cases e)⟩,⟨k2,c1,by rw[List.eq_nil_of_length_eq_zero (Nat.le_zero.mp c2)];rfl⟩,(fun n l e=>by cases e),(fun n m l l' e=>by cases e)⟩
def Ss(H:Hp)(L:FL)(ds:List ZQ)(wa:dH):Prop:=∃kvs:List (ZM×V),H L.dw=some (.dK kvs)/\∀p∈kvs,∃n l,kw ds n=some l/\p=(Sum.inr n,V.ref (wa n))
def own(L:FL)(ds:List ZQ)(wa:dH)(b:dN):Prop:=b=L.p\/b=L.dc\/b=L.dw\/b=L.dd\/b=L.dh\/∃n l,kw ds n=some l/\b=wa n
structure Fk (C:dN) (H:Hp) (L:FL) (ds:List ZQ) (wa:dH):Prop where
 f:ZT C H L ds
 w:WO H L ds wa
 all:Ss H L ds wa
def UL(L:FL)(ds:List ZQ)(wa:dH)(H H':Hp):Prop:=∀b o,H b=some o->¬own L ds wa b->H' b=some o
def Ea(L:FL)(ds:List ZQ)(wa:dH)(ds':List ZQ)(wa':dH)(H:Hp):Prop:=∀b,own L ds' wa' b->own L ds wa b\/H b=none
theorem Fk.at(h:Fk C H L ds wa)(k:∀b o,own L ds wa b->H b=some o->H' b=some o):Fk C H' L ds wa:=by
 obtain⟨⟨⟨dx,ob⟩,⟨k1,c1,c2⟩,⟨k2,w1,w2⟩,⟨k3,d1,d2⟩,⟨k4,h1,h2⟩,a1,a2,a3,a4,a5,a6⟩,⟨⟨k5,x1,x2,x3⟩,⟨k6,o1,o2⟩,ap,inj⟩,⟨k7,y1,y2⟩⟩:=h;have kp:=k L.p _ (.inl rfl) ob;have kc:=fun o=>k L.dc o (.inr (.inl rfl));have kw':=fun o=>k L.dw o (.inr (.inr (.inl rfl)));exact⟨⟨⟨dx,kp⟩,⟨k1,kc _ c1,c2⟩,⟨k2,kw' _ w1,w2⟩,⟨k3,k L.dd _ (.inr (.inr (.inr (.inl rfl)))) d1,d2⟩,⟨k4,k L.dh _ (.inr (.inr (.inr (.inr (.inl rfl))))) h1,h2⟩,a1,a2,a3,a4,a5,a6⟩, ⟨⟨k5,kw' _ x1,x2,fun n l e=>let ⟨a,b,c⟩:=x3 n l e;⟨a,k _ _ (.inr (.inr (.inr (.inr (.inr ⟨n,l,e,rfl⟩))))) b,c⟩⟩,⟨k6,kc _ o1,o2⟩,ap,inj⟩,⟨k7,kw' _ y1,y2⟩⟩
theorem Fk.there(h:Fk C H L ds wa)(hb:own L ds wa b):∃o,H b=some o/\(∀xs,o ≠ .lst xs)/\∀xs,o ≠ .tup xs:=by
 obtain⟨⟨⟨dx,ob⟩,⟨k1,c1,c2⟩,⟨k2,w1,w2⟩,⟨k3,d1,d2⟩,⟨k4,h1,h2⟩,_⟩,⟨⟨k5,x1,x2,x3⟩,_⟩,_⟩:=h;rcases hb with rfl | rfl | rfl | rfl | rfl | ⟨n,l,e,rfl⟩
 ·exact⟨_,ob,(fun _ z=>nomatch z),(fun _ z=>nomatch z)⟩
 ·exact⟨_,c1,(fun _ z=>nomatch z),(fun _ z=>nomatch z)⟩
 ·exact⟨_,w1,(fun _ z=>nomatch z),(fun _ z=>nomatch z)⟩
 ·exact⟨_,d1,(fun _ z=>nomatch z),(fun _ z=>nomatch z)⟩
 ·exact⟨_,h1,(fun _ z=>nomatch z),(fun _ z=>nomatch z)⟩
 ·exact⟨_,(x3 n l e).2.1,(fun _ z=>nomatch z),(fun _ z=>nomatch z)⟩
theorem UL.lt(h:Fk C H L ds wa)(k:UL L ds wa H H'):WV H H' :=
 ⟨fun b xs e=>k b _ e fun hb=>by obtain⟨o',e',n1,_⟩:=h.there hb;rw[e] at e';cases e';exact n1 xs rfl,fun b xs e=>k b _ e fun hb=>by obtain⟨o',e',_,n2⟩:=h.there hb;rw[e] at e';cases e';exact n2 xs rfl⟩
inductive Td(C:dN)(vs:aG)(H:Hp)(Q:VK)(z3:XK):Prop
 |mk(L) (ds) (wa) (n) (day wt)(_:vs=[.ref L.p,.str n,.int day,.int wt])(_:Fk C H L ds wa)(_:ds.length<40)(_:Wl n)(_:0<=day)(_:day<=9999)(_:1<=wt)(_:wt<=1000)(_:Z0 ds n=none)(_:∀wa' H',Fk C H' L (ds ++ [.come n day wt]) wa'->UL L ds wa H H'->Ea L ds wa (ds ++ [.come n day wt]) wa' H->Q .non H')
abbrev Ky:Stmt:=Yc (top 42) 1
theorem bT(Zg7:ZU K C "come" "Folk.come" Ky)(Tc:VC K C)(M_check_coming:Mt P w K mg base C "check_coming" ["self","name","day","weight"] 2 (WL C)) :
  Mt P w K mg base C "come" ["self","name","day","weight"] 3 (Td C):=by
 refine Zg7.mq ["self","name","day","weight"] fun H vs Q E hr h=>?_;obtain⟨L,ds,wa,n,day,wt,rfl,K0,hl,hnm,d0,d1,w0,w1,hc,k⟩:=h;refine⟨rfl,_,(Zd (Zo (Zz Q0 Tc.cl M_check_coming (Za Q5 (Za Q6 (Za Q7 Zb))))) (Zd (J9 hr (Zw Q0) Q5 Q6) (Ze (J9 hr (Zw Q0) Q5 (Mi Q6 Q7))))),?_⟩;have F0:=K0.f;have W0:=K0.w;have hz:=aC
 obtain⟨dx0,ob0⟩:=F0.ob;refine⟨_,rfl,L.p,dx0,_,rfl,ob0,Wn _ _ _ _ aA,_,rfl,_,rfl,_,rfl,L,ds,n,day,wt,rfl,F0,hl,hnm,d0,d1,w0,w1,hc,fun H1 s1=>?_⟩;have F:=F0.keep (ZC.n s1);have W:=W0.keep (ZC.n s1);obtain⟨k9,y8,y9⟩:=K0.all;have y7:=s1 _ _ y8;have hkn:kw ds n=none:=by
  have:=QD ds n;rw[hc] at this;cases e:kw ds n with
  | none=>rfl
  | some l=>rw[e] at this;cases this
 obtain⟨⟨dx,ob⟩,⟨k1,c1,c2,c3⟩,_,⟨k3,e1,e2,e3⟩,⟨k4,h1,h2,h3⟩,a1,a2,a3,a4,a5,a6⟩:=F;obtain⟨⟨k2,w2,w3,w4⟩,⟨k1',o1,o2⟩,wap,winj⟩:=W;rw[c1] at o1;cases o1;have np:L.p≠L.dc:=fun z=>by rw[z,c1] at ob;cases ob
 have np2:L.p≠L.dw:=fun z=>by rw[z,w2] at ob;cases ob
 refine⟨_,rfl,_,rfl,L.p,C,dx,_,_,rfl,ob,Tc.cl,Tc.nc,Bx _ _ _ _,_,rfl,L.dc,_,rfl,WB.k (k:=Sum.inr n) c1 (by lia),?_⟩;have T1:=WV.updD (kvs':=Z2 k1 (Sum.inr n) (.int day)) c1;have g0:∀b o,b≠L.dc->H1 b=some o->(upd H1 L.dc (.dK (Z2 k1 (Sum.inr n) (.int day)))) b=some o:=fun b o nb e=>by rw[Zc nb];exact e
 have g2:(upd H1 L.dc (.dK (Z2 k1 (Sum.inr n) (.int day)))) L.dc=some (.dK (Z2 k1 (Sum.inr n) (.int day))):=Zg;generalize (upd H1 L.dc (.dK (Z2 k1 (Sum.inr n) (.int day))))=H2 at T1 g0 g2 ⊢;have g1:=g0 _ _ np ob;have g3:=g0 _ _ a1.symm w2;have g4:=g0 _ _ a2.symm e1;have g5:=g0 _ _ a3.symm h1;intro q hq;refine⟨_,rfl,_,rfl,Zg,[(Sum.inl day,.int wt)],rfl,by show 1<=15;decide,?_⟩;have S3:ZC H2 (upd (upd H2 q (.dK [])) q (.dK (JP [] [(Sum.inl day,.int wt)]))):=fun b o e=>by rw[Zc (Zi e hq),Zc (Zi e hq)];exact e
 have kq:(upd (upd H2 q (.dK [])) q (.dK (JP [] [(Sum.inl day,.int wt)]))) q=some (.dK [(Sum.inl day,.int wt)]):=Zg;generalize (upd (upd H2 q (.dK [])) q (.dK (JP [] [(Sum.inl day,.int wt)])))=H3 at S3 kq ⊢;refine⟨_,rfl,L.p,C,dx,_,_,rfl,S3 _ _ g1,Tc.cl,Tc.nw,Il _ _ _ _,_,rfl,L.dw,_,rfl,WB.k (k:=Sum.inr n) (S3 _ _ g3) (by lia),?_⟩;have T4:=WV.updD (kvs':=Z2 k2 (Sum.inr n) (.ref q)) (S3 _ _ g3);have ll:=Vw k1 (Sum.inr n:ZM) (V.int day);have ll2:=Vw k2 (Sum.inr n:ZM) (V.ref q);have lapp:(ds ++ [ZQ.come n day wt]).length=ds.length+1:=by rw[xK];rfl
 have q1:q≠L.dc:=fun z=>by rw[z,g2] at hq;cases hq
 have q2:q≠L.dw:=fun z=>by rw[z,g3] at hq;cases hq
 have q3:q≠L.dd:=fun z=>by rw[z,g4] at hq;cases hq
 have q4:q≠L.dh:=fun z=>by rw[z,g5] at hq;cases hq
 have old:∀m l,kw ds m=some l->H3 (wa m)=some (.dK l)/\wa m≠q:=fun m l e=>by
  have hh:=g0 _ _ (wap m l e).1 (w4 m l e).2.1;exact⟨S3 _ _ hh,Zi hh hq⟩
 have hkw:∀m l,kw (ds ++ [.come n day wt]) m=some l->(m=n/\l=[(Sum.inl day,.int wt)])\/(m≠n/\kw ds m=some l):=fun m l e=>by
  rw[Fm,Ws] at e;split at e
  ·rename_i z;cases e;exact .inl ⟨z,rfl⟩
  ·rename_i z;exact .inr ⟨z,e⟩
 refine k (fun m=>if m=n then q else wa m) _ ⟨⟨⟨dx,by rw[Zc np2];exact S3 _ _ g1⟩,⟨_,by rw[Zc a1];exact S3 _ _ g2,by lia,fun x=>?_⟩,⟨_,Zg,by lia⟩,⟨k3,by rw[Zc a4.symm];exact S3 _ _ g4,by lia,fun x=>?_⟩,⟨k4,by rw[Zc a5.symm];exact S3 _ _ g5,by lia,fun x=>?_⟩,a1,a2,a3,a4,a5,a6⟩,
  ⟨⟨_,Zg,by lia,fun m l e=>?_⟩,⟨_,by rw[Zc a1];exact S3 _ _ g2,?_⟩,fun m l e=>?_,fun m m' l l' e e' z=>?_⟩,⟨_,Zg,fun p hp=>?_⟩⟩ (fun b o e hn=>?_) (fun b hb=>?_)
 ·rw[Uq,Pl hc]
  by_cases e:x=n
  ·subst e;rw[if_pos rfl,if_pos rfl];rfl
  ·rw[if_neg (fun z=>e (Sum.inr.inj z)),if_neg e];exact c3 x
 ·rw[Hw];exact e3 x
 ·rw[Hw];exact h3 x
 ·(try dsimp only)
  rcases hkw m l e with⟨rfl,rfl⟩ | ⟨hm,e'⟩
  ·rw[if_pos rfl];exact⟨by rw[Uq,if_pos rfl],by rw[Zc q2];exact kq,by rw[lapp];show 1<=_;lia⟩
  ·rw[if_neg hm];obtain⟨y1,y2,y3⟩:=w4 m l e';exact⟨by rw[Uq,if_neg (fun z=>hm (Sum.inr.inj z))];exact y1,by rw[Zc (wap m l e').2.1];exact(old m l e').1,by lia⟩
 ·have hv:Zr k1 (Sum.inr n:ZM)=none:=by rw[c3,hc];rfl
  rw[GL _ hv,xP,bF,xP,o2];rfl
 ·grind
 ·grind
 ·rw[w2] at y7;cases y7;rcases KP hp with rfl | hp
  ·exact⟨n,[(Sum.inl day,.int wt)],by rw[Fm,Ws,if_pos rfl],by (try dsimp only);rw[if_pos rfl]⟩
  ·obtain⟨m,l,e,rfl⟩:=y9 p hp;have hm:m≠n:=fun z=>by rw[z,hkn] at e;cases e
   exact⟨m,l,by rw[Fm,Ws,if_neg hm];exact e,by (try dsimp only);rw[if_neg hm]⟩
 ·rw[Zc (fun z=>hn (.inr (.inr (.inl z))))];exact S3 _ _ (g0 b o (fun z=>hn (.inr (.inl z))) (s1 _ _ e))
 ·rcases hb with z | z | z | z | z | ⟨m,l,e,z⟩
  ·exact .inl (.inl z)
  ·exact .inl (.inr (.inl z))
  ·exact .inl (.inr (.inr (.inl z)))
  ·exact .inl (.inr (.inr (.inr (.inl z))))
  ·exact .inl (.inr (.inr (.inr (.inr (.inl z)))))
  ·(try dsimp only at z)
   rcases hkw m l e with⟨rfl,rfl⟩ | ⟨hm,y⟩
   ·rw[if_pos rfl] at z;refine .inr ?_;cases eq:H b with
    | none=>rfl
    | some o =>
     have:=g0 _ _ (by rw[z];exact q1) (s1 _ _ eq);rw[z,hq] at this;cases this
   ·rw[if_neg hm] at z;exact .inl (.inr (.inr (.inr (.inr (.inr ⟨m,l,y,z⟩)))))
end
section
variable{C:dN}
inductive UH(C:dN)(vs:aG)(H:Hp)(Q:VK)(z3:XK):Prop
 |mk(L) (ds) (n) (day)(_:vs=[.ref L.p,.str n,.int day])(_:ZT C H L ds)(_:V4 ds n day=false)(_:Q .non H)
abbrev Ka:Stmt:=Yc (top 42) 19
theorem SW(Zg8:ZU K C "check_living" "Folk.check_living" Ka)(Tc:VC K C)(M_died_by:Mt P w K mg base C "died_by" ["self","name","day"] 1 (WG C)):Mt P w K mg base C "check_living" ["self","name","day"] 2 (UH C):=by
 refine Zg8.mq ["self","name","day"] fun H vs Q E hr h=>?_;obtain⟨L,ds,n,day,rfl,F,hd,k⟩:=h;refine⟨rfl,_,(Ze (Zn (Yu (Zz Q0 Tc.cl M_died_by (Za Q5 (Za Q6 Zb)))) (Ze Yn) Zq)),?_⟩;obtain⟨dx,ob⟩:=F.ob;refine⟨_,rfl,L.p,dx,_,rfl,ob,Wn _ _ _ _ aA,_,rfl,_,rfl,L,ds,n,day,rfl,F,_,rfl,?_⟩;rw[hd];exact Zp k
def Vo(l:List (ZM×V))(day:Int):List Int:=l.filterMap fun p=>match p.1 with
 | .inl d=>if d<=day then some d else none
 | .inr _=>none
theorem XF{l:List (ZM×V)}{i:Nat}{d wt day:Int}(h:l[i]?=some (.inl d,.int wt)):Vo (l.take (i+1)) day=Vo (l.take i) day++(if d<=day then [d] else []):=by
 unfold Vo;rw[yG,h,wT];congr 1
 by_cases e:d<=day
 ·simp[e]
 ·simp[e]
theorem upTo_mem:x∈Vo l day↔(∃v,(.inl x,v)∈l)/\x<=day:=by
 unfold Vo;rw[List.mem_filterMap];constructor
 ·grind
 ·grind
theorem PV{l:List (ZM×V)}{k:ZM}{v:V}(h:Zr l k=some v):(k,v)∈l:=by
 unfold Zr at h;cases e:l.find? fun kv=>decide (kv.1=k) with
 | none=>rw[e] at h;cases h
 | some p =>
  rw[e] at h;cases h;have h1:=List.mem_of_find?_eq_some e;have h2:=List.find?_some e;have h2:p.1=k:=by simpa using h2
  rw[← h2];exact h1
theorem Rl{l:List (ZM×V)}{k:ZM}{v:V}(h:(k,v)∈l):∃u,Zr l k=some u:=by
 unfold Zr;cases e:l.find? fun kv=>decide (kv.1=k) with
 | none =>
  have:=List.find?_eq_none.mp e (k,v) h;exact absurd (xN rfl) this
 | some p=>exact⟨p.2,rfl⟩
inductive VG(C:dN)(vs:aG)(H:Hp)(Q:VK)(z3:XK):Prop
 |mk(L) (ds) (wa) (n) (day d0 wt)(_:vs=[.ref L.p,.str n,.int day])(_:ZT C H L ds)(_:WO H L ds wa)(_:ds.length<=1000)(_:0<=day)(_:day<=9999)(_:Z0 ds n=some d0)(_:d0<=day)(_:Bj (kw ds n) day wt)(_:∀H',ZC H H'->Q (.int wt) H')
abbrev Ef:Stmt:=Yc (top 42) 6
theorem EL:Nm (Zs Ef) "day" .cell:=aA
theorem SC(Zha:ZU K C "weight" "Folk.weight" Ef)(T:Txt mg)(Tc:VC K C)(Wy:Fn P w K mg base "check_day" ["day"] 1 WD)(M_check_known:Mt P w K mg base C "check_known" ["self","name"] 1 (WE C))(M_check_there:Mt P w K mg base C "check_there" ["self","name","day"] 1 (VS C)) :
  Mt P w K mg base C "weight" ["self","name","day"] 2 (VG C):=by
 refine Zha.mq ["self","name","day","told"] fun H vs Q E hr h=>?_;obtain⟨L,ds,wa,n,day,e0,wt,rfl,F,W,hl,d0,d1,hc,hd,hw,k⟩:=h
 refine⟨rfl,_,(Zd (Zo (Zk Wy (Za (qvC 2 EL) Zb))) (Zd (Zo (Zz Q0 Tc.cl M_check_known (Za Q5 Zb))) (Zd (Zo (Zz Q0 Tc.cl M_check_there (Za Q5 (Za (qvC 2 EL) Zb)))) (Zd (Zx 3 (A6 hr (Zw Q0) Q5 (fun _ _=>rfl))) (Ze (Zm (A6 hr Q7 (Z5 (QK (by rfl)) T.max E1 (Za (RP (Wv (locs:=["since"]) (fr:=[("day", 2)]) ⟨rfl,aA,aA,aA,aA,aA⟩ (.consN EL .nil) rfl (LZ Q7) ⟨fun _ _ _ _ _ _=>by
  have cnd:(inN ["since"] [("day", 2)]).Nodup:=aA
  exact⟨(Yw 0 cnd),(JK (Zt Wr (Yj 0) (Vn 1) (Zu _))),(Yj 0)⟩⟩)) Zb)) (fun _ _=>rfl)))))))),?_⟩
 have hz:=aC
 obtain⟨dx,ob⟩:=F.ob;refine⟨_,rfl,day,rfl,d0,d1,?_⟩;refine⟨_,rfl,L.p,dx,_,rfl,ob,Wn _ _ _ _ aA,_,rfl,L,ds,n,e0,rfl,F,hc,?_⟩;refine⟨_,rfl,L.p,dx,_,rfl,ob,Wn _ _ _ _ aA,_,rfl,_,rfl,L,ds,n,e0,day,rfl,F,hc,hd,?_⟩;obtain⟨l,m0,hkl,hm0,hm1,hm2⟩:=hw;obtain⟨k2,w2,w3,w4⟩:=W.w;obtain⟨y1,y2,y3⟩:=w4 n l hkl;have hint:=NL hkl;have g:=YA.k (k:=Sum.inr n) w2;rw[y1] at g;refine⟨_,rfl,L.p,C,dx,_,_,rfl,ob,Tc.cl,Tc.nw,Il _ _ _ _,_,rfl,L.dw,.ref (wa n),rfl,g,?_⟩;refine⟨_,rfl,wa n,l,y2,fun o=>?_⟩;refine⟨_,rfl,wa n,o,l,rfl,Zg,?_⟩;refine L3 (fun i ys H'=>H'=upd H (wa n) (.frz o (.dK l))/\ys=(Vo (l.take i) day).map V.int) ⟨rfl,rfl⟩ (by lia) (fun i ys H' _ ⟨e,_⟩=>by rw[e];exact Zg) ?_ ?_ ?_
 ·rintro i ys H' ⟨_,rfl⟩;rw[xB];unfold Vo;refine xW (wL _ _) ?_;rw[xV];lia
 ·rintro i p ys H' hp ⟨rfl,rfl⟩ ls hls;obtain⟨w0,rfl⟩:=Us hls;obtain⟨d,wt',rfl⟩:=hint p (xO hp);refine⟨⟨[_],rfl,rfl⟩,?_⟩;refine⟨_,rfl,_,rfl,d,day,rfl,rfl,_,rfl,?_⟩;rw[XF hp];refine Z7 (fun e=>?_) (fun e=>?_)
  ·refine⟨_,rfl,rfl,?_⟩;rw[if_pos e,xP];rfl
  ·exact⟨rfl,by rw[if_neg e,yL]⟩
 ·rintro ys H' ⟨rfl,rfl⟩ q hq;rw[yJ];have nq:q≠wa n:=fun z=>by rw[z,Zg] at hq;cases hq
  refine⟨by rw[Zc nq.symm];exact Zg,?_⟩;have hqH:H q=none:=by rw[Zc nq] at hq;exact hq
  have S:ZC H (upd (upd (upd H (wa n) (.frz o (.dK l))) q (.lst ((Vo l day).map V.int))) (wa n) (.dK l)):=fun b ob e=>by
   by_cases z:b=wa n
   ·rw[z,Zg];rw[z,y2] at e;exact e
   ·rw[Zc z,Zc (Zi e hqH),Zc z];exact e
  have kq:(upd (upd (upd H (wa n) (.frz o (.dK l))) q (.lst ((Vo l day).map V.int))) (wa n) (.dK l)) q=some (.lst ((Vo l day).map V.int)):=by rw[Zc nq,Zg]
  generalize (upd (upd (upd H (wa n) (.frz o (.dK l))) q (.lst ((Vo l day).map V.int))) (wa n) (.dK l))=H2 at S kq ⊢;have hin:m0∈Vo l day:=upTo_mem.mpr ⟨⟨_,PV hm0⟩,hm1⟩;refine⟨q,Vo l day,rfl,ZG.of kq,(fun z=>by rw[z] at hin;cases hin),fun m hm hmx=>?_⟩;obtain⟨⟨v,hv⟩,hmd⟩:=upTo_mem.mp hm;obtain⟨u,hu⟩:=Rl hv;have e1:=hm2 m u hu hmd;have e2:=hmx m0 hin;have em:m=m0:=by lia
  subst em;have g2:=YA.k (k:=Sum.inl m) (S _ _ y2);rw[hm0] at g2;exact⟨wa n,.int wt,rfl,g2,k H2 S⟩
end
def V6(H H':Hp):Prop:=∀b xs,H b=some (.tup xs)->H' b=some (.tup xs)
theorem CS(hl:H l=some (.lst xs)):V6 H (upd H l o):=fun b ys e=>by
 rw[Zc (fun z=>by rw[z,hl] at e;cases e)];exact e
abbrev Y9:=List (Str×Int)
def CF(p:Str×Int):D:=.tup [.str p.1,.int p.2]
def Er(sd:Y9):D:=.lst (sd.map CF)
def ZS(H:Hp):Y9->List V->Prop
 | [],vs=>vs=[]
 | p::r,vs=>∃a vs',vs=.ref a::vs'/\H a=some (.tup [.str p.1,.int p.2])/\ZS H r vs'
theorem ZS.mono(k:V6 H H'):∀{sd:Y9}{vs:aG},ZS H sd vs->ZS H' sd vs
 | [],_,h=>h
 | _::_,_,⟨a,vs',e,h1,h2⟩=>⟨a,vs',e,k _ _ h1,ZS.mono k h2⟩
theorem ZS.rep:∀{sd:Y9}{vs:aG},ZS H sd vs->ZK H (sd.map CF) vs
 | [],_,h=>h
 | p::_,_,⟨a,vs',e,h1,h2⟩=>⟨.ref a,vs',e,⟨a,_,rfl,h1,⟨.str p.1,_,rfl,rfl,⟨.int p.2,[],rfl,rfl,rfl⟩⟩⟩,ZS.rep h2⟩
theorem ZS.of:∀{sd:Y9}{vs:aG},ZK H (sd.map CF) vs->ZS H sd vs
 | [],_,h=>h
 | p::_,_,⟨v,vs',e,⟨a,us,e2,h1,⟨x,r1,e3,e4,⟨y,r2,e5,e6,e7⟩⟩⟩,h2⟩=>by
  subst e2 e7 e5 e3;cases e4;cases e6;exact⟨a,vs',e,h1,ZS.of h2⟩
theorem ZS.len(h:ZS H sd vs):vs.length=sd.length:=by
 have:=(ZS.rep h).length;rw[xB] at this;exact this
theorem ZS.get:∀{sd:Y9}{vs:aG}{i:Nat}{v:V},ZS H sd vs->vs[i]?=some v->∃p a,sd[i]?=some p/\v=.ref a/\H a=some (.tup [.str p.1,.int p.2])
 | [],vs,i,v,h,e=>by cases h;simp at e
 | p::sd,vs,i,v,⟨a,vs',e1,h1,h2⟩,e=>by
  subst e1;cases i with
  | zero=>simp at e;subst e;exact⟨p,a,rfl,rfl,h1⟩
  | succ i=>simp at e;exact ZS.get (i:=i) h2 e
theorem ZS.snoc(hp:H a=some (.tup [.str p.1,.int p.2])):∀{sd:Y9}{vs:aG},ZS H sd vs->ZS H (sd ++ [p]) (vs ++ [.ref a])
 | [],vs,h=>by cases h;exact⟨a,[],rfl,hp,rfl⟩
 | q::sd,vs,⟨b,vs',e,h1,h2⟩=>by subst e;exact⟨b,vs' ++ [.ref a],rfl,h1,ZS.snoc hp h2⟩
def wts(sd:Y9):List Int:=sd.map (·.2)
def WY(sd:Y9):Prop:=(∀p∈sd,1<=p.2/\p.2<=1000)/\sd.length<=60
theorem WY.bnd(h:WY sd):∀n∈wts sd,-1000000000<=n/\n<=1000000000:=fun n hn=>by
 obtain⟨p,hp,rfl⟩:=yQ.mp hn;have:=h.1 p hp;show -1000000000<=p.2/\p.2<=1000000000;lia
theorem SE{sd:Y9}{i:Nat}{p:Str×Int}(h:sd[i]?=some p):(wts sd)[i]?=some p.2:=by unfold wts;rw[xJ,h];rfl
def YE(H:Hp)(sd:Y9)(v:V):Prop:=∃a vs,v=.ref a/\H a=some (.lst vs)/\ZS H sd vs
theorem ZC.t(h:ZC H H'):V6 H H':=fun b xs e=>h b _ e
theorem YE.mono(h:YE H sd v)(k:ZC H H'):YE H' sd v:=let ⟨a,vs,e,h1,h2⟩:=h;⟨a,vs,e,k _ _ h1,h2.mono fun b xs e=>k b _ e⟩
inductive Ti(vs:aG)(H:Hp)(Q:VK)(z3:XK):Prop
 |mk(v) (sd)(_:vs=[v])(_:YE H sd v)(_:WY sd)(_:∀H',ZC H H'->Q (.int (wts sd).sum) H')
theorem MN(ha:H a=some (.lst vs))(hr:ZS H sd vs)(hl:sd.length<=60)(hd:∀l,H l=none->Q (.ref l) (upd H l (.lst ((wts sd).map V.int)))) :
  Vk (Jm K a) 2 fv (Je K 2 (UF (Wb 0) (UF (Wb 1) DC))) (fun _ H Q=>Q true H) (YD 1) Q H:=by
 have hlen:=hr.len;refine Ur (xs:=vs) (fun i ys H'=>H'=H/\ys=((wts sd).take i).map V.int) ⟨rfl,rfl⟩ (by lia) (fun i ys H' _ ⟨e,_⟩=>by rw[e];exact ZG.of ha) ?_ ?_ ?_
 ·rintro i ys H' ⟨_,rfl⟩;rw[xB,xV];lia
 ·rintro i x ys H' hx ⟨rfl,rfl⟩ ls hls;obtain⟨u,v,rfl⟩:=AJ hls;obtain⟨p,b,hp,rfl,hb⟩:=hr.get hx;refine⟨b,_,rfl,ZP.of hb,rfl,_,_,rfl,_,_,rfl,rfl,⟨[_,_],rfl,rfl⟩,Z6 ?_⟩;refine⟨_,rfl,rfl,?_⟩;rw[yG,SE hp,xP];rfl
 ·rintro ys H' ⟨rfl,rfl⟩ l hl';have e:(wts sd).take vs.length=wts sd:=zA (by unfold wts;rw[xB];lia);rw[e];exact hd l hl'
abbrev GH:Stmt:=top 39
theorem Ov(Zhc:YC K mg "total" GH)(T:Txt mg):Fn P w K mg base "total" ["side"] 1 Ti:=by
 refine Zhc.fq ["side"] fun H vs Q E hr h=>?_;obtain⟨v,sd,rfl,⟨a,vs,rfl,ha,hr⟩,hL,k⟩:=h
 refine⟨rfl,_,(Ze (Zm (Z5 (FF (by rfl)) T.sum IC (Za (Wv (locs:=["name","weight"]) (fr:=[]) ⟨rfl,aA,aA,aA,aA,aA⟩ .nil rfl (Y7 Q0) ⟨fun _ _ _ _ _ _=>by
  have cnd:(inN ["name","weight"] []).Nodup:=aA
  exact⟨(Ai 2 (by rfl) (Yp (Yw 0 cnd) (Yp (Yw 1 cnd) Vy))),Uz,(Yj 1)⟩⟩) Zb)))),?_⟩
 refine⟨_,rfl,a,rfl,⟨_,ZG.of ha⟩,?_⟩;refine MN ha hr hL.2 fun l hl=>?_;exact⟨l,wts sd,rfl,ZG.of Zg,hL.bnd,by unfold wts;rw[xB];have:=hL.2;lia,k _ (ZC.new hl)⟩
structure ZW where
 ones:Y9
 others:Y9
 need:Int
 named:Option (Int×Str)
def A3:Option (Int×Str)->D
 | none=>.non
 | some (c,n)=>.tup [.int c,.str n]
def Y0(t:ZW):D:=.tup [Er t.ones,Er t.others,.int t.need,A3 t.named]
theorem YE.of(h:YF H (Er sd) v):YE H sd v:=by
 obtain⟨a,vs,e,h1,h2⟩:=h;exact⟨a,vs,e,h1,ZS.of h2⟩
theorem RJ(h:YF H (Y0 t) v):∃a u1 u2 u4,v=.ref a/\H a=some (.tup [u1,u2,.int t.need,u4])/\YE H t.ones u1/\YE H t.others u2/\YF H (A3 t.named) u4:=by
 obtain⟨a,vs,e,h1,⟨u1,r1,rfl,a1,⟨u2,r2,rfl,a2,⟨u3,r3,rfl,a3,⟨u4,r4,rfl,a4,a5⟩⟩⟩⟩⟩:=h;cases a3;cases a5;exact⟨a,u1,u2,u4,e,h1,.of a1,.of a2,a4⟩
theorem ZS.app(hb:ZS H b ws):∀{a:Y9}{vs:aG},ZS H a vs->ZS H (a++b) (vs++ws)
 | [],vs,h=>by cases h;exact hb
 | p::a,vs,⟨c,vs',e,h1,h2⟩=>by subst e;exact⟨c,vs'++ws,rfl,h1,ZS.app hb h2⟩
theorem bO(ha:H a=some (.lst vs))(hr:ZS H sd vs)(hl:sd.length<=1000)(hd:∀l,H l=none->Q (.ref l) (upd H l (.lst ((sd.map (·.1)).map V.str)))) :
  Vk (Jm K a) 2 fv (Je K 2 (UF (Wb 0) (UF (Wb 1) DC))) (fun _ H Q=>Q true H) (YD 0) Q H:=by
 have hlen:=hr.len;refine Ur (xs:=vs) (fun i ys H'=>H'=H/\ys=((sd.map (·.1)).take i).map V.str) ⟨rfl,rfl⟩ (by lia) (fun i ys H' _ ⟨e,_⟩=>by rw[e];exact ZG.of ha) ?_ ?_ ?_
 ·rintro i ys H' ⟨_,rfl⟩;rw[xB,xV];lia
 ·rintro i x ys H' hx ⟨rfl,rfl⟩ ls hls;obtain⟨u,v,rfl⟩:=AJ hls;obtain⟨p,b,hp,rfl,hb⟩:=hr.get hx;refine⟨b,_,rfl,ZP.of hb,rfl,_,_,rfl,_,_,rfl,rfl,⟨[_,_],rfl,rfl⟩,Z6 ?_⟩;refine⟨_,rfl,rfl,?_⟩;have e:(sd.map (·.1))[i]?=some p.1:=by rw[xJ,hp];rfl
  rw[yG,e,xP];rfl
 ·rintro ys H' ⟨rfl,rfl⟩ l hl';have e:(sd.map (·.1)).take vs.length=sd.map (·.1):=zA (by rw[xB];lia);rw[e];exact hd l hl'
def V7(t:ZW):Prop:=WY t.ones/\WY t.others/\1<=t.need/\t.need<=12000
abbrev Ji:=List (List ZM×V)
def Z8(c:Int)(n:Str):List ZM:=[.inl c,.inr n]
def brk(kvs:Ji)(c:Int)(n:Str):Bool:=(Zr kvs (Z8 c n)).isSome
def keep(br:Int->Str->Bool)(c:Int)(sd:Y9):Y9:=sd.filter fun p=>!br c p.1
def JG(br:Int->Str->Bool)(c:Int)(sd:Y9):Int:=(wts (keep br c sd)).sum
inductive TY(vs:aG)(H:Hp)(Q:VK)(z3:XK):Prop
 |mk(c) (v) (g) (sd) (kvs)(_:vs=[.int c,v,.ref g])(_:YE H sd v)(_:WY sd)(_:H g=some (.dT kvs))(_:∀H',ZC H H'->Q (.int (JG (brk kvs) c sd)) H')
theorem PP{br:Int->Str->Bool}{c:Int}{sd:Y9}{i:Nat}{p:Str×Int}(h:sd[i]?=some p):keep br c (sd.take (i+1))=keep br c (sd.take i)++(if br c p.1 then [] else [p]):=by
 unfold keep;rw[yG,h,wQ];cases e:br c p.1<;>simp[e]
abbrev Dk:Stmt:=top 71
theorem NR:Nm (Zs Dk) "case" .cell:=aA
theorem Mv:Nm (Zs Dk) "gone" .cell:=aA
theorem Mm(Zhd:YC K mg "kept_weight" Dk)(T:Txt mg):Fn P w K mg base "kept_weight" ["case","side","gone"] 1 TY:=by
 refine Zhd.fq ["case","side","gone"] fun H vs Q E hr h=>?_;obtain⟨c,v,g,sd,kvs,rfl,⟨a,vs,rfl,ha,hrs⟩,hL,hg,k⟩:=h
 refine⟨rfl,_,(Ze (Zm (Z5 (FF (by rfl)) T.sum IC (Za (Wv (locs:=["name","weight"]) (fr:=[("case", 0),("gone", 2)]) ⟨rfl,aA,aA,aA,aA,aA⟩ (.consN NR (.consN Mv .nil)) rfl (Y7 Q5) ⟨fun _ _ _ _ _ _=>by
  have cnd:(inN ["name","weight"] [("case", 0),("gone", 2)]).Nodup:=aA
  exact⟨(Ai 2 (by rfl) (Yp (Yw 0 cnd) (Yp (Yw 1 cnd) Vy))),(JK (Zt (Lp hr) (Yi (Za (Vn 2) (Za (Yj 0) Zb))) (Vn 3) rfl)),(Yj 1)⟩⟩) Zb)))),?_⟩
 have hz:(2000:Nat)<=sizeLine:=by decide
 have hvl:=hrs.len;have hl60:=hL.2;refine⟨_,rfl,a,rfl,⟨_,ZG.of ha⟩,?_⟩;refine Ur (xs:=vs) (fun i ys H'=>ZC H H'/\ys=(wts (keep (brk kvs) c (sd.take i))).map V.int) ⟨fun _ _ e=>e,rfl⟩ (by lia) (fun i ys H' _ ⟨e,_⟩=>ZG.of (e _ _ ha)) ?_ ?_ ?_
 ·rintro i ys H' ⟨_,rfl⟩;unfold wts keep;rw[xB,xB];refine xW (zI _ _) ?_;rw[xV];lia
 ·rintro i x ys H' hx ⟨sm,rfl⟩ ls hls;obtain⟨w1,w2,rfl⟩:=AJ hls;obtain⟨p,b,hp,rfl,hb⟩:=hrs.get hx;refine⟨b,_,rfl,ZP.of (sm _ _ hb),rfl,_,_,rfl,_,_,rfl,rfl,⟨[_,_],rfl,rfl⟩,?_⟩;refine⟨_,rfl,_,rfl,aB rfl,fun q hq=>?_⟩;refine nw (o:=.tup [.int c,.str p.1]) hq fun H1 S1 k1=>?_;refine⟨_,rfl,g,_,rfl,YA.t (S1 _ _ (sm _ _ hg)) (k:=Z8 c p.1) k1,_,rfl,?_⟩;have e:=PP (br:=brk kvs) (c:=c) hp;show if (!brk kvs c p.1)=true then _ else _
  cases hb':brk kvs c p.1 with
  | true =>
   rw[hb',if_pos rfl,yL] at e;refine Zp ?_;exact⟨sm.trans S1,by rw[e]⟩
  | false =>
   rw[hb',if_neg xI] at e;refine Z6 ?_;refine⟨_,rfl,sm.trans S1,?_⟩;rw[e];unfold wts;rw[xP,xP];rfl
 ·rintro ys H' ⟨sm,rfl⟩ l hl';rw[hvl,yJ];refine⟨l,wts (keep (brk kvs) c sd),rfl,ZG.of Zg,fun n hn=>?_,?_,k _ (sm.trans (ZC.new hl'))⟩
  ·obtain⟨p,hp,rfl⟩:=yQ.mp hn;exact hL.bnd _ (yQ.mpr ⟨p,(wR.mp hp).1,rfl⟩)
  ·unfold wts keep;rw[xB];exact xW (zI _ _) (by lia)
def Jz(br:Int->Str->Bool)(c:Int)(t:ZW):Int:=JG br c t.ones - JG br c t.others - t.need
def ZO(H:Hp)(ss:List ZW)(l:dN):Prop:=∃us,H l=some (.lst us)/\ZK H (ss.map Y0) us
theorem ZO.mono(h:ZO H ss l)(k:ZC H H'):ZO H' ss l:=let ⟨us,a,b⟩:=h;⟨us,k _ _ a,b.mono' k⟩
theorem ZO.get{H:Hp}{ss:List ZW}{l:dN}{us:aG}{i:Nat}{t:ZW}(b:ZK H (ss.map Y0) us)(ht:ss[i]?=some t) :
  ∃ta u1 u2 u4,us[i]?=some (.ref ta)/\H ta=some (.tup [u1,u2,.int t.need,u4])/\YE H t.ones u1/\YE H t.others u2/\YF H (A3 t.named) u4:=by
 have hl:=b.length;rw[xB] at hl;have hi:i<us.length:=by rw[hl];exact(xE.mp ht).1
 have hu:us[i]?=some us[i]:=xC hi;obtain⟨d,hd,hr⟩:=b.get hu;rw[xJ,ht] at hd;cases hd;obtain⟨ta,u1,u2,u4,e,h1,h2,h3,h4⟩:=RJ hr;exact⟨ta,u1,u2,u4,by rw[hu,e],h1,h2,h3,h4⟩
inductive UJ(vs:aG)(H:Hp)(Q:VK)(z3:XK):Prop
 |mk(l g:dN) (c:Nat) (ss:List ZW) (t:ZW) (kvs:Ji)(_:vs=[.ref l,.int c,.ref g])(_:ZO H ss l)(_:ss[c]?=some t)(_:V7 t)(_:H g=some (.dT kvs))(_:∀H',ZC H H'->Q (.int (Jz (brk kvs) c t)) H')
abbrev Fo:Stmt:=top 70
theorem Oo(Zhe:YC K mg "margin_without" Fo)(T:Txt mg)(C0:∃t,mg "ONES"=some (.int 0 t))(C1:∃t,mg "OTHERS"=some (.int 1 t))(C2:∃t,mg "NEED"=some (.int 2 t))(Zn1:Fn P w K mg base "kept_weight" ["case","side","gone"] 1 TY):Fn P w K mg base "margin_without" ["suits","case","gone"] 2 UJ:=by
 obtain⟨t0,c_ONES⟩:=C0;obtain⟨t1,c_OTHERS⟩:=C1;obtain⟨t2,c_NEED⟩:=C2;have r_ONES:ZF (.int 0) (.int 0 t0):=⟨t0,rfl⟩;have r_OTHERS:ZF (.int 1) (.int 1 t1):=⟨t1,rfl⟩;have r_NEED:ZF (.int 2) (.int 2 t2):=⟨t2,rfl⟩;refine Zhe.fq ["suits","case","gone","suit"] fun H vs Q E hr h=>?_;obtain⟨l,g,c,ss,t,kvs,rfl,⟨us,hl,hrep⟩,ht,⟨L1,L2',_,_⟩,hg,k⟩:=h;refine⟨rfl,_,(Zd (Zx 3 (Zh Z3 Q0 Q5)) (Ze (Zm (Zy Vm (Zy Vm (Zk Zn1 (Za Q5 (Za (Zh Zv Q7 (Yg c_ONES r_ONES)) (Za Q6 Zb)))) (Zk Zn1 (Za Q5 (Za (Zh Zv Q7 (Yg c_OTHERS r_OTHERS)) (Za Q6 Zb))))) (Zh Zv Q7 (Yg c_NEED r_NEED)))))),?_⟩;obtain⟨ta,u1,u2,u4,hu,hta,h1,h2,h4⟩:=ZO.get (l:=l) hrep ht;refine⟨_,rfl,_,rfl,l,us,c,.ref ta,rfl,rfl,ZG.of hl,Yl hu,?_⟩;refine⟨_,rfl,_,rfl,ta,_,0,u1,rfl,rfl,ZP.of hta,rfl,_,rfl,c,u1,g,t.ones,kvs,rfl,h1,L1,hg,fun H1 s1=>?_⟩;refine⟨_,rfl,_,rfl,ta,_,1,u2,rfl,rfl,ZP.of (s1 _ _ hta),rfl,_,rfl,c,u2,g,t.others,kvs,rfl,h2.mono s1,L2',s1 _ _ hg,fun H2 s2=>?_⟩;refine⟨_,_,rfl,rfl,_,rfl,ta,_,2,_,rfl,rfl,ZP.of (s2 _ _ (s1 _ _ hta)),rfl,_,_,rfl,rfl,k H2 (s1.trans s2)⟩
abbrev Wa:=Int×Str
def Yo(more:List Wa):Nat->List ZW->List Bool×List Wa
 | _,[]=>([],more)
 | i,t::r =>
  (decide (0<=Jz (fun c n=>decide ((c,n)∈(Yo more (i+1) r).2)) i t)::(Yo more (i+1) r).1,
   if decide (0<=Jz (fun c n=>decide ((c,n)∈(Yo more (i+1) r).2)) i t)=true then (Yo more (i+1) r).2++t.named.toList else (Yo more (i+1) r).2)
theorem Cu(more:List Wa):∀ss i,(Yo more i ss).1.length=ss.length
 | [],_=>rfl
 | t::r,i=>by rw[Yo,xX,Cu more r (i+1),xX]
def WM(kvs:Ji)(gn:List Wa):Prop:=∀c n,brk kvs c n=decide ((c,n)∈gn)
theorem WM.put(h:WM kvs gn):WM (Z2 kvs (Z8 c n) v) (gn ++ [(c,n)]):=by
 intro c' n';unfold brk;rw[Uq]
 by_cases e:Z8 c' n'=Z8 c n
 ·rw[if_pos e];have e':(c',n')=(c,n):=by
   unfold Z8 at e;injection e with e1 e2
   injection e2 with e2 _
   cases e1;cases e2;rfl
  rw[e'];exact(xN (xM _ (xQ.mpr rfl))).symm
 ·rw[if_neg e];refine(h c' n').trans ?_;have e':¬(c',n')=(c,n):=fun z=>e (by injection z with z1 z2;rw[z1,z2]);have:((c',n')∈gn ++ [(c,n)])↔((c',n')∈gn):=by rw[xR,xQ];exact⟨fun z=>z.elim id (fun z=>absurd z e'),.inl⟩
  rw[decide_eq_decide];exact this.symm
theorem IZ(r:List Bool)(b:Bool):∀c:Nat,((List.replicate (c+1) false++r).map V.bl).set c (.bl b)=(List.replicate c false++(b::r)).map V.bl
 | 0=>rfl
 | c+1=>by
  rw[yT,yH,yF,List.set_cons_succ,IZ r b c,yT,yH,yF]
theorem KB(r:List Bool)(b:Bool):∀c:Nat,((List.replicate c false++(b::r)).map V.bl)[c]?=some (.bl b)
 | 0=>rfl
 | c+1=>by
  rw[yT,yH,yF,zM];exact KB r b c
theorem O8(h:c<n):ixN n (c:Int)=some c:=by
 unfold ixN;rw[if_pos (by lia),if_pos (by lia),yM]
inductive UX(vs:aG)(H:Hp)(Q:VK)(z3:XK):Prop
 |mk(l m) (ss) (ms) (more)(_:vs=[.ref l,.ref m])(_:ZO H ss l)(_:(∀t∈ss,V7 t))(_:ss.length<=1000)(_:H m=some (.lst ms))(_:ZK H (more.map fun x=>A3 (some x)) ms)(_:more.length<=1000)(_:∀l2 H',H l2=none->H' l2=some (.lst ((Yo more 0 ss).1.map V.bl))->ZC H H'->Q (.ref l2) H')
abbrev Kv:Stmt:=top 60
theorem Rx(Zhf:YC K mg "settled_with" Kv)(T:Txt mg)(C3:∃t,mg "NAMED"=some (.int 3 t))(Z0k:Fn P w K mg base "margin_without" ["suits","case","gone"] 2 UJ):Fn P w K mg base "settled_with" ["suits","more"] 3 UX:=by
 obtain⟨t3,c_NAMED⟩:=C3;have r_NAMED:ZF (.int 3) (.int 3 t3):=⟨t3,rfl⟩;refine Zhf.fq ["suits","more","gone","oath","standing","case"] fun H vs Q E hr h=>?_;obtain⟨l,m,ss,ms,more,rfl,hsu,hok,hlen,hm,hms,hml,k⟩:=h;refine⟨rfl,_,(Zd (Zx 2 EY) (Zd (Wi PassesOwn.never rfl (Y7 Q5) (Yv 3) (Ze (J9 hr Q6 Q7 Wj))) (Zd (Zx 4 (Zy HW (Ym (Za Wj Zb)) (Z5 Y8 T.len Yz (Za Q0 Zb)))) (Zd (Wi PassesOwn.never rfl (SR T.range (Za (Zy Vm (Z5 Y8 T.len Yz (Za Q0 Zb)) Zf) (Za (V1 Uc Zf) (Za (V1 Uc Zf) Zb)))) (Yv 5) (Zd (AF (Ul JV (Zk Z0k (Za Q0 (Za Q9 (Za Q6 Zb)))) Zf (Zu _)) (AN Q8 Q9 AZ)) (Ze (Zn (QW.pt (Uk (Yu (Zh Z3 Q8 Q9)) (Uw (Zt JB (Zh Zv (Zh Z3 Q0 Q9) (Yg c_NAMED r_NAMED)) Y3 (Zu _))))) (Ze (J9 hr Q6 (Zh Zv (Zh Z3 Q0 Q9) (Yg c_NAMED r_NAMED)) Wj)) Zq)))) (Ze (Zm Q8)))))),?_⟩;have hz:=aC
 refine fun g hg=>?_;have S0:ZC H (upd H g (.dT [])):=ZC.new hg;have hml':ms.length=more.length:=by have:=hms.length;rw[xB] at this;exact this
 refine⟨_,rfl,m,rfl,⟨_,ZG.of (S0 _ _ hm)⟩,?_⟩;refine Ue ms (fun i U H'=>∃(kvs:Ji)(v3:Option V),U=[some (.ref l),some (.ref m),some (.ref g),v3,none,none]/\H' g=some (.dT kvs)/\WM kvs (more.take i)/\kvs.length<=i/\ZC H H') ⟨[],none,rfl,Zg,fun c n=>rfl,xD _,S0⟩ (fun i U H' _ ⟨_,_,_,_,_,_,e⟩=>ZG.of (e _ _ hm)) ?_ ?_
 ·rintro i x U H' hx ⟨kvs,v3,rfl,hg',hgi,hkl,sm⟩;obtain⟨d,hd,hrd⟩:=hms.get hx;rw[xJ] at hd;obtain⟨⟨c,n⟩,ho⟩:∃o,more[i]?=some o:=by cases e:more[i]? with | none=>rw[e] at hd;cases hd | some t=>exact⟨t,rfl⟩
  rw[ho] at hd;cases hd;obtain⟨b,bs,rfl,hb,⟨y1,r1,rfl,e1,⟨y2,r2,rfl,e2,e3⟩⟩⟩:=hrd;cases e1;cases e2;cases e3;have hi:i<ms.length:=(xE.mp hx).1;refine⟨_,rfl,_,rfl,g,_,rfl,WB.t hg' (k:=Z8 c n) (sm _ _ hb) (by lia),?_⟩;refine⟨_,_,rfl,Zg,?_,xW (Vw _ _ _) (by lia),?_⟩
  ·rw[yG,ho];exact hgi.put
  ·intro b' o e;rw[Zc (fun z=>by rw[z,hg] at e;cases e)];exact sm b' o e
 ·rintro U H1 ⟨kvs,v3,rfl,hg1,hgi,hkl,sm1⟩;rw[hml',yJ] at hgi;obtain⟨us,hl1,hrep1⟩:=hsu.mono sm1;have hul:us.length=ss.length:=by have:=hrep1.length;rw[xB] at this;exact this
  refine⟨aB rfl,fun q hq=>?_⟩;refine nw (o:=.lst [.bl false]) hq fun H2 S2 k2=>?_;refine⟨_,rfl,l,us,rfl,.inl (ZG.of (S2 _ _ hl1)),q,_,_,rfl,rfl,k2,by lia,by lia,?_,fun st hst=>?_⟩
  ·rw[yM,hul];show 1 * ss.length<=sizeLine;lia
  have hstH:H st=none:=(sm1.trans S2).free hst;have hgst:g≠st:=fun z=>by rw[← z,S2 _ _ hg1] at hst;cases hst
  have S3:=ZC.new (o:=.lst (List.replicate (us.length:Int).toNat [V.bl false]).flatten) hst;have k3:(upd H2 st (.lst (List.replicate (us.length:Int).toNat [V.bl false]).flatten)) st=some (.lst ((List.replicate ss.length false).map V.bl)):=by
   rw[Zg,yM,hul];have:∀n:Nat,(List.replicate n [V.bl false]).flatten=(List.replicate n false).map V.bl:=by
    intro n
    induction n with
    | zero=>rfl
    | succ n ih=>rw[yT,wI,ih,yT,yF];rfl
   rw[this]
  generalize (upd H2 st (.lst (List.replicate (us.length:Int).toNat [V.bl false]).flatten))=H3 at S3 k3 ⊢;have S13:=S2.trans S3;have sm3:=sm1.trans S13;refine⟨_,rfl,l,us,rfl,.inl (ZG.of (S13 _ _ hl1)),_,_,rfl,rfl,_,rfl,_,rfl,_,_,rfl,⟨by lia,by lia,aA,aA⟩,?_⟩
  refine L8 ss.length (by lia) (fun i U H'=>∃(kvs:Ji)(v3 v5:Option V),U=[some (.ref l),some (.ref m),some (.ref g),v3,some (.ref st),v5]/\
    H' st=some (.lst ((List.replicate (ss.length - i) false++(Yo more (ss.length - i) (ss.drop (ss.length - i))).1).map V.bl))/\H' g=some (.dT kvs)/\WM kvs (Yo more (ss.length - i) (ss.drop (ss.length - i))).2/\kvs.length<=1000+i/\ZC H H')
   ⟨kvs,_,none,rfl,?_,S13 _ _ hg1,?_,by lia,sm3⟩ ?_ ?_
  ·rw[Nat.sub_zero,List.drop_length,Yo,yL];exact k3
  ·rw[Nat.sub_zero,List.drop_length,Yo];exact hgi
  ·rintro i U H' hi ⟨kvs,v3,v5,rfl,hst',hg',hgi',hkl',sm'⟩;obtain⟨c,hc⟩:∃c,ss.length - i=c+1:=⟨ss.length - i - 1,by lia⟩;have hc2:ss.length - (i+1)=c:=by lia
   have hcl:c<ss.length:=by lia
   have ec:((us.length:Int) - 1 - (i:Nat))=((c:Nat):Int):=by lia
   rw[hc] at hst' hgi';rw[ec,hc2];have ht:ss[c]?=some ss[c]:=xC hcl;have htm:ss[c]∈ss:=zJ hcl;have ed:ss.drop c=ss[c]::ss.drop (c+1):=List.drop_eq_getElem_cons hcl;rw[ed];generalize ss[c]=t at ht htm ed ⊢;obtain⟨us',hl',hrep'⟩:=hsu.mono sm';have hg'':brk kvs=fun(a:Int) (n:Str)=>decide ((a,n)∈(Yo more (c+1) (ss.drop (c+1))).2):=funext fun a=>funext fun b=>hgi' a b;have hset:Yo more c (t::ss.drop (c+1))=(decide (0<=Jz (brk kvs) c t)::(Yo more (c+1) (ss.drop (c+1))).1,if decide (0<=Jz (brk kvs) c t)=true then (Yo more (c+1) (ss.drop (c+1))).2++t.named.toList else (Yo more (c+1) (ss.drop (c+1))).2):=by rw[hg'',Yo]
   rw[hset];generalize Yo more (c+1) (ss.drop (c+1))=R at hst' hgi' ⊢;refine⟨_,rfl,_,rfl,_,rfl,l,g,c,ss,t,kvs,rfl,hsu.mono sm',ht,hok t htm,hg',fun H4 s4=>?_⟩;have hst4:=s4 _ _ hst';refine⟨Jz (brk kvs) c t,0,rfl,rfl,_,rfl,_,rfl,st,_,c,c,rfl,rfl,hst4,?_,?_⟩
   ·exact O8 (by rw[xB,xK,List.length_replicate];lia)
   dsimp only;generalize decide (0<=Jz (brk kvs) c t)=b;rw[IZ];have sm5:ZC H (upd H4 st (.lst ((List.replicate c false++(b::R.1)).map V.bl))):=fun x o e=>by
    rw[Zc (fun z=>by rw[z,hstH] at e;cases e)];exact s4 _ _ (sm' _ _ e)
   have k5:(upd H4 st (.lst ((List.replicate c false++(b::R.1)).map V.bl))) st=some (.lst ((List.replicate c false++(b::R.1)).map V.bl)):=Zg;have hg5:(upd H4 st (.lst ((List.replicate c false++(b::R.1)).map V.bl))) g=some (.dT kvs):=by rw[Zc hgst];exact s4 _ _ hg'
   generalize (upd H4 st (.lst ((List.replicate c false++(b::R.1)).map V.bl)))=H5 at sm5 k5 hg5 ⊢;obtain⟨us5,hl5,hrep5⟩:=hsu.mono sm5;obtain⟨ta,u1,u2,u4,hu,hta,h1,h2,h4⟩:=ZO.get (l:=l) hrep5 ht;refine⟨_,rfl,_,rfl,st,_,c,.bl b,rfl,rfl,ZG.of k5,Yl (KB ..),b,rfl,?_⟩;cases b with
   | false =>
    refine Zp (Zp ?_);exact⟨kvs,_,_,rfl,k5,hg5,hgi',by lia,sm5⟩
   | true =>
    refine Z6 ?_;refine⟨_,rfl,_,rfl,l,us5,c,.ref ta,rfl,rfl,ZG.of hl5,Yl hu,ta,_,3,u4,rfl,rfl,ZP.of hta,rfl,rfl,_,rfl,?_⟩;cases hn:t.named with
    | none =>
     rw[hn] at h4;cases h4;refine Zp ?_;exact⟨kvs,_,_,rfl,k5,hg5,by show WM kvs (R.2 ++ []);rw[yL];exact hgi',by lia,sm5⟩
    | some o =>
     rw[hn] at h4;obtain⟨oc,on⟩:=o;obtain⟨d,bs,rfl,hb,⟨y1,r1,rfl,e1,⟨y2,r2,rfl,e2,e3⟩⟩⟩:=h4;cases e1;cases e2;cases e3;refine Z6 ?_;refine⟨_,rfl,_,rfl,_,rfl,l,us5,c,.ref ta,rfl,rfl,ZG.of hl5,Yl hu,ta,_,3,.ref d,rfl,rfl,ZP.of hta,rfl,?_⟩;refine⟨g,_,rfl,WB.t hg5 (k:=Z8 oc on) hb (by lia),?_⟩;refine⟨_,_,_,rfl,by rw[Zc hgst.symm];exact k5,Zg,hgi'.put,xW (Vw _ _ _) (by lia),?_⟩;intro b' o e;rw[Zc (fun z=>by rw[z,hg] at e;cases e)];exact sm5 b' o e
  ·rintro U H' ⟨kvs,v3,v5,rfl,hst',hg',hgi',hkl',sm'⟩;rw[Nat.sub_self] at hst';exact⟨_,rfl,k st H' hstH hst' sm'⟩
inductive UN(vs:aG)(H:Hp)(Q:VK)(z3:XK):Prop
 |mk(l) (ss)(_:vs=[.ref l])(_:ZO H ss l)(_:(∀t∈ss,V7 t))(_:ss.length<=1000)(_:∀l2 H',H l2=none->H' l2=some (.lst ((Yo [] 0 ss).1.map V.bl))->ZC H H'->Q (.ref l2) H')
abbrev Ke:Stmt:=top 59
theorem cC(Zhg:YC K mg "settled" Ke)(T:Txt mg)(Z0m:Fn P w K mg base "settled_with" ["suits","more"] 3 UX):Fn P w K mg base "settled" ["suits"] 4 UN:=by
 refine Zhg.fq ["suits"] fun H vs Q E hr h=>?_;obtain⟨l,ss,rfl,hsu,hok,hlen,k⟩:=h;refine⟨rfl,_,(Ze (Zm (Zk Z0m (Za Q0 (Za (Ym Zb) Zb))))),?_⟩;refine⟨_,rfl,aB rfl,fun q hq=>?_⟩;have S:=ZC.new (o:=.lst []) hq;exact⟨l,q,ss,[],[],rfl,hsu.mono S,hok,hlen,Zg,rfl,xZ _,fun l2 H' h1 h2 h3=>k l2 H' (S.free h1) h2 (S.trans h3)⟩
def Ys(cs:List Nat):List V:=cs.map fun(c:Nat)=>V.int (c:Int)
def nmd(ss:List ZW)(c:Int)(n:Str)(j:Nat):Bool:=match ss[j]? with
 | some u=>decide (u.named=some (c,n))
 | none=>false
theorem nmd_iff:nmd ss c n j=true↔∃u,ss[j]?=some u/\u.named=some (c,n):=by
 unfold nmd;cases e:ss[j]? with
 | none=>exact⟨(fun z=>nomatch z),(fun⟨u,z,_⟩=>nomatch z)⟩
 | some u=>exact⟨fun z=>⟨u,rfl,yU z⟩,fun⟨v,z,q⟩=>by cases z;exact xN q⟩
def Y5(ss:List ZW)(c:Int)(n:Str)(cs:List Nat):List Nat:=cs.filter (nmd ss c n)
theorem Cb{ss:List ZW}{c:Int}{n:Str}{cs:List Nat}{i j:Nat}(h:cs[i]?=some j):Y5 ss c n (cs.take (i+1))=Y5 ss c n (cs.take i)++(if nmd ss c n j then [j] else []):=by
 unfold Y5;rw[yG,h,wQ];cases e:nmd ss c n j<;>simp[e]
theorem Xe(ss:List ZW)(c:Int)(n:Str)(cs:List Nat):(Y5 ss c n cs).length<=cs.length:=zI _ _
def Ll(H:Hp)(g:dN)(ss:List ZW)(cs:List Nat):Prop:=∃kvs:Ji,H g=some (.dT kvs)/\kvs.length<=cs.length/\(∀p∈kvs,∃c n,p.1=Z8 c n/\Y5 ss c n cs ≠ [])/\∀c n,(Zr kvs (Z8 c n)=none/\Y5 ss c n cs=[])\/∃a,Zr kvs (Z8 c n)=some (.ref a)/\H a=some (.lst (Ys (Y5 ss c n cs)))
structure BN (H H':Hp) (g:dN) (ss:List ZW) (cs:List Nat) (kvs:Ji):Prop where
 at_:H' g=some (.dT kvs)
 len:kvs.length<=cs.length
 keys:∀p∈kvs,∃c n,p.1=Z8 c n/\Y5 ss c n cs ≠ []
 no:∀c n,Zr kvs (Z8 c n)=none->Y5 ss c n cs=[]
 yes:∀c n v,Zr kvs (Z8 c n)=some v->∃a,v=.ref a/\H a=none/\a≠g/\H' a=some (.lst (Ys (Y5 ss c n cs)))
 one:∀c n c' n' a,Zr kvs (Z8 c n)=some (.ref a)->Zr kvs (Z8 c' n')=some (.ref a)->(c,n)=(c',n')
inductive VZ(vs:aG)(H:Hp)(Q:VK)(z3:XK):Prop
 |mk(l lc) (ss) (cs)(_:vs=[.ref l,.ref lc])(_:ZO H ss l)(_:cs.length<=1000)(_:(∀j∈cs,j<ss.length))(_:H lc=some (.lst (Ys cs)))(_:∀g H',H g=none->Ll H' g ss cs->(∀kvs c n a,H' g=some (.dT kvs)->Zr kvs (Z8 c n)=some (.ref a)->H a=none)->ZC H H'->Q (.ref g) H')
theorem E2(e:Z8 c n=Z8 c' n'):(c,n)=(c',n'):=by
 unfold Z8 at e;injection e with e1 e2
 injection e2 with e2 _
 cases e1;cases e2;rfl
theorem Lr{l:Ji}{k:List ZM}{v:V}{p:List ZM×V}(h:p∈Z2 l k v):p=(k,v)\/p∈l:=by
 unfold Z2 at h;split at h
 ·grind
 ·grind
abbrev Kc:Stmt:=top 67
theorem So(Zhh:YC K mg "naming" Kc)(T:Txt mg)(C3:∃t,mg "NAMED"=some (.int 3 t)):Fn P w K mg base "naming" ["suits","cases"] 1 VZ:=by
 obtain⟨t3,c_NAMED⟩:=C3;have r_NAMED:ZF (.int 3) (.int 3 t3):=⟨t3,rfl⟩;refine Zhh.fq ["suits","cases","named_by","case","oath"] fun H vs Q E hr h=>?_;obtain⟨l,lc,ss,cs,rfl,hsu,hlen,hcs,hlc,k⟩:=h;refine⟨rfl,_,(Zd (Zx 2 EY) (Zd (Wi PassesOwn.never rfl (Y7 Q5) (Yv 3) (Zd (Zx 4 (Zh Zv (Zh Z3 Q0 Q7) (Yg c_NAMED r_NAMED))) (Ze (Zn (Zt JB Q8 Y3 (Zu _)) (Ze (Zo (Wd aD aE aF Wk (LD hr Q6 Q8 (Ym Zb)) (Za Q7 Zb)))) Zq)))) (Ze (Zm Q6)))),?_⟩;have hz:=aC
 refine fun g hg=>?_;have S0:ZC H (upd H g (.dT [])):=ZC.new hg;refine⟨_,rfl,lc,rfl,⟨_,ZG.of (S0 _ _ hlc)⟩,?_⟩;refine Ue (Ys cs) (fun i U H'=>∃(kvs:Ji)(v3 v4:Option V),U=[some (.ref l),some (.ref lc),some (.ref g),v3,v4]/\BN H H' g ss (cs.take i) kvs/\ZC H H') ⟨[],none,none,rfl,⟨Zg,xD _,(fun p hp=>nomatch hp),fun c n _=>rfl,(fun c n v e=>nomatch e),(fun c n c' n' a e=>nomatch e)⟩,S0⟩ (fun i U H' _ ⟨_,_,_,_,_,e⟩=>ZG.of (e _ _ hlc)) ?_ ?_
 ·rintro i x U H' hx ⟨kvs,v3,v4,rfl,I,sm⟩;have hi:i<cs.length:=by
   have:=(xE.mp hx).1;unfold Ys at this;rw[xB] at this;exact this
  obtain⟨j,hcj,ex⟩:∃j,cs[i]?=some j/\x=.int (j:Int):=by
   unfold Ys at hx;rw[xJ] at hx;obtain⟨j,h1,h2⟩:=yD.mp hx;exact⟨j,h1,h2.symm⟩
  subst ex;have tl:(cs.take i).length=i:=by rw[xV];lia
  have tl1:(cs.take (i+1)).length=i+1:=by rw[xV];lia
  have more:∀c n,Y5 ss c n (cs.take i)≠ []->Y5 ss c n (cs.take (i+1))≠ []:=fun c n h z=>by
   rw[Cb hcj] at z;exact h (List.append_eq_nil_iff.mp z).1
  have hlen':=I.len;rw[tl] at hlen';obtain⟨t,ht⟩:∃t,ss[j]?=some t:=⟨_,xC (hcs j (xO hcj))⟩;obtain⟨us,hl',hrep⟩:=hsu.mono sm;obtain⟨ta,u1,u2,u4,hu,hta,_,_,h4⟩:=ZO.get (l:=l) hrep ht;refine⟨_,rfl,_,rfl,l,us,j,.ref ta,rfl,rfl,ZG.of hl',Yl hu,ta,_,3,u4,rfl,rfl,ZP.of hta,rfl,?_⟩;cases hn:t.named with
  | none =>
   rw[hn] at h4;cases h4;refine⟨_,rfl,rfl,_,rfl,Wc (fun z=>absurd rfl z) (fun _=>?_)⟩;have same:∀c n,Y5 ss c n (cs.take (i+1))=Y5 ss c n (cs.take i):=fun c n=>by
    rw[Cb hcj];have:nmd ss c n j=false:=by
     cases e:nmd ss c n j with
     | false=>rfl
     | true=>obtain⟨u,q1,q2⟩:=nmd_iff.mp e;rw[ht] at q1;cases q1;rw[hn] at q2;cases q2
    rw[this,if_neg xI,yL]
   exact⟨kvs,_,_,rfl,⟨I.at_,by lia,fun p hp=>let ⟨c,n,e,h⟩:=I.keys p hp;⟨c,n,e,more c n h⟩,fun c n e=>by rw[same];exact I.no c n e,fun c n v e=>by rw[same];exact I.yes c n v e,I.one⟩,sm⟩
  | some o =>
   rw[hn] at h4;obtain⟨c0,n0⟩:=o;obtain⟨b,bs,rfl,hb,⟨y1,r1,rfl,e1,⟨y2,r2,rfl,e2,e3⟩⟩⟩:=h4;cases e1;cases e2;cases e3;have mine:Y5 ss c0 n0 (cs.take (i+1))=Y5 ss c0 n0 (cs.take i)++[j]:=by rw[Cb hcj,nmd_iff.mpr ⟨t,ht,hn⟩,if_pos rfl]
   have same:∀c n,(c,n)≠(c0,n0)->Y5 ss c n (cs.take (i+1))=Y5 ss c n (cs.take i):=fun c n hne=>by
    rw[Cb hcj];have:nmd ss c n j=false:=by
     cases e:nmd ss c n j with
     | false=>rfl
     | true=>obtain⟨u,q1,q2⟩:=nmd_iff.mp e;rw[ht] at q1;cases q1;rw[hn] at q2;exact absurd (Option.some.inj q2).symm hne
    rw[this,if_neg xI,yL]
   have snocV:Ys (Y5 ss c0 n0 (cs.take i))++[V.int j]=Ys (Y5 ss c0 n0 (cs.take (i+1))):=by rw[mine];unfold Ys;rw[xP];rfl
   have jl:=Xe ss c0 n0 (cs.take i);rw[tl] at jl;refine⟨_,rfl,rfl,_,rfl,Wc (fun _=>?_) (fun z=>nomatch z)⟩;refine⟨_,rfl,g,rfl,.inr ⟨kvs,.inl I.at_⟩,_,rfl,aB rfl,fun q hq=>?_⟩;have Sq:=ZC.new (o:=.lst []) hq;have kq:(upd H' q (.lst [])) q=some (.lst []):=Zg;have gq:q≠g:=fun z=>by rw[z,I.at_] at hq;cases hq
   have hqH:H q=none:=sm.free hq;generalize (upd H' q (.lst []))=H1 at Sq kq ⊢;have smq:=sm.trans Sq;refine⟨kvs,Z8 c0 n0,b,Sq _ _ I.at_,rfl,Sq _ _ hb,by lia,fun v hv=>?_,fun hv=>?_⟩
   ·obtain⟨a,rfl,haf,hag,ha⟩:=I.yes c0 n0 v hv;have ha1:=Sq _ _ ha;refine⟨.inl ⟨rfl,_,ZG.of ha1⟩,_,rfl,a,_,_,rfl,rfl,ha1,by unfold Ys;rw[xB];lia,?_⟩;refine⟨kvs,_,_,rfl,⟨?_,by lia,fun p hp=>let ⟨c,n,e,h⟩:=I.keys p hp;⟨c,n,e,more c n h⟩,fun c n e=>?_,fun c n v e=>?_,I.one⟩,?_⟩
    ·rw[Zc hag.symm];exact Sq _ _ I.at_
    ·rw[same c n (fun z=>by cases z;rw[hv] at e;cases e)];exact I.no c n e
    ·obtain⟨a',rfl,h1,h2,h3⟩:=I.yes c n v e;refine⟨a',rfl,h1,h2,?_⟩
     by_cases hk:(c,n)=(c0,n0)
     ·cases hk;rw[hv] at e;cases e;rw[Zg,snocV]
     ·rw[same c n hk,Zc (fun z=>hk (by rw[z] at e;exact I.one c n c0 n0 a e hv))];exact Sq _ _ h3
    ·intro b' o e;rw[Zc (fun z=>by rw[z,haf] at e;cases e)];exact smq b' o e
   ·have hg2:(upd H1 g (.dT (Z2 kvs (Z8 c0 n0) (.ref q)))) q=some (.lst []):=by rw[Zc gq];exact kq
    refine⟨.inl ⟨rfl,_,ZG.of hg2⟩,_,rfl,q,_,_,rfl,rfl,hg2,by show 0<sizeLine;lia,?_⟩;have j0:=I.no c0 n0 hv;refine⟨Z2 kvs (Z8 c0 n0) (.ref q),_,_,rfl,⟨?_,xW (Vw _ _ _) (by lia),fun p hp=>?_,fun c n e=>?_,fun c n v e=>?_,fun c n c' n' a e e'=>?_⟩,?_⟩
    ·rw[Zc gq.symm,Zg]
    ·rcases Lr hp with rfl | hp
     ·exact⟨c0,n0,rfl,by rw[mine];simp⟩
     ·obtain⟨c,n,e,h⟩:=I.keys p hp;exact⟨c,n,e,more c n h⟩
    ·rw[Uq] at e
     by_cases hk:Z8 c n=Z8 c0 n0
     ·rw[if_pos hk] at e;cases e
     ·rw[if_neg hk] at e;rw[same c n (fun z=>hk (by cases z;rfl))];exact I.no c n e
    ·rw[Uq] at e
     by_cases hk:Z8 c n=Z8 c0 n0
     ·rw[if_pos hk] at e;cases e;have hk':=E2 hk;cases hk';exact⟨q,rfl,hqH,gq,by rw[Zg,mine,j0];rfl⟩
     ·rw[if_neg hk] at e;obtain⟨a',rfl,h1,h2,h3⟩:=I.yes c n v e;refine⟨a',rfl,h1,h2,?_⟩;have aq:a'≠q:=fun z=>by rw[z,hq] at h3;cases h3
      rw[same c n (fun z=>hk (by cases z;rfl)),Zc aq,Zc h2];exact Sq _ _ h3
    ·rw[Uq] at e e';have no:∀c n,Zr kvs (Z8 c n)=some (.ref q)->False:=fun c n z=>by
      obtain⟨a',z1,_,_,h3⟩:=I.yes c n _ z;cases z1;rw[hq] at h3;cases h3
     by_cases hk:Z8 c n=Z8 c0 n0
     ·by_cases hk':Z8 c' n'=Z8 c0 n0
      ·exact(E2 hk).trans (E2 hk').symm
      ·rw[if_pos hk] at e;rw[if_neg hk'] at e';cases e;exact(no _ _ e').elim
     ·rw[if_neg hk] at e
      by_cases hk':Z8 c' n'=Z8 c0 n0
      ·rw[if_pos hk'] at e';cases e';exact(no _ _ e).elim
      ·rw[if_neg hk'] at e';exact I.one _ _ _ _ _ e e'
    ·intro b' o e;rw[Zc (fun z=>by rw[z,hqH] at e;cases e),Zc (fun z=>by rw[z,hg] at e;cases e)];exact smq b' o e
 ·rintro U H' ⟨kvs,v3,v4,rfl,I,sm⟩;have el:(Ys cs).length=cs.length:=by unfold Ys;rw[xB]
  rw[el,yJ] at I;refine⟨_,rfl,k g H' hg ⟨kvs,I.at_,I.len,I.keys,fun c n=>?_⟩ (fun kvs2 c n a e1 e2=>?_) sm⟩
  ·cases e:Zr kvs (Z8 c n) with
   | none=>exact .inl ⟨rfl,I.no c n e⟩
   | some v =>
    obtain⟨a,rfl,_,_,h3⟩:=I.yes c n v e;exact .inr ⟨a,rfl,h3⟩
  ·rw[I.at_] at e1;cases e1;obtain⟨a',z,hz',_,_⟩:=I.yes c n _ e2;cases z;exact hz'
def stT(bs:List Bool)(i:Nat):List Nat:=(List.range i).filter fun j=>bs.getD j false
def stL(bs:List Bool):List Nat:=stT bs bs.length
theorem SV{bs:List Bool}{i:Nat}{b:Bool}(h:bs[i]?=some b):stT bs (i+1)=stT bs i++(if b then [i] else []):=by
 unfold stT;rw[wP,wQ];cases b<;>simp[h]
theorem EZ(bs:List Bool)(i:Nat):(stT bs i).length<=i:=xW (zI _ _) (by rw[zO];exact xD _)
theorem stL_mem:j∈stL bs↔bs[j]?=some true:=by
 unfold stL stT;rw[wR,yR,xL];constructor
 ·grind
 ·intro h;exact⟨(xE.mp h).1,by rw[h];rfl⟩
abbrev Wt(ss:List ZW):List Bool:=(Yo [] 0 ss).1
def Uu(ss:List ZW)(c:Int)(n:Str):List Nat:=Y5 ss c n (stL (Wt ss))
theorem brk9_ne{ss:List ZW}{c:Int}{n:Str}:Uu ss c n ≠ []↔∃(j:Nat)(u:ZW),ss[j]?=some u/\(Wt ss)[j]?=some true/\u.named=some (c,n):=by
 unfold Uu Y5;rw[← List.isEmpty_eq_false_iff,List.isEmpty_eq_false_iff_exists_mem];constructor
 ·rintro⟨j,h⟩;obtain⟨h1,h2⟩:=wR.mp h;obtain⟨u,a,b⟩:=nmd_iff.mp h2;exact⟨j,u,a,stL_mem.mp h1,b⟩
 ·rintro⟨j,u,a,b,c⟩;exact⟨j,wR.mpr ⟨stL_mem.mpr b,nmd_iff.mpr ⟨u,a,c⟩⟩⟩
inductive YV(vs:aG)(H:Hp)(Q:VK)(z3:XK):Prop
 |mk(l) (ss)(_:vs=[.ref l])(_:ZO H ss l)(_:(∀t∈ss,V7 t))(_:ss.length<=1000)(_:∀g H',H g=none->Ll H' g ss (stL (Wt ss))->(∀kvs c n a,H' g=some (.dT kvs)->Zr kvs (Z8 c n)=some (.ref a)->H a=none)->ZC H H'->Q (.ref g) H')
abbrev GO:Stmt:=top 66
theorem MQ(Zhi:YC K mg "breaking" GO)(T:Txt mg)(Zhj:Fn P w K mg base "settled" ["suits"] 4 UN)(Z0p:Fn P w K mg base "naming" ["suits","cases"] 1 VZ) :
  Fn P w K mg base "breaking" ["suits"] 5 YV:=by
 refine Zhi.fq ["suits"] fun H vs Q E hr h=>?_;obtain⟨l,ss,rfl,hsu,hok,hlen,k⟩:=h
 refine⟨rfl,_,(Ze (Zm (Zk Z0p (Za Q0 (Za (Wv (locs:=["case","stands"]) (fr:=[]) ⟨rfl,aA,aA,aA,aA,aA⟩ .nil rfl (Dz T.enumerate (Za (Zk Zhj (Za Q0 Zb)) Zb)) ⟨fun _ _ _ _ _ _=>by
  have cnd:(inN ["case","stands"] []).Nodup:=aA
  exact⟨(Ai 2 (by rfl) (Yp (Yw 0 cnd) (Yp (Yw 1 cnd) Vy))),(JK (Yu (Yj 1))),(Yj 0)⟩⟩) Zb))))),?_⟩
 refine⟨_,rfl,_,rfl,l,ss,rfl,hsu,hok,hlen,fun tl H1 h1 h2 sm1=>?_⟩;have hbl:(Wt ss).length=ss.length:=Cu [] ss 0;refine⟨tl,_,rfl,ZG.of h2,?_⟩;refine NV ((Wt ss).map V.bl) (fun i ys H'=>ZC H1 H'/\ys=Ys (stT (Wt ss) i)) ⟨fun _ _ e=>e,rfl⟩ (by rw[xB];lia) (fun i ys H' _ ⟨e,_⟩=>ZG.of (e _ _ h2)) ?_ ?_ ?_
 ·rintro i ys H' ⟨_,rfl⟩;unfold Ys;rw[xB];exact EZ _ _
 ·rintro i x p ys H' hx ⟨sm,rfl⟩ hp ls hls;obtain⟨w1,w2,rfl⟩:=AJ hls;refine nw (o:=.tup [.int i,x]) hp fun H2 Sp kp=>?_;obtain⟨b,hb,rfl⟩:∃b,(Wt ss)[i]?=some b/\x=.bl b:=by grind
  refine⟨p,_,rfl,ZP.of kp,rfl,_,_,rfl,_,_,rfl,rfl,⟨[_,_],rfl,rfl⟩,?_⟩;refine⟨_,rfl,b,rfl,?_⟩;have e:=SV hb;cases b with
  | true =>
   refine Z6 ?_;refine⟨_,rfl,sm.trans Sp,?_⟩;rw[e];unfold Ys;rw[xP];rfl
  | false =>
   refine Zp ?_;exact⟨sm.trans Sp,by rw[e];simp⟩
 ·rintro ys H' ⟨sm,rfl⟩ lc hlc;rw[xB];have Sc:=ZC.new (o:=.lst (Ys (stL (Wt ss)))) hlc;have S:=(sm1.trans sm).trans Sc;have hl9:=EZ (Wt ss) (Wt ss).length;refine⟨l,lc,ss,stL (Wt ss),rfl,hsu.mono S,by unfold stL;lia,fun j hj=>?_,Zg,fun g H2 hg hnb hfr sm2=>?_⟩
  ·rw[← hbl];exact(xE.mp (stL_mem.mp hj)).1
  ·exact k g H2 (S.free hg) hnb (fun kvs c n a e1 e2=>S.free (hfr kvs c n a e1 e2)) (S.trans sm2)
section
variable{K:uFg}{C CM:dN}
def fz(xs:dI)(H:Hp):Hp:=fun b=>if b∈xs then H b else match H b with
 | some (.tup t)=>some (.tup t)
 | _=>none
theorem HY(h:fz xs H b=some o):H b=some o/\(b∈xs\/∃t,o=.tup t):=by
 unfold fz at h;split at h
 ·rename_i m;exact⟨h,.inl m⟩
 ·split at h
  ·rename_i t e;cases h;exact⟨e,.inr ⟨t,rfl⟩⟩
  ·cases h
theorem U1(m:b∈xs)(h:H b=some o):fz xs H b=some o:=by unfold fz;rw[if_pos m];exact h
theorem Wz(h:H b=some (.tup t)):fz xs H b=some (.tup t):=by
 unfold fz;split
 ·exact h
 ·rw[h]
theorem Xk:ZC (fz xs H) H:=fun _ _ e=>(HY e).1
theorem Aj(kt:V6 H H')(kx:∀x∈xs,∀o,H x=some o->H' x=some o)(s:∀x∈xs,x∈xs'):ZC (fz xs H) (fz xs' H'):=fun b o e=>by
 obtain⟨e,m | ⟨t,rfl⟩⟩:=HY e
 ·exact U1 (s b m) (kx b m o e)
 ·exact Wz (kt b t e)
def AD(H:Hp)(xs:dI)(l:dN)(ds:List D):Prop:=∃vs,H l=some (.lst vs)/\ZK (fz xs H) ds vs
theorem AD.mono(h:AD H xs l ds)(k:∀o,H l=some o->H' l=some o)(s:ZC (fz xs H) (fz xs' H')):AD H' xs' l ds :=
 let ⟨vs,a,b⟩:=h;⟨vs,k _ a,b.mono' s⟩
theorem AD.get(h:AD H xs l ds):∃vs,H l=some (.lst vs)/\ZK H ds vs/\vs.length=ds.length :=
 let ⟨vs,a,b⟩:=h;⟨vs,a,b.mono' Xk,b.length⟩
structure ML where
 p:dN
 L:FL
 ld:dN
 lb:dN
 lh:dN
 lq:dN
 lt:dN
 ly:dN
 lv:dN
 dp:dN
def Y6(M:ML):List (Str×V):=Zj "penances" (.ref M.dp) (Zj "verdicts" (.ref M.lv) (Zj "trial_days" (.ref M.ly) (Zj "trials" (.ref M.lt) (Zj "debts" (.ref M.lq) (Zj "happenings" (.ref M.lh) (Zj "bringings" (.ref M.lb) (Zj "folk" (.ref M.L.p) (Zj "deeds" (.ref M.ld) []))))))))
local macro_rules | `(tactic| walk_at "mf")=>`(tactic| (unfold Y6;repeat (first | rw[Yt,if_pos (by decide +kernel)] | rw[Yt,if_neg (by decide +kernel)])))
theorem JR(M:ML):(Y6 M).lookup ("deeds":Str)=some (.ref M.ld):=by walk_at "mf"
theorem V0(M:ML):(Y6 M).lookup ("folk":Str)=some (.ref M.L.p):=by walk_at "mf"
theorem Bb(M:ML):(Y6 M).lookup ("bringings":Str)=some (.ref M.lb):=by walk_at "mf"
theorem Fe(M:ML):(Y6 M).lookup ("happenings":Str)=some (.ref M.lh):=by walk_at "mf"
theorem GY(M:ML):(Y6 M).lookup ("debts":Str)=some (.ref M.lq):=by walk_at "mf"
theorem Uh(M:ML):(Y6 M).lookup ("trials":Str)=some (.ref M.lt):=by walk_at "mf"
theorem IV(M:ML):(Y6 M).lookup ("trial_days":Str)=some (.ref M.ly):=by walk_at "mf"
theorem DR(M:ML):(Y6 M).lookup ("verdicts":Str)=some (.ref M.lv):=by walk_at "mf"
theorem FZ(M:ML):(Y6 M).lookup ("penances":Str)=some (.ref M.dp):=by walk_at "mf"
def ML.setv(M:ML)(l:dN):ML:={M with lv:=l }
theorem Mw(M:ML)(l:dN):Zj "verdicts" (.ref l) (Y6 M)=Y6 (M.setv l):=by
 obtain⟨p,L,ld,lb,lh,lq,lt,ly,lv,dp⟩:=M;rfl
def ET(m:Str):Prop:=¬m="penances" /\ ¬m="verdicts" /\ ¬m="trial_days" /\ ¬m="trials" /\ ¬m="debts" /\ ¬m="happenings" /\ ¬m="bringings" /\ ¬m="folk" /\ ¬m="deeds"
instance (m:Str):Decidable (ET m):=by unfold ET;exact inferInstance
theorem Z4(M:ML)(h:ET m:=by decide +kernel):(Y6 M).lookup m=none:=by
 obtain⟨a1,a2,a3,a4,a5,a6,a7,a8,a9⟩:=h;unfold Y6;rw[Yt,if_neg a1,Yt,if_neg a2,Yt,if_neg a3,Yt,if_neg a4,Yt,if_neg a5,Yt,if_neg a6,Yt,if_neg a7,Yt,if_neg a8,Yt,if_neg a9];rfl
abbrev Rc:=VC
structure ZJ (K:uFg) (C:dN):Prop where
 cl:Tg K C
 nd:ZV K C "deeds"
 nf:ZV K C "folk"
 nb:ZV K C "bringings"
 nh:ZV K C "happenings"
 nq:ZV K C "debts"
 nt:ZV K C "trials"
 ny:ZV K C "trial_days"
 nv:ZV K C "verdicts"
 np:ZV K C "penances"
structure Mo where
 deeds:List D
 brs:List D
 haps:List (List D)
 debts:List D
 trials:List ZW
 days:List Int
 verd:List Bool
 pen:Str->Option Int
 npen:Nat
def ML.ls(M:ML):List dN:=[M.ld,M.lb,M.lq,M.lt,M.ly,M.lv]
def Mo.at_(m:Mo)(M:ML)(qs:dI):List (dN×List D) :=
 (M.ld,m.deeds)::(M.lb,m.brs)::(M.lq,m.debts)::(M.lt,m.trials.map Y0)::(M.ly,m.days.map D.int)::(M.lv,m.verd.map D.bl)::qs.zip m.haps
structure ZD (C CM:dN) (H:Hp) (M:ML) (ds:List ZQ) (wa:dH) (xs:dI) (m:Mo) (qs:dI):Prop where
 ob:∃dx,H M.p=some (.ins CM dx (Y6 M))
 fk:Fk C H M.L ds wa
 ls:∀p∈m.at_ M qs,AD H xs p.1 p.2
 hl:H M.lh=some (.lst (qs.map V.ref))
 hn:qs.length=m.haps.length
 pn:∃kvs:List (ZM×V),H M.dp=some (.dK kvs)/\kvs.length<=m.npen/\∀n:Str,Zr kvs (.inr n)=(m.pen n).map V.int
 nl:(M.lh::(M.ls++qs)).Nodup
 nx:∀x∈xs,x∉M.lh::(M.ls++qs)
 xl:∀x∈xs,∃vs,H x=some (.lst vs)
 np:M.p≠M.L.p
 nd:¬own M.L ds wa M.dp
def mo(M:ML)(ds:List ZQ)(wa:dH)(xs qs:dI)(b:dN):Prop:=b=M.p\/b=M.dp\/b∈M.lh::(M.ls++qs)\/b∈xs\/own M.L ds wa b
variable{M:ML}{qs:dI}{m:Mo}
theorem CJ{p:dN×List D}(h:p∈m.at_ M qs):p.1∈M.ls++qs:=by
 unfold Mo.at_ at h;simp only[xF] at h;rcases h with rfl | rfl | rfl | rfl | rfl | rfl | h
 iterate 6 (refine zL _ ?_;unfold ML.ls;simp only[xF,true_or,or_true])
 exact xM _ (zQ h).1
theorem ZD.keep(h:ZD C CM H M ds wa xs m qs)(k:∀b o,mo M ds wa xs qs b->H b=some o->H' b=some o)(kt:V6 H H'):ZD C CM H' M ds wa xs m qs:=by
 obtain⟨⟨dx,ob⟩,fk,ls,hl,hn,⟨kvs,p1,p2,p3⟩,nl,nx,xl,np,nd⟩:=h;have s:=Aj (xs:=xs) (xs':=xs) kt (fun x hx o e=>k x o (.inr (.inr (.inr (.inl hx)))) e) (fun _ z=>z);exact⟨⟨dx,k _ _ (.inl rfl) ob⟩,fk.at fun b o hb e=>k b o (.inr (.inr (.inr (.inr hb)))) e,fun p hp=>(ls p hp).mono (fun o e=>k _ o (.inr (.inr (.inl (yC _ (CJ hp))))) e) s, k _ _ (.inr (.inr (.inl xU))) hl,hn,⟨kvs,k _ _ (.inr (.inl rfl)) p1,p2,p3⟩,nl,nx,fun x hx=>let ⟨vs,e⟩:=xl x hx;⟨vs,k _ _ (.inr (.inr (.inr (.inl hx)))) e⟩,np,nd⟩
theorem ZD.same(h:ZD C CM H M ds wa xs m qs)(k:ZC H H'):ZD C CM H' M ds wa xs m qs:=h.keep (fun b o _ e=>k b o e) fun _ _ e=>k _ _ e
theorem ZD.x(h:ZD C CM H M ds wa xs m qs)(hs:H s=some (.lst ys))(hn:¬mo M ds wa xs qs s)(k:ZI s H H'):ZD C CM H' M ds wa xs m qs :=
 h.keep (fun b o hb e=>k b o (fun z=>hn (z▸hb)) e) fun b ys e=>k b _ (fun z=>by rw[z,hs] at e;cases e) e
theorem ZD.nown(h:ZD C CM H M ds wa xs m qs)(e:H b=some (.lst ys)):¬own M.L ds wa b:=fun z=>by
 obtain⟨o,e',n1,_⟩:=h.fk.there z;rw[e] at e';cases e';exact n1 ys rfl
theorem ZD.pown(h:ZD C CM H M ds wa xs m qs):¬own M.L ds wa M.p:=fun z=>by
 obtain⟨dx,ob⟩:=h.ob;obtain⟨⟨_,⟨k1,c1,_⟩,⟨k2,w1,_⟩,⟨k3,d1,_⟩,⟨k4,h1,_⟩,_⟩,⟨⟨k5,x1,x2,x3⟩,_⟩,_⟩:=h.fk;rcases z with z | z | z | z | z | ⟨n,l,e,z⟩
 ·exact h.np z
 ·rw[z,c1] at ob;cases ob
 ·rw[z,w1] at ob;cases ob
 ·rw[z,d1] at ob;cases ob
 ·rw[z,h1] at ob;cases ob
 ·rw[z,(x3 n l e).2.1] at ob;cases ob
theorem ZD.folk(h:ZD C CM H M ds wa xs m qs)(F:Fk C H' M.L ds' wa')(t:UL M.L ds wa H H')(f:Ea M.L ds wa ds' wa' H):ZD C CM H' M ds' wa' xs m qs:=by
 have T:=UL.lt h.fk t;have pw:=h.pown;obtain⟨⟨dx,ob⟩,fk,ls,hl,hn,⟨kvs,p1,p2,p3⟩,nl,nx,xl,np,nd⟩:=h;have s:=Aj (xs:=xs) (xs':=xs) T.2 (fun x hx o e=>by obtain⟨vs,e'⟩:=xl x hx;rw[e] at e';cases e';exact T.1 _ _ e) (fun _ z=>z)
 exact⟨⟨dx,t _ _ ob pw⟩,F,fun p hp=>by
  obtain⟨vs,a,b⟩:=ls p hp
  exact⟨vs,T.1 _ _ a,b.mono' s⟩,T.1 _ _ hl,hn,⟨kvs,t _ _ p1 nd,p2,p3⟩,nl,nx,fun x hx=>let ⟨vs,e⟩:=xl x hx;⟨vs,T.1 _ _ e⟩,np,fun z=>(f _ z).elim nd fun z=>by rw[p1] at z;cases z⟩
end
section
variable{M:ML}{qs:dI}
theorem Dg{l:dN}(h:l∈M.ls++qs):l∈M.lh::(M.ls++qs):=yC _ h
theorem ZD.lst(h:ZD C CM H M ds wa xs m qs)(hl:l∈M.lh::(M.ls++qs)):∃ys,H l=some (.lst ys):=by
 rcases xF.mp hl with rfl | hl
 ·exact⟨_,h.hl⟩
 have:∃p∈m.at_ M qs,p.1=l:=by
  rcases xR.mp hl with z | z
  ·unfold ML.ls at z;simp only[xF,yE,or_false] at z;unfold Mo.at_;rcases z with rfl | rfl | rfl | rfl | rfl | rfl
   ·exact⟨(M.ld,m.deeds),by simp,rfl⟩
   ·exact⟨(M.lb,m.brs),by simp,rfl⟩
   ·exact⟨(M.lq,m.debts),by simp,rfl⟩
   ·exact⟨(M.lt,m.trials.map Y0),by simp,rfl⟩
   ·exact⟨(M.ly,m.days.map D.int),by simp,rfl⟩
   ·exact⟨(M.lv,m.verd.map D.bl),by simp,rfl⟩
  ·obtain⟨i,hi,e⟩:=List.getElem_of_mem z;have hi':i<m.haps.length:=h.hn▸hi;refine⟨(qs[i],m.haps[i]),?_,e⟩;have:(qs[i],m.haps[i])∈qs.zip m.haps:=xO (i:=i) (by rw[zG];exact⟨xC hi,xC hi'⟩);exact xM [(M.ld,m.deeds),(M.lb,m.brs),(M.lq,m.debts),(M.lt,m.trials.map Y0),(M.ly,m.days.map D.int),(M.lv,m.verd.map D.bl)] this
 obtain⟨p,hp,rfl⟩:=this;obtain⟨vs,e,_⟩:=h.ls p hp;exact⟨vs,e⟩
theorem ZD.there(h:ZD C CM H M ds wa xs m qs)(hb:mo M ds wa xs qs b):∃o,H b=some o:=by
 rcases hb with rfl | rfl | hb | hb | hb
 ·obtain⟨dx,e⟩:=h.ob;exact⟨_,e⟩
 ·obtain⟨kvs,e,_⟩:=h.pn;exact⟨_,e⟩
 ·obtain⟨ys,e⟩:=h.lst hb;exact⟨_,e⟩
 ·obtain⟨ys,e⟩:=h.xl b hb;exact⟨_,e⟩
 ·obtain⟨o,e,_⟩:=h.fk.there hb;exact⟨o,e⟩
theorem ZD.put(h:ZD C CM H M ds wa xs m qs)(hl:l∈M.ls++qs)(e1:m'.haps.length=m.haps.length)(e2:m'.pen=m.pen)(e3:m'.npen=m.npen)(k:∀p∈m'.at_ M qs,(p∈m.at_ M qs/\p.1≠l)\/(p.1=l/\ZK (fz xs H) p.2 zs)):ZD C CM (upd H l (.lst zs)) M ds wa xs m' qs:=by
 obtain⟨ys,e⟩:=h.lst (Dg hl);have nw:=h.nown e;have hh:=h;obtain⟨⟨dx,ob⟩,fk,ls,lh,hn,⟨kvs,p1,p2,p3⟩,nl,nx,xl,np,nd⟩:=h;have kt:V6 H (upd H l (.lst zs)):=CS e;have kx:∀x∈xs,x≠l:=fun x hx z=>nx x hx (z▸Dg hl);have s:ZC (fz xs H) (fz xs (upd H l (.lst zs))):=Aj kt (fun x hx o e=>by rw[Zc (kx x hx)];exact e) (fun _ z=>z);have nh:M.lh≠l:=fun z=>(yK.mp nl).1 (z▸hl)
 refine⟨⟨dx,by rw[Zc (fun z=>by rw[z,e] at ob;cases ob)];exact ob⟩,fk.at fun b o hb eb=>by rw[Zc (fun z:b=l=>nw (z▸hb))];exact eb,fun p hp=>?_,by rw[Zc nh];exact lh,by rw[e1];exact hn,
  ⟨kvs,by rw[Zc (fun z=>by rw[z,e] at p1;cases p1)];exact p1,by rw[e3];exact p2,by rw[e2];exact p3⟩,nl,nx,fun x hx=>?_,np,nd⟩
 ·rcases k p hp with⟨a,b⟩ | ⟨a,b⟩
  ·exact(ls p a).mono (fun o e=>by rw[Zc b];exact e) s
  ·exact⟨zs,by rw[a,Zg],b.mono' s⟩
 ·obtain⟨vs,e⟩:=xl x hx;exact⟨vs,by rw[Zc (kx x hx)];exact e⟩
theorem ZD.freeze(h:ZD C CM H M ds wa xs m qs)(e:H a=some (.lst vs))(n:a∉M.lh::(M.ls++qs)):ZD C CM H M ds wa (a::xs) m qs:=by
 obtain⟨ob,fk,ls,lh,hn,pn,nl,nx,xl,np,nd⟩:=h;have s:ZC (fz xs H) (fz (a::xs) H):=Aj (fun _ _ e=>e) (fun _ _ _ e=>e) (fun _ z=>yC _ z);exact⟨ob,fk,fun p hp=>(ls p hp).mono (fun _ e=>e) s,lh,hn,pn,nl,fun x hx=>(xF.mp hx).elim (fun z=>z▸n) (nx x),fun x hx=>(xF.mp hx).elim (fun z=>⟨vs,z▸e⟩) (xl x),np,nd⟩
theorem ZD.pena(h:ZD C CM H M ds wa xs m qs)(e:H M.dp=some (.dK kvs)) :
  ZD C CM (upd H M.dp (.dK (Z2 kvs (.inr n) (.int c)))) M ds wa xs {m with pen:=fun x=>if x=n then some c else m.pen x,npen:=m.npen+1 } qs:=by
 have hh:=h;obtain⟨⟨dx,ob⟩,fk,ls,lh,hn,⟨kvs',p1,p2,p3⟩,nl,nx,xl,np,nd⟩:=h;rw[e] at p1;cases p1;have ll:∀l∈M.lh::(M.ls++qs),l≠M.dp:=fun l hl z=>by obtain⟨ys,e'⟩:=hh.lst hl;rw[z,e] at e';cases e'
 have kt:V6 H (upd H M.dp (.dK (Z2 kvs (.inr n) (.int c)))):=fun b t eb=>by rw[Zc (fun z=>by rw[z,e] at eb;cases eb)];exact eb
 have kx:∀x∈xs,x≠M.dp:=fun x hx z=>by obtain⟨vs,e'⟩:=xl x hx;rw[z,e] at e';cases e'
 have s:ZC (fz xs H) (fz xs (upd H M.dp (.dK (Z2 kvs (.inr n) (.int c))))):=Aj kt (fun x hx o e=>by rw[Zc (kx x hx)];exact e) (fun _ z=>z)
 refine⟨⟨dx,by rw[Zc (fun z=>by rw[z,e] at ob;cases ob)];exact ob⟩,fk.at fun b o hb eb=>by rw[Zc (fun z:b=M.dp=>nd (z▸hb))];exact eb,fun p hp=>(ls p hp).mono (fun o e=>by rw[Zc (ll _ (Dg (CJ hp)))];exact e) s,
  by rw[Zc (ll _ xU)];exact lh,hn,⟨_,Zg,xW (Vw _ _ _) (by show kvs.length+1<=m.npen+1;lia),fun x=>?_⟩,nl,nx,fun x hx=>?_,np,nd⟩
 ·rw[Uq];show _=(if x=n then some c else m.pen x).map V.int
  by_cases z:x=n
  ·rw[if_pos (by rw[z]),if_pos z];rfl
  ·rw[if_neg (fun y=>z (by injection y)),if_neg z];exact p3 x
 ·obtain⟨vs,e'⟩:=xl x hx;exact⟨vs,by rw[Zc (kx x hx)];exact e'⟩
theorem ZD.setv(h:ZD C CM H M ds wa xs m qs)(e:H M.p=some (.ins CM dx (Y6 M)))(hl:H l=some (.lst (bs.map V.bl)))(n:¬mo M ds wa xs qs l) :
  ZD C CM (upd H M.p (.ins CM dx (Y6 (M.setv l)))) (M.setv l) ds wa xs {m with verd:=bs } qs:=by
 have hh:=h;obtain⟨_,fk,ls,lh,hn,⟨kvs,p1,p2,p3⟩,nl,nx,xl,np,nd⟩:=h;have ll:∀l∈M.lh::(M.ls++qs),l≠M.p:=fun l hl z=>by obtain⟨ys,e'⟩:=hh.lst hl;rw[z,e] at e';cases e'
 have nlp:l≠M.p:=fun z=>n (.inl z);have kt:V6 H (upd H M.p (.ins CM dx (Y6 (M.setv l)))):=fun b t eb=>by rw[Zc (fun z=>by rw[z,e] at eb;cases eb)];exact eb
 have kx:∀x∈xs,x≠M.p:=fun x hx z=>by obtain⟨vs,e'⟩:=xl x hx;rw[z,e] at e';cases e'
 have s:ZC (fz xs H) (fz xs (upd H M.p (.ins CM dx (Y6 (M.setv l))))):=Aj kt (fun x hx o e=>by rw[Zc (kx x hx)];exact e) (fun _ z=>z);have pw:=hh.pown;have rb:∀(H:Hp)(bs:List Bool),ZK H (bs.map D.bl) (bs.map V.bl):=fun H bs=>by
  induction bs with
  | nil=>rfl
  | cons b r ih=>exact⟨_,_,rfl,rfl,ih⟩
 have nm:∀x,x∈M.lh::((M.setv l).ls++qs)->x∈M.lh::(M.ls++qs)\/x=l:=fun x hx=>by
  simp only[ML.ls,ML.setv,xF,xR,yE,or_false] at hx ⊢;rcases hx with z | (z | z | z | z | z | z) | z<;>simp[z]
 have nlm:l∉M.lh::(M.ls++qs):=fun z=>n (.inr (.inr (.inl z)))
 refine⟨⟨dx,Zg⟩,fk.at fun b o hb eb=>by rw[Zc (fun z:b=M.p=>pw (z▸hb))];exact eb,fun p hp=>?_,by show (upd H M.p _) M.lh=_;rw[Zc (ll _ xU)];exact lh,hn,
  ⟨kvs,by show (upd H M.p _) M.dp=_;rw[Zc (fun z=>by rw[z,e] at p1;cases p1)];exact p1,p2,p3⟩,?_,fun x hx z=>(nm x z).elim (nx x hx) (fun z=>n (.inr (.inr (.inr (.inl (z▸hx)))))),fun x hx=>?_,np,nd⟩
 ·by_cases z:p=(l,bs.map D.bl)
  ·subst z;exact⟨_,by show (upd H M.p _) l=_;rw[Zc nlp];exact hl,rb _ bs⟩
  ·have hp':p∈m.at_ M qs:=by
    simp only[Mo.at_,ML.setv,xF] at hp ⊢;rcases hp with y | y | y | y | y | y | y
    ·exact .inl y
    ·exact .inr (.inl y)
    ·exact .inr (.inr (.inl y))
    ·exact .inr (.inr (.inr (.inl y)))
    ·exact .inr (.inr (.inr (.inr (.inl y))))
    ·exact absurd y z
    ·exact .inr (.inr (.inr (.inr (.inr (.inr y)))))
   exact(ls p hp').mono (fun o e=>by rw[Zc (ll _ (Dg (CJ hp')))];exact e) s
 ·simp only[ML.ls,ML.setv,yK,xF,xR,yH,zR,not_or] at nl nlm ⊢;obtain⟨⟨a1,a2,a3,a4,a5,a6,a7⟩,⟨b2,b3,b4,b5,b6,b7⟩,⟨c3,c4,c5,c6,c7⟩,⟨d4,d5,d6,d7⟩,⟨f5,f6,f7⟩,⟨g6,g7⟩,k7,k8⟩:=nl;obtain⟨m0,m1,m2,m3,m4,m5,m6,m7⟩:=nlm;exact⟨⟨a1,a2,a3,a4,a5,Ne.symm m0,a7⟩,⟨b2,b3,b4,b5,Ne.symm m1,b7⟩,⟨c3,c4,c5,Ne.symm m2,c7⟩,⟨d4,d5,Ne.symm m3,d7⟩,⟨f5,Ne.symm m4,f7⟩,⟨Ne.symm m5,g7⟩,m7,k8⟩
 ·obtain⟨vs,e'⟩:=xl x hx;exact⟨vs,by rw[Zc (kx x hx)];exact e'⟩
end
theorem ZD.rep(h:ZD C CM H M ds wa xs m qs)(hp:(l,c)∈m.at_ M qs)(e:H l=some (.lst vs)):ZK (fz xs H) c vs:=by
 obtain⟨vs',e',r⟩:=h.ls _ hp;rw[e] at e';cases e';exact r
theorem ZD.deed(h:ZD C CM H M ds wa xs m qs)(e:H M.ld=some (.lst vs))(hd:YF (fz xs H) d v):ZD C CM (upd H M.ld (.lst (vs ++ [v]))) M ds wa xs {m with deeds:=m.deeds ++ [d] } qs:=by
 have r:=h.rep (l:=M.ld) (c:=m.deeds) (by simp[Mo.at_]) e;have nl:=h.nl;simp only[ML.ls,yK,xF,xR,yH,zR,not_or] at nl;obtain⟨_,⟨b2,b3,b4,b5,b6,b7⟩,⟨c3,c4,c5,c6,c7⟩,⟨d4,d5,d6,d7⟩,⟨f5,f6,f7⟩,⟨g6,g7⟩,k7,k8⟩:=nl;refine h.put (l:=M.ld) (by simp[ML.ls]) rfl rfl rfl fun p hp=>?_;simp only[Mo.at_,xF] at hp ⊢;rcases hp with rfl | rfl | rfl | rfl | rfl | rfl | hp
 ·exact .inr ⟨rfl,r.snoc hd⟩
 ·exact .inl ⟨by simp,Ne.symm b2⟩
 ·exact .inl ⟨by simp,Ne.symm b3⟩
 ·exact .inl ⟨by simp,Ne.symm b4⟩
 ·exact .inl ⟨by simp,Ne.symm b5⟩
 ·exact .inl ⟨by simp,Ne.symm b6⟩
 ·exact .inl ⟨by simp[hp],fun z=>b7 (z▸(zQ hp).1)⟩
theorem ZD.debt(h:ZD C CM H M ds wa xs m qs)(e:H M.lq=some (.lst vs))(hd:YF (fz xs H) d v):ZD C CM (upd H M.lq (.lst (vs ++ [v]))) M ds wa xs {m with debts:=m.debts ++ [d] } qs:=by
 have r:=h.rep (l:=M.lq) (c:=m.debts) (by simp[Mo.at_]) e;have nl:=h.nl;simp only[ML.ls,yK,xF,xR,yH,zR,not_or] at nl;obtain⟨_,⟨b2,b3,b4,b5,b6,b7⟩,⟨c3,c4,c5,c6,c7⟩,⟨d4,d5,d6,d7⟩,⟨f5,f6,f7⟩,⟨g6,g7⟩,k7,k8⟩:=nl;refine h.put (l:=M.lq) (by simp[ML.ls]) rfl rfl rfl fun p hp=>?_;simp only[Mo.at_,xF] at hp ⊢;rcases hp with rfl | rfl | rfl | rfl | rfl | rfl | hp
 ·exact .inl ⟨by simp,b3⟩
 ·exact .inl ⟨by simp,c3⟩
 ·exact .inr ⟨rfl,r.snoc hd⟩
 ·exact .inl ⟨by simp,Ne.symm d4⟩
 ·exact .inl ⟨by simp,Ne.symm d5⟩
 ·exact .inl ⟨by simp,Ne.symm d6⟩
 ·exact .inl ⟨by simp[hp],fun z=>d7 (z▸(zQ hp).1)⟩
theorem ZD.trial(h:ZD C CM H M ds wa xs m qs)(e:H M.lt=some (.lst vs))(hd:YF (fz xs H) (Y0 d) v):ZD C CM (upd H M.lt (.lst (vs ++ [v]))) M ds wa xs {m with trials:=m.trials ++ [d] } qs:=by
 have r:=h.rep (l:=M.lt) (c:=m.trials.map Y0) (by simp[Mo.at_]) e;have nl:=h.nl;simp only[ML.ls,yK,xF,xR,yH,zR,not_or] at nl;obtain⟨_,⟨b2,b3,b4,b5,b6,b7⟩,⟨c3,c4,c5,c6,c7⟩,⟨d4,d5,d6,d7⟩,⟨f5,f6,f7⟩,⟨g6,g7⟩,k7,k8⟩:=nl;refine h.put (l:=M.lt) (by simp[ML.ls]) rfl rfl rfl fun p hp=>?_;simp only[Mo.at_,xF] at hp ⊢;rcases hp with rfl | rfl | rfl | rfl | rfl | rfl | hp
 ·exact .inl ⟨by simp,b4⟩
 ·exact .inl ⟨by simp,c4⟩
 ·exact .inl ⟨by simp,d4⟩
 ·exact .inr ⟨rfl,by rw[xP];exact r.snoc hd⟩
 ·exact .inl ⟨by simp,Ne.symm f5⟩
 ·exact .inl ⟨by simp,Ne.symm f6⟩
 ·exact .inl ⟨by simp[hp],fun z=>f7 (z▸(zQ hp).1)⟩
theorem ZD.day(h:ZD C CM H M ds wa xs m qs)(e:H M.ly=some (.lst vs))(hd:YF (fz xs H) (.int d) v):ZD C CM (upd H M.ly (.lst (vs ++ [v]))) M ds wa xs {m with days:=m.days ++ [d] } qs:=by
 have r:=h.rep (l:=M.ly) (c:=m.days.map D.int) (by simp[Mo.at_]) e;have nl:=h.nl;simp only[ML.ls,yK,xF,xR,yH,zR,not_or] at nl;obtain⟨_,⟨b2,b3,b4,b5,b6,b7⟩,⟨c3,c4,c5,c6,c7⟩,⟨d4,d5,d6,d7⟩,⟨f5,f6,f7⟩,⟨g6,g7⟩,k7,k8⟩:=nl;refine h.put (l:=M.ly) (by simp[ML.ls]) rfl rfl rfl fun p hp=>?_;simp only[Mo.at_,xF] at hp ⊢;rcases hp with rfl | rfl | rfl | rfl | rfl | rfl | hp
 ·exact .inl ⟨by simp,b5⟩
 ·exact .inl ⟨by simp,c5⟩
 ·exact .inl ⟨by simp,d5⟩
 ·exact .inl ⟨by simp,f5⟩
 ·exact .inr ⟨rfl,by rw[xP];exact r.snoc hd⟩
 ·exact .inl ⟨by simp,Ne.symm g6⟩
 ·exact .inl ⟨by simp[hp],fun z=>g7 (z▸(zQ hp).1)⟩
theorem ZD.brg(h:ZD C CM H M ds wa xs m qs)(e:H M.lb=some (.lst vs))(hd:YF (fz xs H) d v):ZD C CM (upd H M.lb (.lst (vs ++ [v]))) M ds wa xs {m with brs:=m.brs ++ [d] } qs:=by
 have r:=h.rep (l:=M.lb) (c:=m.brs) (by simp[Mo.at_]) e;have nl:=h.nl;simp only[ML.ls,yK,xF,xR,yH,zR,not_or] at nl;obtain⟨_,⟨b2,b3,b4,b5,b6,b7⟩,⟨c3,c4,c5,c6,c7⟩,⟨d4,d5,d6,d7⟩,⟨f5,f6,f7⟩,⟨g6,g7⟩,k7,k8⟩:=nl;refine h.put (l:=M.lb) (by simp[ML.ls]) rfl rfl rfl fun p hp=>?_;simp only[Mo.at_,xF] at hp ⊢;rcases hp with rfl | rfl | rfl | rfl | rfl | rfl | hp
 ·exact .inl ⟨by simp,b2⟩
 ·exact .inr ⟨rfl,r.snoc hd⟩
 ·exact .inl ⟨by simp,Ne.symm c3⟩
 ·exact .inl ⟨by simp,Ne.symm c4⟩
 ·exact .inl ⟨by simp,Ne.symm c5⟩
 ·exact .inl ⟨by simp,Ne.symm c6⟩
 ·exact .inl ⟨by simp[hp],fun z=>c7 (z▸(zQ hp).1)⟩
theorem ZD.hap(h:ZD C CM H M ds wa xs m qs){q:dN}(hq:qs[i]?=some q)(hc:m.haps[i]?=some c)(e:H q=some (.lst vs))(hd:YF (fz xs H) d v) :
  ZD C CM (upd H q (.lst (vs ++ [v]))) M ds wa xs {m with haps:=m.haps.set i (c ++ [d]) } qs:=by
 have mq:q∈qs:=xO hq;have mz:(q,c)∈qs.zip m.haps:=xO (i:=i) (by rw[zG];exact⟨hq,hc⟩);have r:=h.rep (l:=q) (c:=c) (by simp[Mo.at_,mz]) e;have nl:=h.nl;simp only[ML.ls,yK,xF,xR,yH,zR,not_or] at nl;obtain⟨_,⟨b2,b3,b4,b5,b6,b7⟩,⟨c3,c4,c5,c6,c7⟩,⟨d4,d5,d6,d7⟩,⟨f5,f6,f7⟩,⟨g6,g7⟩,k7,k8⟩:=nl;refine h.put (l:=q) (xM _ mq) (List.length_set ..) rfl rfl fun p hp=>?_;simp only[Mo.at_,xF] at hp ⊢;rcases hp with rfl | rfl | rfl | rfl | rfl | rfl | hp
 ·exact .inl ⟨by simp,fun z:M.ld=q=>b7 (z▸mq)⟩
 ·exact .inl ⟨by simp,fun z:M.lb=q=>c7 (z▸mq)⟩
 ·exact .inl ⟨by simp,fun z:M.lq=q=>d7 (z▸mq)⟩
 ·exact .inl ⟨by simp,fun z:M.lt=q=>f7 (z▸mq)⟩
 ·exact .inl ⟨by simp,fun z:M.ly=q=>g7 (z▸mq)⟩
 ·exact .inl ⟨by simp,fun z:M.lv=q=>k7 (z▸mq)⟩
 ·obtain⟨j,hj⟩:=List.getElem?_of_mem hp;rw[zG] at hj;obtain⟨j1,j2⟩:=hj
  by_cases z:i=j
  ·subst z;rw[hq] at j1;injection j1 with j1
   rw[List.getElem?_set_self (by
    rcases Nat.lt_or_ge i m.haps.length with y | y
    ·exact y
    ·rw[wU y] at hc;cases hc)] at j2
   injection j2 with j2
   exact .inr ⟨j1.symm,by rw[← j2];exact r.snoc hd⟩
  ·rw[List.getElem?_set_ne z] at j2;refine .inl ⟨.inr (.inr (.inr (.inr (.inr (.inr (xO (i:=j) (by rw[zG];exact⟨j1,j2⟩))))))),fun y=>z ?_⟩;have li:i<qs.length:=(xE.mp hq).1;exact(List.getElem?_inj li k8).mp (by rw[hq,j1,y])
theorem ZD.newq(h:ZD C CM H M ds wa xs m qs){q:dN}(hq:H q=some (.lst []))(n:¬mo M ds wa xs qs q) :
  ZD C CM (upd H M.lh (.lst ((qs ++ [q]).map V.ref))) M ds wa xs {m with haps:=m.haps ++ [[]] } (qs ++ [q]):=by
 have hh:=h;have nw:=h.nown h.hl;obtain⟨⟨dx,ob⟩,fk,ls,lh,hn,⟨kvs,p1,p2,p3⟩,nl,nx,xl,np,nd⟩:=h;have kt:V6 H (upd H M.lh (.lst ((qs ++ [q]).map V.ref))):=CS lh;have kx:∀x∈xs,x≠M.lh:=fun x hx z=>nx x hx (z▸xU);have s:ZC (fz xs H) (fz xs (upd H M.lh (.lst ((qs ++ [q]).map V.ref)))):=Aj kt (fun x hx o e=>by rw[Zc (kx x hx)];exact e) (fun _ z=>z);have nh:M.lh∉M.ls++qs:=(yK.mp nl).1;have nq:q∉M.lh::(M.ls++qs):=fun z=>n (.inr (.inr (.inl z)));have nqh:q≠M.lh:=fun z=>nq (z▸xU)
 refine⟨⟨dx,by rw[Zc (fun z=>by rw[z,lh] at ob;cases ob)];exact ob⟩,fk.at fun b o hb eb=>by rw[Zc (fun z:b=M.lh=>nw (z▸hb))];exact eb,fun p hp=>?_,Zg,by rw[xK,hn];show _=(m.haps ++ [[]]).length;rw[xK];rfl,
  ⟨kvs,by rw[Zc (fun z=>by rw[z,lh] at p1;cases p1)];exact p1,p2,p3⟩,?_,fun x hx z=>?_,fun x hx=>?_,np,nd⟩
 ·by_cases z:p=(q,[])
  ·subst z;exact⟨[],by show (upd H M.lh _) q=_;rw[Zc nqh];exact hq,rfl⟩
  ·have hp':p∈m.at_ M qs:=by
    simp only[Mo.at_,xF] at hp ⊢;rw[List.zip_append hn] at hp;rcases hp with y | y | y | y | y | y | y
    ·exact .inl y
    ·exact .inr (.inl y)
    ·exact .inr (.inr (.inl y))
    ·exact .inr (.inr (.inr (.inl y)))
    ·exact .inr (.inr (.inr (.inr (.inl y))))
    ·exact .inr (.inr (.inr (.inr (.inr (.inl y)))))
    ·rcases xR.mp y with y | y
     ·exact .inr (.inr (.inr (.inr (.inr (.inr y)))))
     ·exact absurd (xQ.mp y) z
   exact(ls p hp').mono (fun o e=>by rw[Zc (fun z:p.1=M.lh=>nh (z▸CJ hp'))];exact e) s
 ·grind
 ·rw[← zN,← yH] at z;rcases xR.mp z with z | z
  ·exact nx x hx z
  ·exact n (.inr (.inr (.inr (.inl (xQ.mp z▸hx)))))
 ·obtain⟨vs,e'⟩:=xl x hx;exact⟨vs,by rw[Zc (kx x hx)];exact e'⟩
section
variable{C CM:dN}
def Cv(d:Int):Option Str:=if 1<=d/\d<=12000 then none else some "NoMeasure"
def BO(ds:List ZQ)(n:Str):Option Str:=if Z0 ds n=none then some "Unknown" else none
def AC(d day:Int):Option Str:=if day<d then some "NotYet" else none
def CN(ds:List ZQ)(n:Str)(day:Int):Option Str:=if V4 ds n day=true then some "Dead" else none
abbrev inB(i:Int)(n:Nat):Prop:=0<=i/\i<n
def CU(m:Mo)(i:Int):Option Str:=if inB i m.brs.length then none else some "NoThing"
theorem Be{p:Prop} [Decidable p] {x:Str}(h:(if p then none else some x)=none):p:=by
 by_cases z:p
 ·exact z
 ·rw[if_neg z] at h;cases h
theorem AM{p:Prop} [Decidable p] {x:Str}(h:(if p then some x else none)=none):¬p:=fun z=>by rw[if_pos z] at h;cases h
inductive VU(vs:aG)(H:Hp)(Q:VK)(z3:XK):Prop
 |mk(d)(_:vs=[.int d])(_:1<=d)(_:d<=12000)(_:Q .non H)
abbrev Gu:Stmt:=top 34
theorem RD(Zhk:YC K mg "check_need" Gu)(C0:∃t,mg "MOST_NEED"=some (.int 12000 t)):Fn P w K mg base "check_need" ["need"] 1 VU:=by
 obtain⟨t0,c_MOST_NEED⟩:=C0;have r_MOST_NEED:ZF (.int 12000) (.int 12000 t0):=⟨t0,rfl⟩;refine Zhk.fq ["need"] fun H vs Q E hr h=>?_;obtain⟨d,rfl,h0,h1,k⟩:=h;refine⟨rfl,_,(Ze (Zn (Wq (AE Wr Wr Zf Q0 (Yg c_MOST_NEED r_MOST_NEED))) (Ze Yn) Zq)),?_⟩;refine⟨_,rfl,_,_,rfl,rfl,_,rfl,Z7 (fun _=>?_) (fun z=>absurd h0 z)⟩;refine⟨_,_,rfl,rfl,_,rfl,Wc (fun z=>absurd h1 z) (fun _=>k)⟩
inductive VN(C CM:dN)(vs:aG)(H:Hp)(Q:VK)(z3:XK):Prop
 |mk(M) (ds) (wa) (xs) (m) (qs) (i)(_:vs=[.ref M.p,.int i])(_:ZD C CM H M ds wa xs m qs)(_:inB i m.brs.length)(_:Q .non H)
abbrev GC:Stmt:=Yc (top 77) 41
theorem Sy(Zhl:ZU K CM "check_thing" "Moot.check_thing" GC)(T:Txt mg)(Tm:ZJ K CM):Mt P w K mg base CM "check_thing" ["self","thing"] 1 (VN C CM):=by
 refine Zhl.mq ["self","thing"] fun H vs Q E hr h=>?_;obtain⟨M,ds,wa,xs,m,qs,i,rfl,W,⟨h0,h1⟩,k⟩:=h;refine⟨rfl,_,(Ze (Zn (Wq (AE Wr Uy Zf Q5 (Z5 Y8 T.len Yz (Za (Zw Q0) Zb)))) (Ze Yn) Zq)),?_⟩;obtain⟨dx,ob⟩:=W.ob;obtain⟨vs,b1,_,hl⟩:=(W.ls (M.lb,m.brs) (by simp[Mo.at_])).get;dsimp only at b1 hl;rw[← hl] at h1;exact⟨_,rfl,_,_,rfl,rfl,_,rfl,Z7 (fun _=>⟨_,rfl,M.p,CM,dx,_,_,rfl,ob,Tm.cl,Tm.nb,Bb _,M.lb,vs,rfl,.inl (ZG.of b1),_,_,rfl,rfl,_,rfl,Wc (fun z=>absurd h1 z) (fun _=>k)⟩) (fun z=>absurd h0 z)⟩
inductive UP(vs:aG)(H:Hp)(Q:VK)(z3:XK):Prop
 |mk(l) (us) (i)(_:vs=[.ref l,.int i])(_:H l=some (.lst us))(_:inB i us.length)(_:Q .non H)
abbrev GB:Stmt:=top 68
theorem LX(Zhm:YC K mg "check_case" GB)(T:Txt mg):Fn P w K mg base "check_case" ["suits","case"] 1 UP:=by
 refine Zhm.fq ["suits","case"] fun H vs Q E hr h=>?_;obtain⟨l,us,i,rfl,hl,⟨h0,h1⟩,k⟩:=h;refine⟨rfl,_,(Ze (Zn (Wq (AE Wr Uy Zf Q5 (Z5 Y8 T.len Yz (Za Q0 Zb)))) (Ze Yn) Zq)),?_⟩;exact⟨_,rfl,_,_,rfl,rfl,_,rfl,Z7 (fun _=>⟨_,rfl,l,us,rfl,.inl (ZG.of hl),_,_,rfl,rfl,_,rfl,Wc (fun z=>absurd h1 z) (fun _=>k)⟩) (fun z=>absurd h0 z)⟩
inductive US(vs:aG)(H:Hp)(Q:VK)(z3:XK):Prop
 |mk(d)(_:vs=[.int d])(_:1<=d)(_:d<=1000000)(_:Q .non H)
abbrev Ii:Stmt:=top 35
theorem PU(Zhn:YC K mg "check_money" Ii)(C0:∃t,mg "MOST_MONEY"=some (.int 1000000 t)):Fn P w K mg base "check_money" ["many"] 1 US:=by
 obtain⟨t0,c_MOST_MONEY⟩:=C0;have r_MOST_MONEY:ZF (.int 1000000) (.int 1000000 t0):=⟨t0,rfl⟩;refine Zhn.fq ["many"] fun H vs Q E hr h=>?_;obtain⟨d,rfl,h0,h1,k⟩:=h;refine⟨rfl,_,(Ze (Zn (Wq (AE Wr Wr Zf Q0 (Yg c_MOST_MONEY r_MOST_MONEY))) (Ze Yn) Zq)),?_⟩;refine⟨_,rfl,_,_,rfl,rfl,_,rfl,Z7 (fun _=>?_) (fun z=>absurd h0 z)⟩;refine⟨_,_,rfl,rfl,_,rfl,Wc (fun z=>absurd h1 z) (fun _=>k)⟩
inductive YH(C CM:dN)(vs:aG)(H:Hp)(Q:VK)(z3:XK):Prop
 |mk(M) (ds) (wa) (xs) (m) (qs)(_:vs=[.ref M.p])(_:ZD C CM H M ds wa xs m qs)(_:m.deeds.length<400)(_:Q .non H)
abbrev Gz:Stmt:=Yc (top 77) 43
theorem SX(Zho:ZU K CM "check_moments" "Moot.check_moments" Gz)(T:Txt mg)(Tm:ZJ K CM)(C0:∃t,mg "MOST_MOMENTS"=some (.int 400 t)):Mt P w K mg base CM "check_moments" ["self"] 1 (YH C CM):=by
 obtain⟨t0,c_MOST_MOMENTS⟩:=C0;have r_MOST_MOMENTS:ZF (.int 400) (.int 400 t0):=⟨t0,rfl⟩;refine Zho.mq ["self"] fun H vs Q E hr h=>?_;obtain⟨M,ds,wa,xs,m,qs,rfl,W,hn,k⟩:=h;refine⟨rfl,_,(Ze (Zn (Zt JV (Z5 Y8 T.len Yz (Za (Zw Q0) Zb)) (Yg c_MOST_MOMENTS r_MOST_MOMENTS) (Zu _)) (Ze Yn) Zq)),?_⟩;obtain⟨dx,ob⟩:=W.ob;obtain⟨vs,d1,_,d2⟩:=(W.ls (M.ld,m.deeds) (by simp[Mo.at_])).get;dsimp only at d1 d2;refine⟨_,rfl,M.p,CM,dx,_,_,rfl,ob,Tm.cl,Tm.nd,JR _,M.ld,vs,rfl,.inl (ZG.of d1),_,_,rfl,rfl,_,rfl,Z7 (fun z=>absurd z (by lia)) (fun _=>k)⟩
end
section
variable{P:dO}{w:dP}{K:uFg}{mg:dE}{base:Heap}
def JA(ss:List ZW)(i:Int)(n:Str):Option Str:=match ss[i.toNat]? with
 | some t=>if inB i ss.length then (if n∈(t.ones++t.others).map (·.1) then none else some "NoOath") else some "NoCase"
 | none=>some "NoCase"
theorem Eb{ss:List ZW}{i:Int}{n:Str}(h:JA ss i n=none):∃(j:Nat)(t:ZW),i=j/\ss[j]?=some t/\n∈(t.ones++t.others).map (·.1):=by
 unfold JA at h;cases e:ss[i.toNat]? with
 | none=>rw[e] at h;cases h
 | some t =>
  rw[e] at h
  by_cases z:inB i ss.length
  ·grind
  ·dsimp only at h;rw[if_neg z] at h;cases h
inductive UM(vs:aG)(H:Hp)(Q:VK)(z3:XK):Prop
 |mk(l) (ss) (i) (n)(_:vs=[.ref l,.int i,.str n])(_:ZO H ss l)(_:(∀t∈ss,V7 t))(_:JA ss i n=none)(_:∀H',ZC H H'->Q .non H')
abbrev GI:Stmt:=top 69
theorem Oe(Zhp:YC K mg "check_oath" GI)(T:Txt mg)(C0:∃t,mg "ONES"=some (.int 0 t))(C1:∃t,mg "OTHERS"=some (.int 1 t))(Zhq:Fn P w K mg base "check_case" ["suits","case"] 1 UP) :
  Fn P w K mg base "check_oath" ["suits","case","name"] 2 UM:=by
 obtain⟨t0,c_ONES⟩:=C0;obtain⟨t1,c_OTHERS⟩:=C1;have r_ONES:ZF (.int 0) (.int 0 t0):=⟨t0,rfl⟩;have r_OTHERS:ZF (.int 1) (.int 1 t1):=⟨t1,rfl⟩;refine Zhp.fq ["suits","case","name"] fun H vs Q E hr h=>?_;obtain⟨l,ss,i,n,rfl,hsu,hok,ho,k⟩:=h
 refine⟨rfl,_,(Zd (Zo (Zk Zhq (Za Q0 (Za Q5 Zb)))) (Ze (Zn (Zt Fg Q6 (Wv (locs:=["swearer","weight"]) (fr:=[]) ⟨rfl,aA,aA,aA,aA,aA⟩ .nil rfl (Y7 (Zy Ux (Zh Zv (Zh Z3 Q0 Q5) (Yg c_ONES r_ONES)) (Zh Zv (Zh Z3 Q0 Q5) (Yg c_OTHERS r_OTHERS)))) ⟨fun _ _ _ _ _ _=>by
  have cnd:(inN ["swearer","weight"] []).Nodup:=aA
  exact⟨(Ai 2 (by rfl) (Yp (Yw 0 cnd) (Yp (Yw 1 cnd) Vy))),Uz,(Yj 0)⟩⟩) rfl) (Ze Yn) Zq))),?_⟩
 have hz:=aC
 obtain⟨j,t,rfl,ht,hin⟩:=Eb ho;obtain⟨us,hl,hrep⟩:=id hsu;have hul:us.length=ss.length:=by have:=hrep.length;rw[xB] at this;exact this
 have hj:=(xE.mp ht).1;refine⟨_,rfl,_,rfl,l,us,j,rfl,hl,⟨by lia,by lia⟩,?_⟩;obtain⟨ta,u1,u2,u4,hu,hta,⟨b1,w1,rfl,hb1,hr1⟩,⟨b2,w2,rfl,hb2,hr2⟩,h4⟩:=ZO.get (l:=l) hrep ht;obtain⟨L1,L2',_,_⟩:=hok t (xO ht);have z1:=hr1.len;have z2:=hr2.len;have y1:=L1.2;have y2:=L2'.2;refine⟨_,rfl,_,rfl,_,rfl,l,us,j,.ref ta,rfl,rfl,ZG.of hl,Yl hu,ta,_,0,.ref b1,rfl,rfl,ZP.of hta,rfl,?_⟩;refine⟨_,rfl,_,rfl,l,us,j,.ref ta,rfl,rfl,ZG.of hl,Yl hu,ta,_,1,.ref b2,rfl,rfl,ZP.of hta,rfl,?_⟩;refine⟨b1,b2,w1,w2,rfl,rfl,hb1,hb2,by lia,fun q hq=>?_⟩;refine nw (o:=.lst (w1++w2)) hq fun H2 Sc kc=>?_;have hrs:ZS H2 (t.ones++t.others) (w1++w2):=ZS.mono (ZC.t Sc) (ZS.app hr2 hr1);refine⟨q,rfl,⟨_,ZG.of kc⟩,?_⟩;refine bO kc hrs (by rw[xK];lia) fun l2 hl2=>?_;refine⟨l2,_,rfl,.inl (ZG.of Zg),rfl,GX _,_,rfl,?_⟩;rw[Lf];exact Wc (fun z=>absurd hin z) (fun _=>k _ (Sc.trans (ZC.new hl2)))
inductive WX(vs:aG)(H:Hp)(Q:VK)(z3:XK):Prop
 |mk(l) (ss) (i) (n)(_:vs=[.ref l,.int i,.str n])(_:ZO H ss l)(_:(∀t∈ss,V7 t))(_:ss.length<=1000)(_:JA ss i n=none)(_:∀l2 H',H l2=none->H' l2=some (.lst (Ys (Uu ss i n)))->ZC H H'->Q (.ref l2) H')
abbrev Hl:Stmt:=top 62
theorem Mq(Zhr:YC K mg "breakers" Hl)(T:Txt mg)(Zhs:Fn P w K mg base "check_oath" ["suits","case","name"] 2 UM)(Zht:Fn P w K mg base "breaking" ["suits"] 5 YV) :
  Fn P w K mg base "breakers" ["suits","case","name"] 6 WX:=by
 refine Zhr.fq ["suits","case","name"] fun H vs Q E hr h=>?_;obtain⟨l,ss,i,n,rfl,hsu,hok,hlen,ho,k⟩:=h;refine⟨rfl,_,(Zd (Zo (Zk Zhs (Za Q0 (Za Q5 (Za Q6 Zb))))) (Ze (Zm (Cj hr (Zk Zht (Za Q0 Zb)) (Yi (Za Q5 (Za Q6 Zb))) (Ym Zb))))),?_⟩;refine⟨_,rfl,_,rfl,_,rfl,l,ss,i,n,rfl,hsu,hok,ho,fun H1 sm1=>?_⟩;refine⟨_,rfl,l,ss,rfl,hsu.mono sm1,hok,hlen,fun g H2 hg ⟨kvs,a1,a2,a3,a4⟩ hfr sm2=>⟨g,rfl,.inr ⟨kvs,.inl a1⟩,?_⟩⟩;refine⟨_,rfl,_,rfl,aB rfl,fun q hq=>?_⟩;refine nw (o:=.tup [.int i,.str n]) hq fun H3 Sq kq=>?_;refine⟨aB rfl,fun e he=>?_⟩;refine nw (o:=.lst []) he fun H4 Se ke=>?_;have S24:=Sq.trans Se;have S:=(sm1.trans sm2).trans S24;refine⟨_,YA.t (S24 _ _ a1) (k:=Z8 i n) (Se _ _ kq),?_⟩;rcases a4 i n with⟨e1,e2⟩ | ⟨a,e1,e2⟩
 ·rw[e1];refine k e H4 (((sm1.trans sm2).trans Sq).free he) ?_ S;unfold Uu;rw[e2];exact ke
 ·rw[e1];exact k a H4 (sm1.free (hfr kvs i n a a1 e1)) (S24 _ _ e2) S
end
section
variable{C CM:dN}
theorem Cc{t u:TS}{D:_}{U:St}{H:Hp}(Rk:Hp->Prop)(h:(∀H',Rk H'->u D U H')->Ua t u D U H)(k:∀H',Rk H'->u D U H'):Ua t u D U H:=h k
structure VE (m:Mo):Prop where
 ok:∀t∈m.trials,V7 t
 dl:m.days.length=m.trials.length
 br:∀(i:Nat)(e:D),m.brs[i]?=some e->∃(x:Str)(d:Int),e=.tup [.str x,.int d]
 le:m.trials.length<=60
 vl:m.verd.length=m.trials.length
 hb:m.haps.length=m.brs.length
 hl:∀q∈m.haps,q.length<=m.deeds.length
 ql:m.debts.length<=m.deeds.length
def brD(m:Mo)(i:Int):Int:=match m.brs[i.toNat]? with
 | some (.tup [_,.int d])=>d
 | _=>0
def Vu(ds:List ZQ)(m:Mo)(day:Int)(ps:dF)(th:Option Int)(oa:Option (Int×Str)):Option Str :=
 (ps.findSome? (BO ds)).or ((th.bind (CU m)).or ((oa.bind fun p=>JA m.trials p.1 p.2).or ((ps.findSome? fun n=>AC ((Z0 ds n).getD 0) day).or ((th.bind fun i=>AC (brD m i) day).or
  ((oa.bind fun p=>AC (m.days.getD p.1.toNat 0) day).or (ps.findSome? fun n=>CN ds n day))))))
def thV:Option Int->V
 | none=>.non
 | some i=>.int i
def oaV(H:Hp):Option (Int×Str)->V->Prop
 | none,v=>v=.non
 | some (i,n),v=>∃a,v=.ref a/\H a=some (.tup [.int i,.str n])
theorem Do(h:Vu ds m day ps th oa=none):(∀n∈ps,∃d,Z0 ds n=some d/\d<=day/\V4 ds n day=false)/\(∀i,th=some i->inB i m.brs.length/\brD m i<=day)/\∀p,oa=some p->JA m.trials p.1 p.2=none/\m.days.getD p.1.toNat 0<=day:=by
 unfold Vu at h;simp only[wG,wH] at h;obtain⟨h1,h2,h3,h4,h5,h6,h7⟩:=h;refine⟨fun n hn=>?_,fun i e=>?_,fun p e=>?_⟩
 ·have a:=h1 n hn;have b:=AM (h4 n hn);have c:=AM (h7 n hn);unfold BO at a;cases e:Z0 ds n with
  | none=>rw[if_pos e] at a;cases a
  | some d=>rw[e] at b;exact⟨d,rfl,wV.mp b,by simpa using c⟩
 ·subst e;exact⟨Be h2,wV.mp (AM h5)⟩
 ·subst e;exact⟨h3,wV.mp (AM h6)⟩
inductive WC(C CM:dN)(vs:aG)(H:Hp)(Q:VK)(z3:XK):Prop
 |mk(M) (ds) (wa) (xs) (m) (qs) (day) (pl) (ps) (th) (oa) (v2)(_:vs=[.ref M.p,.int day,.ref pl,thV th,v2])(_:ZD C CM H M ds wa xs m qs)(_:VE m)(_:H pl=some (.lst (ps.map V.str)))(_:oaV H oa v2)(_:Vu ds m day ps th oa=none)(_:∀H',ZC H H'->Q .non H')
abbrev Hn:Stmt:=Yc (top 77) 40
theorem Nq(Zhu:ZU K CM "check_named" "Moot.check_named" Hn)(Tc:VC K C)(Tm:ZJ K CM)(M_check_known:Mt P w K mg base C "check_known" ["self","name"] 1 (WE C))(M_check_there:Mt P w K mg base C "check_there" ["self","name","day"] 1 (VS C))(M_check_living:Mt P w K mg base C "check_living" ["self","name","day"] 2 (UH C))(MM_check_thing:Mt P w K mg base CM "check_thing" ["self","thing"] 1 (VN C CM))(Zhs:Fn P w K mg base "check_oath" ["suits","case","name"] 2 UM):Mt P w K mg base CM "check_named" ["self","day","people","thing","oath"] 3 (WC C CM):=by
 refine Zhu.mq ["self","day","people","thing","oath","name"] fun H vs Q E hr h=>?_;obtain⟨M,ds,wa,xs,m,qs,day,pl,ps,th,oa,v2,rfl,W,ok,hpl,hoa,he,k⟩:=h;refine⟨rfl,_,(Zd (Wi PassesOwn.never rfl (Y7 Q6) (Yv 5) (Ze (Zo (Zz (Zw Q0) Tc.cl M_check_known (Za Q9 Zb))))) (Zd (Zn (Zt JB Q7 Y3 (Zu _)) (Ze (Zo (Zz Q0 Tm.cl MM_check_thing (Za Q7 Zb)))) Zq) (Zd (Zn (Zt JB Q8 Y3 (Zu _)) (Ze (Zo (Zk Zhs (Za (Zw Q0) (Za (Zh Zv Q8 Zf) (Za (Zh Zv Q8 Zf) Zb)))))) Zq) (Zd (Wi PassesOwn.never rfl (Y7 Q6) (Yv 5) (Ze (Zo (Zz (Zw Q0) Tc.cl M_check_there (Za Q9 (Za Q5 Zb)))))) (Zd (Zn (QW.pt (Uk (Zt JB Q7 Y3 (Zu _)) (Uw (Zt Uy Q5 (Zh Zv (Zh Z3 (Zw Q0) Q7) Zf) (Zu _))))) (Ze Yn) Zq) (Zd (Zn (QW.pt (Uk (Zt JB Q8 Y3 (Zu _)) (Uw (Zt Uy Q5 (Zh Z3 (Zw Q0) (Zh Zv Q8 Zf)) (Zu _))))) (Ze Yn) Zq) (Ze (Wi PassesOwn.never rfl (Y7 Q6) (Yv 5) (Ze (Zo (Zz (Zw Q0) Tc.cl M_check_living (Za Q9 (Za Q5 Zb))))))))))))),?_⟩;obtain⟨dm,obm⟩:=W.ob;have F:=W.fk.f;obtain⟨dx,ob⟩:=F.ob;obtain⟨g1,g2,g3⟩:=Do he;have hget:∀{i:Nat}{v:V},(ps.map V.str)[i]?=some v->∃n,v=.str n/\n∈ps:=fun {i v} hv=>by
  rw[xJ] at hv;obtain⟨a,h1,h2⟩:=yD.mp hv;exact⟨a,h2.symm,xO h1⟩
 refine⟨_,rfl,pl,rfl,⟨_,ZG.of hpl⟩,?_⟩;refine Ue (ps.map V.str) (fun i U H'=>∃v5:Option V,U=[some (.ref M.p),some (.int day),some (.ref pl),some (thV th),some v2,v5]/\H=H') ⟨none,rfl,rfl⟩ (fun i U H' _ ⟨_,_,e⟩=>by rw[← e];exact ZG.of hpl) ?_ ?_
 ·rintro i v U H' hv ⟨v5,rfl,rfl⟩;obtain⟨n,rfl,hn⟩:=hget hv;obtain⟨d,hc,_⟩:=g1 n hn;exact⟨_,rfl,M.p,CM,dm,_,_,rfl,obm,Tm.cl,Tm.nf,V0 _,M.L.p,dx,_,rfl,ob,Wn _ _ _ _ aA,_,rfl,M.L,ds,n,d,rfl,F,hc,_,rfl,rfl⟩
 rintro U H' ⟨v5,rfl,rfl⟩
 try dsimp only
 refine Cc (ZC H) (fun kk=>?_) (fun H1 S1=>?_)
 ·cases th with
  | none=>exact⟨_,rfl,rfl,_,rfl,Zp (kk H (ZC.refl H))⟩
  | some i=>exact⟨_,rfl,rfl,_,rfl,Z6 ⟨_,rfl,M.p,dm,_,rfl,obm,Z4 _ aA,_,rfl,M,ds,wa,xs,m,qs,i,rfl,W,(g2 i rfl).1,kk H (ZC.refl H)⟩⟩
 have W1:=W.same S1
 try dsimp only
 refine Cc (ZC H) (fun kk=>?_) (fun H2 S2=>?_)
 ·cases oa with
  | none =>
   obtain rfl:=hoa;exact⟨_,rfl,rfl,_,rfl,Zp (kk H1 S1)⟩
  | some p =>
   obtain⟨a,rfl,ha⟩:=hoa;obtain⟨ts,t1,t2,_⟩:=(W1.ls (M.lt,m.trials.map Y0) (by simp[Mo.at_])).get;exact⟨_,rfl,rfl,_,rfl,Z6 ⟨_,rfl,M.p,CM,dm,_,_,rfl,S1 _ _ obm,Tm.cl,Tm.nt,Uh _,_,rfl,a,_,0,_,rfl,rfl,ZP.of (S1 _ _ ha),rfl,_,rfl,a,_,1,_,rfl,rfl,ZP.of (S1 _ _ ha),rfl,M.lt,m.trials,p.1,p.2,rfl,⟨ts,t1,t2⟩,ok.ok,(g3 p rfl).1,fun H' S'=>kk H' (S1.trans S')⟩⟩
 have W2:=W.same S2;have F2:=W2.fk.f;refine⟨_,rfl,pl,rfl,⟨_,ZG.of (S2 _ _ hpl)⟩,?_⟩;refine Ue (ps.map V.str) (fun i U H'=>∃v5:Option V,U=[some (.ref M.p),some (.int day),some (.ref pl),some (thV th),some v2,v5]/\H2=H') ⟨v5,rfl,rfl⟩ (fun i U H' _ ⟨_,_,e⟩=>by rw[← e];exact ZG.of (S2 _ _ hpl)) ?_ ?_
 ·rintro i v U H' hv ⟨v5,rfl,rfl⟩;obtain⟨n,rfl,hn⟩:=hget hv;obtain⟨d,hc,hd,_⟩:=g1 n hn;exact⟨_,rfl,M.p,CM,dm,_,_,rfl,S2 _ _ obm,Tm.cl,Tm.nf,V0 _,M.L.p,dx,_,rfl,S2 _ _ ob,Wn _ _ _ _ aA,_,rfl,_,rfl,M.L,ds,n,d,day,rfl,F2,hc,hd,_,rfl,rfl⟩
 rintro U H' ⟨v5,rfl,rfl⟩
 try dsimp only
 refine Cc (ZC H) (fun kk=>?_) (fun H3 S3=>?_)
 ·cases th with
  | none=>exact⟨_,rfl,rfl,_,rfl,Zp (Zp (kk H2 S2))⟩
  | some i =>
   obtain⟨vs,b1,b2,b3⟩:=(W2.ls (M.lb,m.brs) (by simp[Mo.at_])).get;dsimp only at b1 b2 b3;obtain⟨hin,hle⟩:=g2 i rfl;obtain⟨j,rfl⟩:=zY hin.1;have hj:j<vs.length:=by have:=hin.2;lia
   obtain⟨e,he,re⟩:=b2.get (xC hj);obtain⟨x,d,rfl⟩:=ok.br j e he;obtain⟨a,us,ea,ha,⟨_,_,rfl,rfl,⟨_,_,rfl,rfl,rfl⟩⟩⟩:=re;have hbr:brD m (j:Int)=d:=by unfold brD;rw[yM,he]
   rw[hbr] at hle;exact⟨_,rfl,rfl,_,rfl,Z6 ⟨_,rfl,_,rfl,M.p,CM,dm,_,_,rfl,S2 _ _ obm,Tm.cl,Tm.nb,Bb _,_,rfl,M.lb,vs,j,_,rfl,rfl,ZG.of b1,Yl (xC hj),a,_,1,_,ea,rfl,ZP.of ha,rfl,_,_,rfl,rfl,_,rfl,Z7 (fun z=>absurd z (wV.mpr hle)) (fun _=>kk H2 S2)⟩⟩
 have W3:=W.same S3
 try dsimp only
 refine Cc (ZC H) (fun kk=>?_) (fun H4 S4=>?_)
 ·cases oa with
  | none =>
   obtain rfl:=hoa;exact⟨_,rfl,rfl,_,rfl,Zp (Zp (kk H3 S3))⟩
  | some p =>
   obtain⟨i,n⟩:=p;obtain⟨a,rfl,ha⟩:=hoa;obtain⟨vs,y1,y2,y3⟩:=(W3.ls (M.ly,m.days.map D.int) (by simp[Mo.at_])).get;dsimp only at y1 y2 y3;rw[xB] at y3;obtain⟨ho,hle⟩:=g3 _ rfl;obtain⟨j,t,rfl,ht,_⟩:=Eb ho;have hj:j<vs.length:=by have:=(xE.mp ht).1;have:=ok.dl;lia
   obtain⟨e,he,re⟩:=y2.get (xC hj);rw[xJ] at he;obtain⟨d,hd1,rfl⟩:=yD.mp he;have re:vs[j]= .int d:=re;have hdd:m.days.getD (j:Int).toNat 0=d:=by rw[yM,xL,hd1];rfl
   have hle:d<=day:=hdd▸hle;exact⟨_,rfl,rfl,_,rfl,Z6 ⟨_,rfl,_,rfl,M.p,CM,dm,_,_,rfl,S3 _ _ obm,Tm.cl,Tm.ny,IV _,_,rfl,a,_,0,_,rfl,rfl,ZP.of (S3 _ _ ha),rfl,M.ly,vs,j,.int d,rfl,rfl,ZG.of y1,re▸Yl (xC hj),_,_,rfl,rfl,_,rfl,Z7 (fun z=>absurd z (wV.mpr hle)) (fun _=>kk H3 S3)⟩⟩
 have W4:=W.same S4;have F4:=W4.fk.f;refine⟨_,rfl,pl,rfl,⟨_,ZG.of (S4 _ _ hpl)⟩,?_⟩;refine Ue (ps.map V.str) (fun i U H'=>∃v5:Option V,U=[some (.ref M.p),some (.int day),some (.ref pl),some (thV th),some v2,v5]/\H4=H') ⟨v5,rfl,rfl⟩ (fun i U H' _ ⟨_,_,e⟩=>by rw[← e];exact ZG.of (S4 _ _ hpl)) ?_ ?_
 ·rintro i v U H' hv ⟨v5,rfl,rfl⟩;obtain⟨n,rfl,hn⟩:=hget hv;exact⟨_,rfl,M.p,CM,dm,_,_,rfl,S4 _ _ obm,Tm.cl,Tm.nf,V0 _,M.L.p,dx,_,rfl,S4 _ _ ob,Wn _ _ _ _ aA,_,rfl,_,rfl,M.L,ds,n,day,rfl,F4,(g1 n hn).choose_spec.2.2,_,rfl,rfl⟩
 rintro U H' ⟨v5,rfl,rfl⟩;exact k _ S4
def wOk(ds:List ZQ)(day:Int)(f:Str->Int)(n:Str):Prop:=∃d,Z0 ds n=some d/\d<=day/\Bj (kw ds n) day (f n)
inductive WK(C CM:dN)(vs:aG)(H:Hp)(Q:VK)(z3:XK):Prop
 |mk(M:ML) (ds:List ZQ) (wa:dH) (xs:dI) (m:Mo) (qs:dI) (nl:dN) (ns:dF) (day:Int) (f:Str->Int)(_:vs=[.ref M.p,.ref nl,.int day])(_:ZD C CM H M ds wa xs m qs)(_:ds.length<=1000)(_:H nl=some (.lst (ns.map V.str)))(_:ns.length<=60)(_:0<=day)(_:day<=9999)(_:(∀n∈ns,wOk ds day f n))(_:∀(l:dN)(us:aG)(H':Hp),H l=none->ZC H H'->H' l=some (.lst us)->ZS H' (ns.map fun n=>(n,f n)) us->Q (.ref l) H')
abbrev Cy:Stmt:=Yc (top 77) 38
theorem bJ:Nm (Zs Cy) "day" .cell:=aA
theorem cR:Nm (Zs Cy) "self" .cell:=aA
theorem QF(Zhv:ZU K CM "weighed" "Moot.weighed" Cy)(Tc:VC K C)(Tm:ZJ K CM)(M_weight:Mt P w K mg base C "weight" ["self","name","day"] 2 (VG C)):Mt P w K mg base CM "weighed" ["self","names","day"] 3 (WK C CM):=by
 refine Zhv.mq ["self","names","day"] fun H vs Q E hr h=>?_;obtain⟨M,ds,wa,xs,m,qs,nl,ns,day,f,rfl,W,hds,hnl,hlen,h0,h1,hw,k⟩:=h
 refine⟨rfl,_,(Ze (Zm (Wv (locs:=["name"]) (fr:=[("self", 0),("day", 2)]) ⟨rfl,aA,aA,aA,aA,aA⟩ (.consN cR (.consN bJ .nil)) rfl (Y7 Q5) ⟨fun _ _ _ _ _ _=>by
  have cnd:(inN ["name"] [("self", 0),("day", 2)]).Nodup:=aA
  exact⟨(Yw 0 cnd),Uz,(Yi (Za (Yj 0) (Za (Zz (Kn (Vn 1)) Tc.cl M_weight (Za (Yj 0) (Za (Vn 2) Zb))) Zb)))⟩⟩))),?_⟩
 have hz:(60:Nat)<=sizeLine:=by decide
 obtain⟨dm,obm⟩:=W.ob;obtain⟨dx,ob⟩:=W.fk.f.ob;refine⟨_,rfl,nl,rfl,⟨_,ZG.of hnl⟩,?_⟩;refine Ur (xs:=ns.map V.str) (fun i ys H'=>ZC H H'/\ZS H' ((ns.take i).map fun n=>(n,f n)) ys) ⟨ZC.refl H,rfl⟩ (by rw[xB];lia) (fun i ys H' _ ⟨e,_⟩=>ZG.of (e _ _ hnl)) ?_ ?_ ?_
 ·rintro i ys H' ⟨_,r⟩;rw[r.len,xB,xV];lia
 ·rintro i x ys H' hx ⟨S,r⟩ ls hls;obtain⟨u,rfl⟩:=Us hls;rw[xJ] at hx;obtain⟨n,hn,rfl⟩:=yD.mp hx;obtain⟨d,hc,hd,hi⟩:=hw n (xO hn);have W1:=W.same S;refine⟨⟨[_],rfl,rfl⟩,Z6 ?_⟩;refine⟨_,rfl,_,rfl,M.p,CM,dm,_,_,rfl,S _ _ obm,Tm.cl,Tm.nf,V0 _,M.L.p,dx,_,rfl,S _ _ ob,Wn _ _ _ _ aA,_,rfl,_,rfl,M.L,ds,wa,n,day,d,f n,rfl,W1.fk.f,W1.fk.w,hds,h0,h1,hc,hd,hi,fun H2 S2=>?_⟩;refine⟨aB rfl,fun q hq=>⟨(S.trans S2).trans (ZC.new hq),?_⟩⟩;rw[yG,hn,xP];exact ZS.snoc (p:=(n,f n)) Zg (ZS.mono (ZC.t (S2.trans (ZC.new hq))) r)
 ·rintro ys H' ⟨S,r⟩ l hl;rw[xB,yJ] at r;exact k l ys _ (S.free hl) (S.trans (ZC.new hl)) Zg (ZS.mono (ZC.t (ZC.new hl)) r)
def Jy(m:Mo)(n:Str)(i:Nat):Bool:=match (m.trials[i]?).bind (·.named) with
 | some p=>decide (p.2=n)&&m.verd.getD i false&&decide ((m.pen n).getD 0<=(i:Int))
 | none=>false
def J5(m:Mo)(k:Nat)(n:Str):Bool:=(List.range k).any (Jy m n)
def fors(m:Mo)(n:Str):Bool:=J5 m m.trials.length n
theorem Gx(m:Mo)(k:Nat)(n:Str):J5 m (k+1) n=(J5 m k n || Jy m n k):=by
 unfold J5;rw[wP,List.any_append];simp
inductive VF(C CM:dN)(vs:aG)(H:Hp)(Q:VK)(z3:XK):Prop
 |mk(M) (ds) (wa) (xs) (m) (qs)(_:vs=[.ref M.p])(_:ZD C CM H M ds wa xs m qs)(_:m.verd.length=m.trials.length)(_:m.trials.length<=60)(_:∀g kvs H',H g=none->ZC H H'->H' g=some (.dK kvs)->(∀n:Str,(Zr kvs (.inr n)).isSome=fors m n)->Q (.ref g) H')
abbrev KR:Stmt:=Yc (top 77) 37
theorem Rb(Zhw:ZU K CM "forsworn_names" "Moot.forsworn_names" KR)(T:Txt mg)(Tm:ZJ K CM)(C3:∃t,mg "NAMED"=some (.int 3 t)):Mt P w K mg base CM "forsworn_names" ["self"] 1 (VF C CM):=by
 obtain⟨t3,c_NAMED⟩:=C3;have r_NAMED:ZF (.int 3) (.int 3 t3):=⟨t3,rfl⟩;refine Zhw.mq ["self","names","case","suit","oath"] fun H vs Q E hr h=>?_;obtain⟨M,ds,wa,xs,m,qs,rfl,W,hv,hle,k⟩:=h
 refine⟨rfl,_,(Zd (Zx 1 AR) (Zd (Wi PassesOwn.never rfl (Dz T.enumerate (Za (Zw Q0) Zb)) (B7 (by rfl) (Yp (Yv 2) (Yp (Yv 3) Vy)))
 (Zd (Zx 4 (Zh Zv Q7 (Yg c_NAMED r_NAMED)))
 (Ze (Zn (QW.pt (Uk (Zt JB Q8 Y3 (Zu _)) (Uk (Yu (Zh Z3 (Zw Q0) Q6)) (Uw (Zt JV Q6 (Cj hr (Zw Q0) (Zh Zv Q8 Zf) Zf) (Zu _)))))) (Ze (J9 hr Q5 (Zh Zv Q8 Zf) Wj)) Zq))))
 (Ze (Zm Q5)))),?_⟩
 have hz:=aC
 obtain⟨dm,obm⟩:=W.ob;refine fun g hg=>?_;refine nw (o:=.dK []) hg fun H1 Sg kg=>?_;refine Yd ?_;have W1:=W.same Sg;obtain⟨ts,t1,t2,t3'⟩:=(W1.ls (M.lt,m.trials.map Y0) (by simp[Mo.at_])).get;obtain⟨bs,v1,v2,v3⟩:=(W1.ls (M.lv,m.verd.map D.bl) (by simp[Mo.at_])).get;dsimp only at t1 t2 t3' v1 v2 v3;rw[xB] at t3' v3;obtain⟨pk,p1,p2,p3⟩:=W1.pn;have ngp:∀{o:HO}{b:dN},H b=some o->b≠g:=fun e z=>by rw[z,hg] at e;cases e
 refine⟨_,rfl,M.p,CM,dm,_,_,rfl,Sg _ _ obm,Tm.cl,Tm.nt,Uh _,M.lt,ts,rfl,ZG.of t1,?_⟩;refine K7 ts (fun i U H'=>∃(v2 v3 v4:Option V)(kvs:List (ZM×V)),U=[some (.ref M.p),some (.ref g),v2,v3,v4]/\ZC H H'/\H' g=some (.dK kvs)/\(∀b o,b≠g->H1 b=some o->H' b=some o)/\kvs.length<=i/\∀n:Str,(Zr kvs (.inr n)).isSome=J5 m i n) ⟨none,none,none,[],rfl,Sg,kg,fun _ _ _ e=>e,xZ _,fun _=>rfl⟩
  (fun i U H' _ ⟨_,_,_,_,_,_,_,k1,_⟩=>ZG.of (k1 _ _ (ngp ((W.ls (M.lt,m.trials.map Y0) (by simp[Mo.at_])).get.choose_spec.1)) t1)) ?_ ?_
 ·rintro i x p U H' hx ⟨v2',v3',v4',kvs,rfl,S,kk,k1,hk,hf⟩ hp;refine nw (o:=.tup [.int i,x]) hp fun H2 Sp kp=>?_;have hi:i<ts.length:=(xE.mp hx).1;obtain⟨t,ht⟩:∃t,m.trials[i]?=some t:=⟨_,xC (by lia)⟩;obtain⟨vb,hvb⟩:∃vb,m.verd[i]?=some vb:=⟨_,xC (by lia)⟩;obtain⟨ta,u1,u2,u4,hu,hta,_,_,h4⟩:=ZO.get (l:=M.lt) t2 ht;rw[hu] at hx;cases hx;have k2:∀b o,b≠g->H1 b=some o->H2 b=some o:=fun b o n e=>Sp _ _ (k1 b o n e);have kt:∀{b us},H1 b=some (.tup us)->H2 b=some (.tup us):=fun {b us} e=>k2 b _ (fun z=>by rw[z,kg] at e;cases e) e;have hvd:m.verd.getD i false=vb:=by rw[xL,hvb];rfl
  refine⟨p,_,rfl,ZP.of kp,rfl,_,_,rfl,_,_,rfl,rfl,?_⟩;refine⟨_,rfl,ta,_,3,u4,rfl,rfl,ZP.of (kt hta),rfl,?_⟩;have stay:(∀n,Jy m n i=false)->∃(v2 v3 v4:Option V)(kvs:List (ZM×V)),[some (V.ref M.p),some (.ref g),some (.int i),some (.ref ta),some u4]= [some (.ref M.p),some (.ref g),v2,v3,v4]/\ZC H H2/\H2 g=some (.dK kvs)/\(∀b o,b≠g->H1 b=some o->H2 b=some o)/\kvs.length<=i+1/\∀n:Str,(Zr kvs (.inr n)).isSome=J5 m (i+1) n:=fun z =>
   ⟨_,_,_,kvs,rfl,S.trans Sp,Sp _ _ kk,k2,by lia,fun n=>by rw[Gx,z,Bool.or_false];exact hf n⟩
  cases hn:t.named with
  | none =>
   rw[hn] at h4;cases h4;refine⟨_,rfl,rfl,_,rfl,Zp (Zp (stay fun n=>?_))⟩;unfold Jy;rw[ht,Option.bind_some,hn]
  | some o =>
   rw[hn] at h4;obtain⟨c0,n0⟩:=o;obtain⟨b,bs',rfl,hb,⟨y1,r1,rfl,e1,⟨y2,r2,rfl,e2,e3⟩⟩⟩:=h4;cases e1;cases e2;cases e3;have hfb:∀n,Jy m n i=(decide (n0=n)&&vb&&decide ((m.pen n).getD 0<=(i:Int))):=fun n=>by unfold Jy;rw[ht,Option.bind_some,hn,hvd]
   have ibs:i<bs.length:=by rw[v3];exact(xE.mp hvb).1
   obtain⟨e,he,re⟩:=v2.get (xC ibs);rw[xJ,hvb] at he;cases he;have re:bs[i]= .bl vb:=re;refine⟨_,rfl,rfl,_,rfl,Z6 ?_⟩;refine⟨_,rfl,M.p,CM,dm,_,_,rfl,k2 _ _ (ngp obm) (Sg _ _ obm),Tm.cl,Tm.nv,DR _,_,rfl,M.lv,bs,i,.bl vb,rfl,rfl,ZG.of (k2 _ _ (fun z=>by rw[z,kg] at v1;cases v1) v1),re▸Yl (xC ibs),vb,rfl,?_⟩;cases vb with
   | false=>exact Zp (Zp (stay fun n=>by rw[hfb,Bool.and_false];rfl))
   | true =>
    refine Z6 ?_;have ndp:M.dp≠g:=fun z=>by obtain⟨pk',q1,_⟩:=W.pn;rw[z,hg] at q1;cases q1
    have p1':=k2 _ _ ndp p1;have gp:=YA.k (k:=Sum.inr n0) p1';rw[p3] at gp;refine⟨_,rfl,_,rfl,M.p,CM,dm,_,_,rfl,k2 _ _ (ngp obm) (Sg _ _ obm),Tm.cl,Tm.np,FZ _,M.dp,rfl,.inl ⟨pk,.inl p1'⟩,_,rfl,b,_,1,_,rfl,rfl,ZP.of (kt hb),rfl,_,gp,?_⟩;have eo:(Option.map V.int (m.pen n0)).getD (.int 0)= .int ((m.pen n0).getD 0):=by cases m.pen n0<;>rfl
    rw[eo];refine⟨_,_,rfl,rfl,_,rfl,Z7 (fun z=>?_) (fun z=>stay fun n=>?_)⟩
    ·refine⟨_,rfl,_,rfl,b,_,1,_,rfl,rfl,ZP.of (kt hb),rfl,g,_,rfl,WB.k (k:=Sum.inr n0) (Sp _ _ kk) (by lia),?_⟩;refine⟨_,_,_,Z2 kvs (.inr n0) (.bl true),rfl,fun b o e=>?_,Zg,fun b o n e=>by rw[Zc n];exact k2 b o n e,xW (Vw _ _ _) (by lia),fun n=>?_⟩
     ·rw[Zc (ngp e)];exact(S.trans Sp) b o e
     ·rw[Uq,Gx,hfb,← hf n]
      by_cases e:n=n0
      ·subst e;rw[if_pos rfl,xN rfl,xN z];simp
      ·grind
    ·grind
 ·rintro U H' ⟨v2',v3',v4',kvs,rfl,S,kk,k1,hk,hf⟩;rw[t3'] at hf;exact⟨_,rfl,k g kvs H' hg S kk hf⟩
abbrev Wf(f:Str->Int)(ns:dF):Y9:=ns.map fun n=>(n,f n)
def U2(m:Mo)(need:Int)(f:Str->Int)(o1 o2:dF):Option Str :=
 if 60<=m.trials.length then some "TooMany" else if 12<max o1.length o2.length then some "TooMany" else if A1 (o1++o2)<(o1++o2).length then some "SwornTwice" else
  ((o1++o2).findSome? fun n=>if fors m n=true then some ("Forsworn":Str) else none).or (if (wts (Wf f o1)).sum<need then some ("TooLight":Str) else none)
theorem CI(h:U2 m need f o1 o2=none):m.trials.length<60/\max o1.length o2.length<=12/\(o1++o2).length<=A1 (o1++o2)/\(∀n∈o1++o2,fors m n=false)/\need<=(wts (Wf f o1)).sum:=by
 unfold U2 at h
 by_cases a:60<=m.trials.length
 ·rw[if_pos a] at h;cases h
 by_cases b:12<max o1.length o2.length
 ·rw[if_neg a,if_pos b] at h;cases h
 by_cases e:A1 (o1++o2)<(o1++o2).length
 ·rw[if_neg a,if_neg b,if_pos e] at h;cases h
 rw[if_neg a,if_neg b,if_neg e,wG,wH] at h;exact⟨by lia,by lia,by lia,fun n hn=>by simpa using AM (h.1 n hn),wV.mp (AM h.2)⟩
inductive WQ(C CM:dN)(vs:aG)(H:Hp)(Q:VK)(z3:XK):Prop
 |mk(M) (ds) (wa) (xs) (m) (qs) (day need) (l1 l2) (o1 o2) (f)(_:vs=[.ref M.p,.int day,.int need,.ref l1,.ref l2])(_:ZD C CM H M ds wa xs m qs)(_:VE m)(_:m.deeds.length<400)(_:ds.length<=1000)(_:H l1=some (.lst (o1.map V.str)))(_:H l2=some (.lst (o2.map V.str)))(_:o1.length<=60)(_:o2.length<=60)(_:0<=day)(_:day<=9999)(_:(∀n∈o1++o2,wOk ds day f n/\1<=f n/\f n<=1000))(_:U2 m need f o1 o2=none)(_:∀H',ZC H H'->Q .non H')
abbrev FT:Stmt:=Yc (top 77) 42
theorem PD(Zhx:ZU K CM "check_sides" "Moot.check_sides" FT)(T:Txt mg)(Tm:ZJ K CM)(C0:∃t,mg "MOST_CASES"=some (.int 60 t))(C1:∃t,mg "MOST_SWEARERS"=some (.int 12 t))(MM_check_moments:Mt P w K mg base CM "check_moments" ["self"] 1 (YH C CM))(MM_forsworn_names:Mt P w K mg base CM "forsworn_names" ["self"] 1 (VF C CM))(MM_weighed:Mt P w K mg base CM "weighed" ["self","names","day"] 3 (WK C CM))(Z0w:Fn P w K mg base "total" ["side"] 1 Ti):Mt P w K mg base CM "check_sides" ["self","day","need","ones","others"] 4 (WQ C CM):=by
 obtain⟨t0,c_MOST_CASES⟩:=C0;obtain⟨t1,c_MOST_SWEARERS⟩:=C1;have r_MOST_CASES:ZF (.int 60) (.int 60 t0):=⟨t0,rfl⟩;have r_MOST_SWEARERS:ZF (.int 12) (.int 12 t1):=⟨t1,rfl⟩;refine Zhx.mq ["self","day","need","ones","others","barred","name"] fun H vs Q E hr h=>?_;obtain⟨M,ds,wa,xs,m,qs,day,need,l1,l2,o1,o2,f,rfl,W,ok,h4,hds,h1,h2,n1,n2,d0,d1,hw,he,k⟩:=h
 refine⟨rfl,_,(Zd (Zn (Zt JV (Z5 Y8 T.len Yz (Za (Zw Q0) Zb)) (Yg c_MOST_CASES r_MOST_CASES) (Zu _)) (Ze Yn) Zq) (Zd (Zn (Zt Da (Z5 (Iw (by rfl)) T.max E1 (Za (Z5 Y8 T.len Yz (Za Q7 Zb)) (Za (Z5 Y8 T.len Yz (Za Q8 Zb)) Zb))) (Yg c_MOST_SWEARERS r_MOST_SWEARERS) (Zu _)) (Ze Yn) Zq)
 (Zd (Zo (Vs Q0 Tm.cl MM_check_moments))
 (Zd (Zn (Zt Uy (Qn (by rfl) T.len T.set (Za (Zy Ux Q7 Q8) Zb)) (Z5 Y8 T.len Yz (Za (Zy Ux Q7 Q8) Zb)) (Zu _)) (Ze Yn) Zq)
 (Zd (Zx 5 (Vs Q0 Tm.cl MM_forsworn_names))
 (Zd (Wi PassesOwn.never rfl (Y7 (Zy Ux Q7 Q8)) (Yv 6)
 (Ze (Zn (Zt (Bn hr) Qa Q9 rfl) (Ze Yn) Zq)))
 (Ze (Zn (Zt Uy (Zk Z0w (Za (Zz Q0 Tm.cl MM_weighed (Za Q7 (Za Q5 Zb))) Zb)) Q6 (Zu _)) (Ze Yn) Zq)))))))),?_⟩
 have hz:=aC
 obtain⟨dm,obm⟩:=W.ob;obtain⟨ts,t1,_,t3⟩:=(W.ls (M.lt,m.trials.map Y0) (by simp[Mo.at_])).get;dsimp only at t1 t3;rw[xB] at t3;obtain⟨g1,g2,g3,g4,g5⟩:=CI he;have e1:(o1.map V.str).length=o1.length:=xB ..;have e2:(o2.map V.str).length=o2.length:=xB ..;refine⟨_,rfl,M.p,CM,dm,_,_,rfl,obm,Tm.cl,Tm.nt,Uh _,M.lt,ts,rfl,.inl (ZG.of t1),_,_,rfl,rfl,_,rfl,Z7 (fun z=>absurd z (by lia)) (fun z=>?_)⟩;dsimp only [Yb];refine⟨_,rfl,l1,_,rfl,.inl (ZG.of h1),_,rfl,l2,_,rfl,.inl (ZG.of h2),_,_,rfl,?_⟩;have em:(if ((o2.map V.str).length:Int) > (o1.map V.str).length then ((o2.map V.str).length:Int) else (o1.map V.str).length)=((max o1.length o2.length:Nat):Int):=by rw[e1,e2];split<;>lia
 rw[em];refine⟨_,_,rfl,rfl,_,rfl,Z7 (fun z=>absurd z (by lia)) (fun z=>?_)⟩;dsimp only [Yb];refine⟨_,rfl,M.p,dm,_,rfl,obm,Z4 _ aA,M,ds,wa,xs,m,qs,rfl,W,h4,?_⟩;have ec:o1.map V.str++o2.map V.str=(o1++o2).map V.str:=xP.symm;refine⟨_,rfl,_,rfl,l1,l2,_,_,rfl,rfl,h1,h2,by rw[e1,e2];lia,fun q hq=>?_⟩;rw[ec];refine nw (o:=.lst ((o1++o2).map V.str)) hq fun H1 S1 k1=>?_;refine⟨q,o1++o2,rfl,ZG.of k1,by rw[xK];lia,?_⟩;refine⟨_,rfl,_,rfl,l1,l2,_,_,rfl,rfl,S1 _ _ h1,S1 _ _ h2,by rw[e1,e2];lia,fun q2 hq2=>?_⟩;rw[ec];have S2:=S1.trans (ZC.new (o:=.lst ((o1++o2).map V.str)) hq2);have k2:(upd H1 q2 (.lst ((o1++o2).map V.str))) q2=some (.lst ((o1++o2).map V.str)):=Zg;generalize (upd H1 q2 (.lst ((o1++o2).map V.str)))=H2 at S2 k2 ⊢;refine⟨q2,_,rfl,.inl (ZG.of k2),_,_,rfl,rfl,_,rfl,Z7 (fun z=>absurd z (by rw[xB];lia)) (fun z=>?_)⟩;dsimp only [Yb];refine⟨_,rfl,M.p,dm,_,rfl,S2 _ _ obm,Z4 _ aA,M,ds,wa,xs,m,qs,rfl,W.same S2,ok.vl,ok.le,fun g kvs H3 hg S3' kg hf=>?_⟩;have S3:=S2.trans S3';refine Yd ?_;dsimp only [Yb];refine⟨_,rfl,_,rfl,l1,l2,_,_,rfl,rfl,S3 _ _ h1,S3 _ _ h2,by rw[e1,e2];lia,fun q3 hq3=>?_⟩;rw[ec];have S4':=ZC.new (o:=.lst ((o1++o2).map V.str)) hq3;have S4:=S3.trans S4';have kg4:=S4' _ _ kg;have k4:(upd H3 q3 (.lst ((o1++o2).map V.str))) q3=some (.lst ((o1++o2).map V.str)):=Zg;generalize (upd H3 q3 (.lst ((o1++o2).map V.str)))=H4 at S4 k4 kg4 ⊢;refine⟨q3,rfl,⟨_,ZG.of k4⟩,?_⟩;refine Ue ((o1++o2).map V.str) (fun i U H'=>∃v6:Option V,U=[some (.ref M.p),some (.int day),some (.int need),some (.ref l1),some (.ref l2),some (.ref g),v6]/\H4=H') ⟨none,rfl,rfl⟩ (fun i U H' _ ⟨_,_,e⟩=>by rw[← e];exact ZG.of k4) ?_ ?_
 ·rintro i v U H' hv ⟨v6,rfl,rfl⟩;rw[xJ] at hv;obtain⟨n,hn,rfl⟩:=yD.mp hv;refine⟨_,rfl,_,rfl,g,_,rfl,YA.k (k:=Sum.inr n) kg4,_,rfl,?_⟩;have hfn:=hf n;rw[g4 n (xO hn)] at hfn;cases e:Zr kvs (.inr n) with
  | none=>exact Zp ⟨_,rfl,rfl⟩
  | some v=>rw[e] at hfn;cases hfn
 rintro U H' ⟨v6,rfl,rfl⟩
 try dsimp only
 refine⟨_,rfl,M.p,dm,_,rfl,S4 _ _ obm,Z4 _ aA,_,rfl,_,rfl,M,ds,wa,xs,m,qs,l1,o1,day,f,rfl,W.same S4,hds,S4 _ _ h1,n1,d0,d1,fun n hn=>(hw n (zL _ hn)).1,fun l us H5 hl S5' kl rs=>?_⟩;refine⟨.ref l,Wf f o1,rfl,⟨l,us,rfl,kl,rs⟩,⟨fun p hp=>?_,by rw[xB];exact n1⟩,fun H6 S6=>?_⟩
 ·grind
 have S:=(S4.trans S5').trans S6;exact⟨_,rfl,_,_,rfl,rfl,_,rfl,Z7 (fun z=>absurd z (wV.mpr g5)) (fun _=>k H6 S)⟩
def Uo(M:ML)(ds:List ZQ)(wa:dH)(xs qs:dI)(H H':Hp):Prop:=∀b o,H b=some o->¬mo M ds wa xs qs b->H' b=some o
def WI(M:ML)(ds:List ZQ)(wa:dH)(xs qs:dI)(M':ML)(ds':List ZQ)(wa':dH)(xs' qs':dI)(H:Hp):Prop:=∀b,mo M' ds' wa' xs' qs' b->mo M ds wa xs qs b\/H b=none
theorem WI.folk(f:Ea M.L ds wa ds' wa' H):WI M ds wa xs qs M ds' wa' xs qs H:=fun b hb=>by
 rcases hb with z | z | z | z | z
 ·exact .inl (.inl z)
 ·exact .inl (.inr (.inl z))
 ·exact .inl (.inr (.inr (.inl z)))
 ·exact .inl (.inr (.inr (.inr (.inl z))))
 ·exact(f b z).imp (fun z=>.inr (.inr (.inr (.inr z)))) id
theorem CH:mo M ds wa xs qs M.ld:=.inr (.inr (.inl (by simp[ML.ls])))
inductive VI(C CM:dN)(vs:aG)(H:Hp)(Q:VK)(z3:XK):Prop
 |mk(M) (ds) (wa) (xs) (m) (qs) (n) (day wt)(_:vs=[.ref M.p,.str n,.int day,.int wt])(_:ZD C CM H M ds wa xs m qs)(_:m.deeds.length<400)(_:ds.length<40)(_:Wl n)(_:0<=day)(_:day<=9999)(_:1<=wt)(_:wt<=1000)(_:Z0 ds n=none)(_:∀wa' H',ZD C CM H' M (ds ++ [.come n day wt]) wa' xs {m with deeds:=m.deeds ++ [.tup [.str "come", .str n,.int day,.int wt]] } qs->Uo M ds wa xs qs H H'->WI M ds wa xs qs M (ds ++ [.come n day wt]) wa' xs qs H->Q .non H')
abbrev K1:Stmt:=Yc (top 77) 1
theorem Qk(Zhy:ZU K CM "come" "Moot.come" K1)(Tc:VC K C)(Tm:ZJ K CM)(M_check_coming:Mt P w K mg base C "check_coming" ["self","name","day","weight"] 2 (WL C))(M_come:Mt P w K mg base C "come" ["self","name","day","weight"] 3 (Td C))(MM_check_moments:Mt P w K mg base CM "check_moments" ["self"] 1 (YH C CM)):Mt P w K mg base CM "come" ["self","name","day","weight"] 4 (VI C CM):=by
 refine Zhy.mq ["self","name","day","weight"] fun H vs Q E hr h=>?_;obtain⟨M,ds,wa,xs,m,qs,n,day,wt,rfl,W0,hn4,hl,hnm,d0,d1,w0,w1,hc,k⟩:=h;refine⟨rfl,_,(Zd (Zo (Zz (Zw Q0) Tc.cl M_check_coming (Za Q5 (Za Q6 (Za Q7 Zb))))) (Zd (Zo (Vs Q0 Tm.cl MM_check_moments)) (Zd (Zo (Zz (Zw Q0) Tc.cl M_come (Za Q5 (Za Q6 (Za Q7 Zb))))) (Ze (Zo (Wd aD aE aF Wk (Zw Q0) (Za (Yi (Za Yq (Za Q5 (Za Q6 (Za Q7 Zb))))) Zb))))))),?_⟩;have hz:=aC
 obtain⟨dm,obm⟩:=W0.ob;obtain⟨dx,ob⟩:=W0.fk.f.ob;refine⟨_,rfl,M.p,CM,dm,_,_,rfl,obm,Tm.cl,Tm.nf,V0 _,M.L.p,dx,_,rfl,ob,Wn _ _ _ _ aA,_,rfl,_,rfl,_,rfl,M.L,ds,n,day,wt,rfl,W0.fk.f,hl,hnm,d0,d1,w0,w1,hc,fun H1 S1=>?_⟩;have W1:=W0.same S1;refine⟨_,rfl,M.p,dm,_,rfl,S1 _ _ obm,Z4 _ aA,M,ds,wa,xs,m,qs,rfl,W1,hn4,?_⟩;refine⟨_,rfl,M.p,CM,dm,_,_,rfl,S1 _ _ obm,Tm.cl,Tm.nf,V0 _,M.L.p,dx,_,rfl,S1 _ _ ob,Wn _ _ _ _ aA,_,rfl,_,rfl,_,rfl,M.L,ds,wa,n,day,wt,rfl,W1.fk,hl,hnm,d0,d1,w0,w1,hc,fun wa' H2 F2 T2 R2=>?_⟩;have W2:=W1.folk F2 T2 R2;obtain⟨dm2,obm2⟩:=W2.ob;obtain⟨vs,e1,_,e2⟩:=(W2.ls (M.ld,m.deeds) (by simp[Mo.at_])).get;dsimp only at e1 e2;refine⟨_,rfl,M.p,CM,dm2,_,_,rfl,obm2,Tm.cl,Tm.nd,JR _,.inl ⟨rfl,_,ZG.of e1⟩,_,rfl,_,rfl,_,rfl,aB rfl,fun p hp=>?_⟩;refine nw (o:=.tup [.str "come", .str n,.int day,.int wt]) hp fun H3 S3 kp=>?_;have W3:=W2.same S3;refine⟨M.ld,vs,.ref p,rfl,rfl,S3 _ _ e1,by lia,?_⟩;refine k wa' _ (W3.deed (S3 _ _ e1) ⟨p,_,rfl,Wz kp,⟨_,_,rfl,rfl,⟨_,_,rfl,rfl,⟨_,_,rfl,rfl,⟨_,_,rfl,rfl,rfl⟩⟩⟩⟩⟩) (fun b o e nb=>?_) (fun b hb=>?_)
 ·rw[Zc (fun z:b=M.ld=>nb (z▸CH))];exact S3 _ _ (T2 b o (S1 _ _ e) fun z=>nb (.inr (.inr (.inr (.inr z)))))
 ·exact(WI.folk (xs:=xs) (qs:=qs) R2 b hb).imp id S1.free
theorem Ql(M:ML):(Y6 M).length<1000:=show 9<1000 by decide
def Mo.tried(m:Mo)(day:Int)(t:ZW):Mo:={m with trials:=m.trials ++ [t],days:=m.days ++ [day],verd:=(Yo [] 0 (m.trials ++ [t])).1 }
theorem oaV.rep(h:oaV H oa v):YF (fz xs H) (A3 oa) v:=by
 cases oa with
 | none=>exact h
 | some p=>obtain⟨a,e,ha⟩:=h;exact⟨a,_,e,Wz ha,⟨_,_,rfl,rfl,⟨_,_,rfl,rfl,rfl⟩⟩⟩
theorem oaV.same(h:oaV H oa v)(k:ZC H H'):oaV H' oa v:=by
 cases oa with
 | none=>exact h
 | some p=>obtain⟨a,e,ha⟩:=h;exact⟨a,e,k _ _ ha⟩
theorem ZS.fz(r:ZS H sd us):ZK (fz xs H) (sd.map CF) us:=(ZS.mono (fun _ _ e=>Wz e) r).rep
inductive Tn(C CM:dN)(vs:aG)(H:Hp)(Q:VK)(z3:XK):Prop
 |mk(M) (ds) (wa) (xs) (m) (qs) (day need) (l1 l2) (o1 o2) (f) (oa) (v2)(_:vs=[.ref M.p,.int day,.int need,.ref l1,.ref l2,v2])(_:ZD C CM H M ds wa xs m qs)(_:VE m)(_:m.trials.length<60)(_:ds.length<=1000)(_:H l1=some (.lst (o1.map V.str)))(_:H l2=some (.lst (o2.map V.str)))(_:o1.length<=60)(_:o2.length<=60)(_:0<=day)(_:day<=9999)(_:1<=need)(_:need<=12000)(_:(∀n∈o1++o2,wOk ds day f n/\1<=f n/\f n<=1000))(_:oaV H oa v2)(_:∀lv s1 s2 H',ZD C CM H' (M.setv lv) ds wa (s1::s2::xs) (m.tried day ⟨Wf f o1,Wf f o2,need,oa⟩) qs->Uo M ds wa xs qs H H'->WI M ds wa xs qs (M.setv lv) ds wa (s1::s2::xs) qs H->Q (.int m.trials.length) H')
abbrev Hx:Stmt:=Yc (top 77) 39
theorem Rm(Zhz:ZU K CM "try_case" "Moot.try_case" Hx)(T:Txt mg)(Tm:ZJ K CM)(MM_weighed:Mt P w K mg base CM "weighed" ["self","names","day"] 3 (WK C CM))(Zhj:Fn P w K mg base "settled" ["suits"] 4 UN):Mt P w K mg base CM "try_case" ["self","day","need","ones","others","oath"] 5 (Tn C CM):=by
 refine Zhz.mq ["self","day","need","ones","others","oath"] fun H vs Q E hr h=>?_;obtain⟨M,ds,wa,xs,m,qs,day,need,l1,l2,o1,o2,f,oa,v2,rfl,W,ok,hlt,hds,h1,h2,n1,n2,d0,d1,e0,e1,hw,hoa,k⟩:=h;refine⟨rfl,_,(Zd (Zo (Wd aD aE aF Wk (Zw Q0) (Za (Yi (Za (Zz Q0 Tm.cl MM_weighed (Za Q7 (Za Q5 Zb))) (Za (Zz Q0 Tm.cl MM_weighed (Za Q8 (Za Q5 Zb))) (Za Q6 (Za Q9 Zb))))) Zb))) (Zd (Zo (Wd aD aE aF Wk (Zw Q0) (Za Q5 Zb))) (Zd (Ve Q0 (Zk Zhj (Za (Zw Q0) Zb))) (Ze (Zm (Zy Vm (Z5 Y8 T.len Yz (Za (Zw Q0) Zb)) Zf)))))),?_⟩;have hz:=aC
 obtain⟨dm,obm⟩:=W.ob;obtain⟨ts,t1,_,t3⟩:=(W.ls (M.lt,m.trials.map Y0) (by simp[Mo.at_])).get;dsimp only at t1 t3;rw[xB] at t3;refine⟨_,rfl,M.p,CM,dm,_,_,rfl,obm,Tm.cl,Tm.nt,Uh _,.inl ⟨rfl,_,ZG.of t1⟩,?_⟩;refine⟨_,rfl,M.p,dm,_,rfl,obm,Z4 _ aA,_,rfl,_,rfl,M,ds,wa,xs,m,qs,l1,o1,day,f,rfl,W,hds,h1,n1,d0,d1,fun n hn=>(hw n (zL _ hn)).1,fun s1 us1 H1 hs1 S1 ks1 rs1=>?_⟩;refine⟨_,rfl,M.p,dm,_,rfl,S1 _ _ obm,Z4 _ aA,_,rfl,_,rfl,M,ds,wa,xs,m,qs,l2,o2,day,f,rfl,W.same S1,hds,S1 _ _ h2,n2,d0,d1,fun n hn=>(hw n (xM _ hn)).1,fun s2 us2 H2 hs2 S2 ks2 rs2=>?_⟩;refine⟨_,rfl,_,rfl,aB rfl,fun p hp=>?_⟩;refine nw (o:=.tup [.ref s1,.ref s2,.int need,v2]) hp fun H3 S3 k3=>?_;have S23:=S2.trans S3;have S:=S1.trans S23;have out:∀{b:dN},H b=none->¬mo M ds wa xs qs b:=fun e z=>by obtain⟨o,e'⟩:=W.there z;rw[e] at e';cases e'
 have hs2':H s2=none:=S1.free hs2;have W3:=((W.same S).freeze (a:=s2) (S3 _ _ ks2) (fun z=>out hs2' (.inr (.inr (.inl z))))).freeze (a:=s1) (S23 _ _ ks1) (fun z=>out hs1 (.inr (.inr (.inl z))));refine⟨M.lt,ts,.ref p,rfl,rfl,S _ _ t1,by lia,?_⟩;have hd:YF (fz (s1::s2::xs) H3) (Y0 ⟨Wf f o1,Wf f o2,need,oa⟩) (.ref p) :=
  ⟨p,_,rfl,Wz k3,⟨_,_,rfl,⟨s1,us1,rfl,U1 (by simp) (S23 _ _ ks1),ZS.fz (ZS.mono (ZC.t S23) rs1)⟩,⟨_,_,rfl,⟨s2,us2,rfl,U1 (by simp) (S3 _ _ ks2),ZS.fz (ZS.mono (ZC.t S3) rs2)⟩,⟨_,_,rfl,rfl,⟨_,_,rfl,(hoa.same S).rep,rfl⟩⟩⟩⟩⟩
 have W4:=W3.trial (S _ _ t1) hd;have T4:Uo M ds wa xs qs H (upd H3 M.lt (.lst (ts ++ [.ref p]))):=fun b o e nb=>by
  rw[Zc (fun z:b=M.lt=>nb (z ▸ .inr (.inr (.inl (by simp[ML.ls])))))];exact S _ _ e
 generalize (upd H3 M.lt (.lst (ts ++ [.ref p])))=H4 at W4 T4 ⊢;obtain⟨dm4,obm4⟩:=W4.ob;obtain⟨ys,y1,_,y3⟩:=(W4.ls (M.ly,m.days.map D.int) (by simp[Mo.at_])).get;dsimp only at y1 y3;rw[xB] at y3;have hdl:=ok.dl;refine⟨_,rfl,M.p,CM,dm4,_,_,rfl,obm4,Tm.cl,Tm.ny,IV _,.inl ⟨rfl,_,ZG.of y1⟩,_,rfl,M.ly,ys,.int day,rfl,rfl,y1,by lia,?_⟩;have W5:=W4.day (d:=day) y1 rfl;have T5:Uo M ds wa xs qs H (upd H4 M.ly (.lst (ys ++ [.int day]))):=fun b o e nb=>by
  rw[Zc (fun z:b=M.ly=>nb (z ▸ .inr (.inr (.inl (by simp[ML.ls])))))];exact T4 b o e nb
 generalize (upd H4 M.ly (.lst (ys ++ [.int day])))=H5 at W5 T5 ⊢;obtain⟨dm5,obm5⟩:=W5.ob;obtain⟨ts5,z1,z2,z3⟩:=(W5.ls (M.lt,(m.trials ++ [(⟨Wf f o1,Wf f o2,need,oa⟩:ZW)]).map Y0) (by simp[Mo.at_])).get;dsimp only at z1 z2 z3;rw[xB,xK,wF] at z3;have hok:∀t∈m.trials ++ [(⟨Wf f o1,Wf f o2,need,oa⟩:ZW)],V7 t:=fun t ht=>by
  rcases xR.mp ht with z | z
  ·exact ok.ok t z
  ·rw[xQ.mp z];refine⟨⟨fun q hq=>?_,by show (o1.map _).length<=60;rw[xB];exact n1⟩,⟨fun q hq=>?_,by show (o2.map _).length<=60;rw[xB];exact n2⟩,e0,e1⟩
   ·grind
   ·grind
 refine⟨_,rfl,M.p,CM,dm5,_,_,rfl,obm5,Tm.cl,Tm.nt,Uh _,M.lt,_,rfl,⟨ts5,z1,z2⟩,hok,by rw[xK,wF];lia,fun lv H6 hlv klv S6=>?_⟩;have W6:=W5.same S6;obtain⟨dm6,obm6⟩:=W6.ob;refine⟨_,rfl,M.p,CM,dm6,_,rfl,obm6,Tm.cl,Tm.nv,Ql _,?_⟩;rw[Mw];have W7:=W6.setv obm6 klv (fun z=>by obtain⟨o,e⟩:=W5.there z;rw[hlv] at e;cases e);have T7:Uo M ds wa xs qs H (upd H6 M.p (.ins CM dm6 (Y6 (M.setv lv)))):=fun b o e nb=>by
  rw[Zc (fun z:b=M.p=>nb (.inl z))];exact S6 _ _ (T5 b o e nb)
 generalize (upd H6 M.p (.ins CM dm6 (Y6 (M.setv lv))))=H7 at W7 T7 ⊢;obtain⟨dm7,obm7⟩:=W7.ob;obtain⟨ts7,q1,_,q3⟩:=(W7.ls ((M.setv lv).lt,(m.trials ++ [(⟨Wf f o1,Wf f o2,need,oa⟩:ZW)]).map Y0) (by simp[Mo.at_])).get;dsimp only at q1 q3;rw[xB,xK,wF] at q3;refine⟨_,rfl,M.p,CM,dm7,_,_,rfl,obm7,Tm.cl,Tm.nt,Uh _,M.lt,ts7,rfl,.inl (ZG.of q1),_,_,rfl,rfl,?_⟩;rw[q3];show Q (.int (((m.trials.length+1:Nat):Int) - 1)) H7;rw[show (((m.trials.length+1:Nat):Int) - 1)=(m.trials.length:Int) by lia];refine k lv s1 s2 H7 W7 T7 fun b hb=>?_;have lvn:H lv=none:=by
  cases e:H lv with
  | none=>rfl
  | some o =>
   by_cases z:mo M ds wa xs qs lv
   ·have z5:mo M ds wa (s1::s2::xs) qs lv:=by
     rcases z with z | z | z | z | z
     ·exact .inl z
     ·exact .inr (.inl z)
     ·exact .inr (.inr (.inl z))
     ·exact .inr (.inr (.inr (.inl (yC _ (yC _ z)))))
     ·exact .inr (.inr (.inr (.inr z)))
    obtain⟨o',e'⟩:=W5.there z5;rw[hlv] at e';cases e'
   ·rw[T5 lv o e z] at hlv;cases hlv
 rcases hb with z | z | z | z | z
 ·exact .inl (.inl z)
 ·exact .inl (.inr (.inl z))
 ·simp only[ML.ls,ML.setv,xF,xR,yE,or_false] at z;have old:b∈M.lh::(M.ls++qs)\/b=lv:=by
   simp only[ML.ls,xF,xR,yE,or_false];rcases z with z | (z | z | z | z | z | z) | z<;>simp[z]
  exact old.elim (fun z=>.inl (.inr (.inr (.inl z)))) (fun z=>.inr (z▸lvn))
 ·rcases xF.mp z with z | z
  ·exact .inr (z▸hs1)
  ·rcases xF.mp z with z | z
   ·exact .inr (z▸hs2')
   ·exact .inl (.inr (.inr (.inr (.inl z))))
 ·exact .inl (.inr (.inr (.inr (.inr z))))
def WH(O:dN->Prop)(H:Hp)(O':dN->Prop)(H':Hp):Prop:=(∀b o,H b=some o->¬O b->H' b=some o)/\∀b,O' b->O b\/H b=none
theorem WH.trans(a:WH O H O1 H1)(b:WH O1 H1 O2 H2):WH O H O2 H2:=by
 refine⟨fun x o e n=>b.1 x o (a.1 x o e n) fun z=>(a.2 x z).elim n (fun y=>by rw[e] at y;cases y),fun x hx=>?_⟩;rcases b.2 x hx with z | z
 ·exact a.2 x z
 ·by_cases y:O x
  ·exact .inl y
  ·refine .inr ?_;cases e:H x with
   | none=>rfl
   | some o=>rw[a.1 x o e y] at z;cases z
theorem WH.same(s:ZC H H'):WH O H O H':=⟨fun b o e _=>s b o e,fun b hb=>.inl hb⟩
def YR(C CM:dN)(H:Hp)(p:dN)(ds:List ZQ)(m:Mo)(O:dN->Prop):Prop:=∃M wa xs qs,M.p=p/\ZD C CM H M ds wa xs m qs/\O=mo M ds wa xs qs
theorem YR.same(h:YR C CM H p ds m O)(k:ZC H H'):YR C CM H' p ds m O:=let ⟨M,wa,xs,qs,e,W,o⟩:=h;⟨M,wa,xs,qs,e,W.same k,o⟩
theorem J2(H:Hp):∀o:List Str,ZK H (o.map D.str) (o.map V.str)
 | []=>rfl
 | x::o=>⟨_,_,rfl,rfl,J2 H o⟩
structure JM (ds:List ZQ) (m:Mo) (H:Hp) (l1 l2:dN) (o1 o2:dF) (day need:Int) (f:Str->Int):Prop where
 ok:VE m
 h4:m.deeds.length<400
 hd:ds.length<=1000
 h1:H l1=some (.lst (o1.map V.str))
 h2:H l2=some (.lst (o2.map V.str))
 n1:o1.length<=60
 n2:o2.length<=60
 d0:0<=day
 d1:day<=9999
 hw:∀n∈o1++o2,∀d,Z0 ds n=some d->d<=day->Bj (kw ds n) day (f n)/\1<=f n/\f n<=1000
theorem JM.all(a:JM ds m H l1 l2 o1 o2 day need f)(h:∀n∈o1++o2,∃d,Z0 ds n=some d/\d<=day):∀n∈o1++o2,wOk ds day f n/\1<=f n/\f n<=1000:=fun n hn=>by
 obtain⟨d,e1,e2⟩:=h n hn;obtain⟨x,y,z⟩:=a.hw n hn d e1 e2;exact⟨⟨d,e1,e2,x⟩,y,z⟩
theorem ND(h:mo M ds wa (a1::a2::xs) qs b):mo M ds wa xs qs b\/b=a1\/b=a2:=by
 rcases h with z | z | z | z | z
 ·exact .inl (.inl z)
 ·exact .inl (.inr (.inl z))
 ·exact .inl (.inr (.inr (.inl z)))
 ·rcases xF.mp z with z | z
  ·exact .inr (.inl z)
  ·rcases xF.mp z with z | z
   ·exact .inr (.inr z)
   ·exact .inl (.inr (.inr (.inr (.inl z))))
 ·exact .inl (.inr (.inr (.inr (.inr z))))
theorem ZD.deed2(W:ZD C CM H M ds wa xs m qs)(S:ZC H H')(n1:H a1=none)(n2:H a2=none)(k1:H' a1=some (.lst u1))(k2:H' a2=some (.lst u2))(e:H M.ld=some (.lst vs))(hd:YF (fz (a1::a2::xs) H') d v) :
  ZD C CM (upd H' M.ld (.lst (vs ++ [v]))) M ds wa (a1::a2::xs) {m with deeds:=m.deeds ++ [d] } qs/\WH (mo M ds wa xs qs) H (mo M ds wa (a1::a2::xs) qs) (upd H' M.ld (.lst (vs ++ [v]))):=by
 have out:∀{b:dN},H b=none->b∉M.lh::(M.ls++qs):=fun e z=>by obtain⟨ys,e'⟩:=W.lst z;rw[e] at e';cases e'
 refine⟨(((W.same S).freeze k2 (out n2)).freeze k1 (out n1)).deed (S _ _ e) hd,fun b o eb nb=>?_,fun b hb=>?_⟩
 ·rw[Zc (fun z:b=M.ld=>nb (z▸CH))];exact S _ _ eb
 ·rcases ND hb with z | z | z
  ·exact .inl z
  ·exact .inr (z▸n1)
  ·exact .inr (z▸n2)
def clD(x:Str)(i day need:Int)(o1 o2:dF):D:=.tup [.str "claim", .str x,.int i,.int day,.int need,.lst (o1.map D.str),.lst (o2.map D.str)]
def Mo.won(m:Mo)(x:Str)(i:Nat)(day need:Int)(f:Str->Int)(o1 o2:dF):Mo :=
 {m.tried day ⟨Wf f o1,Wf f o2,need,none⟩ with haps:=m.haps.set i (m.haps.getD i [] ++ [.tup [.int m.trials.length,.tup [.int day,.str "won", .non,.str x]]]),deeds:=m.deeds ++ [clD x i day need o1 o2] }
def BH(ds:List ZQ)(m:Mo)(x:Str)(i day need:Int)(f:Str->Int)(o1 o2:dF):Option Str:=(Cv need).or ((Vu ds m day ([x]++o1++o2) (some i) none).or (U2 m need f o1 o2))
inductive VQ(C CM:dN)(vs:aG)(H:Hp)(Q:VK)(z3:XK):Prop
 |mk(p) (ds) (m) (O) (x) (i day need) (l1 l2) (o1 o2) (f)(_:vs=[.ref p,.str x,.int i,.int day,.int need,.ref l1,.ref l2])(_:YR C CM H p ds m O)(_:JM ds m H l1 l2 o1 o2 day need f)(_:¬O l1)(_:¬O l2)(_:BH ds m x i day need f o1 o2=none)(_:∀O' H',YR C CM H' p ds (m.won x i.toNat day need f o1 o2) O'->WH O H O' H'->Q (.int m.trials.length) H')
abbrev FU:Stmt:=Yc (top 77) 8
theorem MS(Zh0:ZU K CM "claim" "Moot.claim" FU)(T:Txt mg)(Tm:ZJ K CM)(Wy:Fn P w K mg base "check_day" ["day"] 1 WD)(Zcy:Fn P w K mg base "check_need" ["need"] 1 VU)(MM_check_named:Mt P w K mg base CM "check_named" ["self","day","people","thing","oath"] 3 (WC C CM))(MM_check_sides:Mt P w K mg base CM "check_sides" ["self","day","need","ones","others"] 4 (WQ C CM))(MM_try_case:Mt P w K mg base CM "try_case" ["self","day","need","ones","others","oath"] 5 (Tn C CM)):Mt P w K mg base CM "claim" ["self","claimer","thing","day","need","ones","others"] 6 (VQ C CM):=by
 refine Zh0.mq ["self","claimer","thing","day","need","ones","others","case"] fun H vs Q E hr h=>?_;obtain⟨_,ds,m,_,x,i,day,need,l1,l2,o1,o2,f,rfl,⟨M,wa,xs,qs,rfl,W,rfl⟩,a,w1,w2,he,k⟩:=h;refine⟨rfl,_,(Zd (Zo (Zk Wy (Za Q7 Zb))) (Zd (Zo (Zk Zcy (Za Q8 Zb))) (Zd (Zo (Zz Q0 Tm.cl MM_check_named (Za Q7 (Za (Zy Ux (Zy Ux (Ym (Za Q5 Zb)) Q9) Qa) (Za Q6 (Za Y3 Zb)))))) (Zd (Zo (Zz Q0 Tm.cl MM_check_sides (Za Q7 (Za Q8 (Za Q9 (Za Qa Zb)))))) (Zd (Zx 7 (Zz Q0 Tm.cl MM_try_case (Za Q7 (Za Q8 (Za Q9 (Za Qa (Za Y3 Zb))))))) (Zd (Zo (Wd aD aE aF Wk (Zh Z3 (Zw Q0) Q6) (Za (Yi (Za Qb (Za (Yi (Za Q7 (Za Yq (Za Y3 (Za Q5 Zb))))) Zb))) Zb))) (Zd (Zo (Wd aD aE aF Wk (Zw Q0) (Za (Yi (Za Yq (Za Q5 (Za Q6 (Za Q7 (Za Q8 (Za (Vl JH T.list Vc (Za Q9 Zb)) (Za (Vl JH T.list Vc (Za Qa Zb)) Zb)))))))) Zb))) (Ze (Zm Qb))))))))),?_⟩;have hz:=aC
 obtain⟨dm,obm⟩:=W.ob;have ⟨ok,h4,hds,h1,h2,n1,n2,d0,d1,hw⟩:=a;have e1:(o1.map V.str).length=o1.length:=xB ..;have e2:(o2.map V.str).length=o2.length:=xB ..;simp only[BH,wG] at he;obtain⟨en,ea,es⟩:=he;obtain⟨g0,g1⟩:=Be en;refine⟨_,rfl,day,rfl,d0,d1,_,rfl,need,rfl,g0,g1,?_⟩;refine⟨_,rfl,M.p,dm,_,rfl,obm,Z4 _ aA,_,rfl,_,rfl,aB rfl,fun q1 hq1=>?_⟩;refine nw (o:=.lst [.str x]) hq1 fun H1 S1 k1=>?_;refine⟨_,rfl,q1,l1,_,_,rfl,rfl,k1,S1 _ _ h1,by rw[e1];show 1+_<=_;lia,fun q2 hq2=>?_⟩;have S2:=S1.trans (ZC.new (o:=.lst ([.str x]++o1.map V.str)) hq2);have k2:(upd H1 q2 (.lst ([.str x]++o1.map V.str))) q2=some (.lst ([.str x]++o1.map V.str)):=Zg;generalize (upd H1 q2 (.lst ([.str x]++o1.map V.str)))=H2 at S2 k2 ⊢;refine⟨_,rfl,q2,l2,_,_,rfl,rfl,k2,S2 _ _ h2,by rw[xK,e1,e2];show 1+_+_<=_;lia,fun q3 hq3=>?_⟩;have S3:=S2.trans (ZC.new (o:=.lst ([.str x]++o1.map V.str++o2.map V.str)) hq3);have k3:(upd H2 q3 (.lst ([.str x]++o1.map V.str++o2.map V.str))) q3=some (.lst (([x]++o1++o2).map V.str)):=by rw[Zg,xP,xP];rfl
 generalize (upd H2 q3 (.lst ([.str x]++o1.map V.str++o2.map V.str)))=H3 at S3 k3 ⊢;refine⟨_,rfl,M,ds,wa,xs,m,qs,day,q3,[x]++o1++o2,some i,none,.non,rfl,W.same S3,ok,k3,rfl,ea,fun H4 S4'=>?_⟩;have S4:=S3.trans S4';obtain⟨p1,p2,_⟩:=Do ea;have hall:=a.all fun n hn=>let ⟨d,e1,e2,_⟩:=p1 n (by rw[zN];exact xM _ hn);⟨d,e1,e2⟩
 refine⟨_,rfl,M.p,dm,_,rfl,S4 _ _ obm,Z4 _ aA,_,rfl,_,rfl,_,rfl,_,rfl,M,ds,wa,xs,m,qs,day,need,l1,l2,o1,o2,f,rfl,W.same S4,ok,h4,hds,S4 _ _ h1,S4 _ _ h2,n1,n2,d0,d1,hall,es,fun H5 S5'=>?_⟩;have S5:=S4.trans S5';refine⟨_,rfl,M.p,dm,_,rfl,S5 _ _ obm,Z4 _ aA,_,rfl,_,rfl,_,rfl,_,rfl,M,ds,wa,xs,m,qs,day,need,l1,l2,o1,o2,f,none,.non,rfl,W.same S5,ok,(CI es).1,hds,S5 _ _ h1,S5 _ _ h2,n1,n2,d0,d1,g0,g1,fun n hn=>(hall n hn),rfl,fun lv s1 s2 H6 W6 T6 F6=>?_⟩;have R6:WH (mo M ds wa xs qs) H (mo (M.setv lv) ds wa (s1::s2::xs) qs) H6:=(WH.same S5).trans ⟨T6,F6⟩;refine Yd ?_;dsimp only [Yb];have hin:=(p2 i rfl).1;obtain⟨j,rfl⟩:=zY hin.1;have hj:j<m.haps.length:=by rw[ok.hb];have:=hin.2;lia
 have hjq:j<qs.length:=by rw[W6.hn];exact hj
 have hq:qs[j]?=some qs[j]:=xC hjq;have hcl:m.haps[j]?=some (m.haps.getD j []):=by rw[xL,xC hj];rfl
 have hcn:=ok.hl _ (xO hcl);rw[yM] at k;unfold Mo.won at k;generalize m.haps.getD j []=cl at hcl hcn k;have mz:(qs[j],cl)∈qs.zip m.haps:=xO (i:=j) (by rw[zG];exact⟨hq,hcl⟩);obtain⟨us,u1,_,hul⟩:=(W6.ls (qs[j],cl) (by simp[Mo.at_,Mo.tried,mz])).get;dsimp only at u1 hul;obtain⟨dm6,obm6⟩:=W6.ob;refine⟨_,rfl,M.p,CM,dm6,_,_,rfl,obm6,Tm.cl,Tm.nh,Fe _,_,rfl,M.lh,_,j,.ref qs[j],rfl,rfl,ZG.of W6.hl,Yl (by rw[xJ,hq];rfl),.inl ⟨rfl,_,ZG.of u1⟩,_,rfl,_,rfl,_,rfl,aB rfl,fun b hb=>?_⟩;refine nw (o:=.tup [.int day,.str "won", .non,.str x]) hb fun H7 S7 k7=>?_;refine⟨aB rfl,fun a' ha=>?_⟩;refine nw (o:=.tup [.int m.trials.length,.ref b]) ha fun H8 S8 k8=>?_;have W8:=W6.same (S7.trans S8);have u8:=S8 _ _ (S7 _ _ u1);refine⟨qs[j],us,.ref a',rfl,rfl,u8,by lia,?_⟩;have W9:=W8.hap hq hcl (d:=.tup [.int m.trials.length,.tup [.int day,.str "won", .non,.str x]]) (v:=.ref a') u8 ⟨a',_,rfl,Wz k8,⟨_,_,rfl,rfl,⟨_,_,rfl,⟨b,_,rfl,Wz (S8 _ _ k7),⟨_,_,rfl,rfl,⟨_,_,rfl,rfl,⟨_,_,rfl,rfl,⟨_,_,rfl,rfl,rfl⟩⟩⟩⟩⟩,rfl⟩⟩⟩
 have R9:WH (mo M ds wa xs qs) H (mo (M.setv lv) ds wa (s1::s2::xs) qs) (upd H8 qs[j] (.lst (us ++ [.ref a']))):=(R6.trans (WH.same (S7.trans S8))).trans ⟨fun b o e nb=>by
  rw[Zc (fun z:b=qs[j]=>nb (z ▸ .inr (.inr (.inl (yC _ (xM _ (zJ hjq)))))))];exact e,fun _ hb=>.inl hb⟩
 generalize (upd H8 qs[j] (.lst (us ++ [.ref a'])))=H9 at W9 R9 ⊢;obtain⟨dm9,obm9⟩:=W9.ob;obtain⟨vs,f1,_,f2⟩:=(W9.ls (M.ld,m.deeds) (by simp[Mo.at_,Mo.tried,ML.setv])).get;dsimp only at f1 f2;have r1:=R9.1 l1 _ h1 w1;have r2:=R9.1 l2 _ h2 w2;refine⟨_,rfl,M.p,CM,dm9,_,_,rfl,obm9,Tm.cl,Tm.nd,JR _,.inl ⟨rfl,_,ZG.of f1⟩,_,rfl,_,rfl,_,rfl,_,rfl,_,rfl,l1,_,rfl,.inl (ZG.of r1),fun a1 ha1=>?_⟩;refine nw (o:=.lst (o1.map V.str)) ha1 fun Ha Sa ka=>?_;refine⟨_,rfl,l2,_,rfl,.inl (ZG.of (Sa _ _ r2)),fun a2 ha2=>?_⟩;refine nw (o:=.lst (o2.map V.str)) ha2 fun Hb Sb kb=>?_;refine⟨aB rfl,fun q hq'=>?_⟩;refine nw (o:=.tup [.str "claim", .str x,.int j,.int day,.int need,.ref a1,.ref a2]) hq' fun Hc Sc kc=>?_;have Sac:=(Sa.trans Sb).trans Sc;refine⟨M.ld,vs,.ref q,rfl,rfl,Sac _ _ f1,by lia,?_⟩;have ka':=Sc _ _ (Sb _ _ ka);have kb':=Sc _ _ kb;obtain⟨W10,R10⟩:=W9.deed2 Sac ha1 (Sa.free ha2) ka' kb' f1 (d:=clD x j day need o1 o2) (v:=.ref q)
  ⟨q,_,rfl,Wz kc,⟨_,_,rfl,rfl,⟨_,_,rfl,rfl,⟨_,_,rfl,rfl,⟨_,_,rfl,rfl,⟨_,_,rfl,rfl,⟨_,_,rfl,⟨a1,_,rfl,U1 (by simp) ka',J2 _ _⟩,⟨_,_,rfl,⟨a2,_,rfl,U1 (by simp) kb',J2 _ _⟩,rfl⟩⟩⟩⟩⟩⟩⟩⟩
 exact⟨_,rfl,k _ _ ⟨M.setv lv,wa,_,qs,rfl,W10,rfl⟩ (R9.trans R10)⟩
def weD(x y:Str)(many day need:Int)(o1 o2:dF):D:=.tup [.str "wergild", .str x,.str y,.int many,.int day,.int need,.lst (o1.map D.str),.lst (o2.map D.str)]
def Mo.owes(m:Mo)(x y:Str)(many day need:Int)(f:Str->Int)(o1 o2:dF):Mo :=
 {m.tried day ⟨Wf f o1,Wf f o2,need,none⟩ with debts:=m.debts ++ [.tup [.int m.trials.length,.tup [.int day,.str y,.str x,.int many]]],deeds:=m.deeds ++ [weD x y many day need o1 o2] }
def BF(ds:List ZQ)(m:Mo)(x y:Str)(day need:Int)(f:Str->Int)(o1 o2:dF):Option Str:=(Cv need).or ((Vu ds m day ([x,y]++o1++o2) none none).or (U2 m need f o1 o2))
inductive TQ(C CM:dN)(vs:aG)(H:Hp)(Q:VK)(z3:XK):Prop
 |mk(p) (ds) (m) (O) (x y) (many day need) (l1 l2) (o1 o2) (f)(_:vs=[.ref p,.str x,.str y,.int many,.int day,.int need,.ref l1,.ref l2])(_:YR C CM H p ds m O)(_:JM ds m H l1 l2 o1 o2 day need f)(_:¬O l1)(_:¬O l2)(_:1<=many)(_:many<=1000000)(_:BF ds m x y day need f o1 o2=none)(_:∀O' H',YR C CM H' p ds (m.owes x y many day need f o1 o2) O'->WH O H O' H'->Q (.int m.trials.length) H')
abbrev K4:Stmt:=Yc (top 77) 9
theorem Xz(Zh1:ZU K CM "wergild" "Moot.wergild" K4)(T:Txt mg)(Tm:ZJ K CM)(Z0x:Fn P w K mg base "check_money" ["many"] 1 US)(Wy:Fn P w K mg base "check_day" ["day"] 1 WD)(Zcy:Fn P w K mg base "check_need" ["need"] 1 VU)(MM_check_named:Mt P w K mg base CM "check_named" ["self","day","people","thing","oath"] 3 (WC C CM))(MM_check_sides:Mt P w K mg base CM "check_sides" ["self","day","need","ones","others"] 4 (WQ C CM))(MM_try_case:Mt P w K mg base CM "try_case" ["self","day","need","ones","others","oath"] 5 (Tn C CM)):Mt P w K mg base CM "wergild" ["self","claimer","answerer","many","day","need","ones","others"] 6 (TQ C CM):=by
 refine Zh1.mq ["self","claimer","answerer","many","day","need","ones","others","case"] fun H vs Q E hr h=>?_;obtain⟨_,ds,m,_,x,y,many,day,need,l1,l2,o1,o2,f,rfl,⟨M,wa,xs,qs,rfl,W,rfl⟩,a,w1,w2,m0,m1,he,k⟩:=h;refine⟨rfl,_,(Zd (Zo (Zk Z0x (Za Q7 Zb))) (Zd (Zo (Zk Wy (Za Q8 Zb))) (Zd (Zo (Zk Zcy (Za Q9 Zb))) (Zd (Zo (Zz Q0 Tm.cl MM_check_named (Za Q8 (Za (Zy Ux (Zy Ux (Ym (Za Q5 (Za Q6 Zb))) Qa) Qb) (Za Y3 (Za Y3 Zb)))))) (Zd (Zo (Zz Q0 Tm.cl MM_check_sides (Za Q8 (Za Q9 (Za Qa (Za Qb Zb)))))) (Zd (Zx 8 (Zz Q0 Tm.cl MM_try_case (Za Q8 (Za Q9 (Za Qa (Za Qb (Za Y3 Zb))))))) (Zd (Zo (Wd aD aE aF Wk (Zw Q0) (Za (Yi (Za (qvN 8) (Za (Yi (Za Q8 (Za Q6 (Za Q5 (Za Q7 Zb))))) Zb))) Zb))) (Zd (Zo (Wd aD aE aF Wk (Zw Q0) (Za (Yi (Za Yq (Za Q5 (Za Q6 (Za Q7 (Za Q8 (Za Q9 (Za (Vl JH T.list Vc (Za Qa Zb)) (Za (Vl JH T.list Vc (Za Qb Zb)) Zb))))))))) Zb))) (Ze (Zm (qvN 8))))))))))),?_⟩;have hz:=aC
 obtain⟨dm,obm⟩:=W.ob;have ⟨ok,h4,hds,h1,h2,n1,n2,d0,d1,hw⟩:=a;have e1:(o1.map V.str).length=o1.length:=xB ..;have e2:(o2.map V.str).length=o2.length:=xB ..;simp only[BF,wG] at he;obtain⟨en,ea,es⟩:=he;obtain⟨g0,g1⟩:=Be en;refine⟨_,rfl,many,rfl,m0,m1,_,rfl,day,rfl,d0,d1,_,rfl,need,rfl,g0,g1,?_⟩;refine⟨_,rfl,M.p,dm,_,rfl,obm,Z4 _ aA,_,rfl,_,rfl,_,rfl,aB rfl,fun q1 hq1=>?_⟩;refine nw (o:=.lst [.str x,.str y]) hq1 fun H1 S1 k1=>?_;refine⟨_,rfl,q1,l1,_,_,rfl,rfl,k1,S1 _ _ h1,by rw[e1];show 2+_<=_;lia,fun q2 hq2=>?_⟩;have S2:=S1.trans (ZC.new (o:=.lst ([.str x,.str y]++o1.map V.str)) hq2);have k2:(upd H1 q2 (.lst ([.str x,.str y]++o1.map V.str))) q2=some (.lst ([.str x,.str y]++o1.map V.str)):=Zg;generalize (upd H1 q2 (.lst ([.str x,.str y]++o1.map V.str)))=H2 at S2 k2 ⊢;refine⟨_,rfl,q2,l2,_,_,rfl,rfl,k2,S2 _ _ h2,by rw[xK,e1,e2];show 2+_+_<=_;lia,fun q3 hq3=>?_⟩;have S3:=S2.trans (ZC.new (o:=.lst ([.str x,.str y]++o1.map V.str++o2.map V.str)) hq3);have k3:(upd H2 q3 (.lst ([.str x,.str y]++o1.map V.str++o2.map V.str))) q3=some (.lst (([x,y]++o1++o2).map V.str)):=by rw[Zg,xP,xP];rfl
 generalize (upd H2 q3 (.lst ([.str x,.str y]++o1.map V.str++o2.map V.str)))=H3 at S3 k3 ⊢;refine⟨M,ds,wa,xs,m,qs,day,q3,[x,y]++o1++o2,none,none,.non,rfl,W.same S3,ok,k3,rfl,ea,fun H4 S4'=>?_⟩;have S4:=S3.trans S4';obtain⟨p1,_⟩:=Do ea;have hall:=a.all fun n hn=>let ⟨d,e1,e2,_⟩:=p1 n (by rw[zN];exact xM _ hn);⟨d,e1,e2⟩
 refine⟨_,rfl,M.p,dm,_,rfl,S4 _ _ obm,Z4 _ aA,_,rfl,_,rfl,_,rfl,_,rfl,M,ds,wa,xs,m,qs,day,need,l1,l2,o1,o2,f,rfl,W.same S4,ok,h4,hds,S4 _ _ h1,S4 _ _ h2,n1,n2,d0,d1,hall,es,fun H5 S5'=>?_⟩;have S5:=S4.trans S5';refine⟨_,rfl,M.p,dm,_,rfl,S5 _ _ obm,Z4 _ aA,_,rfl,_,rfl,_,rfl,_,rfl,M,ds,wa,xs,m,qs,day,need,l1,l2,o1,o2,f,none,.non,rfl,W.same S5,ok,(CI es).1,hds,S5 _ _ h1,S5 _ _ h2,n1,n2,d0,d1,g0,g1,fun n hn=>(hall n hn),rfl,fun lv s1 s2 H6 W6 T6 F6=>?_⟩;have R6:WH (mo M ds wa xs qs) H (mo (M.setv lv) ds wa (s1::s2::xs) qs) H6:=(WH.same S5).trans ⟨T6,F6⟩;refine Yd ?_;dsimp only [Yb];unfold Mo.owes at k;obtain⟨us,u1,_,hul⟩:=(W6.ls (M.lq,m.debts) (by simp[Mo.at_,Mo.tried,ML.setv])).get;dsimp only at u1 hul;have hql:=ok.ql;obtain⟨dm6,obm6⟩:=W6.ob;refine⟨_,rfl,M.p,CM,dm6,_,_,rfl,obm6,Tm.cl,Tm.nq,GY _,.inl ⟨rfl,_,ZG.of u1⟩,_,rfl,_,rfl,_,rfl,_,rfl,_,rfl,aB rfl,fun b hb=>?_⟩;refine nw (o:=.tup [.int day,.str y,.str x,.int many]) hb fun H7 S7 k7=>?_;refine⟨aB rfl,fun a' ha=>?_⟩;refine nw (o:=.tup [.int m.trials.length,.ref b]) ha fun H8 S8 k8=>?_;have W8:=W6.same (S7.trans S8);have u8:=S8 _ _ (S7 _ _ u1);refine⟨M.lq,us,.ref a',rfl,rfl,u8,by lia,?_⟩;have W9:ZD C CM (upd H8 M.lq (.lst (us ++ [.ref a']))) (M.setv lv) ds wa (s1::s2::xs) _ qs:=W8.debt (d:=.tup [.int m.trials.length,.tup [.int day,.str y,.str x,.int many]]) (v:=.ref a') u8 ⟨a',_,rfl,Wz k8,⟨_,_,rfl,rfl,⟨_,_,rfl,⟨b,_,rfl,Wz (S8 _ _ k7),⟨_,_,rfl,rfl,⟨_,_,rfl,rfl,⟨_,_,rfl,rfl,⟨_,_,rfl,rfl,rfl⟩⟩⟩⟩⟩,rfl⟩⟩⟩
 have R9:WH (mo M ds wa xs qs) H (mo (M.setv lv) ds wa (s1::s2::xs) qs) (upd H8 M.lq (.lst (us ++ [.ref a']))):=(R6.trans (WH.same (S7.trans S8))).trans ⟨fun b o e nb=>by
  rw[Zc (fun z:b=M.lq=>nb (z ▸ .inr (.inr (.inl (by simp[ML.ls,ML.setv])))))];exact e,fun _ hb=>.inl hb⟩
 generalize (upd H8 M.lq (.lst (us ++ [.ref a'])))=H9 at W9 R9 ⊢;obtain⟨dm9,obm9⟩:=W9.ob;obtain⟨vs,f1,_,f2⟩:=(W9.ls (M.ld,m.deeds) (by simp[Mo.at_,Mo.tried,ML.setv])).get;dsimp only at f1 f2;have r1:=R9.1 l1 _ h1 w1;have r2:=R9.1 l2 _ h2 w2;refine⟨_,rfl,M.p,CM,dm9,_,_,rfl,obm9,Tm.cl,Tm.nd,JR _,.inl ⟨rfl,_,ZG.of f1⟩,_,rfl,_,rfl,_,rfl,_,rfl,_,rfl,_,rfl,l1,_,rfl,.inl (ZG.of r1),fun a1 ha1=>?_⟩;refine nw (o:=.lst (o1.map V.str)) ha1 fun Ha Sa ka=>?_;refine⟨_,rfl,l2,_,rfl,.inl (ZG.of (Sa _ _ r2)),fun a2 ha2=>?_⟩;refine nw (o:=.lst (o2.map V.str)) ha2 fun Hb Sb kb=>?_;refine⟨aB rfl,fun q hq'=>?_⟩;refine nw (o:=.tup [.str "wergild", .str x,.str y,.int many,.int day,.int need,.ref a1,.ref a2]) hq' fun Hc Sc kc=>?_;have Sac:=(Sa.trans Sb).trans Sc;refine⟨M.ld,vs,.ref q,rfl,rfl,Sac _ _ f1,by lia,?_⟩;have ka':=Sc _ _ (Sb _ _ ka);have kb':=Sc _ _ kb;obtain⟨W10,R10⟩:=W9.deed2 Sac ha1 (Sa.free ha2) ka' kb' f1 (d:=weD x y many day need o1 o2) (v:=.ref q)
  ⟨q,_,rfl,Wz kc,⟨_,_,rfl,rfl,⟨_,_,rfl,rfl,⟨_,_,rfl,rfl,⟨_,_,rfl,rfl,⟨_,_,rfl,rfl,⟨_,_,rfl,rfl,⟨_,_,rfl,⟨a1,_,rfl,U1 (by simp) ka',J2 _ _⟩,⟨_,_,rfl,⟨a2,_,rfl,U1 (by simp) kb',J2 _ _⟩,rfl⟩⟩⟩⟩⟩⟩⟩⟩⟩
 exact⟨_,rfl,k _ _ ⟨M.setv lv,wa,_,qs,rfl,W10,rfl⟩ (R9.trans R10)⟩
theorem Fn.alias(F:Fn P w K mg base y ps k sp)(e:mg x=mg y):Fn P w K mg base x ps k sp:=let ⟨f,fd,a,b⟩:=F;⟨f,fd,e.trans a,b⟩
def acD(i:Int)(n:Str)(day need:Int)(o1 o2:dF):D:=.tup [.str "accuse", .int i,.str n,.int day,.int need,.lst (o1.map D.str),.lst (o2.map D.str)]
def Mo.told(m:Mo)(d:D):Mo:={m with deeds:=m.deeds ++ [d] }
theorem VE.told(k:VE m)(d:D):VE (m.told d):=⟨k.ok,k.dl,k.br,k.le,k.vl,k.hb,fun q hq=>xW (k.hl q hq) (by show _<=(m.deeds ++ [d]).length;rw[xK];lia),xW k.ql (by show _<=(m.deeds ++ [d]).length;rw[xK];lia)⟩
def Mo.acc(m:Mo)(i:Int)(n:Str)(day need:Int)(f:Str->Int)(o1 o2:dF):Mo:=(m.told (acD i n day need o1 o2)).tried day ⟨Wf f o1,Wf f o2,need,some (i,n)⟩
def Cn(ds:List ZQ)(m:Mo)(i:Int)(n:Str)(day need:Int)(f:Str->Int)(o1 o2:dF):Option Str:=(Cv need).or ((Vu ds m day (o1++o2) none (some (i,n))).or ((U2 m need f o1 o2).or (if Uu m.trials i n=[] then none else some ("Broken":Str))))
inductive JQ(C CM:dN)(vs:aG)(H:Hp)(Q:VK)(z3:XK):Prop
 |mk(p) (ds) (m) (O) (i) (n) (day need) (l1 l2) (o1 o2) (f)(_:vs=[.ref p,.int i,.str n,.int day,.int need,.ref l1,.ref l2])(_:YR C CM H p ds m O)(_:JM ds m H l1 l2 o1 o2 day need f)(_:¬O l1)(_:¬O l2)(_:Cn ds m i n day need f o1 o2=none)(_:∀O' H',YR C CM H' p ds (m.acc i n day need f o1 o2) O'->WH O H O' H'->Q (.int m.trials.length) H')
abbrev GP:Stmt:=Yc (top 77) 10
theorem Pk(Zh2:ZU K CM "accuse" "Moot.accuse" GP)(T:Txt mg)(Tm:ZJ K CM)(Wy:Fn P w K mg base "check_day" ["day"] 1 WD)(Zcy:Fn P w K mg base "check_need" ["need"] 1 VU)(MM_check_named:Mt P w K mg base CM "check_named" ["self","day","people","thing","oath"] 3 (WC C CM))(MM_check_sides:Mt P w K mg base CM "check_sides" ["self","day","need","ones","others"] 4 (WQ C CM))(Z0y:Fn P w K mg base "breakers_stands" ["suits","case","name"] 6 WX)(MM_try_case:Mt P w K mg base CM "try_case" ["self","day","need","ones","others","oath"] 5 (Tn C CM)):Mt P w K mg base CM "accuse" ["self","case","name","day","need","ones","others"] 7 (JQ C CM):=by
 refine Zh2.mq ["self","case","name","day","need","ones","others"] fun H vs Q E hr h=>?_;obtain⟨_,ds,m,_,i,n,day,need,l1,l2,o1,o2,f,rfl,⟨M,wa,xs,qs,rfl,W,rfl⟩,a,w1,w2,he,k⟩:=h;refine⟨rfl,_,(Zd (Zo (Zk Wy (Za Q7 Zb))) (Zd (Zo (Zk Zcy (Za Q8 Zb))) (Zd (Zo (Zz Q0 Tm.cl MM_check_named (Za Q7 (Za (Zy Ux Q9 Qa) (Za Y3 (Za (Yi (Za Q5 (Za Q6 Zb))) Zb)))))) (Zd (Zo (Zz Q0 Tm.cl MM_check_sides (Za Q7 (Za Q8 (Za Q9 (Za Qa Zb)))))) (Zd (Zn (Gk (Zk Z0y (Za (Zw Q0) (Za Q5 (Za Q6 Zb)))) (fun _=>rfl)) (Ze Yn) Zq) (Zd (Zo (Wd aD aE aF Wk (Zw Q0) (Za (Yi (Za Yq (Za Q5 (Za Q6 (Za Q7 (Za Q8 (Za (Vl JH T.list Vc (Za Q9 Zb)) (Za (Vl JH T.list Vc (Za Qa Zb)) Zb)))))))) Zb))) (Ze (Zm (Zz Q0 Tm.cl MM_try_case (Za Q7 (Za Q8 (Za Q9 (Za Qa (Za (Yi (Za Q5 (Za Q6 Zb))) Zb)))))))))))))),?_⟩;have hz:=aC
 obtain⟨dm,obm⟩:=W.ob;have ⟨ok,h4,hds,h1,h2,n1,n2,d0,d1,hw⟩:=a;have e1:(o1.map V.str).length=o1.length:=xB ..;have e2:(o2.map V.str).length=o2.length:=xB ..;simp only[Cn,wG] at he;obtain⟨en,ea,es,eb⟩:=he;obtain⟨g0,g1⟩:=Be en;refine⟨_,rfl,day,rfl,d0,d1,_,rfl,need,rfl,g0,g1,?_⟩;refine⟨_,rfl,M.p,dm,_,rfl,obm,Z4 _ aA,_,rfl,_,rfl,_,rfl,l1,l2,_,_,rfl,rfl,h1,h2,by rw[e1,e2];lia,fun q hq=>?_⟩;have S1:=ZC.new (o:=.lst (o1.map V.str++o2.map V.str)) hq;have k1:(upd H q (.lst (o1.map V.str++o2.map V.str))) q=some (.lst ((o1++o2).map V.str)):=by rw[Zg,xP]
 generalize (upd H q (.lst (o1.map V.str++o2.map V.str)))=H1 at S1 k1 ⊢;refine⟨_,rfl,_,rfl,aB rfl,fun t ht=>?_⟩;have S2':=ZC.new (o:=.tup [.int i,.str n]) ht;have S2:=S1.trans S2';have k2:(upd H1 t (.tup [.int i,.str n])) t=some (.tup [.int i,.str n]):=Zg;have k2q:=S2' _ _ k1;generalize (upd H1 t (.tup [.int i,.str n]))=H2 at S2 k2 k2q ⊢;refine⟨M,ds,wa,xs,m,qs,day,q,o1++o2,none,some (i,n),.ref t,rfl,W.same S2,ok,k2q,⟨t,rfl,k2⟩,ea,fun H4 S4'=>?_⟩;have S4:=S2.trans S4';obtain⟨p1,_,p3⟩:=Do ea;have ho:=(p3 (i,n) rfl).1;have hall:=a.all fun n hn=>let ⟨d,e1,e2,_⟩:=p1 n hn;⟨d,e1,e2⟩
 refine⟨_,rfl,M.p,dm,_,rfl,S4 _ _ obm,Z4 _ aA,_,rfl,_,rfl,_,rfl,_,rfl,M,ds,wa,xs,m,qs,day,need,l1,l2,o1,o2,f,rfl,W.same S4,ok,h4,hds,S4 _ _ h1,S4 _ _ h2,n1,n2,d0,d1,hall,es,fun H5 S5'=>?_⟩;have S5:=S4.trans S5';obtain⟨j,_,rfl,_,_⟩:=Eb ho;obtain⟨ts,t1,t2,_⟩:=((W.same S5).ls (M.lt,m.trials.map Y0) (by simp[Mo.at_])).get;have hle:=ok.le;refine⟨_,rfl,M.p,CM,dm,_,_,rfl,S5 _ _ obm,Tm.cl,Tm.nt,Uh _,_,rfl,_,rfl,M.lt,m.trials,j,n,rfl,⟨ts,t1,t2⟩,ok.ok,by lia,ho,fun lb H6 hlb klb S6'=>?_⟩;have S6:=S5.trans S6';have eb:Uu m.trials j n=[]:=Be eb;rw[eb] at klb;refine⟨_,.inl ⟨_,ZG.of klb,rfl⟩,?_⟩;refine Zp ?_;dsimp only [Yb];have W6:=W.same S6;obtain⟨vs,f1,_,f2⟩:=(W6.ls (M.ld,m.deeds) (by simp[Mo.at_])).get;dsimp only at f1 f2;refine⟨_,rfl,M.p,CM,dm,_,_,rfl,S6 _ _ obm,Tm.cl,Tm.nd,JR _,.inl ⟨rfl,_,ZG.of f1⟩,_,rfl,_,rfl,_,rfl,_,rfl,_,rfl,l1,_,rfl,.inl (ZG.of (S6 _ _ h1)),fun a1 ha1=>?_⟩;refine nw (o:=.lst (o1.map V.str)) ha1 fun Ha Sa ka=>?_;refine⟨_,rfl,l2,_,rfl,.inl (ZG.of (Sa _ _ (S6 _ _ h2))),fun a2 ha2=>?_⟩;refine nw (o:=.lst (o2.map V.str)) ha2 fun Hb Sb kb=>?_;refine⟨aB rfl,fun q' hq'=>?_⟩;refine nw (o:=.tup [.str "accuse", .int j,.str n,.int day,.int need,.ref a1,.ref a2]) hq' fun Hc Sc kc=>?_;have Sac:=(Sa.trans Sb).trans Sc;refine⟨M.ld,vs,.ref q',rfl,rfl,Sac _ _ f1,by lia,?_⟩;have ka':=Sc _ _ (Sb _ _ ka);have kb':=Sc _ _ kb;obtain⟨W7,R7⟩:=W6.deed2 Sac ha1 (Sa.free ha2) ka' kb' f1 (d:=acD j n day need o1 o2) (v:=.ref q')
  ⟨q',_,rfl,Wz kc,⟨_,_,rfl,rfl,⟨_,_,rfl,rfl,⟨_,_,rfl,rfl,⟨_,_,rfl,rfl,⟨_,_,rfl,rfl,⟨_,_,rfl,⟨a1,_,rfl,U1 (by simp) ka',J2 _ _⟩,⟨_,_,rfl,⟨a2,_,rfl,U1 (by simp) kb',J2 _ _⟩,rfl⟩⟩⟩⟩⟩⟩⟩⟩
 replace R7:=(WH.same S6).trans R7;generalize (upd Hc M.ld (.lst (vs ++ [.ref q'])))=H7 at W7 R7 ⊢;obtain⟨dm7,obm7⟩:=W7.ob;refine⟨_,rfl,M.p,dm7,_,rfl,obm7,Z4 _ aA,_,rfl,_,rfl,_,rfl,_,rfl,_,rfl,_,rfl,aB rfl,fun t2 ht2=>?_⟩;refine nw (o:=.tup [.int j,.str n]) ht2 fun H8 S8 k8=>?_;have R8:=R7.trans (WH.same S8);refine⟨M,ds,wa,_,m.told (acD j n day need o1 o2),qs,day,need,l1,l2,o1,o2,f,some ((j:Int),n),.ref t2,rfl,W7.same S8,ok.told _,(CI es).1,hds,R8.1 l1 _ h1 w1,R8.1 l2 _ h2 w2,n1,n2,d0,d1,g0,g1,fun n hn=>(hall n hn),⟨t2,rfl,k8⟩,fun lv s1 s2 H9 W9 T9 F9=>?_⟩;exact k _ _ ⟨M.setv lv,wa,_,qs,rfl,W9,rfl⟩ (R8.trans ⟨T9,F9⟩)
inductive WT(C CM:dN)(vs:aG)(H:Hp)(Q:VK)(z3:XK):Prop
 |mk(M) (ds) (wa) (xs) (m) (qs) (n) (day)(_:vs=[.ref M.p,.str n,.int day])(_:ZD C CM H M ds wa xs m qs)(_:m.deeds.length<400)(_:m.brs.length<40)(_:m.haps.length<=1000)(_:0<=day)(_:day<=9999)(_:VE m)(_:Vu ds m day [n] none none=none)(_:∀q H',ZD C CM H' M ds wa xs {m with brs:=m.brs ++ [.tup [.str n,.int day]],haps:=m.haps ++ [[]],deeds:=m.deeds ++ [.tup [.str "bring", .str n,.int day]] } (qs ++ [q])->Uo M ds wa xs qs H H'->WI M ds wa xs qs M ds wa xs (qs ++ [q]) H->Q (.int m.brs.length) H')
abbrev K8:Stmt:=Yc (top 77) 5
theorem Sz(Zh3:ZU K CM "bring" "Moot.bring" K8)(T:Txt mg)(Tm:ZJ K CM)(C0:∃t,mg "MOST_THINGS"=some (.int 40 t))(Wy:Fn P w K mg base "check_day" ["day"] 1 WD)(MM_check_named:Mt P w K mg base CM "check_named" ["self","day","people","thing","oath"] 3 (WC C CM))(MM_check_moments:Mt P w K mg base CM "check_moments" ["self"] 1 (YH C CM)):Mt P w K mg base CM "bring" ["self","name","day"] 4 (WT C CM):=by
 obtain⟨t0,c_MOST_THINGS⟩:=C0;have r_MOST_THINGS:ZF (.int 40) (.int 40 t0):=⟨t0,rfl⟩;refine Zh3.mq ["self","name","day"] fun H vs Q E hr h=>?_;obtain⟨M,ds,wa,xs,m,qs,n,day,rfl,W0,hn4,hl,hh,d0,d1,c1,c3,k⟩:=h;refine⟨rfl,_,(Zd (Zo (Zk Wy (Za Q6 Zb))) (Zd (Zo (Zz Q0 Tm.cl MM_check_named (Za Q6 (Za (Ym (Za Q5 Zb)) (Za Y3 (Za Y3 Zb)))))) (Zd (Zn (Zt JV (Z5 Y8 T.len Yz (Za (Zw Q0) Zb)) (Yg c_MOST_THINGS r_MOST_THINGS) (Zu _)) (Ze Yn) Zq) (Zd (Zo (Vs Q0 Tm.cl MM_check_moments)) (Zd (Zo (Wd aD aE aF Wk (Zw Q0) (Za (Yi (Za Q5 (Za Q6 Zb))) Zb))) (Zd (Zo (Wd aD aE aF Wk (Zw Q0) (Za (Ym Zb) Zb))) (Zd (Zo (Wd aD aE aF Wk (Zw Q0) (Za (Yi (Za Yq (Za Q5 (Za Q6 Zb)))) Zb))) (Ze (Zm (Zy Vm (Z5 Y8 T.len Yz (Za (Zw Q0) Zb)) Zf)))))))))),?_⟩;have hz:=aC
 refine⟨_,rfl,day,rfl,d0,d1,?_⟩;obtain⟨dm,obm⟩:=W0.ob;refine⟨_,rfl,M.p,dm,_,rfl,obm,Z4 _ aA,_,rfl,_,rfl,aB rfl,fun pl hpl=>?_⟩;refine nw (o:=.lst [.str n]) hpl fun H1 S1 k1=>?_;have W1:=W0.same S1;refine⟨M,ds,wa,xs,m,qs,day,pl,[n],none,none,.non,rfl,W1,c1,k1,rfl,c3,fun H1' S1'=>?_⟩;replace S1:=S1.trans S1';replace W1:=W1.same S1';have obm1:=S1 _ _ obm;obtain⟨us,e1,_,hul⟩:=(W1.ls (M.lb,m.brs) (by simp[Mo.at_])).get;dsimp only at e1 hul;refine⟨_,rfl,M.p,CM,dm,_,_,rfl,obm1,Tm.cl,Tm.nb,Bb _,M.lb,us,rfl,.inl (ZG.of e1),_,_,rfl,rfl,_,rfl,Z7 (fun z=>absurd z (by lia)) (fun _=>?_)⟩;refine⟨_,rfl,M.p,dm,_,rfl,obm1,Z4 _ aA,M,ds,wa,xs,m,qs,rfl,W1,hn4,?_⟩;refine⟨_,rfl,M.p,CM,dm,_,_,rfl,obm1,Tm.cl,Tm.nb,Bb _,.inl ⟨rfl,_,ZG.of e1⟩,_,rfl,_,rfl,aB rfl,fun a ha=>?_⟩;refine nw (o:=.tup [.str n,.int day]) ha fun H2 S2 k2=>?_;have W2:=W1.same S2;refine⟨M.lb,us,.ref a,rfl,rfl,S2 _ _ e1,by lia,?_⟩;have W3:=W2.brg (S2 _ _ e1) (d:=.tup [.str n,.int day]) (v:=.ref a) ⟨a,_,rfl,Wz k2,⟨_,_,rfl,rfl,⟨_,_,rfl,rfl,rfl⟩⟩⟩;have T3:Uo M ds wa xs qs H (upd H2 M.lb (.lst (us ++ [.ref a]))):=fun b o e nb=>by
  rw[Zc (fun z:b=M.lb=>nb (z ▸ .inr (.inr (.inl (by simp[ML.ls])))))];exact S2 _ _ (S1 _ _ e)
 generalize (upd H2 M.lb (.lst (us ++ [.ref a])))=H3 at W3 T3 ⊢;obtain⟨dm2,obm2⟩:=W3.ob;have e3:=W3.hl;refine⟨_,rfl,M.p,CM,dm2,_,_,rfl,obm2,Tm.cl,Tm.nh,Fe _,.inl ⟨rfl,_,ZG.of e3⟩,aB rfl,fun q hq=>?_⟩;have S4:=ZC.new (o:=.lst []) hq;have k4:(upd H3 q (.lst [])) q=some (.lst []):=Zg;have nq:¬mo M ds wa xs qs q:=fun z=>by obtain⟨o,e⟩:=W3.there z;rw[hq] at e;cases e
 have hqf:H q=none:=by
  cases e:H q with
  | none=>rfl
  | some o=>rw[T3 q o e nq] at hq;cases hq
 generalize (upd H3 q (.lst []))=H4 at S4 k4 ⊢;refine⟨M.lh,qs.map V.ref,.ref q,rfl,rfl,S4 _ _ e3,by rw[xB];have:=W0.hn;lia,?_⟩;have W5:=(W3.same S4).newq k4 nq;have T5:Uo M ds wa xs qs H (upd H4 M.lh (.lst (qs.map V.ref ++ [.ref q]))):=fun b o e nb=>by
  rw[Zc (fun z:b=M.lh=>nb (z ▸ .inr (.inr (.inl xU))))];exact S4 _ _ (T3 b o e nb)
 have em:(qs ++ [q]).map V.ref=qs.map V.ref ++ [.ref q]:=by rw[xP];rfl
 rw[em] at W5;generalize (upd H4 M.lh (.lst (qs.map V.ref ++ [.ref q])))=H5 at W5 T5 ⊢;obtain⟨dm4,obm4⟩:=W5.ob;obtain⟨vs,f1,_,f2⟩:=(W5.ls (M.ld,m.deeds) (by simp[Mo.at_])).get;dsimp only at f1 f2;refine⟨_,rfl,M.p,CM,dm4,_,_,rfl,obm4,Tm.cl,Tm.nd,JR _,.inl ⟨rfl,_,ZG.of f1⟩,_,rfl,_,rfl,aB rfl,fun p hp=>?_⟩;refine nw (o:=.tup [.str "bring", .str n,.int day]) hp fun H6 S6 k6=>?_;have W6:=W5.same S6;refine⟨M.ld,vs,.ref p,rfl,rfl,S6 _ _ f1,by lia,?_⟩;have W7:=W6.deed (v:=.ref p) (S6 _ _ f1) (d:=.tup [.str "bring", .str n,.int day]) ⟨p,_,rfl,Wz k6,⟨_,_,rfl,rfl,⟨_,_,rfl,rfl,⟨_,_,rfl,rfl,rfl⟩⟩⟩⟩;have T7:Uo M ds wa xs qs H (upd H6 M.ld (.lst (vs ++ [.ref p]))):=fun b o e nb=>by
  rw[Zc (fun z:b=M.ld=>nb (z▸CH))];exact S6 _ _ (T5 b o e nb)
 generalize (upd H6 M.ld (.lst (vs ++ [.ref p])))=H7 at W7 T7 ⊢;obtain⟨dm6,obm6⟩:=W7.ob;obtain⟨us6,g1,_,g2⟩:=(W7.ls (M.lb,m.brs ++ [.tup [.str n,.int day]]) (by simp[Mo.at_])).get;dsimp only at g1 g2;rw[xK] at g2;refine⟨_,rfl,M.p,CM,dm6,_,_,rfl,obm6,Tm.cl,Tm.nb,Bb _,M.lb,us6,rfl,.inl (ZG.of g1),_,_,rfl,rfl,?_⟩;have ei:((us6.length:Int) - 1)=(m.brs.length:Int):=by rw[g2];simp
 show Q (.int ((us6.length:Int) - 1)) H7;rw[ei];refine k q H7 W7 T7 fun b hb=>?_;rcases hb with z | z | z | z | z
 ·exact .inl (.inl z)
 ·exact .inl (.inr (.inl z))
 ·rw[← zN,← yH] at z;rcases xR.mp z with z | z
  ·exact .inl (.inr (.inr (.inl z)))
  ·rw[xQ.mp z];exact .inr hqf
 ·exact .inl (.inr (.inr (.inr (.inl z))))
 ·exact .inl (.inr (.inr (.inr (.inr z))))
theorem J3{t u:TS}{D:YK}{U:St}{H:Hp}(h:∀D':YK,(∀ σ' H',u D σ' H'->D'.nx σ' H')->t D' U H):Ua t u D U H:=h {D with nx:=u D } fun _ _ h=>h
theorem ini(hp:H p=some (.ins CM dx fs))(hl:H l=none):(upd (upd H l y) p (.ins CM dx fs')) p=some (.ins CM dx fs')/\(upd (upd H l y) p (.ins CM dx fs')) l=some y/\(∀b o,H b=some o->b≠p->(upd (upd H l y) p (.ins CM dx fs')) b=some o)/\p≠l:=by
 have n:p≠l:=Zi hp hl;exact⟨Zg,by rw[Zc n.symm,Zg],fun b o e nb=>by rw[Zc nb,Zc (Zi e hl)];exact e,n⟩
theorem J7{N:Hp->Prop}{H:Hp}{p l dx:dN}{fs:List (Str×V)}{nm:Str}{y:HO}{k:Nat}(hp:H p=some (.ins CM dx fs))(hl:H l=none)(hb:fs.length<=k)(h:∀H1 f1,Zj nm (.ref l) fs=f1->f1.length<=k+1->H1 p=some (.ins CM dx f1)->H1 l=some y->(∀b o,H b=some o->b≠p->H1 b=some o)->N H1):N (upd (upd H l y) p (.ins CM dx (Zj nm (.ref l) fs))) :=
 have i:=ini (fs':=Zj nm (.ref l) fs) (y:=y) hp hl
 h _ _ rfl (xW (Ag ..) (by lia)) i.1 i.2.1 i.2.2.1
def mo0:Mo:=⟨[],[],[],[],[],[],[],fun _=>none,0⟩
inductive VJ(C CM:dN)(vs:aG)(H:Hp)(Q:VK)(z3:XK):Prop
 |mk(p dx)(_:vs=[.ref p])(_:H p=some (.ins CM dx []))(_:∀M H',M.p=p->ZD C CM H' M [] (fun _=>0) [] mo0 []->(∀b o,H b=some o->b≠p->H' b=some o)->(∀b,mo M [] (fun _=>0) [] [] b->b=p\/H b=none)->Q .non H')
abbrev Ij:Stmt:=Yc (top 77) 0
theorem RX(Zh4:ZU K CM "__init__" "Moot.__init__" Ij)(Tm:ZJ K CM)(M_Folk:B2 P w K mg base C "Folk" 1 (TU C)):Mt P w K mg base CM "__init__" ["self"] 3 (VJ C CM):=by
 refine Zh4.mq ["self"] fun H vs Q E hr h=>?_;obtain⟨p,dx,rfl,hp,k⟩:=h;refine⟨rfl,_,(Zd (Ve Q0 (Ym Zb)) (Zd (Ve Q0 (E3 M_Folk)) (Zd (Ve Q0 (Ym Zb)) (Zd (Ve Q0 (Ym Zb)) (Zd (Ve Q0 (Ym Zb)) (Zd (Ve Q0 (Ym Zb)) (Zd (Ve Q0 (Ym Zb)) (Zd (Ve Q0 (Ym Zb)) (Ze (Ve Q0 AR)))))))))),?_⟩;have hz:=aC
 refine J3 fun D1 hn1=>?_;refine⟨aB rfl,fun ld hld=>?_⟩;have pld:p≠ld:=Zi hp hld;refine⟨_,rfl,p,CM,dx,[],rfl,(by rw[Zc pld];exact hp),Tm.cl,Tm.nd,(yS (xD 0) aA),J7 (k:=0) hp hld (xD 0) fun H1 f1 g1 l1 i1p i1l i1k=>hn1 _ _ ?_⟩;refine J3 fun D2 hn2=>?_;intro x dx2 nx ndx nex;have px:p≠x:=Zi i1p nx;have pdx:p≠dx2:=Zi i1p ndx;refine⟨x,dx2,rfl,Zg,fun L H2a eL F2 kp fr=>⟨rfl,?_⟩⟩;subst eL;have sm2:ZC H1 H2a:=fun b o e=>kp b o (by rw[Zc (Zi e nx),Zc (Zi e ndx)];exact e) (Zi e nx);have fr2:∀b,b=L.dc\/b=L.dw\/b=L.dd\/b=L.dh->H1 b=none:=fun b hb=>by
  have:=fr b hb
  by_cases c:b=L.p
  ·rw[c];exact nx
  ·rw[Zc c] at this
   by_cases c2:b=dx2
   ·rw[c2];exact ndx
   ·rw[Zc c2] at this;exact this
 have i2p0:=sm2 _ _ i1p;have K2:Fk C H2a L [] (fun _=>0):=by
  obtain⟨kv,w1,w2⟩:=F2.w;exact⟨F2,WO.start F2,kv,w1,fun p hp=>by rw[List.eq_nil_of_length_eq_zero (Nat.le_zero.mp w2)] at hp;cases hp⟩
 refine⟨_,rfl,p,CM,dx,f1,rfl,i2p0,Tm.cl,Tm.nf,(yS l1 aA),hn2 _ _ ?_⟩;have l2:(Zj "folk" (V.ref L.p) f1).length<=2:=xW (Ag ..) (by lia);generalize g2:Zj "folk" (V.ref L.p) f1=f2 at l2 ⊢;have i2p:(upd H2a p (.ins CM dx f2)) p=some (.ins CM dx f2):=Zg;have i2k:∀b o,H2a b=some o->b≠p->(upd H2a p (.ins CM dx f2)) b=some o:=fun b o e nb=>by rw[Zc nb];exact e
 generalize (upd H2a p (.ins CM dx f2))=H2 at i2p i2k ⊢;refine J3 fun D3 hn3=>?_;refine⟨aB rfl,fun lb hlb=>?_⟩;have plb:p≠lb:=Zi i2p hlb;refine⟨_,rfl,p,CM,dx,f2,rfl,(by rw[Zc plb];exact i2p),Tm.cl,Tm.nb,(yS l2 aA),J7 (k:=2) i2p hlb l2 fun H3 f3 g3 l3 i3p i3l i3k=>hn3 _ _ ?_⟩;refine J3 fun D4 hn4=>?_;refine⟨aB rfl,fun lh hlh=>?_⟩;have plh:p≠lh:=Zi i3p hlh;refine⟨_,rfl,p,CM,dx,f3,rfl,(by rw[Zc plh];exact i3p),Tm.cl,Tm.nh,(yS l3 aA),J7 (k:=3) i3p hlh l3 fun H4 f4 g4 l4 i4p i4l i4k=>hn4 _ _ ?_⟩;refine J3 fun D5 hn5=>?_;refine⟨aB rfl,fun lq hlq=>?_⟩;have plq:p≠lq:=Zi i4p hlq;refine⟨_,rfl,p,CM,dx,f4,rfl,(by rw[Zc plq];exact i4p),Tm.cl,Tm.nq,(yS l4 aA),J7 (k:=4) i4p hlq l4 fun H5 f5 g5 l5 i5p i5l i5k=>hn5 _ _ ?_⟩;refine J3 fun D6 hn6=>?_;refine⟨aB rfl,fun lt hlt=>?_⟩;have plt:p≠lt:=Zi i5p hlt;refine⟨_,rfl,p,CM,dx,f5,rfl,(by rw[Zc plt];exact i5p),Tm.cl,Tm.nt,(yS l5 aA),J7 (k:=5) i5p hlt l5 fun H6 f6 g6 l6 i6p i6l i6k=>hn6 _ _ ?_⟩;refine J3 fun D7 hn7=>?_;refine⟨aB rfl,fun ly hly=>?_⟩;have ply:p≠ly:=Zi i6p hly;refine⟨_,rfl,p,CM,dx,f6,rfl,(by rw[Zc ply];exact i6p),Tm.cl,Tm.ny,(yS l6 aA),J7 (k:=6) i6p hly l6 fun H7 f7 g7 l7 i7p i7l i7k=>hn7 _ _ ?_⟩;refine J3 fun D8 hn8=>?_;refine⟨aB rfl,fun lv hlv=>?_⟩;have plv:p≠lv:=Zi i7p hlv;refine⟨_,rfl,p,CM,dx,f7,rfl,(by rw[Zc plv];exact i7p),Tm.cl,Tm.nv,(yS l7 aA),J7 (k:=7) i7p hlv l7 fun H8 f8 g8 l8 i8p i8l i8k=>hn8 _ _ ?_⟩;intro dp hdp;have pdp:p≠dp:=Zi i8p hdp;refine⟨_,rfl,p,CM,dx,f8,rfl,(by rw[Zc pdp];exact i8p),Tm.cl,Tm.np,(yS l8 aA),J7 (k:=8) i8p hdp l8 fun H9 f9 g9 l9 i9p i9l i9k=>?_⟩;have k1:=i1k;have k2:∀b o,H b=some o->b≠p->H2 b=some o:=fun b o e n=>i2k b o (sm2 b o (k1 b o e n)) n;have k3:∀b o,H b=some o->b≠p->H3 b=some o:=fun b o e n=>i3k b o (k2 b o e n) n;have k4:∀b o,H b=some o->b≠p->H4 b=some o:=fun b o e n=>i4k b o (k3 b o e n) n;have k5:∀b o,H b=some o->b≠p->H5 b=some o:=fun b o e n=>i5k b o (k4 b o e n) n;have k6:∀b o,H b=some o->b≠p->H6 b=some o:=fun b o e n=>i6k b o (k5 b o e n) n;have k7:∀b o,H b=some o->b≠p->H7 b=some o:=fun b o e n=>i7k b o (k6 b o e n) n;have k8:∀b o,H b=some o->b≠p->H8 b=some o:=fun b o e n=>i8k b o (k7 b o e n) n;have k9:∀b o,H b=some o->b≠p->H9 b=some o:=fun b o e n=>i9k b o (k8 b o e n) n;have q2:=i2k;have q3:∀b o,H2a b=some o->b≠p->H3 b=some o:=fun b o e n=>i3k b o (q2 b o e n) n;have q4:∀b o,H2a b=some o->b≠p->H4 b=some o:=fun b o e n=>i4k b o (q3 b o e n) n;have q5:∀b o,H2a b=some o->b≠p->H5 b=some o:=fun b o e n=>i5k b o (q4 b o e n) n;have q6:∀b o,H2a b=some o->b≠p->H6 b=some o:=fun b o e n=>i6k b o (q5 b o e n) n;have q7:∀b o,H2a b=some o->b≠p->H7 b=some o:=fun b o e n=>i7k b o (q6 b o e n) n;have q8:∀b o,H2a b=some o->b≠p->H8 b=some o:=fun b o e n=>i8k b o (q7 b o e n) n;have q9:∀b o,H2a b=some o->b≠p->H9 b=some o:=fun b o e n=>i9k b o (q8 b o e n) n;have eld:H9 ld=some (.lst []):=(i9k _ _ (i8k _ _ (i7k _ _ (i6k _ _ (i5k _ _ (i4k _ _ (i3k _ _ (i2k _ _ (sm2 _ _ i1l) pld.symm) pld.symm) pld.symm) pld.symm) pld.symm) pld.symm) pld.symm) pld.symm);have zld:H ld=none:=hld;have elb:H9 lb=some (.lst []):=(i9k _ _ (i8k _ _ (i7k _ _ (i6k _ _ (i5k _ _ (i4k _ _ i3l plb.symm) plb.symm) plb.symm) plb.symm) plb.symm) plb.symm);have zlb:H lb=none:=by
  cases eb:H lb with
  | none=>rfl
  | some o=>have:=k2 _ _ eb plb.symm;rw[hlb] at this;cases this
 have elh:H9 lh=some (.lst []):=(i9k _ _ (i8k _ _ (i7k _ _ (i6k _ _ (i5k _ _ i4l plh.symm) plh.symm) plh.symm) plh.symm) plh.symm);have zlh:H lh=none:=by
  cases eb:H lh with
  | none=>rfl
  | some o=>have:=k3 _ _ eb plh.symm;rw[hlh] at this;cases this
 have elq:H9 lq=some (.lst []):=(i9k _ _ (i8k _ _ (i7k _ _ (i6k _ _ i5l plq.symm) plq.symm) plq.symm) plq.symm);have zlq:H lq=none:=by
  cases eb:H lq with
  | none=>rfl
  | some o=>have:=k4 _ _ eb plq.symm;rw[hlq] at this;cases this
 have elt:H9 lt=some (.lst []):=(i9k _ _ (i8k _ _ (i7k _ _ i6l plt.symm) plt.symm) plt.symm);have zlt:H lt=none:=by
  cases eb:H lt with
  | none=>rfl
  | some o=>have:=k5 _ _ eb plt.symm;rw[hlt] at this;cases this
 have ely:H9 ly=some (.lst []):=(i9k _ _ (i8k _ _ i7l ply.symm) ply.symm);have zly:H ly=none:=by
  cases eb:H ly with
  | none=>rfl
  | some o=>have:=k6 _ _ eb ply.symm;rw[hly] at this;cases this
 have elv:H9 lv=some (.lst []):=(i9k _ _ i8l plv.symm);have zlv:H lv=none:=by
  cases eb:H lv with
  | none=>rfl
  | some o=>have:=k7 _ _ eb plv.symm;rw[hlv] at this;cases this
 have edp:H9 dp=some (.dK []):=i9l;have zdp:H dp=none:=by
  cases eb:H dp with
  | none=>rfl
  | some o=>have:=k8 _ _ eb pdp.symm;rw[hdp] at this;cases this
 have nldlb:ld≠lb:=Zi (i2k _ _ (sm2 _ _ i1l) pld.symm) hlb;have nldlh:ld≠lh:=Zi (i3k _ _ (i2k _ _ (sm2 _ _ i1l) pld.symm) pld.symm) hlh;have nldlq:ld≠lq:=Zi (i4k _ _ (i3k _ _ (i2k _ _ (sm2 _ _ i1l) pld.symm) pld.symm) pld.symm) hlq;have nldlt:ld≠lt:=Zi (i5k _ _ (i4k _ _ (i3k _ _ (i2k _ _ (sm2 _ _ i1l) pld.symm) pld.symm) pld.symm) pld.symm) hlt;have nldly:ld≠ly:=Zi (i6k _ _ (i5k _ _ (i4k _ _ (i3k _ _ (i2k _ _ (sm2 _ _ i1l) pld.symm) pld.symm) pld.symm) pld.symm) pld.symm) hly;have nldlv:ld≠lv:=Zi (i7k _ _ (i6k _ _ (i5k _ _ (i4k _ _ (i3k _ _ (i2k _ _ (sm2 _ _ i1l) pld.symm) pld.symm) pld.symm) pld.symm) pld.symm) pld.symm) hlv;have nlblh:lb≠lh:=Zi i3l hlh;have nlblq:lb≠lq:=Zi (i4k _ _ i3l plb.symm) hlq;have nlblt:lb≠lt:=Zi (i5k _ _ (i4k _ _ i3l plb.symm) plb.symm) hlt;have nlbly:lb≠ly:=Zi (i6k _ _ (i5k _ _ (i4k _ _ i3l plb.symm) plb.symm) plb.symm) hly;have nlblv:lb≠lv:=Zi (i7k _ _ (i6k _ _ (i5k _ _ (i4k _ _ i3l plb.symm) plb.symm) plb.symm) plb.symm) hlv;have nlhlq:lh≠lq:=Zi i4l hlq;have nlhlt:lh≠lt:=Zi (i5k _ _ i4l plh.symm) hlt;have nlhly:lh≠ly:=Zi (i6k _ _ (i5k _ _ i4l plh.symm) plh.symm) hly;have nlhlv:lh≠lv:=Zi (i7k _ _ (i6k _ _ (i5k _ _ i4l plh.symm) plh.symm) plh.symm) hlv;have nlqlt:lq≠lt:=Zi i5l hlt;have nlqly:lq≠ly:=Zi (i6k _ _ i5l plq.symm) hly;have nlqlv:lq≠lv:=Zi (i7k _ _ (i6k _ _ i5l plq.symm) plq.symm) hlv;have nltly:lt≠ly:=Zi i6l hly;have nltlv:lt≠lv:=Zi (i7k _ _ i6l plt.symm) hlv;have nlylv:ly≠lv:=Zi i7l hlv;have pl:¬own L [] (fun _=>0) p:=fun z=>by
  rcases z with z | z | z | z | z | ⟨n,l,e,z⟩
  ·exact px z
  ·have:=fr2 p (.inl z);rw[i1p] at this;cases this
  ·have:=fr2 p (.inr (.inl z));rw[i1p] at this;cases this
  ·have:=fr2 p (.inr (.inr (.inl z)));rw[i1p] at this;cases this
  ·have:=fr2 p (.inr (.inr (.inr z)));rw[i1p] at this;cases this
  ·cases e
 have K9:Fk C H9 L [] (fun _=>0):=K2.at fun b o hb e=>q9 b o e fun z=>pl (z▸hb);have h1n:∀b,H1 b=none->b≠p->H b=none:=fun b hb n=>by
  cases eb:H b with
  | none=>rfl
  | some o=>have:=k1 _ _ eb n;rw[hb] at this;cases this
 have i9p:H9 p=some (.ins CM dx _):=i9p.trans (congrArg (fun f=>some (HO.ins CM dx f)) (g9.symm.trans (congrArg (Zj _ _) (g8.symm.trans (congrArg (Zj _ _) (g7.symm.trans (congrArg (Zj _ _) (g6.symm.trans (congrArg (Zj _ _) (g5.symm.trans (congrArg (Zj _ _) (g4.symm.trans (congrArg (Zj _ _) (g3.symm.trans (congrArg (Zj _ _) (g2.symm.trans (congrArg (Zj _ _) g1.symm)))))))))))))))));have ndp:¬own L [] (fun _=>0) dp:=fun z=>by
  obtain⟨o,e,_⟩:=K2.there z;have:=q8 _ _ e pdp.symm;rw[hdp] at this;cases this
 refine k ⟨p,L,ld,lb,lh,lq,lt,ly,lv,dp⟩ H9 rfl ⟨⟨dx,i9p⟩,K9,fun q hq=>?_,elh,rfl,⟨[],edp,xD _,fun _=>rfl⟩,?_,(fun _ z=>nomatch z),(fun _ z=>nomatch z),px,ndp⟩ k9 (fun b hb=>?_)
 ·simp only[Mo.at_,mo0,xF,List.zip_nil_left,yE,or_false] at hq;rcases hq with rfl | rfl | rfl | rfl | rfl | rfl
  ·exact⟨[],eld,rfl⟩
  ·exact⟨[],elb,rfl⟩
  ·exact⟨[],elq,rfl⟩
  ·exact⟨[],elt,rfl⟩
  ·exact⟨[],ely,rfl⟩
  ·exact⟨[],elv,rfl⟩
 ·simp only[ML.ls,yL,yK,xF,yE,or_false,not_or,not_false_eq_true,List.nodup_nil,and_true];exact⟨⟨Ne.symm nldlh,Ne.symm nlblh,nlhlq,nlhlt,nlhly,nlhlv⟩,⟨nldlb,nldlq,nldlt,nldly,nldlv⟩,⟨nlblq,nlblt,nlbly,nlblv⟩,⟨nlqlt,nlqly,nlqlv⟩,⟨nltly,nltlv⟩,nlylv⟩
 ·rcases hb with z | z | z | z | z
  ·exact .inl z
  ·rw[z];exact .inr zdp
  ·simp only[ML.ls,yL,xF,yE,or_false] at z;rcases z with rfl | rfl | rfl | rfl | rfl | rfl | rfl<;>exact .inr (by assumption)
  ·cases z
  ·have ne:b≠p:=fun y=>pl (y▸z);refine .inr ?_;rcases z with z | z | z | z | z | ⟨n,l,e,z⟩
   ·exact h1n b (by rw[z];exact nx) ne
   ·exact h1n b (fr2 b (.inl z)) ne
   ·exact h1n b (fr2 b (.inr (.inl z))) ne
   ·exact h1n b (fr2 b (.inr (.inr (.inl z)))) ne
   ·exact h1n b (fr2 b (.inr (.inr (.inr z)))) ne
   ·cases e
inductive UT(C CM:dN)(vs:aG)(H:Hp)(Q:VK)(z3:XK):Prop
 |mk(M) (ds) (wa) (xs) (m) (qs)(_:vs=[.ref M.p])(_:ZD C CM H M ds wa xs m qs)(_:Q (.int m.trials.length) H)
abbrev Kb:Stmt:=Yc (top 77) 18
theorem NB(Zh5:ZU K CM "cases" "Moot.cases" Kb)(T:Txt mg)(Tm:ZJ K CM):Mt P w K mg base CM "cases" ["self"] 1 (UT C CM):=by
 refine Zh5.mq ["self"] fun H vs Q E hr h=>?_;obtain⟨M,ds,wa,xs,m,qs,rfl,W,k⟩:=h;refine⟨rfl,_,(Ze (Zm (Z5 Y8 T.len Yz (Za (Zw Q0) Zb)))),?_⟩;obtain⟨dx,ob⟩:=W.ob;obtain⟨vs,d1,_,d2⟩:=(W.ls (M.lt,m.trials.map Y0) (by simp[Mo.at_])).get;dsimp only at d1 d2;rw[xB] at d2;refine⟨_,rfl,M.p,CM,dx,_,_,rfl,ob,Tm.cl,Tm.nt,Uh _,M.lt,vs,rfl,.inl (ZG.of d1),?_⟩;rw[d2];exact k
inductive UW(C CM:dN)(vs:aG)(H:Hp)(Q:VK)(z3:XK):Prop
 |mk(M) (ds) (wa) (xs) (m) (qs)(_:vs=[.ref M.p])(_:ZD C CM H M ds wa xs m qs)(_:VE m)(_:∀l us H',H l=none->ZC H H'->H' l=some (.lst us)->ZK H' (m.trials.map Y0) us->Q (.ref l) H')
abbrev Gs:Stmt:=Yc (top 77) 19
theorem X6(Zh6:ZU K CM "suits" "Moot.suits" Gs)(T:Txt mg)(Tm:ZJ K CM):Mt P w K mg base CM "suits" ["self"] 1 (UW C CM):=by
 refine Zh6.mq ["self"] fun H vs Q E hr h=>?_;obtain⟨M,ds,wa,xs,m,qs,rfl,W,ok,k⟩:=h
 refine⟨rfl,_,(Ze (Zm (Wv (locs:=["ones","others","need","named"]) (fr:=[]) ⟨rfl,aA,aA,aA,aA,aA⟩ .nil rfl (Y7 (Zw Q0)) ⟨fun _ _ _ _ _ _=>by
  have cnd:(inN ["ones","others","need","named"] []).Nodup:=aA
  exact⟨(Ai 4 (by rfl) (Yp (Yw 0 cnd) (Yp (Yw 1 cnd) (Yp (Yw 2 cnd) (Yp (Yw 3 cnd) Vy))))),Uz,(Yi (Za (Vl Fc T.list Vc (Za (Yj 0) Zb) (n:=nmC)) (Za (Vl Fc T.list Vc (Za (Yj 1) Zb) (n:=nmC)) (Za (Yj 2) (Za (Yj 3) Zb)))))⟩⟩))),?_⟩
 have hz:=aC
 obtain⟨dm,obm⟩:=W.ob;obtain⟨ts,t1,t2,t3⟩:=(W.ls (M.lt,m.trials.map Y0) (by simp[Mo.at_])).get;dsimp only at t1 t2 t3;rw[xB] at t3;have hle:=ok.le;refine⟨_,rfl,M.p,CM,dm,_,_,rfl,obm,Tm.cl,Tm.nt,Uh _,M.lt,rfl,⟨_,ZG.of t1⟩,?_⟩;refine Ur (xs:=ts) (fun i ys H'=>ZC H H'/\ZK H' ((m.trials.take i).map Y0) ys) ⟨ZC.refl H,rfl⟩ (by lia) (fun i ys H' _ ⟨e,_⟩=>ZG.of (e _ _ t1)) ?_ ?_ ?_
 ·rintro i ys H' ⟨_,r⟩;rw[r.length,xB,xV];lia
 ·rintro i v ys H' hv ⟨S,r⟩ ls hls;have hi:i<m.trials.length:=by rw[← t3];exact(xE.mp hv).1
  have ht:m.trials[i]?=some m.trials[i]:=xC hi;generalize m.trials[i]=t at ht;obtain⟨ta,u1,u2,u4,hu,hta,⟨b1,w1,rfl,hb1,hr1⟩,⟨b2,w2,rfl,hb2,hr2⟩,h4⟩:=ZO.get (l:=M.lt) t2 ht;rw[hu] at hv;cases hv;obtain⟨x1,x2,x3,x4,rfl⟩:∃a b c d,ls=[a,b,c,d]:=by
   match ls,hls with
   | [a,b,c,d],_=>exact⟨a,b,c,d,rfl⟩
  refine⟨ta,_,rfl,ZP.of (S _ _ hta),rfl,_,_,rfl,_,_,rfl,_,_,rfl,_,_,rfl,rfl,⟨[_,_,_,_],rfl,rfl⟩,Z6 ?_⟩;refine⟨_,rfl,b1,_,rfl,.inl (ZG.of (S _ _ hb1)),fun a1 ha1=>?_⟩;refine nw (o:=.lst w1) ha1 fun Ha Sa ka=>?_;refine⟨_,rfl,b2,_,rfl,.inl (ZG.of (Sa _ _ (S _ _ hb2))),fun a2 ha2=>?_⟩;refine nw (o:=.lst w2) ha2 fun Hb Sb kb=>?_;refine⟨_,rfl,_,rfl,aB rfl,fun q hq=>⟨((S.trans Sa).trans Sb).trans (ZC.new hq),?_⟩⟩;have Sq:=ZC.new (o:=.tup [.ref a1,.ref a2,.int t.need,u4]) hq;have SS:=(((S.trans Sa).trans Sb).trans Sq);rw[yG,ht,xP];exact ZK.snoc (d:=Y0 t) ⟨q,_,rfl,Zg,⟨_,_,rfl,⟨a1,w1,rfl,Sq _ _ (Sb _ _ ka),(ZS.mono (ZC.t SS) hr1).rep⟩,⟨_,_,rfl,⟨a2,w2,rfl,Sq _ _ kb,(ZS.mono (ZC.t SS) hr2).rep⟩,⟨_,_,rfl,rfl,⟨_,_,rfl,YF.mono SS _ _ h4,rfl⟩⟩⟩⟩⟩ (r.mono' ((Sa.trans Sb).trans Sq))
 ·rintro ys H' ⟨S,r⟩ l hl;rw[t3,yJ] at r;exact k l ys _ (S.free hl) (S.trans (ZC.new hl)) Zg (r.mono' (ZC.new hl))
end
section
variable{C:dN}
inductive UB(C:dN)(vs:aG)(H:Hp)(Q:VK)(z3:XK):Prop
 |mk(L) (ds) (n)(_:vs=[.ref L.p,.str n])(_:ZT C H L ds)(_:Yk ds n=none)(_:Q .non H)
abbrev HC:Stmt:=Yc (top 42) 20
theorem Og(Zh7:ZU K C "check_untold" "Folk.check_untold" HC)(Tc:VC K C):Mt P w K mg base C "check_untold" ["self","name"] 1 (UB C):=by
 refine Zh7.mq ["self","name"] fun H vs Q E hr h=>?_;obtain⟨L,ds,n,rfl,F,c5,k⟩:=h;refine⟨rfl,_,(Ze (Zn (Zt (Bn hr) Q5 (Zw Q0) rfl) (Ze Yn) Zq)),?_⟩;obtain⟨dx,ob⟩:=F.ob;obtain⟨kvs,e1,e2,e3⟩:=F.d;have g:=YA.k (k:=Sum.inr n) e1;rw[e3,c5] at g;exact⟨_,rfl,_,rfl,L.p,C,dx,_,_,rfl,ob,Tc.cl,Tc.nd,BX _ _ _ _,L.dd,_,rfl,g,_,rfl,Zp k⟩
end
section
variable{C CM:dN}
inductive Jb(C CM:dN)(vs:aG)(H:Hp)(Q:VK)(z3:XK):Prop
 |mk(M) (ds) (wa) (xs) (m) (qs) (n) (d)(_:vs=[.ref M.p,.str n])(_:ZD C CM H M ds wa xs m qs)(_:m.deeds.length<400)(_:m.npen<=1000)(_:m.trials.length<=1000)(_:Z0 ds n=some d)(_:Yk ds n=none)(_:∀H',ZD C CM H' M ds wa xs {m with pen:=fun x=>if x=n then some (m.trials.length:Int) else m.pen x,npen:=m.npen+1,deeds:=m.deeds ++ [.tup [.str "penance", .str n]] } qs->Uo M ds wa xs qs H H'->Q .non H')
abbrev Gw:Stmt:=Yc (top 77) 4
theorem Qc(Zh8:ZU K CM "penance" "Moot.penance" Gw)(T:Txt mg)(Tc:VC K C)(Tm:ZJ K CM)(M_check_known:Mt P w K mg base C "check_known" ["self","name"] 1 (WE C))(M_check_untold:Mt P w K mg base C "check_untold" ["self","name"] 1 (UB C))(MM_check_moments:Mt P w K mg base CM "check_moments" ["self"] 1 (YH C CM)):Mt P w K mg base CM "penance" ["self","name"] 2 (Jb C CM):=by
 refine Zh8.mq ["self","name"] fun H vs Q E hr h=>?_;obtain⟨M,ds,wa,xs,m,qs,n,d,rfl,W0,hn4,hp4,ht4,hc,hd,k⟩:=h;refine⟨rfl,_,(Zd (Zo (Zz (Zw Q0) Tc.cl M_check_known (Za Q5 Zb))) (Zd (Zo (Zz (Zw Q0) Tc.cl M_check_untold (Za Q5 Zb))) (Zd (Zo (Vs Q0 Tm.cl MM_check_moments)) (Zd (J9 hr (Zw Q0) Q5 (Z5 Y8 T.len Yz (Za (Zw Q0) Zb))) (Ze (Zo (Wd aD aE aF Wk (Zw Q0) (Za (Yi (Za Yq (Za Q5 Zb))) Zb)))))))),?_⟩;have hz:=aC
 obtain⟨dm,obm⟩:=W0.ob;obtain⟨dx,ob⟩:=W0.fk.f.ob;refine⟨_,rfl,M.p,CM,dm,_,_,rfl,obm,Tm.cl,Tm.nf,V0 _,M.L.p,dx,_,rfl,ob,Wn _ _ _ _ aA,_,rfl,M.L,ds,n,d,rfl,W0.fk.f,hc,?_⟩;refine⟨_,rfl,M.p,CM,dm,_,_,rfl,obm,Tm.cl,Tm.nf,V0 _,M.L.p,dx,_,rfl,ob,Wn _ _ _ _ aA,_,rfl,M.L,ds,n,rfl,W0.fk.f,hd,?_⟩;refine⟨_,rfl,M.p,dm,_,rfl,obm,Z4 _ aA,M,ds,wa,xs,m,qs,rfl,W0,hn4,?_⟩;obtain⟨ts,t1,_,t2⟩:=(W0.ls (M.lt,m.trials.map Y0) (by simp[Mo.at_])).get;dsimp only at t1 t2;rw[xB] at t2;obtain⟨kvs,p1,p2,p3⟩:=W0.pn;refine⟨_,rfl,M.p,CM,dm,_,_,rfl,obm,Tm.cl,Tm.nt,Uh _,M.lt,ts,rfl,.inl (ZG.of t1),?_⟩;refine⟨_,rfl,M.p,CM,dm,_,_,rfl,obm,Tm.cl,Tm.np,FZ _,_,rfl,M.dp,_,rfl,WB.k (k:=Sum.inr n) p1 (by lia),?_⟩;rw[t2];have W1:=W0.pena (n:=n) (c:=(m.trials.length:Int)) p1;have g0:∀b o,b≠M.dp->H b=some o->(upd H M.dp (.dK (Z2 kvs (.inr n) (.int m.trials.length)))) b=some o:=fun b o nb e=>by rw[Zc nb];exact e
 generalize (upd H M.dp (.dK (Z2 kvs (.inr n) (.int m.trials.length))))=H1 at W1 g0 ⊢;obtain⟨dm2,obm2⟩:=W1.ob;obtain⟨vs,e1,_,e2⟩:=(W1.ls (M.ld,m.deeds) (by simp[Mo.at_])).get;dsimp only at e1 e2;refine⟨_,rfl,M.p,CM,dm2,_,_,rfl,obm2,Tm.cl,Tm.nd,JR _,.inl ⟨rfl,_,ZG.of e1⟩,_,rfl,aB rfl,fun p hp=>?_⟩;refine nw (o:=.tup [.str "penance", .str n]) hp fun H3 S3 kp=>?_;have W3:=W1.same S3;refine⟨M.ld,vs,.ref p,rfl,rfl,S3 _ _ e1,by lia,?_⟩;refine k _ (W3.deed (S3 _ _ e1) ⟨p,_,rfl,Wz kp,⟨_,_,rfl,rfl,⟨_,_,rfl,rfl,rfl⟩⟩⟩) (fun b o e nb=>?_);rw[Zc (fun z:b=M.ld=>nb (z▸CH))];exact S3 _ _ (g0 b o (fun z=>nb (.inr (.inl z))) e)
theorem Fl:∀{bs:List Bool}{vs:aG},ZK H (bs.map D.bl) vs->vs=bs.map V.bl
 | [],_,h=>h
 | _::_,_,⟨_,_,e,e1,h⟩=>by rw[e,e1,Fl h];rfl
inductive YU(C CM:dN)(vs:aG)(H:Hp)(Q:VK)(z3:XK):Prop
 |mk(M) (ds) (wa) (xs) (m) (qs)(_:vs=[.ref M.p])(_:ZD C CM H M ds wa xs m qs)(_:m.verd.length<=1000)(_:∀l H',H l=none->H' l=some (.lst (m.verd.map V.bl))->ZC H H'->Q (.ref l) H')
abbrev KL:Stmt:=Yc (top 77) 20
theorem QL(Zh9:ZU K CM "standing" "Moot.standing" KL)(T:Txt mg)(Tm:ZJ K CM):Mt P w K mg base CM "standing" ["self"] 1 (YU C CM):=by
 refine Zh9.mq ["self"] fun H vs Q E hr h=>?_;obtain⟨M,ds,wa,xs,m,qs,rfl,W,hv,k⟩:=h;refine⟨rfl,_,(Ze (Zm (Vl JH T.list Vc (Za (Zw Q0) Zb)))),?_⟩;have hz:=aC
 obtain⟨dx,ob⟩:=W.ob;obtain⟨vs,d1,d2,_⟩:=(W.ls (M.lv,m.verd.map D.bl) (by simp[Mo.at_])).get;dsimp only at d1;rw[Fl d2] at d1;refine⟨_,rfl,M.p,CM,dx,_,_,rfl,ob,Tm.cl,Tm.nv,DR _,M.lv,_,rfl,.inl (ZG.of d1),fun l hl=>?_⟩;exact k l _ hl Zg (ZC.new hl)
inductive UK(C CM:dN)(vs:aG)(H:Hp)(Q:VK)(z3:XK):Prop
 |mk(M) (ds) (wa) (xs) (m) (qs) (n) (day d0 wt)(_:vs=[.ref M.p,.str n,.int day])(_:ZD C CM H M ds wa xs m qs)(_:ds.length<=1000)(_:0<=day)(_:day<=9999)(_:Z0 ds n=some d0)(_:d0<=day)(_:Bj (kw ds n) day wt)(_:∀H',ZC H H'->Q (.int wt) H')
abbrev FG:Stmt:=Yc (top 77) 14
theorem PY(Zia:ZU K CM "weight" "Moot.weight" FG)(Tc:VC K C)(Tm:ZJ K CM)(M_weight:Mt P w K mg base C "weight" ["self","name","day"] 2 (VG C)):Mt P w K mg base CM "weight" ["self","name","day"] 3 (UK C CM):=by
 refine Zia.mq ["self","name","day"] fun H vs Q E hr h=>?_;obtain⟨M,ds,wa,xs,m,qs,n,day,d0,wt,rfl,W,h1,h2,h3,h4,h5,h6,k⟩:=h;refine⟨rfl,_,(Ze (Zm (Zz (Zw Q0) Tc.cl M_weight (Za Q5 (Za Q6 Zb))))),?_⟩;obtain⟨dm,obm⟩:=W.ob;obtain⟨dx,ob⟩:=W.fk.f.ob;exact⟨_,rfl,M.p,CM,dm,_,_,rfl,obm,Tm.cl,Tm.nf,V0 _,M.L.p,dx,_,rfl,ob,Wn _ _ _ _ aA,_,rfl,_,rfl,M.L,ds,wa,n,day,d0,wt,rfl,W.fk.f,W.fk.w,h1,h2,h3,h4,h5,h6,k⟩
inductive TX(C CM:dN)(vs:aG)(H:Hp)(Q:VK)(z3:XK):Prop
 |mk(p) (ds) (m) (O) (n) (d)(_:vs=[.ref p,.str n])(_:YR C CM H p ds m O)(_:VE m)(_:Z0 ds n=some d)(_:∀H',ZC H H'->Q (.bl (fors m n)) H')
abbrev Ie:Stmt:=Yc (top 77) 28
theorem cH(Zib:ZU K CM "forsworn" "Moot.forsworn" Ie)(Tc:VC K C)(Tm:ZJ K CM)(M_check_known:Mt P w K mg base C "check_known" ["self","name"] 1 (WE C))(MM_forsworn_names:Mt P w K mg base CM "forsworn_names" ["self"] 1 (VF C CM)):Mt P w K mg base CM "forsworn" ["self","name"] 2 (TX C CM):=by
 refine Zib.mq ["self","name"] fun H vs Q E hr h=>?_;obtain⟨_,ds,m,_,n,d,rfl,⟨M,wa,xs,qs,rfl,W,rfl⟩,ok,hn,k⟩:=h;refine⟨rfl,_,(Zd (Zo (Zz (Zw Q0) Tc.cl M_check_known (Za Q5 Zb))) (Ze (Zm (Ul (Bn hr) Q5 (Vs Q0 Tm.cl MM_forsworn_names) rfl)))),?_⟩;obtain⟨dm,obm⟩:=W.ob;obtain⟨dx,ob⟩:=W.fk.f.ob;exact⟨_,rfl,M.p,CM,dm,_,_,rfl,obm,Tm.cl,Tm.nf,V0 _,M.L.p,dx,_,rfl,ob,Wn _ _ _ _ aA,_,rfl,M.L,ds,n,d,rfl,W.fk.f,hn,_,rfl,_,rfl,M.p,dm,_,rfl,obm,Z4 _ aA,M,ds,wa,xs,m,qs,rfl,W,ok.vl,ok.le,fun g kvs H1 fg S1 kg hg=>⟨g,_,rfl,YA.k (k:=Sum.inr n) kg,by rw[hg];exact k H1 S1⟩⟩
def scD:D->Bool
 | .str _=>true
 | .int _=>true
 | .non=>true
 | .bl _=>true
 | _=>false
theorem Qo(h:scD d=true):isI d "list"=false:=by cases d<;>first | rfl | cases h
def plD(d:D):Prop:=scD d=true\/∃o:List Str,d=.lst (o.map D.str)/\o.length<=60
def nwH(H H':Hp):Hp:=fun b=>if H b=none then H' b else none
theorem AL(e:nwH H H' b=some o):H b=none/\H' b=some o:=by
 unfold nwH at e
 by_cases h:H b=none
 ·rw[if_pos h] at e;exact⟨h,e⟩
 ·rw[if_neg h] at e;cases e
theorem Ca(h:H b=none)(e:H' b=some o):nwH H H' b=some o:=by unfold nwH;rw[if_pos h];exact e
theorem De(S:ZC H1 H2):ZC (nwH H H1) (nwH H H2):=fun b o e=>Ca (AL e).1 (S b o (AL e).2)
theorem OX(S:ZC H H1):ZC (nwH H1 H2) (nwH H H2):=fun b o e=>Ca (S.free (AL e).1) (AL e).2
theorem Ct:∀{ns:dF}{vs:aG},ZK H (ns.map D.str) vs->vs=ns.map V.str
 | [],_,h=>h
 | _::_,_,⟨_,_,e,h1,h2⟩=>by rw[e,h1,Ct h2];rfl
inductive TR(vs:aG)(H:Hp)(Q:VK)(z3:XK):Prop
 |mk(p) (us) (ds)(_:vs=[.ref p])(_:H p=some (.tup us))(_:ZK H ds us)(_:(∀d∈ds,plD d))(_:ds.length<=10)(_:∀q H',YF (nwH H H') (.tup ds) (.ref q)->ZC H H'->Q (.ref q) H')
abbrev GK:Stmt:=top 21
theorem QV(Zic:YC K mg "copied" GK)(T:Txt mg):Fn P w K mg base "copied" ["deed"] 1 TR:=by
 refine Zic.fq ["deed"] fun H vs Q E hr h=>?_;obtain⟨p,us,ds,rfl,hp,hr,hs,hl,k⟩:=h
 refine⟨rfl,_,(Ze (Zm (Vl LI T.tuple Du (Za (Wv (locs:=["part"]) (fr:=[]) ⟨rfl,aA,aA,aA,aA,aA⟩ .nil rfl (Qj Q0) ⟨fun _ _ _ _ _ _=>by
  have cnd:(inN ["part"] []).Nodup:=aA
  exact⟨(Yw 0 cnd),Uz,(Lu (Yu (Z5 QU T.isinstance Vx (Za (Yj 0) (Za (Vz (v:=.ty "list") T.list Vc rfl (n:=nmC)) Zb)) (n:=nmC))) (Vl Fc T.list Vc (Za (Yj 0) Zb) (n:=nmC)) (Yj 0))⟩⟩) Zb)))),?_⟩
 have hul:us.length=ds.length:=hr.length;have hz:=aC
 refine⟨_,rfl,p,rfl,⟨_,ZP.of hp⟩,?_⟩;refine NY (xs:=us) (fun i ys H'=>ZC H H'/\ZK (nwH H H') (ds.take i) ys) ⟨ZC.refl H,rfl⟩ (by lia) (fun i ys H' _ ⟨e,_⟩=>ZP.of (e _ _ hp)) (fun i ys H' ⟨_,e⟩=>by rw[e.length,xV];lia) ?_ ?_
 ·rintro i v ys H' hv ⟨S,r⟩ ls hls;obtain⟨w0,rfl⟩:=Us hls;obtain⟨d,hd,re⟩:=hr.get hv;have re:=YF.mono S _ _ re;obtain⟨t1,ty1,e1⟩:=isi (K:=K) re "list" aA;have et:ds.take (i+1)=ds.take i ++ [d]:=by rw[yG,hd];rfl
  rw[et];refine⟨⟨[_],rfl,rfl⟩,?_⟩;rcases hs d (xO hd) with z | ⟨o,rfl,ho⟩
  ·rw[Qo z] at e1;refine⟨_,rfl,v, "list", t1,_,rfl,ty1,e1,_,rfl,Zp ⟨_,rfl,S,r.snoc (by cases d<;>first | (cases z;done) | exact re)⟩⟩
  ·obtain⟨l0,us0,rfl,h0,h1⟩:=id re;refine⟨_,rfl,.ref l0, "list", t1,_,rfl,ty1,e1,_,rfl,Z6 ⟨_,rfl,l0,_,rfl,.inl (ZG.of h0),fun q hq=>?_⟩⟩;have S2:=ZC.new (o:=.lst us0) hq;refine⟨S.trans S2,ZK.snoc (show YF _ (.lst (o.map D.str)) (.ref q) from⟨q,us0,rfl,Ca (S.free hq) Zg,?_⟩) (r.mono' (De S2))⟩;rw[Ct h1];exact J2 _ o
 ·rintro ys H' ⟨S,r⟩ l hl;rw[hul,yJ] at r;refine nw (o:=.lst ys) hl fun H1 S1 k1=>?_;exact⟨l,_,rfl,.inl ⟨ZG.of k1,fun q hq=>k q _ ⟨q,ys,rfl,Ca ((S.trans S1).free hq) Zg,r.mono' (De (S1.trans (ZC.new hq)))⟩ ((S.trans S1).trans (ZC.new hq))⟩⟩
def AV(d:D):Prop:=∃ts,d=.tup ts/\(∀x∈ts,plD x)/\ts.length<=10
inductive Tw(C CM:dN)(vs:aG)(H:Hp)(Q:VK)(z3:XK):Prop
 |mk(M) (ds) (wa) (xs) (m) (qs)(_:vs=[.ref M.p])(_:ZD C CM H M ds wa xs m qs)(_:(∀d∈m.deeds,AV d))(_:m.deeds.length<=1000)(_:∀l ms H',H l=none->H' l=some (.lst ms)->ZK (nwH H H') m.deeds ms->ZC H H'->Q (.ref l) H')
abbrev Ia:Stmt:=Yc (top 77) 12
theorem Xd(Zid:ZU K CM "roll" "Moot.roll" Ia)(Tm:ZJ K CM)(Z03:Fn P w K mg base "copied" ["deed"] 1 TR):Mt P w K mg base CM "roll" ["self"] 2 (Tw C CM):=by
 refine Zid.mq ["self"] fun H vs Q E hr h=>?_;obtain⟨M,ds,wa,xs,m,qs,rfl,W,hpl,hln,k⟩:=h
 refine⟨rfl,_,(Ze (Zm (Wv (locs:=["deed"]) (fr:=[]) ⟨rfl,aA,aA,aA,aA,aA⟩ .nil rfl (Y7 (Zw Q0)) ⟨fun _ _ _ _ _ _=>by
  have cnd:(inN ["deed"] []).Nodup:=aA
  exact⟨(Yw 0 cnd),Uz,(Zk Z03 (Za (Yj 0) Zb) (n:=nmC))⟩⟩))),?_⟩
 obtain⟨dx,ob⟩:=W.ob;obtain⟨vs,d1,d2,d3⟩:=(W.ls (M.ld,m.deeds) (by simp[Mo.at_])).get;dsimp only at d1 d2 d3;refine⟨_,rfl,M.p,CM,dx,_,_,rfl,ob,Tm.cl,Tm.nd,JR _,M.ld,rfl,⟨_,ZG.of d1⟩,?_⟩;refine Ur (xs:=vs) (fun i ys H'=>ZC H H'/\ZK (nwH H H') (m.deeds.take i) ys) ⟨ZC.refl _,rfl⟩ (by lia) (fun i ys H' _ ⟨e,_⟩=>ZG.of (e _ _ d1)) (fun i ys H' ⟨_,e⟩=>by rw[e.length,xV];lia) ?_ ?_
 ·rintro i v ys H' hv ⟨sm,hys⟩ ls hls;obtain⟨w0,rfl⟩:=Us hls;obtain⟨d,hd,re⟩:=d2.get hv;obtain⟨ts,rfl,hsc,h10⟩:=hpl d (xO hd);obtain⟨a,us,rfl,ha,hus⟩:=re;refine⟨⟨[_],rfl,rfl⟩,?_⟩;refine⟨_,rfl,a,us,ts,rfl,sm _ _ ha,hus.mono' sm,hsc,h10,fun q H2 r2 s2=>⟨sm.trans s2,?_⟩⟩;rw[yG,hd];exact(hys.mono' (De s2)).snoc (YF.mono (OX sm) _ _ r2)
 ·rintro ys H' ⟨sm,hys⟩ l hl;rw[d3,yJ] at hys;have S1:=ZC.new (o:=.lst ys) hl;exact k l ys _ (sm.free hl) Zg (hys.mono' (De S1)) (sm.trans S1)
end
def onD(o:Wa):D:=A3 (some o)
def okO(o:Wa):List ZM:=Z8 o.1 o.2
def AH:List ZM->Wa
 | [.inl c,.inr n]=>(c,n)
 | _=>(0,⟨#[]⟩)
theorem bD(h:YF H (onD o) v):∃a,v=.ref a/\H a=some (.tup [.int o.1,.str o.2]):=by
 obtain⟨a,vs,e,h1,⟨x,r1,rfl,e1,⟨y,r2,rfl,e2,e3⟩⟩⟩:=h;cases e1;cases e2;cases e3;exact⟨a,e,h1⟩
theorem bI(h:H a=some (.tup [.int o.1,.str o.2])):YF H (onD o) (.ref a):=⟨a,_,rfl,h,⟨_,_,rfl,rfl,⟨_,_,rfl,rfl,rfl⟩⟩⟩
theorem BD(h:shp k=[true,false]):okO (AH k)=k:=by
 match k,h with
 | [.inl c,.inr n],_=>rfl
theorem HM:∀ps:List (dN×List ZM),(∀p∈ps,L2.YB H p/\shp p.2=[true,false])->ZK H ((ps.map fun p=>AH p.2).map onD) (ps.map fun p=>V.ref p.1)
 | [],_=>rfl
 | p::ps,h=>by
  obtain⟨h1,h2⟩:=h p xU;refine⟨.ref p.1,_,rfl,bI ?_,HM ps fun q hq=>h q (yC _ hq)⟩;have e:p.2.map kV=[.int (AH p.2).1,.str (AH p.2).2]:=by rw[← BD h2];rfl
  unfold L2.YB at h1;rw[← e];exact h1
def Hf(os:List Wa):Prop:=os.Pairwise fun a b=>ltK (okO b) (okO a)=false
inductive WN (ss:List ZW):Option Wa->List Nat->Prop where
 | nil:WN ss none []
 | cons {c:Nat}{n:Str}{t:ZW}{cs:List Nat}:ss[c]?=some t->WN ss t.named cs->WN ss (some ((c:Int),n)) (c::cs)
theorem XB(m:Nat)(hm:n=m)(Pv:Nat->List V->Hp->Prop)(h0:Pv 0 [] H)(hn:m<=1000000)(hlen:∀i ys H,Pv i ys H->ys.length<=i)(step:∀i ys H,i<m->Pv i ys H->Wh nl fv g tt te (.int (lo+i)) H (fun y H'=>Pv (i+1) (ys ++ [y]) H') fun H'=>Pv (i+1) ys H')(hd:∀ys H,Pv m ys H->∀l,H l=none->Q (.ref l) (upd H l (.lst ys))):Vk (Jo lo n) nl fv g tt te Q H:=by
 subst hm;exact GM Pv h0 hn hlen step hd
inductive Te(vs:aG)(H:Hp)(Q:VK)(z3:XK):Prop
 |mk(l:dN) (ss:List ZW) (c:Nat) (t:ZW) (cs:List Nat)(_:vs=[.ref l,.int c])(_:ZO H ss l)(_:ss[c]?=some t)(_:WN ss t.named cs)(_:cs.length<=1000)(_:ss.length<=1000)(_:∀(l2:dN)(H':Hp),H l2=none->H' l2=some (.lst (Ys cs))->ZC H H'->Q (.ref l2) H')
def Gr(H:Hp)(l q:dN)(c:Nat)(ss:List ZW)(cs:List Nat):Nat->St->Hp->Prop:=fun m U H' =>
 ∃pre rest nm u,U=[some (.ref l),some (.int c),some (.ref q),some u]/\cs=pre++rest/\rest.length=m/\WN ss nm rest/\YF H' (A3 nm) u/\H' q=some (.lst (Ys pre))/\ZC H H'
abbrev IU:Stmt:=top 64
theorem cL(Zie:YC K mg "chain" IU)(T:Txt mg)(C3:∃t,mg "NAMED"=some (.int 3 t))(Zhq:Fn P w K mg base "check_case" ["suits","case"] 1 UP):Fn P w K mg base "chain" ["suits","case"] 2 Te:=by
 obtain⟨t3,c_NAMED⟩:=C3;have r_NAMED:ZF (.int 3) (.int 3 t3):=⟨t3,rfl⟩;refine Zie.fq ["suits","case","cases","named"] fun H vs Q E hr h=>?_;obtain⟨l,ss,c,t,cs,rfl,hsu,ht,hch,hcl,hsl,k⟩:=h;refine⟨rfl,_,(Zd (Zo (Zk Zhq (Za Q0 (Za Q5 Zb)))) (Zd (Zx 2 (Ym Zb)) (Zd (Zx 3 (Zh Zv (Zh Z3 Q0 Q5) (Yg c_NAMED r_NAMED))) (Zd (Ep PassesOwn.never (Zt JB Q7 Y3 (Zu _)) (Zd (Zo (Wd aD aE aF Wk Q6 (Za (Zh Zv Q7 Zf) Zb))) (Ze (Zx 3 (Zh Zv (Zh Z3 Q0 (Zh Zv Q7 Zf)) (Yg c_NAMED r_NAMED)))))) (Ze (Zm Q6)))))),?_⟩;have hz:=aC
 obtain⟨us,hl,hrep⟩:=id hsu;have hul:us.length=ss.length:=by have:=hrep.length;rw[xB] at this;exact this
 have hc:=(xE.mp ht).1;refine⟨_,rfl,_,rfl,l,us,c,rfl,hl,⟨by lia,by lia⟩,?_⟩;refine⟨aB rfl,fun q hq=>?_⟩;refine nw (o:=.lst []) hq fun H1 S1 k1=>?_;obtain⟨us1,hl1,hrep1⟩:=hsu.mono S1;obtain⟨ta,u1,u2,u4,hu,hta,_,_,h4⟩:=ZO.get (l:=l) hrep1 ht;refine⟨_,rfl,_,rfl,l,us1,c,.ref ta,rfl,rfl,ZG.of hl1,Yl hu,ta,_,3,u4,rfl,rfl,ZP.of hta,rfl,?_⟩;refine⟨Gr H l q c ss cs,⟨cs.length,[],cs,t.named,u4,rfl,rfl,rfl,hch,h4,k1,S1⟩,?_⟩;rintro m U H' ⟨pre,rest,nm,u,rfl,ecs,rfl,hr,hu',hq',sm⟩;refine⟨_,rfl,rfl,_,rfl,?_⟩;cases hr with
 | nil =>
  cases hu';refine Zp ?_;rw[yL] at ecs;rw[← ecs] at hq';exact⟨_,rfl,k q H' hq hq' sm⟩
 | cons ht' hr' =>
  rename_i j n t' cs';obtain⟨d,bs,rfl,hd,⟨y1,r1,rfl,e1,⟨y2,r2,rfl,e2,e3⟩⟩⟩:=hu';cases e1;cases e2;cases e3;have ndq:d≠q:=fun z=>by rw[z,hq'] at hd;cases hd
  refine Z6 ⟨fun σ' H''=>∃m',m'<(j::cs').length/\Gr H l q c ss cs m' σ' H'',fun _ _ h=>h,?_⟩;have hpl:pre.length<=1000:=by rw[ecs,xK] at hcl;lia
  refine⟨_,rfl,.inl ⟨rfl,_,ZG.of hq'⟩,_,rfl,d,_,0,.int j,rfl,rfl,ZP.of hd,rfl,q,_,.int j,rfl,rfl,hq',by unfold Ys;rw[xB];lia,?_⟩;have sm2:ZC H (upd H' q (.lst (Ys pre ++ [.int j]))):=fun b o e=>by
   rw[Zc (fun z=>by rw[z,hq] at e;cases e)];exact sm b o e
  have k2:(upd H' q (.lst (Ys pre ++ [.int j]))) q=some (.lst (Ys (pre ++ [j]))):=by
   rw[Zg];unfold Ys;rw[xP];rfl
  have hd2:(upd H' q (.lst (Ys pre ++ [.int j]))) d=some (.tup [.int j,.str n]):=by rw[Zc ndq];exact hd
  generalize (upd H' q (.lst (Ys pre ++ [.int j])))=H2 at sm2 k2 hd2 ⊢;obtain⟨us2,hl2,hrep2⟩:=hsu.mono sm2;obtain⟨ta2,w1,w2,w4,hw,hta2,_,_,h42⟩:=ZO.get (l:=l) hrep2 ht';refine⟨_,rfl,_,rfl,d,_,0,.int j,rfl,rfl,ZP.of hd2,rfl,l,us2,j,.ref ta2,rfl,rfl,ZG.of hl2,Yl hw,ta2,_,3,w4,rfl,rfl,ZP.of hta2,rfl,?_⟩;exact⟨cs'.length,by rw[xX];lia,pre ++ [j],cs',t'.named,w4,rfl,by rw[ecs,zN];rfl,rfl,hr',h42,k2,sm2⟩
structure ZZ where
 nm:Str
 wt:Int
 need:Int
def U3(r:ZZ):Prop:=1<=r.need/\r.need<=r.wt/\r.wt<=1000
def Y1:Nat->Option Wa->List ZZ->List ZW
 | _,_,[]=>[]
 | i,o,r::rs=>⟨[(r.nm,r.wt)],[],r.need,o⟩::Y1 (i+1) (some ((i:Int),r.nm)) rs
def alt:Nat->List Bool
 | 0=>[]
 | k+1=>decide (k % 2=0)::alt k
theorem Vp:∀rs i o,(Y1 i o rs).length=rs.length
 | [],_,_=>rfl
 | r::rs,i,o=>by rw[Y1,xX,Vp rs (i+1),xX]
theorem bZ{br:Int->Str->Bool}{c:Int}{r:ZZ}{o:Option Wa}(h:U3 r):decide (0<=Jz br c ⟨[(r.nm,r.wt)],[],r.need,o⟩)= !br c r.nm:=by
 obtain⟨h1,h2,h3⟩:=h;have e0:JG br c ([]:Y9)=0:=rfl;have e1:JG br c [(r.nm,r.wt)]=if br c r.nm then 0 else r.wt:=by
  unfold JG keep;cases hb:br c r.nm
  ·rw[List.filter_cons_of_pos (by show (!br c r.nm)=true;rw[hb];rfl)];show r.wt+0=r.wt;lia
  ·rw[List.filter_cons_of_neg (by show ¬(!br c r.nm)=true;rw[hb];decide)];rfl
 show decide (0<=JG br c [(r.nm,r.wt)] - JG br c [] - r.need)=_;rw[e0,e1];cases hb:br c r.nm
 ·exact xN (by show 0<=r.wt - 0 - r.need;lia)
 ·exact xT (by show ¬ 0<=0 - 0 - r.need;lia)
theorem HF:∀(rs:List ZZ)(i:Nat)(o:Option Wa),(∀r∈rs,U3 r)->(∀c n,o=some (c,n)->c<(i:Int))->
  (Yo [] i (Y1 i o rs)).1=alt rs.length/\∀(c:Int)(n:Str),c<(i:Int)->((c,n)∈(Yo [] i (Y1 i o rs)).2↔rs.length % 2=1/\o=some (c,n))
 | [],i,o,_,_=>⟨rfl,fun c n _=>⟨(fun z=>nomatch z),fun z=>absurd z.1 (by show ¬(0:Nat) % 2=1;decide)⟩⟩
 | r::rs,i,o,hr,ho=>by
  obtain⟨a,b⟩:=HF rs (i+1) (some ((i:Int),r.nm)) (fun x hx=>hr x (yC _ hx)) (fun c n e=>by cases e;lia);have hb:decide (((i:Int),r.nm)∈(Yo [] (i+1) (Y1 (i+1) (some ((i:Int),r.nm)) rs)).2)=decide (rs.length % 2=1):=by grind
  have hs:decide (0<=Jz (fun c n=>decide ((c,n)∈(Yo [] (i+1) (Y1 (i+1) (some ((i:Int),r.nm)) rs)).2)) i ⟨[(r.nm,r.wt)],[],r.need,o⟩)=decide (rs.length % 2=0):=by
   rw[bZ (hr r xU),hb]
   by_cases e:rs.length % 2=1
   ·rw[xN e,xT (by lia)];rfl
   ·rw[xT e,xN (by lia)];rfl
  have nb:∀(c:Int)(n:Str),c<(i:Int)->¬(c,n)∈(Yo [] (i+1) (Y1 (i+1) (some ((i:Int),r.nm)) rs)).2:=fun c n hc z=>by grind
  rw[Y1,Yo,hs];refine⟨?_,fun c n hc=>?_⟩
  ·show _::_=alt (rs.length+1);rw[a];rfl
  ·grind
theorem C5(h:∀r∈rs,U3 r):Wt (Y1 0 none rs)=alt rs.length:=(HF rs 0 none h (fun _ _ e=>nomatch e)).1
theorem AY:∀k,(alt k).length=k
 | 0=>rfl
 | k+1=>by rw[alt,xX,AY k]
theorem As:∀k c,c<k->(alt k)[c]?=some (decide ((k - 1 - c) % 2=0))
 | k+1,0,_=>rfl
 | k+1,c+1,h=>by
  rw[alt,zM,As k c (by lia)];have:k+1 - 1 - (c+1)=k - 1 - c:=by lia
  rw[this]
def Z9(rs:List ZZ):Nat->Option Wa
 | 0=>none
 | i+1=>(rs[i]?).map fun r=>((i:Int),r.nm)
theorem HR:∀(rs:List ZZ)(i:Nat)(o:Option Wa)(c:Nat)(r:ZZ),rs[c]?=some r ->
  (Y1 i o rs)[c]?=some ⟨[(r.nm,r.wt)],[],r.need,match c with | 0=>o | c+1=>(rs[c]?).map fun q=>(((i+c:Nat):Int),q.nm)⟩
 | q::rs,i,o,0,r,h=>by cases h;rfl
 | q::rs,i,o,c+1,r,h=>by
  rw[Y1,zM,HR rs (i+1) _ c r (by rw[zM] at h;exact h)];cases c with
  | zero=>rfl
  | succ c =>
   have:i+1+c=i+(c+1):=by lia
   simp only[zM,this]
theorem Af{rs:List ZZ}{c:Nat}{r:ZZ}(h:rs[c]?=some r):(Y1 0 none rs)[c]?=some ⟨[(r.nm,r.wt)],[],r.need,Z9 rs c⟩:=by
 rw[HR rs 0 none c r h];cases c with
 | zero=>rfl
 | succ c=>simp only[Nat.zero_add,Z9]
theorem Ho:∀rs i o r,
  Y1 i o (rs ++ [r])=Y1 i o rs ++ [⟨[(r.nm,r.wt)],[],r.need,match rs.length with | 0=>o | c+1=>(rs[c]?).map fun q=>(((i+c:Nat):Int),q.nm)⟩]
 | [],i,o,r=>rfl
 | q::rs,i,o,r=>by
  rw[yH,Y1,Ho rs (i+1) _ r,Y1,yH];cases rs with
  | nil=>rfl
  | cons p ps =>
   simp only[xX,zM];have:i+1+ps.length=i+(ps.length+1):=by lia
   rw[this]
theorem SA(rs:List ZZ)(r:ZZ):Y1 0 none (rs ++ [r])=Y1 0 none rs ++ [⟨[(r.nm,r.wt)],[],r.need,Z9 rs rs.length⟩]:=by
 rw[Ho rs 0 none r];cases h:rs.length with
 | zero=>rfl
 | succ c=>simp only[Nat.zero_add,Z9]
theorem KO:∀c,c<=rs.length->WN (Y1 0 none rs) (Z9 rs c) (List.range c).reverse
 | 0,_=>.nil
 | c+1,h=>by
  have hc:rs[c]?=some rs[c]:=xC h;rw[wP,List.reverse_append,List.reverse_singleton,List.singleton_append];show WN _ ((rs[c]?).map _) _;rw[hc];exact .cons (Af hc) (KO c (by lia))
section
variable{C CM:dN}
inductive UA(C CM:dN)(vs:aG)(H:Hp)(Q:VK)(z3:XK):Prop
 |mk(M:ML) (ds:List ZQ) (wa:dH) (xs:dI) (m:Mo) (qs:dI) (c:Nat) (t:ZW) (cs:List Nat)(_:vs=[.ref M.p,.int c])(_:ZD C CM H M ds wa xs m qs)(_:m.trials[c]?=some t)(_:WN m.trials t.named cs)(_:cs.length<=1000)(_:m.trials.length<=1000)(_:∀(l2:dN)(H':Hp),H l2=none->H' l2=some (.lst (Ys cs))->ZC H H'->Q (.ref l2) H')
theorem ZD.suits(W:ZD C CM H M ds wa xs m qs):ZO H m.trials M.lt:=by
 obtain⟨vs,d1,d2,_⟩:=(W.ls (M.lt,m.trials.map Y0) (by simp[Mo.at_])).get;exact⟨vs,d1,d2⟩
abbrev Gv:Stmt:=Yc (top 77) 24
theorem Xb(Zif:ZU K CM "chain" "Moot.chain" Gv)(Tm:ZJ K CM)(Z06:Fn P w K mg base "chain_stands" ["suits","case"] 2 Te):Mt P w K mg base CM "chain" ["self","case"] 3 (UA C CM):=by
 refine Zif.mq ["self","case"] fun H vs Q E hr h=>?_;obtain⟨M,ds,wa,xs,m,qs,c,t,cs,rfl,W,ht,hc,l1,l2,k⟩:=h;refine⟨rfl,_,(Ze (Zm (Zk Z06 (Za (Zw Q0) (Za Q5 Zb))))),?_⟩;obtain⟨dm,obm⟩:=W.ob;exact⟨_,rfl,M.p,CM,dm,_,_,rfl,obm,Tm.cl,Tm.nt,Uh _,_,rfl,M.lt,m.trials,c,t,cs,rfl,W.suits,ht,hc,l1,l2,k⟩
end
inductive TJ(vs:aG)(H:Hp)(Q:VK)(z3:XK):Prop
 |mk(l) (ss)(_:vs=[.ref l])(_:ZO H ss l)(_:(∀t∈ss,V7 t))(_:ss.length<64)(_:∀l2 ms os H',H l2=none->H' l2=some (.lst ms)->ZK H' (os.map onD) ms->Hf os->os.Nodup->(∀c n,(c,n)∈os↔Uu ss c n ≠ [])->ZC H H'->Q (.ref l2) H')
theorem Xp(c:Int)(n:Str):AH (Z8 c n)=(c,n):=rfl
abbrev Gi:Stmt:=top 61
theorem cA(Zig:YC K mg "broken" Gi)(T:Txt mg)(Zht:Fn P w K mg base "breaking" ["suits"] 5 YV):Fn P w K mg base "broken" ["suits"] 6 TJ:=by
 refine Zig.fq ["suits"] fun H vs Q E hr h=>?_;obtain⟨l,ss,rfl,hsu,hok,hlen,k⟩:=h;refine⟨rfl,_,(Ze (Zm (Z5 (Sk (by rfl)) T.sorted E5 (Za (Zk Zht (Za Q0 Zb)) Zb)))),?_⟩;refine⟨_,rfl,l,ss,rfl,hsu,hok,by lia,fun g H1 hg ⟨kvs,a1,a2,a3,a4⟩ _ sm1=>?_⟩;have hbl:(Wt ss).length=ss.length:=Cu [] ss 0;have hl9:(stL (Wt ss)).length<=(Wt ss).length:=EZ (Wt ss) (Wt ss).length;have hsh:∀p∈kvs,shp p.1=[true,false]:=fun p hp=>by
  obtain⟨c,n,e,_⟩:=a3 p hp;rw[e];rfl
 refine⟨g,kvs,[true,false],rfl,a1,by lia,hsh,(fun z=>nomatch z),fun l2 ms hl2 hT hperm hup hnd=>?_⟩;have S2:=ZC.new (o:=.lst (ms.map fun p=>V.ref p.1)) hl2;have hms:∀p∈ms,∃q∈kvs,q.1=p.2:=fun p hp=>by
  have:p.2∈kvs.map (·.1):=hperm.mem_iff.mp (yQ.mpr ⟨p,hp,rfl⟩);exact yQ.mp this
 have hs2:∀p∈ms,shp p.2=[true,false]:=fun p hp=>by
  obtain⟨q,hq,e⟩:=hms p hp;rw[← e];exact hsh q hq
 refine k l2 (ms.map fun p=>V.ref p.1) (ms.map fun p=>AH p.2) _ (sm1.free hl2) Zg (HM ms fun p hp=>⟨S2 _ _ (hT p hp),hs2 p hp⟩) ?_ ?_ (fun c n=>?_) (sm1.trans S2)
 ·unfold Hf;rw[zX];refine yY ?_ hup;intro a b ha hb h;rw[BD (hs2 a ha),BD (hs2 b hb)];exact h
 ·have nd:(ms.map (·.2)).Nodup:=hperm.nodup_iff.mpr hnd;unfold List.Nodup at nd ⊢;rw[zX] at nd ⊢;refine yY ?_ nd;intro a b ha hb h z;apply h;rw[← BD (hs2 a ha),← BD (hs2 b hb),z]
 ·constructor
  ·intro h;obtain⟨p,hp,e⟩:=yQ.mp h;obtain⟨q,hq,e2⟩:=hms p hp;obtain⟨c',n',e3,h3⟩:=a3 q hq;rw[← e2,e3,Xp] at e;cases e;exact h3
  ·intro h;rcases a4 c n with⟨_,z⟩ | ⟨a,e1,_⟩
   ·exact absurd z h
   ·have hin:=hperm.mem_iff.mpr (Qg e1);obtain⟨p,hp,e⟩:=yQ.mp hin;exact yQ.mpr ⟨p,hp,by rw[e];rfl⟩
section
variable{C:dN}
inductive YW (ds:List ZQ) (day:Int):Nat->Str->Str->Prop where
 | here {n:Str}:V4 ds n day=false->YW ds day 0 n n
 | step {n m:Str}{x:Int×Str}{k:Nat}:Yk ds n=some x->V4 ds n day=true->YW ds day k x.2 m->YW ds day (k+1) n m
inductive TM(C:dN)(vs:aG)(H:Hp)(Q:VK)(z3:XK):Prop
 |mk(L) (ds) (n) (x)(_:vs=[.ref L.p,.str n])(_:ZT C H L ds)(_:Yk ds n=some x)(_:Q (.int x.1) H)
abbrev GJ:Stmt:=Yc (top 42) 12
theorem OM(Zih:ZU K C "death_day" "Folk.death_day" GJ)(Tc:VC K C):Mt P w K mg base C "death_day" ["self","name"] 1 (TM C):=by
 refine Zih.mq ["self","name"] fun H vs Q E hr h=>?_;obtain⟨L,ds,n,x,rfl,F,hx,k⟩:=h;refine⟨rfl,_,(Ze (Zm (A6 hr (Zw Q0) Q5 (fun _ _=>rfl)))),?_⟩;obtain⟨dx,ob⟩:=F.ob;obtain⟨kvs,c1,c2,c3⟩:=F.d;have g:=YA.k (k:=Sum.inr n) c1;rw[c3,hx] at g;exact⟨_,rfl,L.p,C,dx,_,_,rfl,ob,Tc.cl,Tc.nd,BX _ _ _ _,_,rfl,L.dd,.int x.1,rfl,g,k⟩
inductive UE(C:dN)(vs:aG)(H:Hp)(Q:VK)(z3:XK):Prop
 |mk(L) (ds) (n) (x)(_:vs=[.ref L.p,.str n])(_:ZT C H L ds)(_:Yk ds n=some x)(_:Q (.str x.2) H)
abbrev FQ:Stmt:=Yc (top 42) 13
theorem bY(Zii:ZU K C "heir_of" "Folk.heir_of" FQ)(Tc:VC K C):Mt P w K mg base C "heir_of" ["self","name"] 1 (UE C):=by
 refine Zii.mq ["self","name"] fun H vs Q E hr h=>?_;obtain⟨L,ds,n,x,rfl,F,hx,k⟩:=h;refine⟨rfl,_,(Ze (Zm (A6 hr (Zw Q0) Q5 (fun _ _=>rfl)))),?_⟩;obtain⟨dx,ob⟩:=F.ob;obtain⟨kvs,c1,c2,c3⟩:=F.h;have g:=YA.k (k:=Sum.inr n) c1;rw[c3,hx] at g;exact⟨_,rfl,L.p,C,dx,_,_,rfl,ob,Tc.cl,Tc.nh,KZ _ _ _ _,_,rfl,L.dh,.str x.2,rfl,g,k⟩
inductive VD(C:dN)(vs:aG)(H:Hp)(Q:VK)(z3:XK):Prop
 |mk(L) (ds) (n m) (day) (b)(_:vs=[.ref L.p,.str n,.int day])(_:ZT C H L ds)(_:YW ds day b n m)(_:Q (.str m) H)
abbrev Iq:Stmt:=Yc (top 42) 10
theorem bM(Zij:ZU K C "stand_in" "Folk.stand_in" Iq)(Tc:VC K C)(M_died_by:Mt P w K mg base C "died_by" ["self","name","day"] 1 (WG C)) :
  Mt P w K mg base C "stand_in" ["self","name","day"] 2 (VD C):=by
 refine Zij.mq ["self","name","day"] fun H vs Q E hr h=>?_;obtain⟨L,ds,n,m,day,b,rfl,F,hst,k⟩:=h;refine⟨rfl,_,(Zd (Ep PassesOwn.never (Yu (Zz Q0 Tc.cl M_died_by (Za Q5 (Za Q6 Zb)))) (Ze (Zx 1 (A6 hr (Zw Q0) Q5 (fun _ _=>rfl))))) (Ze (Zm Q5))),?_⟩;obtain⟨dx,ob⟩:=F.ob;obtain⟨kvs,c1,c2,c3⟩:=F.h;refine⟨fun j U H'=>∃x,U=[some (.ref L.p),some (.str x),some (.int day)]/\H'=H/\YW ds day j x m,⟨b,n,rfl,rfl,hst⟩,?_⟩;rintro j U H' ⟨x,rfl,rfl,hx⟩;refine⟨_,rfl,L.p,dx,_,rfl,ob,Wn _ _ _ _ aA,_,rfl,_,rfl,L,ds,x,day,rfl,F,?_⟩;refine⟨_,rfl,?_⟩;cases hx with
 | here e =>
  rw[e];exact Zp ⟨_,rfl,k⟩
 | step e1 e2 e3 =>
  rename_i y j';rw[e2];have g:=YA.k (k:=Sum.inr x) c1;rw[c3,e1] at g;refine Z6 ⟨fun σ' H''=>∃m',m'<j'+1/\∃x,σ'=[some (.ref L.p),some (.str x),some (.int day)]/\H''=H'/\YW ds day m' x m,fun _ _ h=>h,?_⟩;exact⟨_,rfl,L.p,C,dx,_,_,rfl,ob,Tc.cl,Tc.nh,KZ _ _ _ _,_,rfl,L.dh,.str y.2,rfl,g,j',by lia,y.2,rfl,rfl,e3⟩
end
structure Ae where
 at_:Int
 d:Str
 c:Str
 m:Int
def Bv(e:Ae):D:=.tup [.int e.at_,.str e.d,.str e.c,.int e.m]
abbrev Tq:=Str×Str×Int
def Va(r:Tq):D:=.tup [.str r.1,.str r.2.1,.int r.2.2]
def Ui(r:Tq):List ZM:=[.inr r.1,.inr r.2.1,.inl r.2.2]
def Vq(a b x y:Str)(m:Int):Int:=(if x=a/\y=b then m else 0) - (if x=b/\y=a then m else 0)
theorem XD(a b x y:Str)(m:Int):Vq b a x y m = - Vq a b x y m:=by unfold Vq;lia
def AB(f:Str->Str)(day:Int)(e:Ae)(a b:Str):Int:=if e.at_<=day then Vq a b (f e.d) (f e.c) e.m else 0
def net(f:Str->Str)(day:Int)(es:List Ae)(a b:Str):Int:=(es.map fun e=>AB f day e a b).sum
theorem OU{f:Str->Str}{day:Int}{es:List Ae}{i:Nat}{e:Ae}(h:es[i]?=some e)(a b:Str):net f day (es.take (i+1)) a b=net f day (es.take i) a b+AB f day e a b:=by
 unfold net;rw[yG,h,xP,List.sum_append];simp
theorem Kl(f:Str->Str)(day:Int)(a b:Str):∀es:List Ae,net f day es b a = - net f day es a b
 | []=>rfl
 | e::es=>by
  have ih:=Kl f day a b es;unfold net at ih ⊢;rw[yF,yF,List.sum_cons,List.sum_cons,ih];have:AB f day e b a = - AB f day e a b:=by unfold AB;rw[XD];split<;>lia
  lia
def DP(g:Str->Str->Int)(r:Tq):Prop:=r.1≠r.2.1/\0<r.2.2/\g r.1 r.2.1=r.2.2
def Ez(rs:List Tq):Prop:=rs.Pairwise fun a b=>ltK (Ui b) (Ui a)=false
structure YO (g:Str->Str->Int) (rs:List Tq):Prop where
 up:Ez rs
 nd:rs.Nodup
 mem:∀r,r∈rs↔DP g r
theorem PZ(h:Ui a=Ui b):a=b:=by
 obtain⟨a1,a2,a3⟩:=a;obtain⟨b1,b2,b3⟩:=b;unfold Ui at h;injection h with h1 h2
 injection h2 with h2 h3
 injection h3 with h3 _
 cases h1;cases h2;cases h3;rfl
theorem YO.eq(h:YO g rs)(h':YO g rs'):rs=rs':=by
 refine List.Perm.eq_of_pairwise (fun a b _ _ x y=>?_) h.up h'.up ((List.perm_ext_iff_of_nodup h.nd h'.nd).mpr fun r=>by rw[h.mem,h'.mem]);exact PZ (E9 _ _ rfl y x)
theorem X2(h:rs.Pairwise fun a b=>ltK (Ui a) (Ui b)=true)(hm:∀r,r∈rs↔DP g r):YO g rs:=by
 refine⟨h.imp fun {a b} q=>?_,h.imp fun {a b} q z=>?_,hm⟩
 ·cases e:ltK (Ui b) (Ui a) with
  | false=>rfl
  | true =>
   have:=B4 _ _ _ q e;rw[AS] at this;cases this
 ·rw[z,AS] at q;cases q
structure YQ (kvs:List (List ZM×V)) (g:Str->Str->Int):Prop where
 key:∀p∈kvs,∃a b v,p=([.inr a,.inr b],.int v)/\ltS a b=true
 nd:(kvs.map (·.1)).Nodup
 val:∀a b,ltS a b=true->Zr kvs [.inr a,.inr b]=some (.int (g a b))\/(Zr kvs [.inr a,.inr b]=none/\g a b=0)
theorem YQ.nil:YQ [] (fun _ _=>0):=⟨(fun p hp=>nomatch hp),List.nodup_nil,fun a b _=>.inr ⟨rfl,rfl⟩⟩
theorem RV{kvs:List (List ZM×V)}{k:List ZM}{v:V}(h:(kvs.map (·.1)).Nodup):((Z2 kvs k v).map (·.1)).Nodup:=by
 cases e:Zr kvs k with
 | none=>exact SJ v h e
 | some x =>
  unfold Z2;have:(kvs.any fun kv=>decide (kv.1=k))=true:=by rw[JI,e];rfl
  rw[if_pos this,wK];have e2:((fun x:List ZM×V=>x.1)∘fun kv=>if kv.1=k then (kv.1,v) else kv)=fun kv=>kv.1:=by
   funext kv;show (if kv.1=k then (kv.1,v) else kv).1=kv.1;split<;>rfl
  rw[e2];exact h
theorem YQ.at(h:YQ kvs g)(hab:ltS a b=true):(Zr kvs [.inr a,.inr b]).getD (.int 0)= .int (g a b):=by
 rcases h.val a b hab with e | ⟨e,e2⟩
 ·rw[e];rfl
 ·rw[e,e2];rfl
theorem key2:([.inr a,.inr b]:List ZM)= [.inr x,.inr y]↔a=x/\b=y:=by grind
theorem CQ(h:ltS a b=true):ltS b a=false:=by
 cases e:ltS b a with
 | false=>rfl
 | true=>have:=L6 h e;rw[GQ] at this;cases this
theorem AW(h:ltS a b=true):a≠b:=fun z=>by rw[z,GQ] at h;cases h
theorem YQ.put(h:YQ kvs g)(hxy:ltS x y=true)(hv:v=g' x y)(ho:∀a b,ltS a b=true->¬(a=x/\b=y)->g' a b=g a b):YQ (Z2 kvs [.inr x,.inr y] (.int v)) g':=by
 refine⟨fun p hp=>?_,RV h.nd,fun a b hab=>?_⟩
 ·rcases Lr hp with rfl | hp
  ·exact⟨x,y,v,rfl,hxy⟩
  ·exact h.key p hp
 ·rw[Uq]
  by_cases e:a=x/\b=y
  ·rw[if_pos (key2.mpr e),hv,e.1,e.2];exact .inl rfl
  ·rw[if_neg (fun z=>e (key2.mp z)),ho a b hab e];exact h.val a b hab
theorem YQ.eqv(h:YQ kvs g)(ho:∀a b,ltS a b=true->g' a b=g a b):YQ kvs g' :=
 ⟨h.key,h.nd,fun a b hab=>by rw[ho a b hab];exact h.val a b hab⟩
def tri(a b:Str)(v:Int):Tq:=if 0<v then (a,b,v) else (b,a,-v)
def J4:List ZM×V->Option Tq
 | ([.inr a,.inr b],.int v)=>if v=0 then none else some (tri a b v)
 | _=>none
theorem Ff(h:J4 ([.inr a,.inr b],.int v)=some r):v≠0/\r=tri a b v:=by
 have h:(if v=0 then none else some (tri a b v))=some r:=h
 by_cases c:v=0
 ·rw[if_pos c] at h;cases h
 ·rw[if_neg c] at h;cases h;exact⟨c,rfl⟩
theorem Kw{kvs:List (List ZM×V)}{k:List ZM}{v:V}(h:Zr kvs k=some v):(k,v)∈kvs:=by
 unfold Zr at h;obtain⟨p,hp,e⟩:=yD.mp h;have h1:=List.find?_some hp;have h2:=List.mem_of_find?_eq_some hp;have h1:p.1=k:=yU h1;rw[← h1,← e];exact h2
theorem IP:∀{kvs:List (List ZM×V)}{p:List ZM×V},(kvs.map (·.1)).Nodup->p∈kvs->Zr kvs p.1=some p.2
 | q::kvs,p,hn,hp=>by
  rw[yF,yK] at hn;rcases xF.mp hp with rfl | hp
  ·exact Vj rfl
  ·rw[Vv (fun z=>hn.1 (by rw[z];exact yQ.mpr ⟨p,hp,rfl⟩))];exact IP hn.2 hp
theorem Xo(ga:∀a b,g b a = - g a b)(hab:ltS a b=true)(hv:g a b≠0):DP g (tri a b (g a b)):=by
 unfold tri
 by_cases c:0<g a b
 ·rw[if_pos c];exact⟨AW hab,c,rfl⟩
 ·rw[if_neg c];exact⟨(AW hab).symm,by show 0 < - g a b;lia,ga a b⟩
theorem cQ(h:ltS a b=true)(h':ltS a' b'=true)(e:tri a b v=tri a' b' v'):a=a'/\b=b':=by
 unfold tri at e
 by_cases c:0<v<;>by_cases c':0<v'
 ·grind
 ·rw[if_pos c,if_neg c'] at e;injection e with e1 e2;injection e2 with e2 _;rw[e1,e2,CQ h'] at h;cases h
 ·rw[if_neg c,if_pos c'] at e;injection e with e1 e2;injection e2 with e2 _;rw[e1,e2,CQ h'] at h;cases h
 ·grind
theorem YQ.owed(h:YQ kvs g)(ga:∀a b,g b a = - g a b)(hp:rs.Perm (kvs.filterMap J4))(hup:Ez rs):YO g rs:=by
 have at_:∀p∈kvs,∃a b,p=([.inr a,.inr b],.int (g a b))/\ltS a b=true:=fun p hp=>by
  obtain⟨a,b,v,rfl,hab⟩:=h.key p hp;have e:=IP h.nd hp;refine⟨a,b,?_,hab⟩;rcases h.val a b hab with z | ⟨z,_⟩
  ·grind
  ·rw[show Zr kvs [.inr a,.inr b]=some (.int v) from e] at z;cases z
 refine⟨hup,hp.nodup_iff.mpr ?_,fun r=>?_⟩
 ·have nd:=h.nd;unfold List.Nodup at nd ⊢;rw[zX] at nd;rw[List.pairwise_filterMap];refine yY ?_ nd;intro p q hp hq hne r hr r' hr' e;obtain⟨a,b,rfl,hab⟩:=at_ p hp;obtain⟨a',b',rfl,hab'⟩:=at_ q hq;have e1:=(Ff hr).2;have e2:=(Ff hr').2;have:=cQ hab hab' (e1.symm.trans (e.trans e2));exact hne (key2.mpr this)
 ·rw[hp.mem_iff,List.mem_filterMap];constructor
  ·rintro⟨p,hp,hr⟩;obtain⟨a,b,rfl,hab⟩:=at_ p hp;obtain⟨c,rfl⟩:=Ff hr;exact Xo ga hab c
  ·obtain⟨x,y,v⟩:=r;rintro⟨h1,h2,h3⟩;have h1:x≠y:=h1;have h2:0<v:=h2;have h3:g x y=v:=h3
   by_cases hxy:ltS x y=true
   ·rcases h.val x y hxy with z | ⟨_,z⟩
    ·refine⟨_,Kw z,?_⟩;show (if g x y=0 then none else some (tri x y (g x y)))=some (x,y,v);rw[h3,if_neg (by lia)];unfold tri;rw[if_pos h2]
    ·lia
   ·have hyx:ltS y x=true:=by
     cases e:ltS y x with
     | true=>rfl
     | false =>
      have hf:ltS x y=false:=by cases e2:ltS x y with | false=>rfl | true=>exact absurd e2 hxy
      exact absurd (Gq hf e) h1
    have h4:=ga x y;rcases h.val y x hyx with z | ⟨_,z⟩
    ·refine⟨_,Kw z,?_⟩;show (if g y x=0 then none else some (tri y x (g y x)))=some (x,y,v);rw[h4,h3,if_neg (by lia)];unfold tri;rw[if_neg (by lia),Int.neg_neg]
    ·lia
section
variable{C:dN}
inductive J6(vs:aG)(H:Hp)(Q:VK)(z3:XK):Prop
 |mk(g) (kvs) (G) (x y) (m)(_:vs=[.ref g,.str x,.str y,.int m])(_:H g=some (.dT kvs))(_:YQ kvs G)(_:kvs.length<=1000)(_:∀kvs' H',H' g=some (.dT kvs')->YQ kvs' (fun a b=>G a b+Vq a b x y m)->kvs'.length<=kvs.length+1->ZI g H H'->Q .non H')
theorem D9(h1:¬(x=a/\y=b))(h2:¬(x=b/\y=a)):Vq a b x y m=0:=by
 unfold Vq;rw[if_neg h1,if_neg h2];rfl
abbrev HS:Stmt:=top 25
theorem P6(Zik:YC K mg "set_against" HS):Fn P w K mg base "set_against" ["sums","debtor","creditor","many"] 1 J6:=by
 refine Zik.fq ["sums","debtor","creditor","many"] fun H vs Q E hr h=>?_;obtain⟨g,kvs,G,x,y,m,rfl,hg,hS,hl,k⟩:=h;refine⟨rfl,_,(Ze (Zn (Zt HQ Q5 Q6 (Zu _)) (Ze (J9 hr Q0 (Yi (Za Q5 (Za Q6 Zb))) (Zy Vd (Cj hr Q0 (Yi (Za Q5 (Za Q6 Zb))) Zf) Q7))) (Ze (Zn (Zt HQ Q6 Q5 (Zu _)) (Ze (J9 hr Q0 (Yi (Za Q6 (Za Q5 Zb))) (Zy Vm (Cj hr Q0 (Yi (Za Q6 (Za Q5 Zb))) Zf) Q7))) Zq)))),?_⟩;have hz:=aC
 have put:∀(a b:Str)(v:Int)(H1 H2:Hp)(q:dN),ltS a b=true->ZC H H1->H2 q=some (.tup [.str a,.str b])->ZC H1 H2->v=G a b+Vq a b x y m->(∀a' b',ltS a' b'=true->¬(a'=a/\b'=b)->Vq a' b' x y m=0)->
   WB H2 g (.ref q) (.int v) (upd H2 g (.dT (Z2 kvs [.inr a,.inr b] (.int v))))/\∀R:VK,(∀(kvs':List (List ZM×V))(H':Hp),H' g=some (.dT kvs')->YQ kvs' (fun a b=>G a b+Vq a b x y m)->kvs'.length<=kvs.length+1->ZI g H H'->R .non H')->R .non (upd H2 g (.dT (Z2 kvs [.inr a,.inr b] (.int v)))):=by
  intro a b v H1 H2 q hab s1 hq s2 hv ho;refine⟨WB.t (s2 _ _ (s1 _ _ hg)) (k:=[.inr a,.inr b]) hq (by lia),fun R hR=>?_⟩;refine hR _ _ Zg (hS.put hab hv fun a' b' h1 h2=>?_) (Vw _ _ _) fun b' o nb e=>?_
  ·show G a' b'+Vq a' b' x y m=G a' b';rw[ho a' b' h1 h2,Int.add_zero]
  ·rw[Zc nb];exact s2 _ _ (s1 _ _ e)
 refine⟨_,rfl,_,rfl,x,y,rfl,rfl,_,rfl,Z7 (fun c=>?_) (fun c=>?_)⟩
 ·have hab:ltS x y=true:=xN c;refine⟨_,rfl,g,rfl,.inr ⟨kvs,.inl hg⟩,_,rfl,_,rfl,aB rfl,fun q hq=>?_⟩;refine nw (o:=.tup [.str x,.str y]) hq fun H1 S1 k1=>?_;refine⟨_,YA.t (S1 _ _ hg) (k:=[.inr x,.inr y]) k1,_,rfl,?_⟩;refine⟨G x y,m,hS.at hab,rfl,?_⟩;refine⟨_,rfl,_,rfl,_,rfl,aB rfl,fun q2 hq2=>?_⟩;refine nw (o:=.tup [.str x,.str y]) hq2 fun H2 S2 k2=>?_;obtain⟨p1,p2⟩:=put x y (G x y+m) H1 H2 q2 hab S1 k2 S2 (by unfold Vq;rw[if_pos ⟨rfl,rfl⟩,if_neg (fun z=>AW hab z.1)];lia) (fun a' b' h1 h2=>D9 (fun z=>h2 ⟨z.1.symm,z.2.symm⟩) (fun z=>by rw[← z.1,← z.2,CQ hab] at h1;cases h1));exact⟨g,_,rfl,p1,p2 _ k⟩
 ·refine⟨_,rfl,_,rfl,y,x,rfl,rfl,_,rfl,Z7 (fun c2=>?_) (fun c2=>?_)⟩
  ·have hab:ltS y x=true:=xN c2;refine⟨_,rfl,g,rfl,.inr ⟨kvs,.inl hg⟩,_,rfl,_,rfl,aB rfl,fun q hq=>?_⟩;refine nw (o:=.tup [.str y,.str x]) hq fun H1 S1 k1=>?_;refine⟨_,YA.t (S1 _ _ hg) (k:=[.inr y,.inr x]) k1,_,rfl,?_⟩;refine⟨G y x,m,hS.at hab,rfl,?_⟩;refine⟨_,rfl,_,rfl,_,rfl,aB rfl,fun q2 hq2=>?_⟩;refine nw (o:=.tup [.str y,.str x]) hq2 fun H2 S2 k2=>?_;obtain⟨p1,p2⟩:=put y x (G y x - m) H1 H2 q2 hab S1 k2 S2 (by unfold Vq;rw[if_neg (fun z=>AW hab z.1.symm),if_pos ⟨rfl,rfl⟩];lia) (fun a' b' h1 h2=>D9 (fun z=>by rw[← z.1,← z.2,CQ hab] at h1;cases h1) (fun z=>h2 ⟨z.2.symm,z.1.symm⟩));exact⟨g,_,rfl,p1,p2 _ k⟩
  ·have e:x=y:=Gq (xT c) (xT c2);refine k kvs H hg (hS.eqv fun a b hab=>?_) (by lia) (fun _ _ _ e=>e);rw[D9 (fun z=>AW hab (z.1.symm.trans (e.trans z.2))) (fun z=>AW hab (z.2.symm.trans (e.symm.trans z.1))),Int.add_zero]
inductive UG(vs:aG)(H:Hp)(Q:VK)(z3:XK):Prop
 |mk(b) (x y) (v)(_:vs=[.ref b,.int v])(_:H b=some (.tup [.str x,.str y]))(_:∀p H',H' p=some (.tup [.str (tri x y v).1,.str (tri x y v).2.1,.int (tri x y v).2.2])->ZC H H'->Q (.ref p) H')
abbrev II:Stmt:=top 26
theorem Ou(Zil:YC K mg "triple" II):Fn P w K mg base "triple" ["pair","many"] 1 UG:=by
 refine Zil.fq ["pair","many"] fun H vs Q E hr h=>?_;obtain⟨b,x,y,v,rfl,hb,k⟩:=h;refine⟨rfl,_,(Zd (Zn (Zt Da Q5 Zf (Zu _)) (Ze (Zm (Yi (Za (Zh Zv Q0 Zf) (Za (Zh Zv Q0 Zf) (Za Q5 Zb)))))) Zq) (Ze (Zm (Yi (Za (Zh Zv Q0 Zf) (Za (Zh Zv Q0 Zf) (Za (V1 Uc Q5) Zb))))))),?_⟩;have hz:=aC
 unfold tri at k;refine⟨_,rfl,_,_,rfl,rfl,_,rfl,Z7 (fun c=>?_) (fun c=>?_)⟩
 ·rw[if_pos c] at k;exact⟨_,rfl,b,_,0,.str x,rfl,rfl,ZP.of hb,rfl,_,rfl,b,_,1,.str y,rfl,rfl,ZP.of hb,rfl,_,rfl,aB rfl,fun p hp=>k p _ Zg (ZC.new hp)⟩
 ·rw[if_neg c] at k;exact⟨_,rfl,b,_,1,.str y,rfl,rfl,ZP.of hb,rfl,_,rfl,b,_,0,.str x,rfl,rfl,ZP.of hb,rfl,_,rfl,_,rfl,aB rfl,fun p hp=>k p _ Zg (ZC.new hp)⟩
theorem K5(h:YF H (Va r) v):∃a,v=.ref a/\H a=some (.tup [.str r.1,.str r.2.1,.int r.2.2]):=by
 obtain⟨a,vs,e,h1,⟨x,r1,rfl,e1,⟨y,r2,rfl,e2,⟨z,r3,rfl,e3,e4⟩⟩⟩⟩:=h;cases e1;cases e2;cases e3;cases e4;exact⟨a,e,h1⟩
theorem Dh(h:H a=some (.tup [.str r.1,.str r.2.1,.int r.2.2])):YF H (Va r) (.ref a):=⟨a,_,rfl,h,⟨_,_,rfl,rfl,⟨_,_,rfl,rfl,⟨_,_,rfl,rfl,rfl⟩⟩⟩⟩
theorem Si(h:YF H (Bv e) v):∃a,v=.ref a/\H a=some (.tup [.int e.at_,.str e.d,.str e.c,.int e.m]):=by
 obtain⟨a,vs,ev,h1,⟨x,r1,rfl,e1,⟨y,r2,rfl,e2,⟨z,r3,rfl,e3,⟨u,r4,rfl,e4,e5⟩⟩⟩⟩⟩:=h;cases e1;cases e2;cases e3;cases e4;cases e5;exact⟨a,ev,h1⟩
theorem M9{α:Type}{φ:α->D}{H:Hp}{xs:List α}{vs:aG}{i:Nat}{v:V}(h:ZK H (xs.map φ) vs)(hv:vs[i]?=some v):∃x,xs[i]?=some x/\YF H (φ x) v:=by
 obtain⟨d,hd,hr⟩:=h.get hv;rw[xJ] at hd;obtain⟨x,hx,e⟩:=yD.mp hd;exact⟨x,hx,by rw[e];exact hr⟩
theorem IA{α:Type}{φ:α->D}{xs:List α}(h:ZK H (xs.map φ) vs):vs.length=xs.length:=by
 have:=h.length;rw[xB] at this;exact this
def Au:List ZM->Tq
 | [.inr a,.inr b,.inl v]=>(a,b,v)
 | _=>(e0,e0,0)
theorem E8(h:shp k=[false,false,true]):Ui (Au k)=k:=by
 match k,h with
 | [.inr a,.inr b,.inl v],_=>rfl
theorem Hj:∀{os:List Tq}{vs:aG},ZK H (os.map Va) vs->∃ps:List (dN×List ZM),vs=ps.map (fun p=>V.ref p.1)/\ps.map (fun p=>Au p.2)=os/\∀p∈ps,L2.YB H p/\shp p.2=[false,false,true]
 | [],vs,h=>by cases h;exact⟨[],rfl,rfl,fun _ z=>nomatch z⟩
 | o::os,vs,⟨v,r,e,h1,h2⟩=>by
  obtain⟨a,rfl,ha⟩:=K5 h1;obtain⟨ps,rfl,e2,h3⟩:=Hj h2;subst e;refine⟨(a,Ui o)::ps,rfl,by rw[yF,e2];rfl,fun p hp=>?_⟩;rcases xF.mp hp with rfl | hp
  ·exact⟨ha,rfl⟩
  ·exact h3 p hp
theorem Ge:∀ps:List (dN×List ZM),(∀p∈ps,L2.YB H p/\shp p.2=[false,false,true])->ZK H ((ps.map fun p=>Au p.2).map Va) (ps.map fun p=>V.ref p.1)
 | [],_=>rfl
 | p::ps,h=>by
  obtain⟨h1,h2⟩:=h p xU;refine⟨.ref p.1,_,rfl,Dh ?_,Ge ps fun q hq=>h q (yC _ hq)⟩;have e:p.2.map kV=[.str (Au p.2).1,.str (Au p.2).2.1,.int (Au p.2).2.2]:=by rw[← E8 h2];rfl
  unfold L2.YB at h1;rw[← e];exact h1
def Eg(ds:List ZQ)(day:Int)(f:Str->Str):Prop:=∀n,∃b,b<=40/\YW ds day b n (f n)
inductive TL(C:dN)(vs:aG)(H:Hp)(Q:VK)(z3:XK):Prop
 |mk(L) (ds) (le) (us) (es) (day) (f)(_:vs=[.ref le,.ref L.p,.int day])(_:ZT C H L ds)(_:H le=some (.lst us))(_:ZK H (es.map Bv) us)(_:Eg ds day f)(_:es.length<64)(_:∀l2 ms rs H',H l2=none->H' l2=some (.lst ms)->ZK H' (rs.map Va) ms->YO (net f day es) rs->rs.length<64->ZC H H'->Q (.ref l2) H')
abbrev Gp:Stmt:=top 23
theorem X1(Zim:YC K mg "owed" Gp)(T:Txt mg)(Tc:VC K C)(M_stand_in:Mt P w K mg base C "stand_in" ["self","name","day"] 2 (VD C))(Z1e:Fn P w K mg base "set_against" ["sums","debtor","creditor","many"] 1 J6)(Z1f:Fn P w K mg base "triple" ["pair","many"] 1 UG):Fn P w K mg base "owed" ["entries","folk","day"] 3 (TL C):=by
 refine Zim.fq ["entries","folk","day","sums","since","debtor","creditor","many"] fun H vs Q E hr h=>?_;obtain⟨L,ds,le,us,es,day,f,rfl,F0,hle,hes,hst,hel,k⟩:=h
 refine⟨rfl,_,(Zd (Zx 3 EY) (Zd (Wi PassesOwn.never rfl (Y7 Q0) (B7 (by rfl) (Yp (Yv 4) (Yp (Yv 5) (Yp (Yv 6) (Yp (Yv 7) Vy)))))
 (Ze (Zn (Zt Wr Q8 Q6 (Zu _)) (Ze (Zo (Zk Z1e (Za Q7 (Za (Zz Q5 Tc.cl M_stand_in (Za Q9 (Za Q6 Zb))) (Za (Zz Q5 Tc.cl M_stand_in (Za Qa (Za Q6 Zb))) (Za Qb Zb))))))) Zq)))
 (Ze (Zm (Z5 cX T.sorted E5 (Za (Xq (Wv (locs:=["pair","many"]) (fr:=[]) ⟨rfl,aA,aA,aA,aA,aA⟩ .nil rfl (NC Q7) ⟨fun _ _ _ _ _ _=>by
  have cnd:(inN ["pair","many"] []).Nodup:=aA
  exact⟨(Ai 2 (by rfl) (Yp (Yw 0 cnd) (Yp (Yw 1 cnd) Vy))),(JK (Zt Bc (Yj 1) Zf (Zu _))),(Zk Z1f (Za (Yj 0) (Za (Yj 1) Zb)) (n:=nmC))⟩⟩)) Zb)))))),?_⟩
 have hz:=aC
 have hul:us.length=es.length:=IA hes;intro g hg;have S0:ZC H (upd H g (.dT [])):=ZC.new hg;refine⟨_,rfl,le,rfl,⟨_,ZG.of (S0 _ _ hle)⟩,?_⟩;refine Ue us (fun i U H'=>∃(kvs:List (List ZM×V))(v4 v5 v6 v7:Option V),U=[some (.ref le),some (.ref L.p),some (.int day),some (.ref g),v4,v5,v6,v7]/\H' g=some (.dT kvs)/\YQ kvs (net f day (es.take i))/\kvs.length<=i/\ZC H H')
  ⟨[],none,none,none,none,rfl,Zg,YQ.nil,xD _,S0⟩ (fun i U H' _ ⟨_,_,_,_,_,_,_,_,_,e⟩=>ZG.of (e _ _ hle)) ?_ ?_
 ·rintro i x U H' hx ⟨kvs,v4,v5,v6,v7,rfl,hg',hS,hkl,sm⟩;have hi:=(xE.mp hx).1;obtain⟨e,he,hre⟩:=M9 hes hx;obtain⟨a,rfl,ha⟩:=Si hre;have et:=fun a b=>OU (f:=f) (day:=day) he a b;refine⟨a,_,rfl,ZP.of (sm _ _ ha),rfl,_,_,rfl,_,_,rfl,_,_,rfl,_,_,rfl,rfl,?_⟩;refine⟨_,rfl,_,rfl,_,_,rfl,rfl,_,rfl,Z7 (fun c=>?_) (fun c=>?_)⟩
  ·have F1:=F0.keep (ZC.n sm);obtain⟨dx,ob⟩:=F1.ob;obtain⟨b1,_,st1⟩:=hst e.d;obtain⟨b2,_,st2⟩:=hst e.c;refine⟨_,rfl,_,rfl,L.p,dx,_,rfl,ob,Wn _ _ _ _ aA,_,rfl,_,rfl,L,ds,e.d,f e.d,day,b1,rfl,F1,st1,?_⟩;refine⟨_,rfl,L.p,dx,_,rfl,ob,Wn _ _ _ _ aA,_,rfl,_,rfl,L,ds,e.c,f e.c,day,b2,rfl,F1,st2,?_⟩;refine⟨_,rfl,g,kvs,net f day (es.take i),f e.d,f e.c,e.m,rfl,hg',hS,by lia,fun kvs' H2 hg2 hS2 hl2 sx2=>?_⟩;refine⟨kvs',_,_,_,_,rfl,hg2,hS2.eqv fun a b _=>?_,by lia,fun b o e'=>sx2 b o (fun z=>by rw[z,hg] at e';cases e') (sm _ _ e')⟩;rw[et a b];unfold AB;rw[if_pos c]
  ·refine⟨kvs,_,_,_,_,rfl,hg',hS.eqv fun a b _=>?_,by lia,sm⟩;rw[et a b];unfold AB;rw[if_neg c,Int.add_zero]
 ·rintro U H1 ⟨kvs,v4,v5,v6,v7,rfl,hg1,hS,hkl,sm1⟩;rw[hul,yJ] at hS;rw[hul] at hkl;refine⟨g,kvs,hg1,fun o=>?_⟩;refine⟨_,rfl,g,o,kvs,rfl,Zg,?_⟩;have fr:∀b u,b≠g->H1 b=some u->(upd H1 g (.frz o (.dT kvs))) b=some u:=fun b u nb e=>by rw[Zc nb];exact e
  refine LB (fun i ys H'=>H' g=some (.frz o (.dT kvs))/\ZI g H1 H'/\ZK H' (((kvs.take i).filterMap J4).map Va) ys) ⟨Zg,fun b u nb e=>fr b u nb e,rfl⟩ (by lia) (fun i ys H' _ h=>h.1) ?_ ?_ ?_
  ·rintro i ys H' ⟨_,_,h⟩;rw[IA h];refine xW (wL _ _) ?_;rw[xV];lia
  ·rintro i x a p ys H' hx ha ⟨hg',sx,hr⟩ hp ls hls;obtain⟨w1,w2,rfl⟩:=AJ hls;obtain⟨xa,xb,xv,rfl,hab⟩:=hS.key x (xO hx);refine nw (o:=.tup [.ref a,.int xv]) hp fun H2 Sp kp=>?_;have hgp:=Sp _ _ hg';have sx2:ZI g H1 H2:=fun b u nb e=>Sp _ _ (sx b u nb e);refine⟨p,_,rfl,ZP.of kp,rfl,_,_,rfl,_,_,rfl,rfl,⟨[_,_],rfl,rfl⟩,?_⟩;have e9:(kvs.take (i+1)).filterMap J4=(kvs.take i).filterMap J4++(if xv=0 then [] else [tri xa xb xv]):=by
    rw[yG,hx,wT];have:J4 ([.inr xa,.inr xb],.int xv)=if xv=0 then none else some (tri xa xb xv):=rfl
    by_cases c:xv=0
    ·rw[if_pos c] at this ⊢;simp[this]
    ·rw[if_neg c] at this ⊢;simp[this]
   refine⟨_,rfl,rfl,_,rfl,Wc (fun c=>?_) (fun c=>?_)⟩
   ·have c':xv≠0:=fun z=>c (by rw[z]);refine⟨_,rfl,_,rfl,a,xa,xb,xv,rfl,Sp _ _ ha,fun t H3 ht s3=>?_⟩;refine⟨s3 _ _ hgp,fun b u nb e=>s3 _ _ (sx2 b u nb e),?_⟩;rw[e9,if_neg c',xP];exact ZK.snoc (Dh ht) ((hr.mono' Sp).mono' s3)
   ·have c':xv=0:=by injection c
    refine⟨hgp,sx2,?_⟩;rw[e9,if_pos c',yL];exact hr.mono' Sp
  ·rintro ys H2 ⟨hg2,sx2,hr2⟩ l hl;rw[yJ] at hr2;have ngl:g≠l:=fun z=>by rw[← z,hg2] at hl;cases hl
   refine⟨by rw[Zc ngl];exact hg2,?_⟩;have tt:∀{rs:List Tq}{vs:aG},ZK H2 (rs.map Va) vs->ZK (upd (upd H2 l (.lst ys)) g (.dT kvs)) (rs.map Va) vs:=by
    intro rs
    induction rs with
    | nil=>intro vs h;exact h
    | cons r rs ih =>
     rintro vs ⟨v,r',e,h1,h2⟩;obtain⟨a,rfl,ha⟩:=K5 h1;refine⟨.ref a,r',e,Dh ?_,ih h2⟩;rw[Zc (fun z=>by rw[z,hg2] at ha;cases ha),Zc (Zi ha hl)];exact ha
   have hr3:=tt hr2;have S3:ZC H (upd (upd H2 l (.lst ys)) g (.dT kvs)):=fun b u e=>by
    have ng:b≠g:=fun z=>by rw[z,hg] at e;cases e
    have e1:=sx2 b u ng (sm1 _ _ e);rw[Zc ng,Zc (Zi e1 hl)];exact e1
   have kl:(upd (upd H2 l (.lst ys)) g (.dT kvs)) l=some (.lst ys):=by rw[Zc ngl.symm,Zg]
   generalize (upd (upd H2 l (.lst ys)) g (.dT kvs))=H3 at hr3 S3 kl ⊢;obtain⟨ps,rfl,eps,hps⟩:=Hj hr3;have hpl:ps.length=(kvs.filterMap J4).length:=by rw[← eps,xB]
   have hfl:=wL J4 kvs;refine⟨l,ps,[false,false,true],rfl,ZG.of kl,by lia,hps,(fun z=>nomatch z),fun l2 ms hl2 hperm hup=>?_⟩;have S4:=ZC.new (o:=.lst (ms.map fun p=>V.ref p.1)) hl2;have hms:∀p∈ms,L2.YB H3 p/\shp p.2=[false,false,true]:=fun p hp=>hps p (hperm.mem_iff.mp hp);have hml:=hperm.length_eq;refine k l2 (ms.map fun p=>V.ref p.1) (ms.map fun p=>Au p.2) _ (S3.free hl2) Zg (Ge ms fun p hp=>⟨S4 _ _ (hms p hp).1,(hms p hp).2⟩) ?_ (by rw[xB];lia) (S3.trans S4);refine hS.owed (fun a b=>Kl f day a b es) ?_ ?_
   ·grind
   ·unfold Ez;rw[zX];refine yY ?_ hup;intro a b ha hb h;rw[E8 (hms a ha).2,E8 (hms b hb).2];exact h
end
section
variable{w:dP}{C:dN}
theorem EC{us:aG}{v:V}:atI (us ++ [v]) (-1)=some v:=by
 unfold atI ixN;have hl:(us ++ [v]).length=us.length+1:=by rw[xK];rfl
 rw[hl,if_neg (by lia),if_pos (by lia)];show (us ++ [v])[((-1:Int)+((us.length+1:Nat):Int)).toNat]?=some v;rw[show ((-1:Int)+((us.length+1:Nat):Int)).toNat=us.length by lia,List.getElem?_append_right (xD _)];simp
def WS(H:Hp)(us:aG)(n t:Str)(d0 day:Int):Prop:=(us=[]/\t=n)\/∃a d,us=[.ref a]/\H a=some (.tup [.int d,.str "won", .non,.str t])/\d0<=d/\d<=day
theorem WS.same(h:WS H us n t d0 day)(S:ZC H H'):WS H' us n t d0 day:=h.imp id fun⟨a,d,e,h1,h2⟩=>⟨a,d,e,S _ _ h1,h2⟩
abbrev U9:Str:="by_day" ++ ".<locals>." ++ "<lambda>"
inductive Tf(T:dN)(vs:aG)(H:Hp)(Q:VK)(z3:XK):Prop
 |mk(q:dN) (us:aG) (n t:Str) (d0 day:Int)(_:vs=[.ref q])(_:H q=some (.lst us))(_:WS H us n t d0 day)(_:ZY H T U9)(_:∀(l:dN)(H':Hp),H l=none->H' l=some (.lst us)->ZC H H'->Q (.ref l) H')
abbrev Ce:Stmt:=top 51
theorem Md:ZR ["events"] ["events"] (Zs Ce):=fsc
theorem XC:Nm (Zs Ce) "sorted" .globalImplicit:=aA
theorem MW(Zin:TF K mg "by_day" Ce c)(B_by_day:JT K mg c T)(kb:K.In base)(T0:Txt mg)(C0:∃t,mg "DAY"=some (.int 0 t)):Fn P w K mg base "by_day" ["events"] 4 (Tf T):=by
 obtain⟨t0,c_DAY⟩:=C0;have r_DAY:ZF (.int 0) (.int 0 t0):=⟨t0,rfl⟩;refine Zin.fnQ B_by_day kb Md (fun _ _ _ _ _ _=>al1 fun _=>rfl) (fun vs H Q E h=>?_) (fun f A outer s H vs Q E hr hL h=>?_)
 ·obtain⟨q,us,n,t,d0,day,rfl,_⟩:=h;rfl
 ·obtain⟨q,us,n,t,d0,day,rfl,hq,hw,hT,k⟩:=h;have T:=T0;refine⟨_,(Ze (Zm (L7 (x:="event") hL hT hr (by lia) XC T.sorted (Za Q0 Zb) ⟨Mh aA,rfl,⟨rfl,rfl,rfl,aA,rfl,aA,aA⟩,fun _ _ _ _=>rfl,fun _ _ _ _ _=>(Zh Sr (Sl) (Xm c_DAY r_DAY))⟩))),?_⟩;rcases hw with⟨rfl,_⟩ | ⟨a,d,rfl,ha,_⟩
  ·refine⟨_,rfl,q,[],[],rfl,ZG.of hq,aA,rfl,fun i x kk hx=>(nomatch hx),fun l p H' sm hln hp hpw=>?_⟩;obtain rfl:p=[]:=hp.eq_nil;exact k l _ (sm.free hln) Zg (sm.trans (ZC.new hln))
  ·refine⟨_,rfl,q,[.ref a],[d],rfl,ZG.of hq,yO rfl,rfl,fun i x kk hx hk H2 t2=>?_,fun l p H' sm hln hp hpw=>?_⟩
   ·cases i with
    | zero=>cases hx;cases hk;exact⟨_,rfl,a,_,0,.int d,rfl,rfl,ZP.of (t2 _ _ ha),rfl,rfl,rfl⟩
    | succ i=>cases hx
   ·obtain rfl:p=[0]:=List.perm_singleton.mp hp;exact k l _ (sm.free hln) Zg (sm.trans (ZC.new hln))
def Ay(d:Int)(w:Str)(g:V)(t:Str):List V:=[.int d,.str w,g,.str t]
inductive UU(C:dN)(vs:aG)(H:Hp)(Q:VK)(z3:XK):Prop
 |mk(L) (ds) (q) (us) (day) (a) (d) (wd t) (g)(_:vs=[.ref q,.ref L.p,.int day])(_:ZT C H L ds)(_:(∀n,Yk ds n=none))(_:H q=some (.lst (us ++ [.ref a])))(_:H a=some (.tup (Ay d wd g t)))(_:Q .non H)
abbrev HA:Stmt:=top 52
theorem Xy(Zio:YC K mg "leave_on" HA)(T:Txt mg)(Tc:VC K C)(C0:∃t,mg "DAY"=some (.int 0 t))(C1:∃t,mg "TAKER"=some (.int 3 t))(M_died_by:Mt P w K mg base C "died_by" ["self","name","day"] 1 (WG C))(M_death_day:Mt P w K mg base C "death_day" ["self","name"] 1 (TM C))(M_heir_of:Mt P w K mg base C "heir_of" ["self","name"] 1 (UE C)) :
  Fn P w K mg base "leave_on" ["steps","folk","day"] 2 (UU C):=by
 obtain⟨t0,c_DAY⟩:=C0;have r_DAY:ZF (.int 0) (.int 0 t0):=⟨t0,rfl⟩;obtain⟨t1,c_TAKER⟩:=C1;have r_TAKER:ZF (.int 3) (.int 3 t1):=⟨t1,rfl⟩;refine Zio.fq ["steps","folk","day","dead_one","left_day"] fun H vs Q E hr h=>?_;obtain⟨L,ds,q,us,day,a,d,wd,t,g,rfl,F0,hnd,hq,ha,k⟩:=h
 refine⟨rfl,_,(Ze (Ep PassesOwn.never (Yu (Zz Q5 Tc.cl M_died_by (Za (Zh Zv (Zh Z3 Q0 (V1 Uc Zf)) (Yg c_TAKER r_TAKER)) (Za Q6 Zb)))) (Zd (Zx 3 (Zh Zv (Zh Z3 Q0 (V1 Uc Zf)) (Yg c_TAKER r_TAKER))) (Zd (Zx 4 (Z5 (Iw (by rfl)) T.max E1 (Za (Zz Q5 Tc.cl M_death_day (Za Q7 Zb)) (Za (Zh Zv (Zh Z3 Q0 (V1 Uc Zf)) (Yg c_DAY r_DAY)) Zb))))
 (Ze (Zo (Wd aD aE aF Wk Q0 (Za (Yi (Za Q8 (Za Yq (Za Q7 (Za (Zz Q5 Tc.cl M_heir_of (Za Q7 Zb)) Zb))))) Zb)))))))),?_⟩
 obtain⟨dx,ob⟩:=F0.ob;refine⟨fun j U H'=>U=[some (.ref q),some (.ref L.p),some (.int day),none,none]/\H'=H,⟨0,rfl,rfl⟩,?_⟩;rintro j U _ ⟨rfl,rfl⟩;refine⟨_,rfl,L.p,dx,_,rfl,ob,Wn _ _ _ _ aA,_,rfl,_,rfl,q,_,-1,.ref a,rfl,rfl,ZG.of hq,EC,a,_,3,.str t,rfl,rfl,ZP.of ha,rfl,_,rfl,L,ds,t,day,rfl,F0,?_⟩;refine⟨_,rfl,?_⟩;rw[show V4 ds t day=false by unfold V4;rw[hnd]];exact Zp k
inductive TH(vs:aG)(H:Hp)(Q:VK)(z3:XK):Prop
 |mk(q e) (us) (a) (d d2) (wd t t2) (g)(_:vs=[.ref q,.ref e])(_:H q=some (.lst (us ++ [.ref a])))(_:H a=some (.tup (Ay d wd g t)))(_:H e=some (.tup [.int d2,.str "won", .non,.str t2]))(_:us.length<=100)(_:∀p H',H' q=some (.lst (us ++ [.ref a] ++ [.ref p]))->H' p=some (.tup (Ay d2 "won" (.str t) t2))->ZI q H H'->Q .non H')
abbrev HP:Stmt:=top 53
theorem Oi(Zip:YC K mg "pass_on" HP)(T:Txt mg)(C0:∃t,mg "DAY"=some (.int 0 t))(C1:∃t,mg "WORD"=some (.int 1 t))(C2:∃t,mg "GIVER"=some (.int 2 t))(C3:∃t,mg "TAKER"=some (.int 3 t)):Fn P w K mg base "pass_on" ["steps","event"] 1 TH:=by
 obtain⟨t0,c_DAY⟩:=C0;have r_DAY:ZF (.int 0) (.int 0 t0):=⟨t0,rfl⟩;obtain⟨t1,c_WORD⟩:=C1;have r_WORD:ZF (.int 1) (.int 1 t1):=⟨t1,rfl⟩;obtain⟨t2,c_GIVER⟩:=C2;have r_GIVER:ZF (.int 2) (.int 2 t2):=⟨t2,rfl⟩;obtain⟨t3,c_TAKER⟩:=C3;have r_TAKER:ZF (.int 3) (.int 3 t3):=⟨t3,rfl⟩;refine Zip.fq ["steps","event","keeper"] fun H vs Q E hr h=>?_;obtain⟨q,e,us,a,d,d2,wd,t,t2,g,rfl,hq,ha,he,hl,k⟩:=h;refine⟨rfl,_,(Zd (Zx 2 (Zh Zv (Zh Z3 Q0 (V1 Uc Zf)) (Yg c_TAKER r_TAKER))) (Ze (Zn (QW.pt (Bf (Zt Y4 (Zh Zv Q5 (Yg c_WORD r_WORD)) Yq (Zu _)) (Bz (Zt Y4 (Zh Zv Q5 (Yg c_GIVER r_GIVER)) Q6 (Zu _))))) (Ze (Zo (Wd aD aE aF Wk Q0 (Za (Yi (Za (Zh Zv Q5 (Yg c_DAY r_DAY)) (Za (Zh Zv Q5 (Yg c_WORD r_WORD)) (Za Q6 (Za (Zh Zv Q5 (Yg c_TAKER r_TAKER)) Zb))))) Zb)))) Zq))),?_⟩;have hz:=aC
 refine⟨_,rfl,_,rfl,q,_,-1,.ref a,rfl,rfl,ZG.of hq,EC,a,_,3,.str t,rfl,rfl,ZP.of ha,rfl,?_⟩;refine Yd ?_;dsimp only;refine⟨_,rfl,e,_,1,.str "won", rfl,rfl,ZP.of he,rfl,rfl,_,rfl,Z7 (fun _=>Z6 ?_) (fun z=>absurd rfl z)⟩;refine⟨_,rfl,.inl ⟨rfl,_,ZG.of hq⟩,_,rfl,e,_,0,.int d2,rfl,rfl,ZP.of he,rfl,_,rfl,e,_,1,.str "won", rfl,rfl,ZP.of he,rfl,_,rfl,_,rfl,e,_,3,.str t2,rfl,rfl,ZP.of he,rfl,aB rfl,fun p hp=>?_⟩;have hq1:=ZC.new (o:=.tup (Ay d2 "won" (.str t) t2)) hp _ _ hq;exact⟨q,_,.ref p,rfl,rfl,hq1,by rw[xK];show _+1<_;lia,k p _ Zg (CS hq1 _ _ Zg) ((ZC.new hp).x.trans ZI.upd)⟩
inductive Tz(C T:dN)(vs:aG)(H:Hp)(Q:VK)(z3:XK):Prop
 |mk(L) (ds) (b le) (us) (n t) (d0 day)(_:vs=[.ref b,.ref le,.ref L.p,.int day])(_:ZT C H L ds)(_:(∀n,Yk ds n=none))(_:H b=some (.tup [.str n,.int d0]))(_:d0<=day)(_:H le=some (.lst us))(_:WS H us n t d0 day)(_:ZY H T U9)(_:∀l ws a d wd g H',H' l=some (.lst (ws ++ [.ref a]))->H' a=some (.tup (Ay d wd g t))->ZC H H'->Q (.ref l) H')
abbrev ER:Stmt:=top 48
theorem EG:Nm (Zs ER) "day" .cell:=aA
theorem Mr(Zir:YC K mg "road" ER)(T0:Txt mg)(C0:∃t,mg "DAY"=some (.int 0 t))(Z1l:Fn P w K mg base "by_day" ["events"] 4 (Tf T))(Zo9:Fn P w K mg base "leave_on" ["steps","folk","day"] 2 (UU C))(Z1m:Fn P w K mg base "pass_on" ["steps","event"] 1 TH) :
  Fn P w K mg base "road" ["brought","events","folk","day"] 5 (Tz C T):=by
 obtain⟨t0,c_DAY⟩:=C0;have r_DAY:ZF (.int 0) (.int 0 t0):=⟨t0,rfl⟩;refine Zir.fq ["brought","events","folk","day","first_day","steps","event"] fun H vs Q E hr h=>?_;obtain⟨L,ds,b,le,us,n,t,d0,day,rfl,F0,hnd,hb,hd,hle,hw,hT,k⟩:=h;have T1:=T0
 refine⟨rfl,_,(Zd (Zx 4 (Zh Zv Q0 Zf)) (Zd (Zn (Zt Uy (qvC 3 EG) Q8 (Zu _)) (Ze (Zm (Ym Zb))) Zq) (Zd (Zx 5 (Ym (Za (Yi (Za Q8 (Za Yq (Za Y3 (Za (Zh Zv Q0 Zf) Zb))))) Zb))) (Zd (Wi PassesOwn.never rfl (Y7 (Zk Z1l (Za (Wv (locs:=["event"]) (fr:=[("day", 3)]) ⟨rfl,aA,aA,aA,aA,aA⟩ (.consN EG .nil) rfl (Y7 Q5) ⟨fun _ _ _ _ _ _=>by
  have cnd:(inN ["event"] [("day", 3)]).Nodup:=aA
  exact⟨(Yw 0 cnd),(JK (Zt Wr (Zh PM (Yj 0) (Yg c_DAY r_DAY (n:=nmC))) (Vn 1) (Zu _))),(Yj 0)⟩⟩) Zb))) (Yv 6)
 (Zd (Zo (Zk Zo9 (Za Q9 (Za Q6 (Za (Zh Zv Qa (Yg c_DAY r_DAY)) Zb)))))
 (Ze (Zo (Zk Z1m (Za Q9 (Za Qa Zb)))))))
 (Zd (Zo (Zk Zo9 (Za Q9 (Za Q6 (Za (qvC 3 EG) Zb)))))
 (Ze (Zm Q9))))))),?_⟩
 have hz:=aC
 refine⟨_,rfl,b,_,1,.int d0,rfl,rfl,ZP.of hb,rfl,?_⟩;refine Yd ?_;dsimp only;refine⟨_,rfl,_,rfl,_,_,rfl,rfl,_,rfl,Z7 (fun c=>absurd c (wV.mpr hd)) (fun _=>?_)⟩;refine⟨_,rfl,_,rfl,b,_,0,.str n,rfl,rfl,ZP.of hb,rfl,aB rfl,fun p hp=>?_⟩;refine nw (o:=.tup [.int d0,.str "brought", .non,.str n]) hp fun H1 S1 k1=>?_;refine⟨aB rfl,fun q hq=>?_⟩;have hqH:=S1.free hq;have S2:=S1.trans (ZC.new (o:=.lst [.ref p]) hq);have k2:(upd H1 q (.lst [.ref p])) q=some (.lst ([] ++ [.ref p])):=Zg;have p2:=ZC.new (o:=.lst [.ref p]) hq _ _ k1;generalize (upd H1 q (.lst [.ref p]))=H2 at S2 k2 p2 ⊢;refine Yd ?_;dsimp only;have hw2:=hw.same S2;have hul:us.length<=1:=by rcases hw with⟨rfl,_⟩ | ⟨_,_,rfl,_⟩<;>exact yO rfl
 refine⟨_,rfl,le,rfl,⟨_,ZG.of (S2 _ _ hle)⟩,?_⟩;refine Ur (xs:=us) (fun i ys H'=>H'=H2/\ys=us.take i) ⟨rfl,rfl⟩ (by lia) (fun i ys H' _ ⟨e,_⟩=>by rw[e];exact ZG.of (S2 _ _ hle)) (fun i ys H' ⟨_,e⟩=>by rw[e,xV];lia) ?_ ?_
 ·rintro i x ys H' hx ⟨rfl,rfl⟩ ls hls;obtain⟨w0,rfl⟩:=Us hls;rcases hw2 with⟨rfl,_⟩ | ⟨a,d,rfl,ha,_,hd2⟩
  ·cases hx
  ·cases i with
   | zero =>
    cases hx;exact⟨⟨[_],rfl,rfl⟩,_,rfl,a,_,0,.int d,rfl,rfl,ZP.of ha,rfl,_,rfl,_,_,rfl,rfl,_,rfl,Z7 (fun _=>⟨_,rfl,rfl,rfl⟩) (fun c=>absurd hd2 c)⟩
   | succ i=>cases hx
 rintro ys H0 ⟨rfl,rfl⟩ lq hlq;rw[yJ];have S3':=ZC.new (o:=.lst us) hlq;have S3:=S2.trans S3';have k3:(upd H0 lq (.lst us)) lq=some (.lst us):=Zg;have q3:=S3' _ _ k2;have p3:=S3' _ _ p2;generalize (upd H0 lq (.lst us))=H3 at S3 k3 q3 p3 ⊢;refine⟨lq,us,n,t,d0,day,rfl,k3,hw.same S3,hT.same S3,fun l H4 hlf hl sm4=>?_⟩;have S4:=S3.trans sm4;have q4:=sm4 _ _ q3;have p4:=sm4 _ _ p3;have nlq:l≠q:=fun z=>by rw[z,q3] at hlf;cases hlf
 have Fx:∀{H'},ZI q H4 H'->ZT C H' L ds:=fun sx=>(F0.keep (ZC.n S4)).keep (ZI.n sx q4);have last:∀{H':Hp}{ws:aG}{a:dN}{d:Int}{wd:Str}{g:V}{v6:Option V},ZI q H4 H'->H' q=some (.lst (ws ++ [.ref a]))->H' a=some (.tup (Ay d wd g t))->Q (.ref q) H':=fun {H' ws a d wd g v6} sx e1 e2=>k q ws a d wd g H' e1 e2 fun b o e=>sx b o (Zi e hqH) (S4 _ _ e);refine⟨l,rfl,⟨_,ZG.of hl⟩,?_⟩;refine Ue us (fun i U H'=>∃(v6:Option V)(ws:aG)(a:dN)(d:Int)(wd:Str)(g:V)(t':Str),U=[some (.ref b),some (.ref le),some (.ref L.p),some (.int day),some (.int d0),some (.ref q),v6]/\ZI q H4 H'/\H' q=some (.lst (ws ++ [.ref a]))/\H' a=some (.tup (Ay d wd g t'))/\(i=us.length->t'=t)/\(i=0->ws=[]))
  ⟨none,[],p,d0, "brought", .non,n,rfl,ZI.refl,q4,p4,fun e=>?_,fun _=>rfl⟩ (fun i U H' _ ⟨_,_,_,_,_,_,_,_,sx,_⟩=>ZG.of (sx _ _ nlq hl)) ?_ ?_
 ·rcases hw with⟨_,e⟩ | ⟨_,_,rfl,_⟩
  ·exact e.symm
  ·cases e
 ·rintro i x U H' hx ⟨v6,ws,a,d,wd,g,t',rfl,sx,hqw,haw,_,h0⟩;rcases hw with⟨rfl,_⟩ | ⟨e,d2,rfl,he,_,_⟩
  ·cases hx
  ·cases i with
   | succ i=>cases hx
   | zero =>
    cases hx;obtain rfl:=h0 rfl;have he':H' e=some (.tup [.int d2,.str "won", .non,.str t]):=sx _ _ (fun z=>by rw[z,hqH] at he;cases he) (S4 _ _ he);refine⟨_,rfl,_,rfl,_,rfl,e,_,0,.int d2,rfl,rfl,ZP.of he',rfl,L,ds,q,[],d2,a,d,wd,t',g,rfl,Fx sx,hnd,hqw,haw,?_⟩;refine⟨_,rfl,_,rfl,q,e,[],a,d,d2,wd,t',t,g,rfl,hqw,haw,he',xZ _,fun p' H5 e1 e2 sx5=>?_⟩;exact⟨_,[] ++ [.ref a],p',d2, "won", .str t',t,rfl,sx.trans sx5,e1,e2,fun _=>rfl,fun z=>nomatch z⟩
 ·rintro U H' ⟨v6,ws,a,d,wd,g,t',rfl,sx,hqw,haw,ht,_⟩;obtain rfl:=ht rfl;exact⟨_,rfl,_,rfl,_,rfl,L,ds,q,ws,day,a,d,wd,t',g,rfl,Fx sx,hnd,hqw,haw,_,rfl,last (v6:=v6) sx hqw haw⟩
inductive UD(C T:dN)(vs:aG)(H:Hp)(Q:VK)(z3:XK):Prop
 |mk(L) (ds) (b le) (us) (n t) (d0 day)(_:vs=[.ref b,.ref le,.ref L.p,.int day])(_:ZT C H L ds)(_:(∀n,Yk ds n=none))(_:H b=some (.tup [.str n,.int d0]))(_:d0<=day)(_:H le=some (.lst us))(_:WS H us n t d0 day)(_:ZY H T U9)(_:∀H',ZC H H'->Q (.str t) H')
abbrev Fz:Stmt:=top 49
theorem XQ(Zis:YC K mg "holder" Fz)(C3:∃t,mg "TAKER"=some (.int 3 t))(Z1o:Fn P w K mg base "road" ["brought","events","folk","day"] 5 (Tz C T)) :
  Fn P w K mg base "holder" ["brought","events","folk","day"] 6 (UD C T):=by
 obtain⟨t3,c_TAKER⟩:=C3;have r_TAKER:ZF (.int 3) (.int 3 t3):=⟨t3,rfl⟩;refine Zis.fq ["brought","events","folk","day","steps"] fun H vs Q E hr h=>?_;obtain⟨L,ds,b,le,us,n,t,d0,day,rfl,F0,hnd,hb,hd,hle,hw,hT,k⟩:=h;refine⟨rfl,_,(Zd (Zx 4 (Zk Z1o (Za Q0 (Za Q5 (Za Q6 (Za Q7 Zb)))))) (Ze (Zm (Lu (Gk Q8 (fun _=>rfl)) (Zh Zv (Zh Z3 Q8 (V1 Uc Zf)) (Yg c_TAKER r_TAKER)) Y3)))),?_⟩;refine⟨_,rfl,_,rfl,_,rfl,_,rfl,L,ds,b,le,us,n,t,d0,day,rfl,F0,hnd,hb,hd,hle,hw,hT,fun l ws a d wd g H' hl ha sm=>?_⟩;refine Yd ?_;dsimp only;refine⟨_,rfl,_,.inl ⟨_,ZG.of hl,rfl⟩,?_⟩;rw[show (!(ws ++ [V.ref a]).isEmpty)=true by simp];exact Z6 ⟨_,rfl,_,rfl,l,_,-1,.ref a,rfl,rfl,ZG.of hl,EC,a,_,3,.str t,rfl,rfl,ZP.of ha,rfl,k H' sm⟩
end
section
variable{C CM:dN}
def Vf(bs:List Bool):D->Option D
 | .tup [.int i,e]=>if bs.getD i.toNat false=true then some e else none
 | _=>none
def BS(bs:List Bool)(rows:List D):Prop:=∀r∈rows,∃(i:Nat)(e:D),r=.tup [.int i,e]/\i<bs.length
inductive VR(C CM:dN)(vs:aG)(H:Hp)(Q:VK)(z3:XK):Prop
 |mk(M) (ds) (wa) (xs) (m) (qs) (lr) (us) (rows)(_:vs=[.ref M.p,.ref lr])(_:ZD C CM H M ds wa xs m qs)(_:H lr=some (.lst us))(_:ZK H rows us)(_:BS m.verd rows)(_:rows.length<=1000)(_:∀l vs' H',H l=none->H' l=some (.lst vs')->ZK H' (rows.filterMap (Vf m.verd)) vs'->ZC H H'->Q (.ref l) H')
abbrev Fj:Stmt:=Yc (top 77) 36
theorem bL:Nm (Zs Fj) "self" .cell:=aA
theorem QN(Ziu:ZU K CM "counting" "Moot.counting" Fj)(Tm:ZJ K CM):Mt P w K mg base CM "counting" ["self","rows"] 1 (VR C CM):=by
 refine Ziu.mq ["self","rows"] fun H vs Q E hr h=>?_;obtain⟨M,ds,wa,xs,m,qs,lr,us,rows,rfl,W,hlr,hr,hok,hl,k⟩:=h
 refine⟨rfl,_,(Ze (Zm (Wv (locs:=["case","told"]) (fr:=[("self", 0)]) ⟨rfl,aA,aA,aA,aA,aA⟩ (.consN bL .nil) rfl (Y7 Q5) ⟨fun _ _ _ _ _ _=>by
  have cnd:(inN ["case","told"] [("self", 0)]).Nodup:=aA
  exact⟨(Ai 2 (by rfl) (Yp (Yw 0 cnd) (Yp (Yw 1 cnd) Vy))),(JK (QW.pt (Bf (Zt Eo (Yj 0) Y3 (Zu _)) (Bz (Yu (Zh LO (Kn (Vn 2)) (Yj 0))))))),(Yj 1)⟩⟩))),?_⟩
 have hz:=aC
 obtain⟨dx,ob⟩:=W.ob;obtain⟨bv,d1,d2,_⟩:=(W.ls (M.lv,m.verd.map D.bl) (by simp[Mo.at_])).get;dsimp only at d1;rw[Fl d2] at d1;have hul:=hr.length;refine⟨_,rfl,lr,rfl,⟨_,ZG.of hlr⟩,?_⟩;refine Ur (xs:=us) (fun i ys H'=>ZC H H'/\ZK H' ((rows.take i).filterMap (Vf m.verd)) ys) ⟨ZC.refl _,rfl⟩ (by lia) (fun i ys H' _ ⟨e,_⟩=>ZG.of (e _ _ hlr)) (fun i ys H' ⟨_,e⟩=>by rw[e.length];exact xW (wL ..) (by rw[xV];lia)) ?_ ?_
 ·rintro i v ys H' hv ⟨sm,hys⟩ ls hls;obtain⟨w0,w1,rfl⟩:=AJ hls;obtain⟨r,hr1,re⟩:=hr.get hv;obtain⟨j,e,rfl,hj⟩:=hok r (xO hr1);obtain⟨a,us',rfl,ha,⟨y1,r1,rfl,f1,⟨y2,r2,rfl,f2,f3⟩⟩⟩:=re;cases f1;cases f3;obtain⟨b,hb⟩:∃b,m.verd[j]?=some b:=⟨_,xC hj⟩;have et:(rows.take (i+1)).filterMap (Vf m.verd)=(rows.take i).filterMap (Vf m.verd)++(if b=true then [e] else []):=by
   rw[yG,hr1,wT];congr 1;have ec:Vf m.verd (.tup [.int j,e])=if b=true then some e else none:=by
    show (if m.verd.getD (j:Int).toNat false=true then some e else none)=_;rw[yM,xL,hb];rfl
   show List.filterMap (Vf m.verd) [D.tup [.int j,e]]=_;rw[zZ,ec];cases b<;>rfl
  rw[et];refine⟨a,_,rfl,ZP.of (sm _ _ ha),rfl,_,_,rfl,_,_,rfl,rfl,⟨[_,_],rfl,rfl⟩,?_⟩;refine⟨_,rfl,rfl,_,rfl,Z7 (fun z=>nomatch z) (fun _=>?_)⟩;refine⟨_,rfl,M.p,CM,dx,_,_,rfl,sm _ _ ob,Tm.cl,Tm.nv,DR _,_,rfl,M.lv,_,j,.bl b,rfl,rfl,ZG.of (sm _ _ d1),Yl (by rw[xJ,hb];rfl),b,rfl,?_⟩;cases b with
  | true=>exact Z6 ⟨_,rfl,sm,hys.snoc (YF.mono sm _ _ f2)⟩
  | false=>exact Zp ⟨sm,by rw[if_neg aA,yL];exact hys⟩
 ·rintro ys H' ⟨sm,hys⟩ l hl;rw[hul,yJ] at hys;have S1:=ZC.new (o:=.lst ys) hl;exact k l ys _ (sm.free hl) Zg (hys.mono' S1) (sm.trans S1)
theorem Os(h:(rows=[]/\t=n)\/∃d:Int,rows=[.tup [.int d,.str "won", .non,.str t]]/\d0<=d/\d<=day)(r:ZK H rows us):WS H us n t d0 day:=by
 rcases h with⟨rfl,e⟩ | ⟨d,rfl,h1,h2⟩
 ·cases r;exact .inl ⟨rfl,e⟩
 ·obtain⟨v,r',rfl,⟨a,vs,rfl,ha,⟨_,_,rfl,f1,⟨_,_,rfl,f2,⟨_,_,rfl,f3,⟨_,_,rfl,f4,f5⟩⟩⟩⟩⟩,e⟩:=r;cases e;cases f1;cases f2;cases f3;cases f4;cases f5;exact .inr ⟨a,d,rfl,ha,h1,h2⟩
inductive VH(C CM T:dN)(vs:aG)(H:Hp)(Q:VK)(z3:XK):Prop
 |mk(p:dN) (ds:List ZQ) (m:Mo) (O:dN->Prop) (i:Nat) (day:Int) (n t:Str) (d0:Int) (rows:List D)(_:vs=[.ref p,.int i,.int day])(_:YR C CM H p ds m O)(_:VE m)(_:m.deeds.length<=400)(_:0<=day)(_:day<=9999)(_:m.brs[i]?=some (.tup [.str n,.int d0]))(_:d0<=day)(_:m.haps[i]?=some rows)(_:BS m.verd rows)(_:((rows.filterMap (Vf m.verd)= []/\t=n)\/∃d:Int,rows.filterMap (Vf m.verd)= [.tup [.int d,.str "won", .non,.str t]]/\d0<=d/\d<=day))(_:(∀n,Yk ds n=none))(_:ZY H T U9)(_:m.brs.length<=1000)(_:∀H',ZC H H'->Q (.str t) H')
abbrev IQ:Stmt:=Yc (top 77) 29
theorem NM(Ziv:ZU K CM "holder" "Moot.holder" IQ)(Tm:ZJ K CM)(Wy:Fn P w K mg base "check_day" ["day"] 1 WD)(MM_check_thing:Mt P w K mg base CM "check_thing" ["self","thing"] 1 (VN C CM))(MM_counting:Mt P w K mg base CM "counting" ["self","rows"] 1 (VR C CM))(Z1p:Fn P w K mg base "holder_goods" ["brought","events","folk","day"] 6 (UD C T)):Mt P w K mg base CM "holder" ["self","thing","day"] 7 (VH C CM T):=by
 refine Ziv.mq ["self","thing","day"] fun H vs Q E hr h=>?_;obtain⟨_,ds,m,_,i,day,n,t,d0,rows,rfl,⟨M,wa,xs,qs,rfl,W,rfl⟩,ok,h4,y0,y1,hb,hd,hh,hok,he,hnd,hT,hbl,k⟩:=h;refine⟨rfl,_,(Zd (Zo (Zk Wy (Za Q6 Zb))) (Zd (Zo (Zz Q0 Tm.cl MM_check_thing (Za Q5 Zb))) (Ze (Zm (Zk Z1p (Za (Zh Z3 (Zw Q0) Q5) (Za (Zz Q0 Tm.cl MM_counting (Za (Zh Z3 (Zw Q0) Q5) Zb)) (Za (Zw Q0) (Za Q6 Zb))))))))),?_⟩;refine⟨_,rfl,day,rfl,y0,y1,?_⟩;obtain⟨dm,obm⟩:=W.ob;have hi:=(xE.mp hb).1;refine⟨_,rfl,M.p,dm,_,rfl,obm,Z4 _ aA,_,rfl,M,ds,wa,xs,m,qs,i,rfl,W,⟨by lia,by lia⟩,?_⟩;obtain⟨ub,b1,b2,b3⟩:=(W.ls (M.lb,m.brs) (by simp[Mo.at_])).get;dsimp only at b1 b2 b3;have hv:i<ub.length:=by lia
 obtain⟨z,hz,re⟩:=b2.get (xC hv);rw[hb] at hz;cases hz;obtain⟨a,us,ea,ha,⟨_,_,rfl,f1,⟨_,_,rfl,f2,f3⟩⟩⟩:=re;cases f1;cases f2;cases f3;have hn:=W.hn;have hiq:i<qs.length:=by have:=(xE.mp hh).1;lia
 have hq:qs[i]?=some qs[i]:=xC hiq;have mz:(qs[i],rows)∈qs.zip m.haps:=xO (i:=i) (by rw[zG];exact⟨hq,hh⟩);obtain⟨us,u1,u2,hul⟩:=(W.ls (qs[i],rows) (by simp[Mo.at_,mz])).get;dsimp only at u1 u2 hul;have hrl:=ok.hl rows (xO hh);refine⟨_,rfl,M.p,CM,dm,_,_,rfl,obm,Tm.cl,Tm.nb,Bb _,_,rfl,M.lb,ub,i,.ref a,rfl,rfl,ZG.of b1,Yl (by rw[xC hv,ea]),?_⟩;refine⟨_,rfl,M.p,dm,_,rfl,obm,Z4 _ aA,_,rfl,M.p,CM,dm,_,_,rfl,obm,Tm.cl,Tm.nh,Fe _,_,rfl,M.lh,_,i,.ref qs[i],rfl,rfl,ZG.of W.hl,Yl (by rw[xJ,hq];rfl),?_⟩;refine⟨M,ds,wa,xs,m,qs,qs[i],us,rows,rfl,W,u1,u2,hok,by lia,fun l vs' H1 fl kl rp S1=>?_⟩;exact⟨_,rfl,M.p,CM,dm,_,_,rfl,S1 _ _ obm,Tm.cl,Tm.nf,V0 _,_,rfl,M.L,ds,a,l,vs',n,t,d0,day,rfl,(W.same S1).fk.f,hnd,S1 _ _ ha,hd,kl,Os he rp,hT.same S1,fun H2 S2=>k H2 (S1.trans S2)⟩
inductive VX(C CM:dN)(vs:aG)(H:Hp)(Q:VK)(z3:XK):Prop
 |mk(p) (ds) (m) (O) (day) (es) (f)(_:vs=[.ref p,.int day])(_:YR C CM H p ds m O)(_:0<=day)(_:day<=9999)(_:BS m.verd m.debts)(_:m.debts.length<=1000)(_:m.debts.filterMap (Vf m.verd)=es.map Bv)(_:Eg ds day f)(_:es.length<64)(_:∀l2 ms rs H',H l2=none->H' l2=some (.lst ms)->ZK H' (rs.map Va) ms->YO (net f day es) rs->ZC H H'->Q (.ref l2) H')
abbrev HJ:Stmt:=Yc (top 77) 32
theorem Ob(Ziw:ZU K CM "owed" "Moot.owed" HJ)(Tm:ZJ K CM)(Wy:Fn P w K mg base "check_day" ["day"] 1 WD)(MM_counting:Mt P w K mg base CM "counting" ["self","rows"] 1 (VR C CM))(Z1q:Fn P w K mg base "owed_dues" ["entries","folk","day"] 3 (TL C)):Mt P w K mg base CM "owed" ["self","day"] 4 (VX C CM):=by
 refine Ziw.mq ["self","day"] fun H vs Q E hr h=>?_;obtain⟨_,ds,m,_,day,es,f,rfl,⟨M,wa,xs,qs,rfl,W,rfl⟩,y0,y1,hok,hl,he,hf,hel,k⟩:=h;refine⟨rfl,_,(Zd (Zo (Zk Wy (Za Q5 Zb))) (Ze (Zm (Zk Z1q (Za (Zz Q0 Tm.cl MM_counting (Za (Zw Q0) Zb)) (Za (Zw Q0) (Za Q5 Zb))))))),?_⟩;refine⟨_,rfl,day,rfl,y0,y1,?_⟩;obtain⟨dm,obm⟩:=W.ob;obtain⟨us,u1,u2,_⟩:=(W.ls (M.lq,m.debts) (by simp[Mo.at_])).get;dsimp only at u1 u2;refine⟨_,rfl,M.p,dm,_,rfl,obm,Z4 _ aA,_,rfl,M.p,CM,dm,_,_,rfl,obm,Tm.cl,Tm.nq,GY _,M,ds,wa,xs,m,qs,M.lq,us,m.debts,rfl,W,u1,u2,hok,hl,fun l vs' H1 fl kl rp S1=>?_⟩;rw[he] at rp;exact⟨_,rfl,M.p,CM,dm,_,_,rfl,S1 _ _ obm,Tm.cl,Tm.nf,V0 _,_,rfl,M.L,ds,l,vs',es,day,f,rfl,(W.same S1).fk.f,kl,rp,hf,hel,fun l2 ms rs H2 f2 k2 r2 io _ S2=>k l2 ms rs H2 (S1.free f2) k2 r2 io (S1.trans S2)⟩
end
def Vh(os:List (Int×Str))(i:Int)(o:dF):List Str:=o.filter fun n=>!decide ((i,n)∈os)
inductive Ta(vs:aG)(H:Hp)(Q:VK)(z3:XK):Prop
 |mk(l g) (i) (o) (gs) (os)(_:vs=[.ref l,.int i,.ref g])(_:H l=some (.lst (o.map V.str)))(_:H g=some (.lst gs))(_:V3 H os gs)(_:o.length<=60)(_:∀l2 H',H l2=none->H' l2=some (.lst ((Vh os i o).map V.str))->ZC H H'->Q (.ref l2) H')
theorem Prs.mono(S:ZC H H'):∀{ps:List (Int×Str)}{vs:aG},V3 H ps vs->V3 H' ps vs
 | [],_,h=>h
 | _::_,_,⟨b,r,e,h1,h2⟩=>⟨b,r,e,S _ _ h1,Prs.mono S h2⟩
abbrev Cw:Stmt:=top 81
theorem QH:Nm (Zs Cw) "case" .cell:=aA
theorem RG:Nm (Zs Cw) "gone" .cell:=aA
theorem Oz(Zix:YC K mg "kept_names" Cw)(T:Txt mg):Fn P w K mg base "kept_names" ["names","case","gone"] 1 Ta:=by
 refine Zix.fq ["names","case","gone"] fun H vs Q E hr h=>?_;obtain⟨l,g,i,o,gs,os,rfl,hl,hg,hp,ho,k⟩:=h
 refine⟨rfl,_,(Ze (Zm (Wv (locs:=["name"]) (fr:=[("case", 1),("gone", 2)]) ⟨rfl,aA,aA,aA,aA,aA⟩ (.consN QH (.consN RG .nil)) rfl (Y7 Q0) ⟨fun _ _ _ _ _ _=>by
  have cnd:(inN ["name"] [("case", 1),("gone", 2)]).Nodup:=aA
  exact⟨(Yw 0 cnd),(JK (Zt (cO hr) (Yi (Za (Vn 1) (Za (Yj 0) Zb))) (Vn 2) rfl)),(Yj 0)⟩⟩))),?_⟩
 have hz:=aC
 refine⟨_,rfl,l,rfl,⟨_,ZG.of hl⟩,?_⟩;refine Ur (xs:=o.map V.str) (fun j ys H'=>ZC H H'/\ys=(Vh os i (o.take j)).map V.str) ⟨ZC.refl _,rfl⟩ (by rw[xB];lia) (fun j ys H' _ ⟨e,_⟩=>ZG.of (e _ _ hl)) (fun j ys H' ⟨_,e⟩=>by rw[e,xB];exact xW (zI ..) (by rw[xV];lia)) ?_ ?_
 ·rintro j v ys H' hv ⟨sm,rfl⟩ ls hls;obtain⟨w0,rfl⟩:=Us hls;rw[xJ] at hv;obtain⟨n,hn,rfl⟩:=yD.mp hv;have et:Vh os i (o.take (j+1))=Vh os i (o.take j)++(if (i,n)∈os then [] else [n]):=by
   unfold Vh;rw[yG,hn,wQ];congr 1;show List.filter _ [n]=_
   by_cases z:(i,n)∈os<;>simp[z]
  rw[et];refine⟨⟨[_],rfl,rfl⟩,?_⟩;refine⟨_,rfl,_,rfl,aB rfl,fun b hb=>?_⟩;refine nw (o:=.tup [.int i,.str n]) hb fun H1 S1 k1=>?_;have S:=sm.trans S1;refine⟨_,rfl,.inl ⟨b,g,i,n,os,gs,rfl,k1,rfl,ZG.of (S _ _ hg),Prs.mono S hp,_,rfl,?_⟩⟩
  by_cases z:(i,n)∈os
  ·rw[xN z,if_pos z,yL];exact Zp ⟨S,rfl⟩
  ·rw[xT z,if_neg z,xP];exact Z6 ⟨_,rfl,S,rfl⟩
 ·rintro ys H' ⟨sm,rfl⟩ l2 hl2;rw[xB,yJ];exact k l2 _ (sm.free hl2) Zg (sm.trans (ZC.new hl2))
theorem bN(pre:aG)(a b:V):atI (pre ++ [a,b]) (-2)=some a/\atI (pre ++ [a,b]) (-1)=some b:=by
 have hl:(pre ++ [a,b]).length=pre.length+2:=by simp
 unfold atI ixN;rw[hl];constructor
 ·grind
 ·grind
theorem Ga(pre:aG)(a b:V)(d:Nat):HT.sIx (pre ++ [a,b]).length d (some (-2))=pre.length:=by
 have hl:(pre ++ [a,b]).length=pre.length+2:=by simp
 rw[hl];unfold HT.sIx;simp;lia
theorem Sm(pre:aG)(a b:V):Vb (pre ++ [a,b]) none (some (-2))=pre:=by
 unfold Vb;rw[HT.sIx_none,Ga];simp
inductive T8(vs:aG)(H:Hp)(Q:VK)(z3:XK):Prop
 |mk(q g l1 l2) (i) (pre) (o1 o2) (gs) (os)(_:vs=[.ref q,.int i,.ref g])(_:H q=some (.tup (pre ++ [.ref l1,.ref l2])))(_:H l1=some (.lst (o1.map V.str)))(_:H l2=some (.lst (o2.map V.str)))(_:H g=some (.lst gs))(_:V3 H os gs)(_:o1.length<=60)(_:o2.length<=60)(_:pre.length<=10)(_:pre ≠ [])(_:∀q' l1' l2' H',H' q'=some (.tup (pre ++ [.ref l1',.ref l2']))->H' l1'=some (.lst ((Vh os i o1).map V.str))->H' l2'=some (.lst ((Vh os i o2).map V.str))->H l1'=none->H l2'=none->ZC H H'->Q (.ref q') H')
abbrev KJ:Stmt:=top 80
theorem Re(Ziy:YC K mg "with_kept_names" KJ)(Zpf:Fn P w K mg base "kept_names" ["names","case","gone"] 1 Ta):Fn P w K mg base "with_kept_names" ["deed","case","gone"] 2 T8:=by
 refine Ziy.fq ["deed","case","gone"] fun H vs Q E hr h=>?_;obtain⟨q,g,l1,l2,i,pre,o1,o2,gs,os,rfl,hq,h1,h2,hg,hp,n1,n2,np,np0,k⟩:=h;refine⟨rfl,_,(Ze (Zm (Zy OQ (Ak cK Q0 A4 (JU (V1 Uc Zf))) (Yi (Za (Zk Zpf (Za (Zh Zv Q0 (V1 Uc Zf)) (Za Q5 (Za Q6 Zb)))) (Za (Zk Zpf (Za (Zh Zv Q0 (V1 Uc Zf)) (Za Q5 (Za Q6 Zb)))) Zb)))))),?_⟩;have hz:=aC
 obtain⟨i1,i2⟩:=bN pre (.ref l1) (.ref l2);refine⟨_,rfl,2,rfl,-2,rfl,q,_,rfl,ZP.of hq,fun z=>by rw[Ga] at z;have:=z.2;simp at this,fun p0 hp0=>?_⟩;rw[Sm];refine nw (o:=.tup pre) hp0 fun H1 S1 k1=>?_;refine⟨_,rfl,_,rfl,q,_,-2,_,rfl,rfl,ZP.of (S1 _ _ hq),i1,_,rfl,_,rfl,l1,g,i,o1,gs,os,rfl,S1 _ _ h1,S1 _ _ hg,Prs.mono S1 hp,n1,fun m1 H2 f1 km1 S2=>?_⟩;have S12:=S1.trans S2;refine⟨_,rfl,_,rfl,q,_,-1,_,rfl,rfl,ZP.of (S12 _ _ hq),i2,_,rfl,_,rfl,l2,g,i,o2,gs,os,rfl,S12 _ _ h2,S12 _ _ hg,Prs.mono S12 hp,n2,fun m2 H3 f2 km2 S3=>?_⟩;have S13:=S12.trans S3;refine⟨aB rfl,fun p3 hp3=>?_⟩;refine nw (o:=.tup [.ref m1,.ref m2]) hp3 fun H4 S4 k4=>?_;have S24:=(S2.trans S3).trans S4;refine⟨p0,p3,pre,_,rfl,rfl,ZP.of (S24 _ _ k1),ZP.of k4,np0,by show _+2<=_;lia,(fun z=>nomatch z),fun _ q' hq'=>?_⟩;have S5:=ZC.new (o:=.tup (pre ++ [.ref m1,.ref m2])) hq';exact k q' m1 m2 _ Zg (S5 _ _ (S4 _ _ (S3 _ _ km1))) (S5 _ _ (S4 _ _ km2)) (S1.free f1) (S12.free f2) ((S1.trans S24).trans S5)
section
variable{C CM:dN}
theorem Wg(h1:U[i]?=some (some (.ref a)))(h2:H a=some (.tup us))(h3:atI us k=some v)(h:tr U H fun vs H2=>Q (v::vs) H2):Vr (J0 (TZ K) (YD i) (tC (.int k))) tr U H Q:=⟨_,h1,a,us,k,v,rfl,rfl,ZP.of h2,h3,h⟩
theorem Dm{i:Nat}{w v:Str}{t u:TS}{D:YK}{U:St}{H:Hp}(h1:U[i]?=some (some (.str v)))(h2:v≠w)(h:u D U H):Ua (Dp (BK (J0 CL (YD i) (tC (.str w)))) t Yb) u D U H:=⟨_,h1,rfl,_,rfl,Z7 (fun z=>absurd (by injection z) h2) (fun _=>h)⟩
theorem Bm{i:Nat}{w:Str}{t u:TS}{D:YK}{U:St}{H:Hp}(h1:U[i]?=some (some (.str w)))(h:t {D with nx:=u D } U H):Ua (Dp (BK (J0 CL (YD i) (tC (.str w)))) t Yb) u D U H:=⟨_,h1,rfl,_,rfl,Z7 (fun _=>h) (fun z=>absurd rfl z)⟩
def coD(n:Str)(day wt:Int):D:=.tup [.str "come", .str n,.int day,.int wt]
def Mo.brg(m:Mo)(n:Str)(day:Int):Mo:={m with brs:=m.brs ++ [.tup [.str n,.int day]],haps:=m.haps ++ [[]],deeds:=m.deeds ++ [.tup [.str "bring", .str n,.int day]] }
def Mo.pn(m:Mo)(n:Str):Mo:={m with pen:=fun x=>if x=n then some (m.trials.length:Int) else m.pen x,npen:=m.npen+1,deeds:=m.deeds ++ [.tup [.str "penance", .str n]] }
inductive JE (H:Hp) (a:dN) (O:dN->Prop) (ds:List ZQ) (m:Mo):List ZQ->Mo->Prop
 | come (n:Str) (day wt:Int) (ha:H a=some (.tup [.str "come", .str n,.int day,.int wt])) (h4:m.deeds.length<400) (h5:ds.length<40) (hn:Wl n) (d0:0<=day) (d1:day<=9999) (w0:1<=wt) (w1:wt<=1000) (hc:Z0 ds n=none):JE H a O ds m (ds ++ [.come n day wt]) ({m with deeds:=m.deeds ++ [coD n day wt] }:Mo)
 | bring (n:Str) (day:Int) (ha:H a=some (.tup [.str "bring", .str n,.int day])) (h4:m.deeds.length<400) (h5:m.brs.length<40) (h6:m.haps.length<=1000) (d0:0<=day) (d1:day<=9999) (ok:VE m) (he:Vu ds m day [n] none none=none):JE H a O ds m ds (m.brg n day)
 | claim (x:Str) (i day need:Int) (l1 l2:dN) (o1 o2:dF) (f:Str->Int) (ha:H a=some (.tup [.str "claim", .str x,.int i,.int day,.int need,.ref l1,.ref l2])) (cs:JM ds m H l1 l2 o1 o2 day need f) (y1:¬O l1) (y2:¬O l2) (he:BH ds m x i day need f o1 o2=none):JE H a O ds m ds (m.won x i.toNat day need f o1 o2)
 | pen (n:Str) (d:Int) (ha:H a=some (.tup [.str "penance", .str n])) (h4:m.deeds.length<400) (h5:m.npen<=1000) (h6:m.trials.length<=1000) (hc:Z0 ds n=some d) (hd:Yk ds n=none):JE H a O ds m ds (m.pn n)
 | wer (x y:Str) (many day need:Int) (l1 l2:dN) (o1 o2:dF) (f:Str->Int) (ha:H a=some (.tup [.str "wergild", .str x,.str y,.int many,.int day,.int need,.ref l1,.ref l2])) (cs:JM ds m H l1 l2 o1 o2 day need f) (y1:¬O l1) (y2:¬O l2) (m0:1<=many) (m1:many<=1000000) (he:BF ds m x y day need f o1 o2=none):JE H a O ds m ds (m.owes x y many day need f o1 o2)
inductive TC(C CM:dN)(vs:aG)(H:Hp)(Q:VK)(z3:XK):Prop
 |mk(p) (ds ds') (m m') (O) (a)(_:vs=[.ref p,.ref a])(_:YR C CM H p ds m O)(_:JE H a O ds m ds' m')(_:∀v O' H',YR C CM H' p ds' m' O'->WH O H O' H'->Q v H')
abbrev Lz:Stmt:=top 20
theorem cG(Ziz:YC K mg "done" Lz)(Tm:ZJ K CM)(MM_come:Mt P w K mg base CM "come" ["self","name","day","weight"] 4 (VI C CM))(MM_bring:Mt P w K mg base CM "bring" ["self","name","day"] 4 (WT C CM))(MM_claim:Mt P w K mg base CM "claim" ["self","claimer","thing","day","need","ones","others"] 6 (VQ C CM))(MM_penance:Mt P w K mg base CM "penance" ["self","name"] 2 (Jb C CM))(MM_wergild:Mt P w K mg base CM "wergild" ["self","claimer","answerer","many","day","need","ones","others"] 6 (TQ C CM)):Fn P w K mg base "done" ["moot","deed"] 8 (TC C CM):=by
 refine Ziz.fq ["moot","deed","word"] fun H vs Q E hr h=>?_;obtain⟨_,ds,ds',m,m',_,a,rfl,⟨M,wa,xs,qs,rfl,W,rfl⟩,hc,k⟩:=h;refine⟨rfl,_,(Zd (Zx 2 (Zh Zv Q5 Zf)) (Zd (Zn (Zt Y4 Q6 Yq (Zu _)) (Ze (Zm (Zz Q0 Tm.cl MM_come (Za (Zh Zv Q5 Zf) (Za (Zh Zv Q5 Zf) (Za (Zh Zv Q5 Zf) Zb)))))) Zq) (Zd (Zn (Zt Y4 Q6 Yq (Zu _)) (Ze Yn) Zq) (Zd (Zn (Zt Y4 Q6 Yq (Zu _)) (Ze Yn) Zq) (Zd (Zn (Zt Y4 Q6 Yq (Zu _)) (Ze (Zm (Zz Q0 Tm.cl MM_penance (Za (Zh Zv Q5 Zf) Zb)))) Zq) (Zd (Zn (Zt Y4 Q6 Yq (Zu _)) (Ze (Zm (Zz Q0 Tm.cl MM_bring (Za (Zh Zv Q5 Zf) (Za (Zh Zv Q5 Zf) Zb))))) Zq) (Zd (Zn (Zt Y4 Q6 Yq (Zu _)) (Ze Yn) Zq) (Zd (Zn (Zt Y4 Q6 Yq (Zu _)) (Ze Yn) Zq) (Zd (Zn (Zt Y4 Q6 Yq (Zu _)) (Ze (Zm (Zz Q0 Tm.cl MM_claim (Za (Zh Zv Q5 Zf) (Za (Zh Zv Q5 Zf) (Za (Zh Zv Q5 Zf) (Za (Zh Zv Q5 Zf) (Za (Zh Zv Q5 Zf) (Za (Zh Zv Q5 Zf) Zb))))))))) Zq) (Zd (Zn (Zt Y4 Q6 Yq (Zu _)) (Ze (Zm (Zz Q0 Tm.cl MM_wergild (Za (Zh Zv Q5 Zf) (Za (Zh Zv Q5 Zf) (Za (Zh Zv Q5 Zf) (Za (Zh Zv Q5 Zf) (Za (Zh Zv Q5 Zf) (Za (Zh Zv Q5 Zf) (Za (Zh Zv Q5 Zf) Zb)))))))))) Zq) (Zd (Zn (Zt Y4 Q6 Yq (Zu _)) (Ze Yn) Zq) (Ze Yn)))))))))))),?_⟩;obtain⟨dm,obm⟩:=W.ob;cases hc with
 | come n day wt ha h4 h5 hn d0 d1 w0 w1 hc =>
  refine⟨_,rfl,a,_,0,_,rfl,rfl,ZP.of ha,rfl,?_⟩;refine Yd ?_;refine Bm rfl ?_;exact⟨_,rfl,M.p,dm,_,rfl,obm,Z4 _ aA,Wg rfl ha rfl (Wg rfl ha rfl (Wg rfl ha rfl ⟨M,ds,wa,xs,m,qs,n,day,wt,rfl,W,h4,h5,hn,d0,d1,w0,w1,hc,fun wa' H' W' T' F'=>k _ _ _ ⟨M,wa',xs,qs,rfl,W',rfl⟩ ⟨T',F'⟩⟩))⟩
 | bring n day ha h4 h5 h6 d0 d1 ok he =>
  refine⟨_,rfl,a,_,0,_,rfl,rfl,ZP.of ha,rfl,?_⟩;refine Yd ?_
  iterate 4 refine Dm rfl aA ?_
  refine Bm rfl ?_;exact⟨_,rfl,M.p,dm,_,rfl,obm,Z4 _ aA,Wg rfl ha rfl (Wg rfl ha rfl ⟨M,ds,wa,xs,m,qs,n,day,rfl,W,h4,h5,h6,d0,d1,ok,he,fun q H' W' T' F'=>k _ _ _ ⟨M,wa,xs,qs ++ [q],rfl,W',rfl⟩ ⟨T',F'⟩⟩)⟩
 | pen n d ha h4 h5 h6 hc hd =>
  refine⟨_,rfl,a,_,0,_,rfl,rfl,ZP.of ha,rfl,?_⟩;refine Yd ?_
  iterate 3 refine Dm rfl aA ?_
  refine Bm rfl ?_;exact⟨_,rfl,M.p,dm,_,rfl,obm,Z4 _ aA,Wg rfl ha rfl ⟨M,ds,wa,xs,m,qs,n,d,rfl,W,h4,h5,h6,hc,hd,fun H' W' T'=>k _ _ _ ⟨M,wa,xs,qs,rfl,W',rfl⟩ ⟨T',fun b hb=>.inl hb⟩⟩⟩
 | wer x y many day need l1 l2 o1 o2 f ha cs y1 y2 m0 m1 he =>
  refine⟨_,rfl,a,_,0,_,rfl,rfl,ZP.of ha,rfl,?_⟩;refine Yd ?_
  iterate 8 refine Dm rfl aA ?_
  refine Bm rfl ?_;refine⟨_,rfl,M.p,dm,_,rfl,obm,Z4 _ aA,Wg rfl ha rfl (Wg rfl ha rfl (Wg rfl ha rfl (Wg rfl ha rfl (Wg rfl ha rfl (Wg rfl ha rfl (Wg rfl ha rfl ⟨M.p,ds,m,_,x,y,many,day,need,l1,l2,o1,o2,f,rfl,⟨M,wa,xs,qs,rfl,W,rfl⟩,cs,y1,y2,m0,m1,he,fun O' H' W' F'=>k _ _ _ W' F'⟩))))))⟩
 | claim x i day need l1 l2 o1 o2 f ha cs y1 y2 he =>
  refine⟨_,rfl,a,_,0,_,rfl,rfl,ZP.of ha,rfl,?_⟩;refine Yd ?_
  iterate 7 refine Dm rfl aA ?_
  refine Bm rfl ?_;refine⟨_,rfl,M.p,dm,_,rfl,obm,Z4 _ aA,Wg rfl ha rfl (Wg rfl ha rfl (Wg rfl ha rfl (Wg rfl ha rfl (Wg rfl ha rfl (Wg rfl ha rfl ⟨M.p,ds,m,_,x,i,day,need,l1,l2,o1,o2,f,rfl,⟨M,wa,xs,qs,rfl,W,rfl⟩,cs,y1,y2,he,fun O' H' W' F'=>k _ _ _ W' F'⟩)))))⟩
theorem YR.there(h:YR C CM H p ds m O)(hb:O b):∃o,H b=some o:=by
 obtain⟨M,wa,xs,qs,e,W,rfl⟩:=h;exact W.there hb
end
section
variable{w:dP}{C CM:dN}{c:dH}
abbrev TN:=List ZQ×Mo
inductive J1 (os:List (Int×Str)) (bs:List Bool) (s:TN) (k:Nat):D->TN->Nat->Prop
 | pl (w:Str) (ts:List D) (s':TN) (h1:w ≠ "claim") (h2:w ≠ "wergild") (h3:w ≠ "accuse") (hc:∀H a O,YF H (.tup (.str w::ts)) (.ref a)->JE H a O s.1 s.2 s'.1 s'.2):J1 os bs s k (.tup (.str w::ts)) s' k
 | ac (ts:List D):J1 os bs s k (.tup (.str "accuse" :: ts)) s (k+1)
 | no (w:Str) (ts:List D) (hw:w="claim" \/ w="wergild") (hb:bs[k]?=some false):J1 os bs s k (.tup (.str w::ts)) s (k+1)
 | ys (w:Str) (pre:List D) (o1 o2:dF) (s':TN) (hw:w="claim" \/ w="wergild") (hb:bs[k]?=some true) (n1:o1.length<=60) (n2:o2.length<=60) (np:pre.length<=6) (hc:∀H a l1 l2 O (pv:aG),ZK H pre pv->H a=some (.tup (.str w::pv ++ [.ref l1,.ref l2]))->H l1=some (.lst ((Vh os k o1).map V.str))->H l2=some (.lst ((Vh os k o2).map V.str))->¬O l1->¬O l2->JE H a O s.1 s.2 s'.1 s'.2):J1 os bs s k (.tup (.str w::pre ++ [.lst (o1.map D.str),.lst (o2.map D.str)])) s' (k+1)
inductive YX (os:List (Int×Str)) (bs:List Bool):TN->Nat->List D->TN->Nat->Prop
 | nil {s:TN}{k:Nat}:YX os bs s k [] s k
 | cons {s s1 s':TN}{k k1 k':Nat}{d:D}{r:List D}:J1 os bs s k d s1 k1->YX os bs s1 k1 r s' k'->YX os bs s k (d::r) s' k'
theorem YX.snoc{os:List (Int×Str)}{bs:List Bool}{s s' s2:TN}{k k' k2:Nat}{r:List D}{d:D}(h:YX os bs s k r s' k')(g:J1 os bs s' k' d s2 k2):YX os bs s k (r ++ [d]) s2 k2:=by
 induction h with
 | nil=>exact .cons g .nil
 | cons a _ ih=>exact .cons a (ih g)
inductive UI(C CM:dN)(vs:aG)(H:Hp)(Q:VK)(z3:XK):Prop
 |mk(p) (ds) (m) (O) (s') (k')(_:vs=[.ref p])(_:YR C CM H p ds m O)(_:VE m)(_:m.trials.length<64)(_:(∀d∈m.deeds,AV d))(_:m.deeds.length<=1000)(_:(∀os:List (Int×Str),(∀c n,(c,n)∈os↔Uu m.trials c n ≠ [])->YX os m.verd ([],mo0) 0 m.deeds s' k'))(_:∀p' O' H',YR C CM H' p' s'.1 s'.2 O'->(∀b,O' b->H b=none)->ZC H H'->Q (.ref p') H')
theorem Rh(u:Str)(h:u ≠ "claim" /\ u ≠ "wergild" /\ u ≠ "accuse"):inV (.str u) [.str "claim", .str "wergild", .str "accuse"]=false:=by
 obtain⟨h1,h2,h3⟩:=h;unfold inV eqV;simp[h1.symm,h2.symm,h3.symm]
theorem Ds(u:Str)(h:u="claim" \/ u="wergild" \/ u="accuse"):inV (.str u) [.str "claim", .str "wergild", .str "accuse"]=true:=by
 rcases h with rfl | rfl | rfl<;>rfl
theorem Gc:∀{os:List Wa}{vs:aG},ZK H (os.map onD) vs->V3 H os vs
 | [],vs,h=>h
 | o::os,vs,⟨v,r,e,h1,h2⟩=>by
  obtain⟨a,rfl,ha⟩:=bD h1;exact⟨a,r,e,ha,Gc h2⟩
theorem J1.wd{os:List (Int×Str)}{bs:List Bool}{s s':TN}{k k':Nat}{d:D}(h:J1 os bs s k d s' k'):∃w ts,d=.tup (.str w::ts):=by
 cases h<;>exact⟨_,_,rfl⟩
theorem Prs.ofX:∀{ps:List (Int×Str)}{vs:aG},V3 H ps vs->(∀b u,H b=some (.tup u)->H' b=some (.tup u))->V3 H' ps vs
 | [],_,h,_=>h
 | _::_,_,⟨b,r,e,h1,h2⟩,S=>⟨b,r,e,S _ _ h1,Prs.ofX h2 S⟩
theorem Fv:∀{xs ys:List D}{us:aG},ZK H (xs++ys) us->∃a b,us=a++b/\ZK H xs a/\ZK H ys b
 | [],_,us,h=>⟨[],us,rfl,rfl,h⟩
 | _::_,_,_,⟨v,r,e,h1,h2⟩=>by
  obtain⟨a,b,e2,h3,h4⟩:=Fv h2;exact⟨v::a,b,by rw[e,e2];rfl,⟨v,a,rfl,h1,h3⟩,h4⟩
abbrev IB:Stmt:=top 79
theorem Rq(Zi0:YC K mg "struck" IB)(T:Txt mg)(Tm:ZJ K CM)(MM_standing:Mt P w K mg base CM "standing" ["self"] 1 (YU C CM))(MM_suits:Mt P w K mg base CM "suits" ["self"] 1 (UW C CM))(Z1w:Fn P w K mg base "broken" ["suits"] 6 TJ)(M_Moot:B2 P w K mg base CM "Moot" 3 (VJ C CM))(MM_roll:Mt P w K mg base CM "roll" ["self"] 2 (Tw C CM))(Zpi:Fn P w K mg base "done" ["moot","deed"] 8 (TC C CM))(Z1x:Fn P w K mg base "with_kept_names" ["deed","case","gone"] 2 T8):Fn P w K mg base "struck" ["moot"] 9 (UI C CM):=by
 refine Zi0.fq ["moot","standing","gone","other","case","deed"] fun H vs Q E hr h=>?_;obtain⟨_,ds,m,_,s',k',rfl,⟨M,wa,xs,qs,rfl,W,rfl⟩,ok,ht,hpl,hln,hst,k⟩:=h;refine⟨rfl,_,(Zd (Zx 1 (Vs Q0 Tm.cl MM_standing)) (Zd (Zx 2 (Zk Z1w (Za (Vs Q0 Tm.cl MM_suits) Zb))) (Zd (Zx 3 (E3 M_Moot)) (Zd (Zx 4 Zf) (Zd (Wi PassesOwn.never rfl (Y7 (Vs Q0 Tm.cl MM_roll)) (Yv 5) (Zd (Zn (Zt Fg (Zh Zv Q9 Zf) (Yi (Za Yq (Za Yq (Za Yq Zb)))) rfl) (Zd (Zo (Zk Zpi (Za Q7 (Za Q9 Zb)))) (Ze Pb)) Zq) (Zd (Zn (QW.pt (Uk (Zt Bc (Zh Zv Q9 Zf) Yq (Zu _)) (Uw (Yu (Zh Z3 Q5 Q8))))) (Ze (Zo (Zk Zpi (Za Q7 (Za (Zk Z1x (Za Q9 (Za Q8 (Za Q6 Zb)))) Zb))))) Zq) (Ze (NS 4 Zf PN))))) (Ze (Zm Q7))))))),?_⟩;have hz:=aC
 obtain⟨dm,obm⟩:=W.ob;have hvl:=ok.vl;have hle:=ok.le;refine⟨_,rfl,M.p,dm,_,rfl,obm,Z4 _ aA,M,ds,wa,xs,m,qs,rfl,W,by lia,fun sl H1 fs ks S1=>?_⟩;refine Yd ?_;refine⟨_,rfl,M.p,dm,_,rfl,S1 _ _ obm,Z4 _ aA,M,ds,wa,xs,m,qs,rfl,W.same S1,ok,fun su us H2 fsu S2 ksu rsu=>?_⟩;refine⟨su,m.trials,rfl,⟨us,ksu,rsu⟩,ok.ok,ht,fun g ms os H3 fg kg rg _ _ hos S3=>?_⟩;refine Yd ?_;have S13:=(S1.trans S2).trans S3;have hS:=hst os hos;have pg:=Gc rg;intro p dx nx ndx nex;refine⟨p,dx,rfl,Zg,fun M' H4 hM' W4 kp fr=>⟨rfl,?_⟩⟩;have sm4:ZC H3 H4:=fun b o e=>kp b o (by rw[Zc (Zi e nx),Zc (Zi e ndx)];exact e) (Zi e nx);have no4:∀b o,H3 b=some o->¬mo M' [] (fun _=>0) [] [] b:=fun b o e z=>by
  rcases fr b z with y | y
  ·rw[y,nx] at e;cases e
  ·have nb:b≠p:=fun z=>by rw[z,nx] at e;cases e
   rw[Zc nb,Zc (Zi e ndx),e] at y;cases y
 have G4:YR C CM H4 p [] mo0 (mo M' [] (fun _=>0) [] []):=⟨M',_,[],[],hM',W4,rfl⟩;generalize mo M' [] (fun _=>0) [] []=O0 at no4 G4;clear W4 fr kp;have W14:=(W.same S13).same sm4;obtain⟨dm4,obm4⟩:=W14.ob;refine Yd ?_
 try dsimp only [Yb]
 refine⟨_,rfl,M.p,dm4,_,rfl,obm4,Z4 _ aA,M,ds,wa,xs,m,qs,rfl,W14,hpl,hln,fun rl rs H5 frl krl rrl S5=>⟨rl,rfl,⟨_,ZG.of krl⟩,?_⟩⟩;have hrl:=rrl.length;have no5:∀b o,nwH H4 H5 b=some o->¬O0 b:=fun b o e z=>by
  obtain⟨o',e'⟩:=G4.there z;rw[(AL e).1] at e';cases e'
 have nrl:¬O0 rl:=fun z=>by obtain⟨o',e'⟩:=G4.there z;rw[frl] at e';cases e'
 have y3:∀b o,H3 b=some o->H5 b=some o/\¬O0 b:=fun b o e=>⟨S5 _ _ (sm4 _ _ e),no4 b o e⟩;have G5:=G4.same S5;refine Ue rs (fun i U H'=>∃(v5:Option V)(O':dN->Prop)(s:TN)(j:Nat),U=[some (.ref M.p),some (.ref sl),some (.ref g),some (.ref p),some (.int j),v5]/\YX os m.verd s j (m.deeds.drop i) s' k'/\YR C CM H' p s.1 s.2 O'/\WH O0 H5 O' H') ⟨none,O0,([],mo0),0,rfl,hS,G5,WH.same (ZC.refl _)⟩ (fun i U H' _ ⟨_,_,_,_,_,_,_,F⟩=>ZG.of (F.1 _ _ krl nrl)) ?_ ?_
 ·rintro i v U H' hv ⟨v5,O',s0,k0,rfl,hsl,G,F⟩;obtain⟨d,hd,re⟩:=rrl.get hv;have re:=YF.mono (H':=H') (fun b o e=>F.1 _ _ (AL e).2 (no5 b o e)) _ _ re;have hdi:=(xE.mp hd);rw[List.drop_eq_getElem_cons hdi.1,hdi.2] at hsl;obtain⟨s1,k1,hs,hsl⟩:∃s1 k1,J1 os m.verd s0 k0 d s1 k1/\YX os m.verd s1 k1 (m.deeds.drop (i+1)) s' k':=by
   cases hsl with
   | cons a b=>exact⟨_,_,a,b⟩
  have ksl:=F.1 _ _ (y3 _ _ (S3 _ _ (S2 _ _ ks))).1 (y3 _ _ (S3 _ _ (S2 _ _ ks))).2;have kgl:=F.1 _ _ (y3 _ _ kg).1 (y3 _ _ kg).2;have pgl:V3 H' os ms:=by
   refine Prs.ofX pg fun b p e=>F.1 _ _ (y3 _ _ e).1 (y3 _ _ e).2
  obtain⟨w,ts,rfl⟩:=hs.wd;obtain⟨a,us,rfl,ha,⟨_,us1,rfl,rw_,hus⟩⟩:=id re;cases rw_;refine⟨_,rfl,a,_,0,.str w,rfl,rfl,ZP.of ha,Yl (j:=0) rfl,aB rfl,fun lq hlq=>?_⟩;refine nw (o:=.tup [.str "claim", .str "wergild", .str "accuse"]) hlq fun H6 Sq kq=>?_;have F6:=F.trans (WH.same Sq);have ha6:=Sq _ _ ha;refine⟨lq,_,rfl,.inr (ZP.of kq),rfl,rfl,?_⟩;rw[if_pos rfl];refine⟨_,rfl,?_⟩;cases hs with
  | pl _ _ s1' h1 h2 h3 hc =>
   rw[Rh w ⟨h1,h2,h3⟩];refine Z6 ⟨_,rfl,_,rfl,p,_,_,_,_,O',a,rfl,G.same Sq,hc _ _ _ (YF.mono Sq _ _ re),fun v2 O2 H7 G7 F7=>?_⟩;exact⟨_,O2,_,_,rfl,hsl,G7,F6.trans F7⟩
  | ac ts =>
   rw[Ds _ (.inr (.inr rfl))];refine Zp ?_;dsimp only [Yb];refine⟨_,rfl,a,_,0,_,rfl,rfl,ZP.of ha6,Yl (j:=0) rfl,rfl,_,rfl,Wc (fun z=>absurd rfl z) (fun _=>Zp ?_)⟩;exact⟨_,rfl,_,_,rfl,rfl,_,O',_,_,rfl,hsl,G.same Sq,F6⟩
  | no _ _ hw hb =>
   rw[Ds w (hw.imp_right .inl)];refine Zp ?_;dsimp only [Yb];refine⟨_,rfl,a,_,0,_,rfl,rfl,ZP.of ha6,Yl (j:=0) rfl,rfl,_,rfl,Wc (fun _=>?_) (fun z=>by rcases hw with rfl | rfl<;>exact absurd (V.str.inj z) aA)⟩;refine⟨_,rfl,_,rfl,sl,_,k0,_,rfl,rfl,ZG.of (Sq _ _ ksl),Yl (by rw[xJ,hb];rfl),_,rfl,Zp ?_⟩;exact⟨_,rfl,_,_,rfl,rfl,_,O',_,_,rfl,hsl,G.same Sq,F6⟩
  | ys _ pre o1 o2 s1' hw hb n1 n2 np hc =>
   rw[Ds w (hw.imp_right .inl)];refine Zp ?_;dsimp only [Yb];refine⟨_,rfl,a,_,0,_,rfl,rfl,ZP.of ha6,Yl (j:=0) rfl,rfl,_,rfl,Wc (fun _=>?_) (fun z=>by rcases hw with rfl | rfl<;>exact absurd (V.str.inj z) aA)⟩;refine⟨_,rfl,_,rfl,sl,_,k0,_,rfl,rfl,ZG.of (Sq _ _ ksl),Yl (by rw[xJ,hb];rfl),_,rfl,Z6 ?_⟩;obtain⟨pv,ls,rfl,rp,⟨_,_,rfl,⟨l1,u1,rfl,hl1,e1⟩,⟨_,_,rfl,⟨l2,u2,rfl,hl2,e2⟩,e3⟩⟩⟩:=Fv hus;cases e3;rw[Ct e1] at hl1;rw[Ct e2] at hl2;have hpl:=rp.length;refine⟨_,rfl,_,rfl,_,rfl,_,rfl,a,g,l1,l2,k0,.str w::pv,o1,o2,ms,os,rfl,ha6,Sq _ _ hl1,Sq _ _ hl2,Sq _ _ kgl,Prs.mono Sq pgl,n1,n2,by rw[xX];lia,(fun z=>nomatch z),fun q' m1 m2 H7 kq' km1 km2 f1 f2 S7=>?_⟩;have GG:=G.same (Sq.trans S7);have nO:∀{b},H6 b=none->¬O' b:=fun e z=>by obtain⟨o,e'⟩:=(G.same Sq).there z;rw[e] at e';cases e'
   refine⟨p,_,_,_,_,O',q',rfl,GG,hc _ _ _ _ _ pv (rp.mono' (Sq.trans S7)) kq' km1 km2 (nO f1) (nO f2),fun v2 O2 H8 G8 F8=>?_⟩;exact⟨_,rfl,_,_,rfl,rfl,_,O2,_,_,rfl,hsl,G8,(F6.trans (WH.same S7)).trans F8⟩
 ·rintro U H6 ⟨v5,O',s0,k0,rfl,hsl,G,F⟩;rw[hrl,List.drop_length] at hsl;cases hsl;refine⟨_,rfl,k p O' H6 G (fun b hb=>?_) fun b o e=>?_⟩
  ·rcases F.2 b hb with z | z
   ·cases e:H b with
    | none=>rfl
    | some o=>exact absurd z (no4 b o (S13 _ _ e))
   ·exact((S13.trans sm4).trans S5).free z
  ·exact F.1 _ _ (y3 _ _ (S13 _ _ e)).1 (y3 _ _ (S13 _ _ e)).2
end
section
variable{cs:List (Str×Int)}{n0 n1:Str}{wg:Bool}
def Z1(cs:List (Str×Int)):List ZQ:=cs.map fun c=>.come c.1 1 c.2
theorem Up:∀cs n,Z0 (Z1 cs) n=if n∈cs.map (·.1) then some 1 else none
 | [],n=>rfl
 | x::r,n=>by
  rw[yF];show (if x.1=n then some 1 else Z0 (Z1 r) n)=_
  by_cases e:x.1=n
  ·rw[if_pos e,if_pos (by rw[← e];exact xU)]
  ·rw[if_neg e,Up r n]
   by_cases z:n∈r.map (·.1)
   ·rw[if_pos z,if_pos (yC _ z)]
   ·grind
theorem Bk:∀cs n,Yk (Z1 cs) n=none
 | [],n=>rfl
 | x::r,n=>Bk r n
theorem EN(cs:List (Str×Int))(n:Str)(day:Int):V4 (Z1 cs) n day=false:=by unfold V4;rw[Bk]
def Ye:List (Str×Int)->Str->Int
 | [],_=>0
 | x::r,n=>if x.1=n then x.2 else Ye r n
theorem Kd:∀cs g n,(cs.map (·.1)).Nodup->(Z1 cs).foldl Ws g n=if n∈cs.map (·.1) then some [(.inl 1,.int (Ye cs n))] else g n
 | [],g,n,_=>rfl
 | x::r,g,n,h=>by
  obtain⟨h1,h2⟩:=yK.mp h;show (Z1 r).foldl Ws (Ws g _) n=_;rw[Kd r _ n h2,yF]
  by_cases z:n∈r.map (·.1)
  ·rw[if_pos z,if_pos (yC _ z),Ye,if_neg (fun y:x.1=n=>h1 (by show x.1∈_;rw[y];exact z))]
  ·rw[if_neg z];show (if n=x.1 then _ else _)=_
   by_cases e:n=x.1
   ·rw[if_pos e,if_pos (by rw[e];exact xU),Ye,if_pos e.symm]
   ·rw[if_neg e,if_neg (fun y=>(xF.mp y).elim e z)]
theorem Kf(hn:(cs.map (·.1)).Nodup)(h:n∈cs.map (·.1)):Bj (kw (Z1 cs) n) 5 (Ye cs n) :=
 ⟨_,1,(Kd cs _ n hn).trans (if_pos h),by rw[GN,if_pos rfl],aA,fun d v e _=>Classical.byContradiction fun z=>by rw[GN,if_neg (by lia)] at e;cases e⟩
theorem DI:∀{cs:List (Str×Int)}{n:Str},(∀c∈cs,1<=c.2/\c.2<=1000)->n∈cs.map (·.1)->1<=Ye cs n/\Ye cs n<=1000
 | x::r,n,h,hn=>by
  rw[Ye]
  by_cases e:x.1=n
  ·rw[if_pos e];exact h x xU
  ·rw[if_neg e];exact DI (fun c hc=>h c (yC _ hc)) ((xF.mp hn).elim (fun y=>absurd y.symm e) id)
def FO(n1:Str):D:=.tup [.int 0,.tup [.int 5,.str "won", .non,.str n1]]
def DV(n0 n1:Str):D:=.tup [.int 0,.tup [.int 5,.str n0,.str n1,.int 7]]
structure WR (n0 n1:Str) (wg has:Bool) (k:Nat) (ts:List ZW) (m:Mo):Prop where
 tr:m.trials=ts
 dy:m.days=ts.map fun _=>5
 vd:m.verd=(Yo [] 0 ts).1
 br:m.brs=[.tup [.str n0,.int 2]]
 hp:m.haps=[if has&&!wg then [FO n1] else []]
 db:m.debts=if has&&wg then [DV n0 n1] else []
 np:m.npen<=k
 d1:1<=m.deeds.length
 d2:m.deeds.length<=12+k
variable{m:Mo}
theorem WR.ok(h:WR n0 n1 wg has k ts m)(hs:∀t∈ts,V7 t)(hl:ts.length<=60):VE m:=by
 have d1:=h.d1;refine⟨by rw[h.tr];exact hs,by rw[h.dy,h.tr,xB],fun i e he=>?_,by rw[h.tr];exact hl,by rw[h.vd,h.tr,Cu],by rw[h.hp,h.br];rfl,fun q hq=>?_,?_⟩
 ·rw[h.br] at he;cases i with
  | zero=>cases he;exact⟨n0,2,rfl⟩
  | succ i=>cases he
 ·rw[h.hp] at hq;rw[xQ.mp hq];cases has&&!wg
  ·exact xZ _
  ·exact d1
 ·rw[h.db];cases has&&wg
  ·exact xZ _
  ·exact d1
theorem WR.pn(h:WR n0 n1 wg has k ts m)(n:Str):WR n0 n1 wg has (k+1) ts (m.pn n) :=
 ⟨h.tr,h.dy,h.vd,h.br,h.hp,h.db,Nat.succ_le_succ h.np,by show 1<=(m.deeds ++ [_]).length;rw[xK];exact Nat.le_add_left _ _,by show (m.deeds ++ [_]).length<=_;rw[xK];exact Nat.succ_le_succ h.d2⟩
def Jp(n0 n1:Str)(wg:Bool)(f:Str->Int)(o:Option Wa)(m:Mo)(r:ZZ):Mo:=match o with
 | some p=>m.acc p.1 p.2 5 r.need f [r.nm] []
 | none=>if wg then m.owes n1 n0 7 5 r.need f [r.nm] [] else m.won n1 0 5 r.need f [r.nm] []
def Di(n0 n1:Str)(wg:Bool)(o:Option Wa)(r:ZZ):D:=match o with
 | some p=>acD p.1 p.2 5 r.need [r.nm] []
 | none=>if wg then weD n1 n0 7 5 r.need [r.nm] [] else clD n1 0 5 r.need [r.nm] []
def HX(f:Str->Int)(o:Option Wa)(r:ZZ):ZW:=⟨[(r.nm,f r.nm)],[],r.need,o⟩
variable{r:ZZ}
theorem Hh:(Jp n0 n1 wg f o m r).deeds=m.deeds ++ [Di n0 n1 wg o r]/\(Jp n0 n1 wg f o m r).pen=m.pen:=by
 cases o<;>cases wg<;>exact⟨rfl,rfl⟩
theorem WR.nx(h:WR n0 n1 wg has k ts m)(h0:o=none->has=false/\ts=[])(h1:o≠none->has=true):WR n0 n1 wg true (k+1) (ts ++ [HX f o r]) (Jp n0 n1 wg f o m r):=by
 obtain⟨tr,dy,vd,br,hp,db,np,d1,d2⟩:=h;have dd:1<=(m.deeds ++ [Di n0 n1 wg o r]).length/\(m.deeds ++ [Di n0 n1 wg o r]).length<=12+(k+1):=by rw[xK];exact⟨Nat.le_add_left _ _,Nat.succ_le_succ d2⟩
 rw[← (Hh (f:=f) (m:=m) (o:=o)).1] at dd;subst tr;cases o with
 | some p =>
  obtain rfl:=h1 (fun z=>nomatch z);exact⟨rfl,by show m.days ++ [5]=_;rw[dy,xP];rfl,rfl,br,hp,db,zP np,dd.1,dd.2⟩
 | none =>
  obtain⟨rfl,e⟩:=h0 rfl;cases wg
  ·refine⟨rfl,by show m.days ++ [5]=_;rw[dy,xP];rfl,rfl,br,?_,db,zP np,dd.1,dd.2⟩;show m.haps.set 0 (m.haps.getD 0 [] ++ [.tup [.int m.trials.length,_]])=_;rw[hp,e];rfl
  ·refine⟨rfl,by show m.days ++ [5]=_;rw[dy,xP];rfl,rfl,br,hp,?_,zP np,dd.1,dd.2⟩;show m.debts ++ [.tup [.int m.trials.length,_]]=_;rw[db,e];rfl
theorem Dr(h:WR n0 n1 wg has k ts m){ps:dF}{th:Option Int}{oa:Option (Int×Str)}(hp:∀n∈ps,n∈cs.map (·.1))(hth:th=none\/th=some 0)(hoa:oa=none\/∃ (i:Nat) (x:Str) (t:ZW),oa=some ((i:Int),x)/\ts[i]?=some t/\x∈(t.ones++t.others).map (·.1)):Vu (Z1 cs) m 5 ps th oa=none:=by
 have fs:∀{f:Str->Option Str},(∀n∈ps,f n=none)->ps.findSome? f=none:=fun hf=>wH.mpr hf;unfold Vu;rw[fs (f:=BO (Z1 cs)) (fun n hn=>by unfold BO;rw[Up,if_pos (hp n hn)];rfl),fs (f:=fun n=>AC ((Z0 (Z1 cs) n).getD 0) 5) (fun n hn=>by rw[Up,if_pos (hp n hn)];rfl),fs (f:=fun n=>CN (Z1 cs) n 5) (fun n hn=>by unfold CN;rw[EN];rfl)];have t1:th.bind (CU m)=none:=by
  rcases hth with rfl | rfl
  ·rfl
  ·show CU m 0=none;unfold CU;rw[h.br];rfl
 have t2:(th.bind fun i=>AC (brD m i) 5)=none:=by
  rcases hth with rfl | rfl
  ·rfl
  ·show AC (brD m 0) 5=none;have:brD m 0=2:=by unfold brD;rw[h.br];rfl
   rw[this];rfl
 rw[t1,t2];rcases hoa with rfl | ⟨i,x,t,rfl,ht,hx⟩
 ·rfl
 ·have hi:=(xE.mp ht).1;have o1:JA m.trials (i:Int) x=none:=by
   unfold JA;rw[yM,h.tr,ht];dsimp only;rw[if_pos ⟨by lia,by lia⟩,if_pos hx]
  have o2:AC (m.days.getD (i:Int).toNat 0) 5=none:=by
   rw[yM,xL,h.dy,xJ,ht];rfl
  simp only[Option.bind_some,o1,o2,Option.none_or]
theorem Kr(h:WR n0 n1 wg has k ts m)(hl:ts.length<60)(hf:fors m n=false)(hw:need<=f n):U2 m need f [n] []=none:=by
 unfold U2;rw[h.tr,if_neg (by lia),if_neg (by show ¬ 12<max 1 0;decide),if_neg (by rw[Sj (by rw[yL];exact yK.mpr ⟨yE,List.nodup_nil⟩)];lia),wH.mpr (fun x hx=>by rw[yL] at hx;rw[xQ.mp hx,hf];rfl),Option.none_or];exact if_neg (by show ¬f n+0<need;lia)
theorem B1(hn:(cs.map (·.1)).Nodup)(hc:∀c∈cs,1<=c.2/\c.2<=1000)(h10:cs.length<=10)(ok:VE m)(h4:m.deeds.length<400)(h1:H l1=some (.lst ([n].map V.str)))(h2:H l2=some (.lst (([]:dF).map V.str)))(hk:n∈cs.map (·.1)):JM (Z1 cs) m H l1 l2 [n] [] 5 need (Ye cs) :=
 ⟨ok,h4,by unfold Z1;rw[xB];lia,h1,h2,by show 1<=60;decide,xZ _,aA,aA,fun x hx=>by
  rw[yL] at hx;rw[xQ.mp hx]
  exact fun d e _=>⟨Kf hn hk,DI hc hk⟩⟩
theorem FH(ni:1<=need/\need<=1000):Cv need=none:=if_pos ⟨ni.1,by lia⟩
def Pn(rs:List ZZ)(pen:Str->Option Int):Prop:=∀x c,c<rs.length->((pen x).getD 0<=(c:Int)↔∀j r,c<j->rs[j]?=some r->r.nm≠x)
theorem Pn.snoc(h:Pn rs pen)(hb:∀x,(pen x).getD 0<=(rs.length:Int))(r:ZZ):Pn (rs ++ [r]) (fun x=>if x=r.nm then some (rs.length:Int) else pen x):=fun x c hc=>by
 rw[xK] at hc;have hc:c<rs.length+1:=hc;have old:∀{j:Nat}{q:ZZ},(rs ++ [r])[j]?=some q->(j<rs.length/\rs[j]?=some q)\/(j=rs.length/\q=r):=fun {j q} e=>by grind
 have new:(rs ++ [r])[rs.length]?=some r:=wD
 by_cases e:x=r.nm
 ·grind
 ·show (if x=r.nm then some (rs.length:Int) else pen x).getD 0<=_↔_;rw[if_neg e]
  by_cases y:c<rs.length
  ·refine(h x c y).trans ⟨fun z j q hj hq=>?_,fun z j q hj hq=>z j q hj (by rw[yW (xE.mp hq).1];exact hq)⟩;rcases old hq with⟨_,a⟩ | ⟨_,rfl⟩
   ·exact z j q hj a
   ·exact Ne.symm e
  ·grind
theorem Ed(h:WR n0 n1 wg has k ts m)(n:Str):fors (m.pn n) n=false:=by
 unfold Law.fors J5;rw[List.any_eq_false];intro i hi;have hi:i<m.trials.length:=yR.mp hi;unfold Jy
 have:decide ((((m.pn n).pen n).getD 0)<=(i:Int))=false:=xT (by
  show ¬(if n=n then some (m.trials.length:Int) else m.pen n).getD 0<=_;rw[if_pos rfl];show ¬(m.trials.length:Int)<=i
  lia)
 cases (m.pn n).trials[i]?.bind (·.named) with
 | none=>simp
 | some p=>dsimp only;rw[this,Bool.and_false];simp
end
section
structure Tp (cs:List (Str×Int)) (n0 n1:Str):Prop where
 nd:(cs.map (·.1)).Nodup
 wt:∀c∈cs,1<=c.2/\c.2<=1000
 l10:cs.length<=10
 nm:∀n∈cs.map (·.1),Wl n
 m0:n0∈cs.map (·.1)
 m1:n1∈cs.map (·.1)
 ne:n0≠n1
variable{cs:List (Str×Int)}{n0 n1:Str}{wg:Bool}
structure Ts (cs:List (Str×Int)) (n0 n1:Str) (wg:Bool) (rs:List ZZ) (m:Mo):Prop where
 o:WR n0 n1 wg (!rs.isEmpty) (2 * rs.length) (Y1 0 none rs) m
 pn:Pn rs m.pen
 pb:∀x,(m.pen x).getD 0<=(rs.length:Int)
 ro:∀r∈rs,U3 r
 rn:∀r∈rs,r.nm∈cs.map (·.1)
 pl:∀d∈m.deeds,AV d
 st:∀v:Bool,∃m',WR n0 n1 wg (v&&!rs.isEmpty) (2 * rs.length) (Y1 0 none (rs.take v.toNat)) m'/\∀(os:List (Int×Str))(bs:List Bool),(rs ≠ []->bs[0]?=some v)->(v=true->∀r,rs[0]?=some r->((0:Int),r.nm)∉os)->YX os bs ([],mo0) 0 m.deeds (Z1 cs,m') rs.length
theorem bG(h:1<=w/\w<=1000):WY [(n,w)]:=⟨fun p hp=>by rw[xQ.mp hp];exact h,by show 1<=60;decide⟩
theorem ED(h:∀r∈rs,U3 r):∀t∈Y1 0 none rs,V7 t:=fun t ht=>by
 obtain⟨i,hi⟩:=List.getElem?_of_mem ht;have h1:=(xE.mp hi).1;rw[Vp] at h1;have e:=Af (xC h1);rw[hi] at e;cases e;obtain⟨a,b,c⟩:=h _ (zJ h1);exact⟨bG ⟨by lia,c⟩,⟨fun p hp=>(nomatch hp),xZ _⟩,a,by show rs[i].need<=12000;lia⟩
theorem Ts.ok(h:Ts cs n0 n1 wg rs m)(hl:rs.length<=60):VE m:=h.o.ok (ED h.ro) (by rw[Vp];exact hl)
theorem Xr{os:List (Int×Str)}{n:Str}(h:((0:Int),n)∉os):Vh os 0 [n]= [n]:=by
 unfold Vh;rw[List.filter_cons,xT h];rfl
theorem ndT:AV (Di n0 n1 wg o r):=by
 have z:(1:Nat)<=60:=by decide
 have y:(0:Nat)<=60:=by decide
 cases o with
 | some p=>exact⟨_,rfl,fun x hx=>by
   simp only[xF,yE,or_false] at hx
   rcases hx with rfl | rfl | rfl | rfl | rfl | rfl | rfl<;>first | exact .inl rfl | exact .inr ⟨[r.nm],rfl,z⟩ | exact .inr ⟨[],rfl,y⟩,yO rfl⟩
 | none =>
  cases wg<;>exact⟨_,rfl,fun x hx=>by
   simp only[xF,yE,or_false] at hx
   rcases hx with rfl | rfl | rfl | rfl | rfl | rfl | rfl | rfl<;>first | exact .inl rfl | exact .inr ⟨[r.nm],rfl,z⟩ | exact .inr ⟨[],rfl,y⟩,yO rfl⟩
theorem Ph(n:Str):AV (.tup [.str "penance", .str n]):=⟨_,rfl,fun x hx=>by
 simp only[xF,yE,or_false] at hx
 rcases hx with rfl | rfl<;>exact .inl rfl,yO rfl⟩
theorem Fy(C:Tp cs n0 n1)(h:WR n0 n1 wg false k [] m)(hk:k<=200)(hr:U3 r)(hn:r.nm∈cs.map (·.1))(hw:r.wt=Ye cs r.nm)(hf:fors m r.nm=false) :
  VE m/\m.deeds.length<400/\(wg=true->BF (Z1 cs) m n1 n0 5 r.need (Ye cs) [r.nm] []=none)/\(wg=false->BH (Z1 cs) m n1 0 5 r.need (Ye cs) [r.nm] []=none):=by
 obtain⟨g0,g1,g2⟩:=hr;have ok:=h.ok (fun t z=>nomatch z) (xZ _);have d2:=h.d2;have es:U2 m r.need (Ye cs) [r.nm] []=none:=Kr h aA hf (by lia);have ne:=FH (need:=r.need) ⟨g0,by lia⟩;refine⟨ok,by lia,fun _=>?_,fun _=>?_⟩
 ·unfold BF
  rw[ne,es,Dr (cs:=cs) h (ps:=[n1,n0] ++ [r.nm] ++ []) (fun x hx=>by
   simp only[yL,xF,xR,yE,or_false] at hx;rcases hx with(rfl | rfl) | rfl
   ·exact C.m1
   ·exact C.m0
   ·exact hn) (.inl rfl) (.inl rfl)]
  rfl
 ·unfold BH
  rw[ne,es,Dr (cs:=cs) h (ps:=[n1] ++ [r.nm] ++ []) (fun x hx=>by
   simp only[yL,xF,xR,yE,or_false] at hx;rcases hx with rfl | rfl
   ·exact C.m1
   ·exact hn) (.inr rfl) (.inl rfl)]
  rfl
theorem Ts.step(C:Tp cs n0 n1)(h:Ts cs n0 n1 wg rs m)(hl:rs.length<60)(hr:U3 r)(hn:r.nm∈cs.map (·.1))(hw:r.wt=Ye cs r.nm) :
  Ts cs n0 n1 wg (rs ++ [r]) (Jp n0 n1 wg (Ye cs) (Z9 rs rs.length) (m.pn r.nm) r):=by
 have e0:Z9 rs rs.length=none->rs=[]:=fun e=>by
  cases hz:rs with
  | nil=>rfl
  | cons q l=>rw[hz,xX,Z9] at e;rw[xC (by rw[xX];lia)] at e;cases e
 have ee:(rs ++ [r]).isEmpty=false:=by cases rs<;>rfl
 have e2:2 * rs.length+1+1=2 * (rs ++ [r]).length:=by rw[xK];show _=2 * (rs.length+1);lia
 have dd:=Hh (n0:=n0) (n1:=n1) (wg:=wg) (f:=Ye cs) (o:=Z9 rs rs.length) (m:=m.pn r.nm) (r:=r);have su:∀{o:Option Wa},HX (Ye cs) o r=⟨[(r.nm,r.wt)],[],r.need,o⟩:=fun {o}=>by rw[hw];rfl
 have hP:=h.pn.snoc h.pb r;have tl:m.trials.length=rs.length:=by rw[h.o.tr,Vp]
 refine⟨?_,?_,fun x=>?_,fun q hq=>?_,fun q hq=>(xR.mp hq).elim (h.rn q) fun z=>by rw[xQ.mp z];exact hn,fun d hd=>?_,fun v=>?_⟩
 ·rw[SA,← su,ee,← e2]
  exact(h.o.pn r.nm).nx (fun e=>by rw[e0 e];exact⟨rfl,rfl⟩) (fun e=>by cases hz:rs with
   | nil=>rw[hz] at e;exact absurd rfl e
   | cons _ _=>rfl)
 ·rw[dd.2];show Pn _ (fun x=>if x=r.nm then some (m.trials.length:Int) else m.pen x);rw[tl];exact hP
 ·rw[dd.2,xK];show (if x=r.nm then some (m.trials.length:Int) else m.pen x).getD 0<=((rs.length+1:Nat):Int);rw[tl];have:=h.pb x;split
  ·show (rs.length:Int)<=_;lia
  ·lia
 ·exact(xR.mp hq).elim (h.ro q) fun z=>by rw[xQ.mp z];exact hr
 ·rw[dd.1] at hd;rcases xR.mp hd with z | z
  ·rcases xR.mp z with z | z
   ·exact h.pl d z
   ·rw[xQ.mp z];exact Ph _
  ·rw[xQ.mp z];exact ndT
 ·obtain⟨m',b',hs⟩:=h.st v
  have hk:∀{os bs},YX os bs ([],mo0) 0 m.deeds (Z1 cs,m') rs.length->YX os bs ([],mo0) 0 (m.pn r.nm).deeds (Z1 cs,m'.pn r.nm) rs.length:=fun hh=>hh.snoc (.pl "penance" _ _ aA aA aA fun H a O re=>by
   obtain⟨_,us,e,ha,⟨_,_,rfl,q1,⟨_,_,rfl,q2,q3⟩⟩⟩:=re;cases e;cases q1;cases q2;cases q3;have:=b'.d2;have:=b'.np;have t1:(rs.take v.toNat).length<=rs.length:=by rw[xV];lia
   exact .pen r.nm 1 ha (by show m'.deeds.length<400;lia) (by show m'.npen<=1000;lia) (by show m'.trials.length<=1000;rw[b'.tr,Vp];lia) (by rw[Up,if_pos hn]) (Bk cs r.nm))
  rw[dd.1,ee];cases hz:rs with
  | cons q l =>
   rw[hz] at b' hs hk;have ev:((q::l)++[r]).take v.toNat=(q::l).take v.toNat:=by cases v<;>rfl
   refine⟨m'.pn r.nm,?_,fun os bs h1 h2=>?_⟩
   ·rw[hz] at e2;rw[ev,← e2];have:=b'.pn r.nm;exact⟨this.tr,this.dy,this.vd,this.br,this.hp,this.db,zP this.np,this.d1,zP this.d2⟩
   ·have a:=hk (hs os bs (fun _=>h1 (fun z=>nomatch z)) (fun e x hx=>h2 e x (by rw[yW (xE.mp hx).1];exact hx)));obtain⟨p,hp⟩:∃p,Z9 (q::l) (q::l).length=some p:=by
     rw[xX,Z9,xC (by rw[xX];lia)];exact⟨_,rfl⟩
    rw[hp,xK];exact a.snoc (.ac _)
  | nil =>
   subst hz;have b':WR n0 n1 wg false 0 [] m':=by cases v<;>exact b'
   obtain⟨c1,c2,c3,c4⟩:=Fy C (b'.pn r.nm) aA hr hn hw (Ed b' r.nm);cases v with
   | false =>
    refine⟨m'.pn r.nm,?_,fun os bs h1 h2=>?_⟩
    ·have:=b'.pn r.nm;exact⟨this.tr,this.dy,this.vd,this.br,this.hp,this.db,zP this.np,this.d1,zP this.d2⟩
    ·have a:=hk (hs os bs (fun z=>absurd rfl z) (fun e=>nomatch e));have hb:=h1 (fun z=>nomatch z);cases wg
     ·exact a.snoc (.no "claim" _ (.inl rfl) hb)
     ·exact a.snoc (.no "wergild" _ (.inr rfl) hb)
   | true =>
    refine⟨Jp n0 n1 wg (Ye cs) none (m'.pn r.nm) r,?_,fun os bs h1 h2=>?_⟩
    ·have:=(b'.pn r.nm).nx (f:=Ye cs) (o:=none) (r:=r) (fun _=>⟨rfl,rfl⟩) (fun z=>absurd rfl z);rw[su] at this;exact this
    ·have a:=hk (hs os bs (fun z=>absurd rfl z) (fun _ x hx=>nomatch hx));have hb:=h1 (fun z=>nomatch z);have hke:=Xr (h2 rfl r rfl);cases wg
     ·refine a.snoc (.ys "claim" [.str n1,.int 0,.int 5,.int r.need] [r.nm] [] (Z1 cs,Jp n0 n1 false (Ye cs) none (m'.pn r.nm) r) (.inl rfl) hb (by show 1<=60;decide) (xZ _) (by show 4<=6;decide) fun H a l1 l2 O pv rp ha k1 k2 y1 y2=>?_);obtain⟨_,_,rfl,q1,⟨_,_,rfl,q2,⟨_,_,rfl,q3,⟨_,_,rfl,q4,q5⟩⟩⟩⟩:=rp;cases q1;cases q2;cases q3;cases q4;cases q5;rw[show Vh os (([]:List ZZ).length:Nat) [r.nm]= [r.nm] from hke] at k1;exact .claim n1 0 5 r.need l1 l2 [r.nm] [] (Ye cs) ha (B1 C.nd C.wt C.l10 c1 c2 k1 k2 hn) y1 y2 (c4 rfl)
     ·refine a.snoc (.ys "wergild" [.str n1,.str n0,.int 7,.int 5,.int r.need] [r.nm] [] (Z1 cs,Jp n0 n1 true (Ye cs) none (m'.pn r.nm) r) (.inr rfl) hb (by show 1<=60;decide) (xZ _) (by show 5<=6;decide) fun H a l1 l2 O pv rp ha k1 k2 y1 y2=>?_);obtain⟨_,_,rfl,q1,⟨_,_,rfl,q2,⟨_,_,rfl,q3,⟨_,_,rfl,q4,⟨_,_,rfl,q5,q6⟩⟩⟩⟩⟩:=rp;cases q1;cases q2;cases q3;cases q4;cases q5;cases q6;rw[show Vh os (([]:List ZZ).length:Nat) [r.nm]= [r.nm] from hke] at k1;exact .wer n1 n0 7 5 r.need l1 l2 [r.nm] [] (Ye cs) ha (B1 C.nd C.wt C.l10 c1 c2 k1 k2 hn) y1 y2 aA aA (c3 rfl)
end
section
variable{cs:List (Str×Int)}{n0 n1:Str}{wg:Bool}{rs:List ZZ}{m:Mo}
theorem Ts.fors(h:Ts cs n0 n1 wg rs m)(x:Str):fors m x=true↔∃c:Nat,c<rs.length/\(Z9 rs c).map (·.2)=some x/\(rs.length - 1 - c) % 2=0/\∀(j:Nat)(r:ZZ),c<j->rs[j]?=some r->r.nm≠x:=by
 unfold Law.fors J5;rw[List.any_eq_true,h.o.tr,Vp];have key:∀c,c<rs.length->(Jy m x c=true↔(Z9 rs c).map (·.2)=some x/\(rs.length - 1 - c) % 2=0/\∀(j:Nat)(r:ZZ),c<j->rs[j]?=some r->r.nm≠x):=fun c hc=>by
  unfold Jy;rw[h.o.tr,Af (xC hc),Option.bind_some,h.o.vd,xL,show (Yo [] 0 (Y1 0 none rs)).1=alt rs.length from C5 h.ro,As _ _ hc];dsimp only;cases Z9 rs c with
  | none=>exact⟨(fun z=>nomatch z),fun z=>nomatch z.1⟩
  | some p =>
   dsimp only;rw[zV,Option.getD_some,wA,wA,zS,zS,zS,h.pn x c hc,and_assoc,Option.some_inj]
 exact⟨fun⟨c,h1,h2⟩=>⟨c,yR.mp h1,(key c (yR.mp h1)).mp h2⟩,fun⟨c,h1,h2⟩=>⟨c,yR.mpr h1,(key c h1).mpr h2⟩⟩
def v0(m:Mo):Bool:=m.verd.getD 0 false
theorem Ls(bs:List Bool)(e:D):Vf bs (.tup [.int 0,e])=if bs.getD 0 false=true then some e else none:=rfl
theorem WR.hold(h:WR n0 n1 wg has k ts m):∃rows,m.haps[0]?=some rows/\((has&&!wg&&v0 m)=false/\rows.filterMap (Vf m.verd)= []\/(has&&!wg&&v0 m)=true/\rows.filterMap (Vf m.verd)= [.tup [.int 5,.str "won", .non,.str n1]])/\(has=true->BS m.verd rows\/m.verd=[])/\(has=false->rows=[]):=by
 refine⟨_,by rw[h.hp];rfl,?_,fun e=>?_,fun e=>by rw[e];rfl⟩
 ·cases hb:has&&!wg
  ·exact .inl ⟨rfl,rfl⟩
  ·rw[if_pos rfl];unfold FO;rw[zZ,Ls];unfold v0;cases m.verd.getD 0 false
   ·exact .inl ⟨rfl,rfl⟩
   ·exact .inr ⟨rfl,rfl⟩
 ·by_cases z:m.verd=[]
  ·exact .inr z
  ·refine .inl fun r hr=>?_;cases hb:has&&!wg with
   | false=>rw[hb] at hr;cases hr
   | true=>rw[hb] at hr;exact⟨0,_,xQ.mp hr,by cases hv:m.verd with
    | nil=>exact absurd hv z
    | cons _ _=>exact Nat.zero_lt_succ _⟩
def AI:Bool->Str->Str->List Ae
 | true,n0,n1=>[⟨5,n0,n1,7⟩]
 | false,_,_=>[]
def BP:Bool->Str->Str->List Tq
 | true,n0,n1=>[(n0,n1,7)]
 | false,_,_=>[]
theorem WR.debt(h:WR n0 n1 wg has k ts m):m.debts.length<=1/\m.debts.filterMap (Vf m.verd)=(AI (has&&wg&&v0 m) n0 n1).map Bv/\(has=true->BS m.verd m.debts\/m.verd=[])/\(has=false->m.debts=[]):=by
 rw[h.db];refine⟨by cases has&&wg<;>exact yO rfl,?_,fun e=>?_,fun e=>by rw[e];rfl⟩
 ·cases has&&wg
  ·rfl
  ·show ([DV n0 n1].filterMap (Vf m.verd))=_;unfold DV;rw[zZ,Ls];show _=(AI (v0 m) n0 n1).map Bv;unfold v0;cases m.verd.getD 0 false<;>rfl
 ·by_cases z:m.verd=[]
  ·exact .inr z
  ·refine .inl fun r hr=>?_;cases hb:has&&wg with
   | false=>rw[hb] at hr;cases hr
   | true=>rw[hb] at hr;exact⟨0,_,xQ.mp hr,by cases hv:m.verd with
    | nil=>exact absurd hv z
    | cons _ _=>exact Nat.zero_lt_succ _⟩
theorem X0(b:Bool)(hne:n0≠n1){rs:List Tq}(h:YO (net id 50 (AI b n0 n1)) rs):rs=BP b n0 n1:=by
 refine h.eq (X2 ?_ fun r=>?_)
 ·cases b
  ·exact .nil
  ·exact List.pairwise_singleton _ _
 ·cases b
  ·refine⟨(fun z=>nomatch z),fun⟨_,z1,z2⟩=>?_⟩;have z2:(0:Int)=r.2.2:=z2;lia
  ·obtain⟨a,c,v⟩:=r;have en:net id 50 (AI true n0 n1) a c=((if n0=a/\n1=c then 7 else 0) - (if n0=c/\n1=a then 7 else 0))+0:=rfl;constructor
   ·intro z;cases xQ.mp z;refine⟨hne,(by decide:(0:Int)<7),?_⟩;show net id 50 (AI true n0 n1) n0 n1=7;rw[en,if_pos ⟨rfl,rfl⟩,if_neg (fun z=>hne z.1)];rfl
   ·rintro⟨z0,z1,z2⟩;have z1:0<v:=z1;have z2:net id 50 (AI true n0 n1) a c=v:=z2;rw[en] at z2
    by_cases y:n0=a/\n1=c
    ·rw[if_pos y,if_neg (fun z=>hne (z.1.trans y.2.symm))] at z2;obtain⟨rfl,rfl⟩:=y;have:v=7:=by lia
     rw[this];exact xQ.mpr rfl
    ·rw[if_neg y] at z2;split at z2<;>lia
theorem MP:Eg (Z1 cs) 50 id:=fun n=>⟨0,xZ _,.here (EN cs n 50)⟩
end
section
variable{c:dH}
def Wu:Option Wa->V
 | none=>.non
 | some p=>.str p.2
def YI(H:Hp)(rl:dN)(rs:List ZZ):Prop:=∃us,H rl=some (.lst us)/\us.length=rs.length/\∀i r,rs[i]?=some r->∃a,us[i]?=some (.ref a)/\H a=some (.tup [.str r.nm,Wu (Z9 rs i),.int 1])
theorem YI.same(h:YI H rl rs)(S:ZC H H'):YI H' rl rs:=by
 obtain⟨us,a,b,c⟩:=h;exact⟨us,S _ _ a,b,fun i r e=>let ⟨x,y,z⟩:=c i r e;⟨x,y,S _ _ z⟩⟩
def VW(rs:List ZZ)(x:Str)(k:Nat):Prop:=∃c:Nat,c<k/\(Z9 rs c).map (·.2)=some x/\(rs.length - 1 - c) % 2=0/\∀j r,c<j->j<k->rs[j]?=some r->r.nm≠x
theorem VW.succ(hr:rs[k]?=some r):VW rs x (k+1)↔((Z9 rs k).map (·.2)=some x/\(rs.length - 1 - k) % 2=0)\/(VW rs x k/\r.nm≠x):=by
 constructor
 ·rintro⟨c,h1,h2,h3,h4⟩
  by_cases e:c=k
  ·subst e;exact .inl ⟨h2,h3⟩
  ·exact .inr ⟨⟨c,by lia,h2,h3,fun j q a b=>h4 j q a (by lia)⟩,h4 k r (by lia) (by lia) hr⟩
 ·rintro(⟨h2,h3⟩ | ⟨⟨c,h1,h2,h3,h4⟩,h5⟩)
  ·exact⟨k,by lia,h2,h3,fun j q a b=>by lia⟩
  ·refine⟨c,by lia,h2,h3,fun j q a b e=>?_⟩
   by_cases y:j=k
   ·subst y;rw[hr] at e;cases e;exact h5
   ·exact h4 j q a (by lia) e
inductive Th(vs:aG)(H:Hp)(Q:VK)(z3:XK):Prop
 |mk(rl) (rs) (x)(_:vs=[.ref rl,.int rs.length,.str x])(_:YI H rl rs)(_:rs.length<=60)(_:∀b H',(b=true↔VW rs x rs.length)->ZC H H'->Q (.bl b) H')
abbrev Ln:Stmt:=top 90
theorem XY(Zi2:YC K mg "_law_forsworn" Ln)(T:Txt mg):Fn P w K mg base "_law_forsworn" ["_law_rows","_law_count","_law_name"] 1 Th:=by
 refine Zi2.fq ["_law_rows","_law_count","_law_name","_law_found","_law_case","_law_swearer","_law_accused","_law_penances"] fun H vs Q E hr h=>?_;obtain⟨rl,rs,x,rfl,⟨us,hu,hul,hru⟩,h60,k⟩:=h
 refine⟨rfl,_,(Zd (Zx 3 Wj) (Zd (Wi PassesOwn.never rfl (Dz T.enumerate (Za (Ak HD Q0 A4 (JU Q5)) Zb)) (B7 (by rfl) (Yp (Yv 4) (Yp (B7 (by rfl) (Yp (Yv 5) (Yp (Yv 6) (Yp (Yv 7) Vy)))) Vy)))
 (Zd (Zn (Zt Y4 Q9 Q6 (Zu _)) (Ze (Zx 3 Wj)) Zq)
 (Ze (Zn (QW.pt (Uk (Zt Y4 Qa Q6 (Zu _)) (Uw (Zt Y4 (Zy JF (Zy Vm (Zy Vm Q5 Zf) Q8) Zf) Zf (Zu _))))) (Ze (Zx 3 Wj)) Zq))))
 (Ze (Zm Q7)))),?_⟩
 have hz:=aC
 have ec:Vb us none (some (rs.length:Int))=us:=by
  unfold Vb;rw[HT.sIx_nat,HT.sIx_none,hul,Nat.min_self,List.drop_zero,Nat.sub_zero,← hul,yJ]
 refine Yd ?_;dsimp only [Yb];refine⟨_,rfl,_,rfl,_,rfl,rl,us,rfl,ZG.of hu,fun l hl=>?_⟩;rw[ec];refine nw (o:=.lst us) hl fun H1 S0 kl=>?_;refine⟨l,us,rfl,ZG.of kl,?_⟩;refine K7 us (fun i U H'=>∃(b:Bool)(v4 v5 v6 v7:Option V),U=[some (.ref rl),some (.int rs.length),some (.str x),some (.bl b),v4,v5,v6,v7]/\(b=true↔VW rs x i)/\ZC H1 H') ⟨false,none,none,none,none,rfl,⟨(fun z=>nomatch z),fun⟨c,z,_⟩=>absurd z (Nat.not_lt_zero _)⟩,ZC.refl _⟩ (fun i U H' _ ⟨_,_,_,_,_,_,_,S⟩=>ZG.of (S _ _ kl)) ?_ ?_
 ·rintro i v p U H' hv ⟨b,v4,v5,v6,v7,rfl,hb,S⟩ hp;refine nw (o:=.tup [.int i,v]) hp fun H2 Sp kp=>?_;have S2:=S.trans Sp;have hi:i<rs.length:=by rw[← hul];exact(xE.mp hv).1
  obtain⟨r,hr⟩:∃r,rs[i]?=some r:=⟨_,xC hi⟩;obtain⟨a,ha,ka⟩:=hru i r hr;rw[hv] at ha;cases ha;have fs:=VW.succ (x:=x) hr;refine⟨p,_,rfl,ZP.of kp,rfl,_,_,rfl,_,_,rfl,⟨a,_,rfl,ZP.of (S2 _ _ (S0 _ _ ka)),rfl,_,_,rfl,_,_,rfl,_,_,rfl,rfl,rfl,?_⟩⟩;show Ua _ _ _ _ _;refine Dj (fun U H'=>∃b:Bool,U=[some (.ref rl),some (.int rs.length),some (.str x),some (.bl b),some (.int i),some (.str r.nm),some (Wu (Z9 rs i)),some (.int 1)]/\(b=true↔VW rs x i/\r.nm≠x)/\H'=H2) ?_ fun D' hn _ _ _=>?_
  ·rintro U H3 ⟨b',rfl,hb',rfl⟩;have fin:∀z:Bool,(z=true↔VW rs x (i+1))->∃(b:Bool)(v4 v5 v6 v7:Option V),[some (V.ref rl),some (.int rs.length),some (.str x),some (.bl z),some (.int i),some (.str r.nm),some (Wu (Z9 rs i)),some (.int 1)]= [some (.ref rl),some (.int rs.length),some (.str x),some (.bl b),v4,v5,v6,v7]/\(b=true↔VW rs x (i+1))/\ZC H1 H3:=fun z hz=>⟨z,_,_,_,_,rfl,hz,S2⟩;cases hp:Z9 rs i with
   | none =>
    rw[hp] at fin fs;refine⟨_,rfl,_,rfl,rfl,_,rfl,Z7 (fun z=>nomatch z) (fun _=>Zp (fin _ (hb'.trans ?_)))⟩;rw[fs];exact⟨.inr,fun z=>z.elim (fun y=>nomatch y.1) id⟩
   | some q =>
    rw[hp] at fin fs;refine⟨_,rfl,_,rfl,rfl,_,rfl,Z7 (fun z=>?_) (fun z=>Zp (fin _ (hb'.trans ?_)))⟩
    ·have z:=V.str.inj z;have em:(((rs.length:Int) - 1 - i) % 2=0)↔(rs.length - 1 - i) % 2=0:=by lia
     refine⟨_,rfl,_,_,rfl,rfl,_,rfl,_,_,rfl,rfl,_,_,rfl,rfl,aA,rfl,_,rfl,Z7 (fun y=>?_) (fun y=>fin _ (hb'.trans ?_))⟩
     ·have y:=em.mp (V.int.inj y);exact fin true ⟨fun _=>fs.mpr (.inl ⟨by rw[zV,z],y⟩),fun _=>rfl⟩
     ·grind
    ·rw[fs];exact⟨.inr,fun y=>y.elim (fun y=>absurd (congrArg V.str (Option.some_inj.mp y.1)) z) id⟩
  ·refine⟨_,rfl,_,rfl,rfl,_,rfl,Z7 (fun z=>Yd (hn _ _ ⟨false,rfl,⟨(fun y=>nomatch y),fun y=>absurd (V.str.inj z) y.2⟩,rfl⟩)) (fun z=>hn _ _ ⟨b,rfl,hb.trans ⟨fun y=>⟨y,fun e=>z (by rw[e])⟩,fun y=>y.1⟩,rfl⟩)⟩
 ·rintro U H' ⟨b,v4,v5,v6,v7,rfl,hb,S⟩;rw[hul] at hb;exact⟨_,rfl,k b H' hb (S0.trans S)⟩
end
section
variable{C CM:dN}
theorem BJ:∀bs:List Bool,ZK H (bs.map D.bl) (bs.map V.bl)
 | []=>rfl
 | _::r=>⟨_,_,rfl,rfl,BJ r⟩
theorem DO:∀cs:List Nat,ZK H (cs.map fun i:Nat=>D.int i) (Ys cs)
 | []=>rfl
 | _::r=>⟨_,_,rfl,rfl,DO r⟩
theorem He{α:Type}{f:α->D}{n:Nat}(h:∀a,(f a).deep<=n):∀xs:List α,V2 (xs.map f)<=n
 | []=>xZ _
 | x::r=>by
  have:=h x;have:=He h r;rw[yF,V2];lia
theorem BR{α:Type}{f:α->D}{n:Nat}(h:∀a,(f a).deep<=n)(xs:List α)(hn:n+1<=5):(D.lst (xs.map f)).deep<=5:=by
 have:=He h xs;show V2 _+1<=5;lia
theorem IF(r:Tq):(Va r).deep<=1:=by unfold Va;exact yO rfl
variable{cs:List (Str×Int)}{n0 n1:Str}{wg:Bool}{m:Mo}{H:Hp}{p:dN}{O:dN->Prop}
theorem FI(W:YR C CM H p (Z1 cs) m O)(ok:VE m)(B:WR n0 n1 wg has k ts m)(hk:k<=200)(hv:has=true->m.verd ≠ [])(hT:ZY H T' U9)(q:∀H',ZC H H'->Q (.str (if has&&!wg&&v0 m then n1 else n0)) H'):VH C CM T' [.ref p,.int 0,.int 50] H Q E:=by
 obtain⟨rows,a1,a2,a3,a4⟩:=B.hold;have d2:=B.d2;refine⟨p,_,m,O,0,50,n0,_,2,rows,rfl,W,ok,by lia,aA,aA,by rw[B.br];rfl,aA,a1,?_,?_,Bk cs,hT,by rw[B.br];exact yO rfl,q⟩
 ·cases e:has with
  | true=>exact(a3 e).resolve_right (hv e)
  | false=>rw[a4 e];exact fun r hr=>nomatch hr
 ·rcases a2 with⟨e,a2⟩ | ⟨e,a2⟩<;>rw[e]
  ·exact .inl ⟨a2,rfl⟩
  ·exact .inr ⟨5,a2,aA,aA⟩
theorem HZ(W:YR C CM H p (Z1 cs) m O)(B:WR n0 n1 wg has k ts m)(hv:has=true->m.verd ≠ [])(hne:n0≠n1)(q:∀l ms H',H' l=some (.lst ms)->ZK H' ((BP (has&&wg&&v0 m) n0 n1).map Va) ms->ZC H H'->Q (.ref l) H'):VX C CM [.ref p,.int 50] H Q E:=by
 obtain⟨a1,a2,a3,a4⟩:=B.debt;refine⟨p,_,m,O,50,_,id,rfl,W,aA,aA,?_,by lia,a2,MP,?_,fun l ms rs H' _ k1 k2 k3 S=>q l ms H' k1 (by rw[← X0 _ hne k3];exact k2) S⟩
 ·cases e:has with
  | true=>exact(a3 e).resolve_right (hv e)
  | false=>rw[a4 e];exact fun r hr=>nomatch hr
 ·cases has&&wg&&v0 m<;>exact yS (yO (m:=1) rfl) aA
inductive UZ(C CM T:dN)(vs:aG)(H:Hp)(Q:VK)(z3:XK):Prop
 |mk(p rl nl) (cs) (n0 n1) (wg) (rs) (m) (O)(_:vs=[.ref p,.ref rl,.ref nl,.bl wg])(_:YR C CM H p (Z1 cs) m O)(_:YI H rl rs)(_:H nl=some (.lst ((cs.map (·.1)).map V.str)))(_:Tp cs n0 n1)(_:(cs.map (·.1))[0]?=some n0)(_:(cs.map (·.1))[1]?=some n1)(_:Ts cs n0 n1 wg rs m)(_:rs ≠ [])(_:rs.length<=60)(_:ZY H T U9)(_:∀H',ZC H H'->Q (.bl true) H')
abbrev JL:Stmt:=top 91
theorem IH:ZR ["_law_moot","_law_rows","_law_names_here","_law_wergild","_law_count","_law_due","_law_name","_law_keeper","_law_debts","_law_plain"] ["_law_moot","_law_rows","_law_names_here","_law_wergild"] (Zs JL):=fsc
theorem AA:Nm (Zs JL) "_law_count" .cell:=aA
theorem X5:Nm (Zs JL) "_law_due" .local:=aA
theorem NF:Nm (Zs JL) "list" .globalImplicit:=aA
theorem MO:Nm (Zs JL) "range" .globalImplicit:=aA
theorem NH:Nm (Zs JL) "reversed" .globalImplicit:=aA
theorem SQ(Zi3:YC K mg "_law_right" JL)(T:Txt mg)(Tm:ZJ K CM)(Ug:Fn P w K mg base "_law_same" ["_law_found","_law_due"] 7 (VM 5))(MM_standing:Mt P w K mg base CM "standing" ["self"] 1 (YU C CM))(MM_cases:Mt P w K mg base CM "cases" ["self"] 1 (UT C CM))(MM_chain:Mt P w K mg base CM "chain" ["self","case"] 3 (UA C CM))(MM_forsworn:Mt P w K mg base CM "forsworn" ["self","name"] 2 (TX C CM))(Z11:Fn P w K mg base "_law_forsworn" ["_law_rows","_law_count","_law_name"] 1 Th)(MM_holder:Mt P w K mg base CM "holder" ["self","thing","day"] 7 (VH C CM T'))(MM_owed:Mt P w K mg base CM "owed" ["self","day"] 4 (VX C CM))(Z12:Fn P w K mg base "struck" ["moot"] 9 (UI C CM)):Fn P w K mg base "_law_right" ["_law_moot","_law_rows","_law_names_here","_law_wergild"] 10 (UZ C CM T'):=by
 refine Zi3.fq ["_law_moot","_law_rows","_law_names_here","_law_wergild","_law_count","_law_due","_law_name","_law_keeper","_law_debts","_law_plain"] fun H vs Q E hr h=>?_;obtain⟨p,rl,nl,cs,n0,n1,wg,rs,m,O,rfl,W,hrw,hnl,C',i0,i1,h,hne,h60,hT,k⟩:=h
 refine⟨rfl,_,(Zd (CC (i:=4) IH.nd AA (Z5 Y8 T.len Yz (Za Q5 Zb))) (Zd (FA (locs:=["_law_case"]) (fr:=[("_law_count", 4)]) ⟨rfl,aA,aA,aA,aA,aA⟩ (.consN AA .nil) rfl (BC T.range (Za (qvC 4 AA) Zb)) ⟨fun _ _ _ _ _ _=>by
  have cnd:(inN ["_law_case"] [("_law_count", 4)]).Nodup:=aA
  exact⟨(Yw 0 cnd),Uz,(Ul Y4 (Zy JF (Zy Vm (Zy Vm (Vn 1) Zf) (Yj 0)) Zf) Zf (Zu _))⟩⟩ IH.nd X5 (by rfl) (i:=5))
 (Zd (Zn (QW.pt (Bf (Wq (Yu (Zk Ug (Za (Vs Q0 Tm.cl MM_standing) (Za Q9 Zb))))) (Bz (Wq (Yu (Zk Ug (Za (Vs Q0 Tm.cl MM_cases) (Za (qvC 4 AA) Zb)))))))) (Ze (Zm Wj)) Zq)
 (Zd (Zn (Wq (Yu (Zk Ug (Za (Zz Q0 Tm.cl MM_chain (Za (Zy Vm (qvC 4 AA) Zf) Zb)) (Za (cS (by rfl) NF T.list NH.1 T.reversed MO.1 T.range (Za (Zy Vm (qvC 4 AA) Zf) Zb)) Zb))))) (Ze (Zm Wj)) Zq)
 (Zd (Wi PassesOwn.never rfl (Y7 Q6) (Yv 6)
 (Ze (Zn (Wq (Yu (Zk Ug (Za (Zz Q0 Tm.cl MM_forsworn (Za Qa Zb)) (Za (Zk Z11 (Za Q5 (Za (qvC 4 AA) (Za Qa Zb)))) Zb))))) (Ze (Zm Wj)) Zq)))
 (Zd (Zx 7 (Zh Z3 Q6 Zf))
 (Zd (Zx 8 (Ym Zb))
 (Zd (Zn (QW.pt (Uk (Yu (Zh Z3 Q9 Zf)) (Uw (Yu Q7)))) (Ze (Zx 8 (Ym (Za (Yi (Za (Zh Z3 Q6 Zf) (Za (Zh Z3 Q6 Zf) (Za Zf Zb)))) Zb)))) Zq)
 (Zd (Zn (QW.pt (Uk (Yu (Zh Z3 Q9 Zf)) (Uw (Wq (Yu Q7))))) (Ze (Zx 7 (Zh Z3 Q6 Zf))) Zq)
 (Zd (Zn (QW.pt (Bf (Wq (Yu (Zk Ug (Za (Zz Q0 Tm.cl MM_holder (Za Zf (Za Zf Zb))) (Za Qb Zb))))) (Bz (Wq (Yu (Zk Ug (Za (Zz Q0 Tm.cl MM_owed (Za Zf Zb)) (Za (qvN 8) Zb)))))))) (Ze (Zm Wj)) Zq)
 (Zd (Zx 9 (Zk Z12 (Za Q0 Zb)))
 (Zd (Zn (Wq (Yu (Zk Ug (Za (Vs (qvN 9) Tm.cl MM_standing) (Za (Zy HW (Ym (Za Wj Zb)) (Vl Ng T.int En (Za (Zh Z3 Q9 Zf) Zb))) Zb))))) (Ze (Zm Wj)) Zq)
 (Ze (Zm (Ab (Zk Ug (Za (Zz (qvN 9) Tm.cl MM_holder (Za Zf (Za Zf Zb))) (Za Qb Zb))) (JZ (Zk Ug (Za (Zz (qvN 9) Tm.cl MM_owed (Za Zf Zb)) (Za (qvN 8) Zb))))))))))))))))))),?_⟩
 have hz:=aC
 obtain⟨us,hu,hul,hru⟩:=id hrw;have ok:=h.ok h60;have tl:m.trials.length=rs.length:=by rw[h.o.tr,Vp]
 have vd:m.verd=alt rs.length:=by rw[h.o.vd];exact C5 h.ro
 have pos:0<rs.length:=List.length_pos_iff.mpr hne;refine⟨_,rfl,rl,us,rfl,.inl (ZG.of hu),?_⟩;rw[hul];refine Yd ?_;dsimp only [Yb];refine⟨_,rfl,rs.length,rfl,by lia,by lia,?_⟩;refine XB rs.length (by lia) (fun i ys H'=>ZC H H'/\ys=((alt rs.length).take i).map V.bl) ⟨ZC.refl _,rfl⟩ (by lia) (fun i ys H' ⟨_,e⟩=>by rw[e,xB,xV];lia) ?_ ?_
 ·rintro i ys H' hi ⟨S,rfl⟩ ls hls;obtain⟨w0,rfl⟩:=Us hls;rw[show ((0:Int)+(i:Nat))=((i:Nat):Int) by lia];refine⟨⟨[_],rfl,rfl⟩,?_⟩;refine⟨_,rfl,_,_,rfl,rfl,_,rfl,_,_,rfl,rfl,_,_,rfl,rfl,aA,rfl,S,?_⟩;rw[yG,As _ _ hi,xP];congr 1;show [V.bl _]= [V.bl _];congr 2;rw[decide_eq_decide];constructor
  ·intro z;have:=V.int.inj z;lia
  ·intro z;exact congrArg V.int (by lia)
 rintro ys H1 ⟨S1,rfl⟩ dl hdl;rw[show (alt rs.length).take rs.length=alt rs.length from zA (by rw[AY];exact xD _)];have S2:=S1.trans (ZC.new (o:=.lst ((alt rs.length).map V.bl)) hdl);have kd:(upd H1 dl (.lst ((alt rs.length).map V.bl))) dl=some (.lst ((alt rs.length).map V.bl)):=Zg;generalize (upd H1 dl (.lst ((alt rs.length).map V.bl)))=H2 at S2 kd ⊢;refine Yd ?_;dsimp only [Yb];obtain⟨M,wa,xs,qs,hM,Wm,hO⟩:=id (W.same S2);subst hM;obtain⟨dm,obm⟩:=Wm.ob;have rbl:YF H2 (.lst ((alt rs.length).map D.bl)) (.ref dl):=⟨dl,_,rfl,kd,BJ _⟩;refine⟨_,rfl,M.p,dm,_,rfl,obm,Z4 _ aA,M,_,wa,xs,m,qs,rfl,Wm,by rw[vd,AY];lia,fun l3 H3 f3 k3 S3=>?_⟩;rw[vd] at k3;refine⟨_,rfl,.ref l3,.ref dl,.lst ((alt rs.length).map D.bl),rfl,⟨l3,_,rfl,k3,BJ _⟩,YF.mono S3 _ _ rbl,BR (n:=0) (fun _=>xD _) _ aA,fun H4 S4=>⟨_,rfl,Zp ?_⟩⟩;have S24:=S3.trans S4;refine⟨_,rfl,M.p,dm,_,rfl,S24 _ _ obm,Z4 _ aA,M,_,wa,xs,m,qs,rfl,Wm.same S24,?_⟩;rw[tl];refine⟨_,rfl,_,_,.int rs.length,rfl,rfl,rfl,xZ _,fun H5 S5=>⟨_,rfl,Zp ?_⟩⟩;have S25:=S24.trans S5;dsimp only [Yb];have h5:=h.o.hold;have et:(!rs.isEmpty)=true:=by cases rs with
  | nil=>exact absurd rfl hne
  | cons _ _=>rfl
 obtain⟨q,hq⟩:∃q,rs[rs.length - 1]?=some q:=⟨_,xC (by lia)⟩;have ht:m.trials[rs.length - 1]?=some ⟨[(q.nm,q.wt)],[],q.need,Z9 rs (rs.length - 1)⟩:=by rw[h.o.tr];exact Af hq
 have em:((rs.length:Int) - 1)=((rs.length - 1:Nat):Int):=by lia
 refine⟨_,rfl,M.p,dm,_,rfl,S25 _ _ obm,Z4 _ aA,_,rfl,_,_,rfl,rfl,M,_,wa,xs,m,qs,rs.length - 1,_,_,by rw[em];rfl,Wm.same S25,ht,by rw[h.o.tr];exact KO _ (by lia),by rw[zD,zO];lia,by lia,fun l6 H6 f6 k6 S6=>?_⟩;refine⟨_,rfl,_,_,rfl,rfl,rs.length - 1,by rw[em],by lia,fun l7 hl7=>?_⟩;refine nw (o:=.lst ((List.range (rs.length - 1)).reverse.map fun i:Nat=>V.int (i:Int))) hl7 fun H7 S7 k7=>?_;refine⟨_,_,.lst ((List.range (rs.length - 1)).reverse.map fun i:Nat=>D.int i),rfl,⟨l6,_,rfl,S7 _ _ k6,DO _⟩,⟨l7,_,rfl,k7,DO _⟩,BR (n:=0) (fun _=>xD _) _ aA,fun H8 S8=>⟨_,rfl,Zp ?_⟩⟩;have S28:=((S25.trans S6).trans S7).trans S8;clear S3 S4 S24 S5 S25 S6 S7 S8;dsimp only [Yb];have knl:=fun {H':Hp}(S:ZC H2 H')=>S _ _ (S2 _ _ hnl);refine⟨_,rfl,nl,rfl,⟨_,ZG.of (knl S28)⟩,?_⟩;refine Ue ((cs.map (·.1)).map V.str) (fun i U H'=>∃v6:Option V,U=[some (.ref M.p),some (.ref rl),some (.ref nl),some (.bl wg),some (.int rs.length),some (.ref dl),v6,none,none,none]/\ZC H2 H') ⟨none,rfl,S28⟩ (fun i U H' _ ⟨_,_,S⟩=>ZG.of (knl S)) ?_ ?_
 ·rintro i v U H9 hv ⟨v6,rfl,S9⟩;rw[xJ] at hv;obtain⟨x,hx,rfl⟩:=yD.mp hv;have mx:=xO hx;refine⟨_,rfl,M.p,dm,_,rfl,S9 _ _ obm,Z4 _ aA,_,rfl,M.p,_,m,_,x,1,rfl,⟨M,wa,xs,qs,rfl,Wm.same S9,rfl⟩,ok,by rw[Up,if_pos mx],fun H10 S10=>?_⟩;have S210:=S9.trans S10;refine⟨_,rfl,_,rfl,_,rfl,rl,rs,x,rfl,hrw.same (S2.trans S210),h60,fun b H11 hb S11=>?_⟩;have e:fors m x=b:=by
   rw[zE,hb,h.fors x];exact⟨fun⟨c,h1,h2,h3,h4⟩=>⟨c,h1,h2,h3,fun j r a _=>h4 j r a⟩,fun⟨c,h1,h2,h3,h4⟩=>⟨c,h1,h2,h3,fun j r a e=>h4 j r a (xE.mp e).1 e⟩⟩
  exact⟨_,_,.bl b,rfl,by rw[e];rfl,rfl,xZ _,fun H12 S12=>⟨_,rfl,Zp ⟨_,rfl,(S210.trans S11).trans S12⟩⟩⟩
 rintro U H9 ⟨v6,rfl,S9⟩;have kdl:=fun {H':Hp}(S:ZC H2 H')=>S _ _ kd;have ev:v0 m=decide ((rs.length - 1 - 0) % 2=0):=by unfold v0;rw[vd,xL,As _ _ pos];rfl
 have id0:atI ((alt rs.length).map V.bl) 0=some (.bl (v0 m)):=Yl (j:=0) (by rw[xJ,As _ _ pos,ev];rfl);have ij0:atI ((cs.map (·.1)).map V.str) 0=some (.str n0):=Yl (j:=0) (by rw[xJ,i0];rfl);have ij1:atI ((cs.map (·.1)).map V.str) 1=some (.str n1):=Yl (j:=1) (by rw[xJ,i1];rfl);refine⟨_,rfl,nl,_,0,_,rfl,rfl,ZG.of (knl S9),ij0,?_⟩;refine Yd ?_;dsimp only [Yb];refine⟨aB rfl,fun el hel=>?_⟩;have T10:=S9.trans (ZC.new (o:=.lst []) hel);have ke:(upd H9 el (.lst [])) el=some (.lst []):=Zg;generalize (upd H9 el (.lst []))=H10 at T10 ke ⊢;refine Yd ?_;dsimp only [Yb];refine Dj (fun U H'=>∃(al:dN)(ms:aG),U=[some (.ref M.p),some (.ref rl),some (.ref nl),some (.bl wg),some (.int rs.length),some (.ref dl),v6,some (.str n0),some (.ref al),none]/\ZC H2 H'/\H' al=some (.lst ms)/\ZK H' ((BP (wg&&v0 m) n0 n1).map Va) ms) ?_ fun D' hn _ _ _=>?_
 rotate_left
 ·refine⟨_,rfl,dl,_,0,_,rfl,rfl,ZG.of (kdl T10),id0,_,rfl,?_⟩;cases e0:v0 m with
  | false=>exact Zp (Zp (hn _ _ ⟨el,[],rfl,T10,ke,by rw[e0,Bool.and_false];rfl⟩))
  | true =>
   refine Z6 ⟨_,rfl,_,rfl,?_⟩;cases wg with
   | false=>exact Zp (hn _ _ ⟨el,[],rfl,T10,ke,rfl⟩)
   | true =>
    refine Z6 ⟨_,rfl,nl,_,0,_,rfl,rfl,ZG.of (knl T10),ij0,_,rfl,nl,_,1,_,rfl,rfl,ZG.of (knl T10),ij1,aB rfl,fun ta hta=>?_⟩;refine nw (o:=.tup [.str n0,.str n1,.int 7]) hta fun H11 T11 kt=>?_;refine⟨aB rfl,fun al hal=>?_⟩;have T12:=ZC.new (o:=.lst [.ref ta]) hal;refine Yd (hn _ _ ⟨al,_,rfl,(T10.trans T11).trans T12,Zg,?_⟩);rw[e0];exact⟨_,_,rfl,Dh (r:=(n0,n1,7)) (T12 _ _ kt),rfl⟩
 rintro U H11 ⟨al,ms,rfl,S11,kal,ral⟩;refine Dj (fun U H'=>U=[some (.ref M.p),some (.ref rl),some (.ref nl),some (.bl wg),some (.int rs.length),some (.ref dl),v6,some (.str (if !wg&&v0 m then n1 else n0)),some (.ref al),none]/\H'=H11) ?_ fun D' hn _ _ _=>?_
 rotate_left
 ·refine⟨_,rfl,dl,_,0,_,rfl,rfl,ZG.of (kdl S11),id0,_,rfl,?_⟩;cases e0:v0 m with
  | false=>exact Zp (Zp (hn _ _ ⟨by rw[e0,Bool.and_false];rfl,rfl⟩))
  | true =>
   refine Z6 ⟨_,rfl,_,rfl,?_⟩;cases wg with
   | true=>exact Zp (hn _ _ ⟨by rw[e0];rfl,rfl⟩)
   | false=>exact Z6 ⟨_,rfl,nl,_,1,_,rfl,rfl,ZG.of (knl S11),ij1,Yd (hn _ _ ⟨by rw[e0];rfl,rfl⟩)⟩
 rintro U _ ⟨rfl,rfl⟩;have hv1:(!rs.isEmpty)=true->m.verd ≠ []:=fun _ z=>by rw[vd] at z;have:=AY rs.length;rw[z] at this;exact absurd this (by show ¬ 0=rs.length;lia)
 have h2:2 * rs.length<=200:=by lia
 have B:=h.o;refine⟨_,rfl,M.p,dm,_,rfl,S11 _ _ obm,Z4 _ aA,FI ⟨M,wa,xs,qs,rfl,Wm.same S11,rfl⟩ ok B h2 hv1 (hT.same (S2.trans S11)) fun H12 S12=>?_⟩;rw[et,wO];refine⟨_,rfl,_,_,.str (if !wg&&v0 m then n1 else n0),rfl,rfl,rfl,xZ _,fun H13 S13=>⟨_,rfl,Zp ?_⟩⟩;have U13:=(S11.trans S12).trans S13;refine⟨_,rfl,M.p,dm,_,rfl,U13 _ _ obm,Z4 _ aA,HZ ⟨M,wa,xs,qs,rfl,Wm.same U13,rfl⟩ B hv1 C'.ne fun ol os H14 ko ro S14=>?_⟩;rw[et,wO] at ro;have S1114:=(S12.trans S13).trans S14;refine⟨_,rfl,_,_,.lst ((BP (wg&&v0 m) n0 n1).map Va),rfl,⟨ol,os,rfl,ko,ro⟩,⟨al,ms,rfl,S1114 _ _ kal,ral.mono' S1114⟩,BR (n:=1) IF _ aA,fun H15 S15=>⟨_,rfl,Zp ?_⟩⟩;have U15:=(U13.trans S14).trans S15;have V15:=S1114.trans S15;dsimp only [Yb];obtain⟨m',B',hst⟩:=h.st (v0 m);have t0:alt rs.length ≠ []:=fun z=>by have:=AY rs.length;rw[z] at this;exact absurd this (by show ¬ 0=rs.length;lia)
 have hbk:∀os:List (Int×Str),(∀c n,(c,n)∈os↔Uu m.trials c n ≠ [])->YX os m.verd ([],mo0) 0 m.deeds (Z1 cs,m') rs.length:=fun os ho=>by
  refine hst os m.verd (fun _=>by rw[vd,As _ _ pos,ev]) fun e r hr z=>?_;obtain⟨j,u,a1,a2,a3⟩:=brk9_ne.mp ((ho _ _).mp z);rw[h.o.tr] at a1 a2;have hj:=(xE.mp a1).1;rw[Vp] at hj;rw[Af (xC hj)] at a1;cases a1;rw[C5 h.ro,As _ _ hj] at a2;have a2:=yU (Option.some_inj.mp a2);rw[ev] at e;have e:=yU e;cases j with
  | zero=>cases a3
  | succ j =>
   obtain⟨q2,_,e2⟩:=yD.mp (show (rs[j]?).map _=some ((0:Int),r.nm) from a3);have e3:=congrArg Prod.fst e2;have e3:(j:Int)=0:=e3;lia
 refine⟨_,rfl,M.p,_,m,_,(Z1 cs,m'),rs.length,rfl,⟨M,wa,xs,qs,rfl,Wm.same U15,rfl⟩,ok,by lia,h.pl,by have:=B.d2;lia,hbk,fun p' O' H16 W' _ S16=>?_⟩;refine Yd ?_;dsimp only [Yb];have U16:=U15.trans S16;have V16:=V15.trans S16;have ok':VE m':=B'.ok (ED fun r hr=>h.ro r (zW hr)) (by rw[Vp,xV];lia);have vd':m'.verd=alt (rs.take (v0 m).toNat).length:=by rw[B'.vd];exact C5 fun r hr=>h.ro r (zW hr)
 have hl':(rs.take (v0 m).toNat).length=(v0 m).toNat:=by rw[xV];have:(v0 m).toNat<=1:=Bool.toNat_le _;lia
 rw[hl'] at vd';obtain⟨M',wa',xs',qs',hM',Wm',hO'⟩:=id W';subst hM';obtain⟨dm',obm'⟩:=Wm'.ob;refine⟨_,rfl,M'.p,dm',_,rfl,obm',Z4 _ aA,M',_,wa',xs',m',qs',rfl,Wm',by rw[vd',AY];have:=Bool.toNat_le (v0 m);lia,fun l17 H17 f17 k17 S17=>?_⟩;refine⟨aB rfl,fun l18 hl18=>?_⟩;refine nw (o:=.lst [.bl true]) hl18 fun H18 S18 k18=>?_;have kd18:=kdl ((U16.trans S17).trans S18);refine⟨_,rfl,dl,_,0,_,rfl,rfl,ZG.of kd18,id0,v0 m,rfl,?_⟩;have bk:(if v0 m=true then (1:Int) else 0)=((v0 m).toNat:Int):=by cases v0 m<;>rfl
 rw[bk];have b1:=Bool.toNat_le (v0 m);refine⟨l18,_,[.bl true],rfl,rfl,k18,by lia,by lia,by show 1 * _<=_;lia,fun l19 hl19=>?_⟩;have er:(List.replicate ((v0 m).toNat:Int).toNat [V.bl true]).flatten=(alt (v0 m).toNat).map V.bl:=by cases v0 m<;>rfl
 rw[er];refine nw (o:=.lst ((alt (v0 m).toNat).map V.bl)) hl19 fun H19 S19 k19=>?_;rw[vd'] at k17;have S1719:=S18.trans S19;refine⟨_,_,.lst ((alt (v0 m).toNat).map D.bl),rfl,⟨l17,_,rfl,S1719 _ _ k17,BJ _⟩,⟨l19,_,rfl,k19,BJ _⟩,BR (n:=0) (fun _=>xD _) _ aA,fun H20 S20=>⟨_,rfl,Zp ?_⟩⟩;have S1620:=(S17.trans S1719).trans S20;have U20:=U16.trans S1620;have V20:=V16.trans S1620;dsimp only [Yb];have hv2:(v0 m&&!rs.isEmpty)=true->m'.verd ≠ []:=fun z=>by
  have z:=(wA _ _▸z).1;rw[vd',z];exact fun z=>nomatch z
 have e00:v0 m'=v0 m:=by
  unfold v0;rw[vd'];show (alt (v0 m).toNat).getD 0 false=v0 m;cases v0 m<;>rfl
 refine⟨_,rfl,M'.p,dm',_,rfl,S1620 _ _ obm',Z4 _ aA,FI (W'.same S1620) ok' B' h2 hv2 (hT.same (S2.trans U20)) fun H21 S21=>?_⟩;rw[et,e00,show (v0 m&&true&&!wg&&v0 m)=(!wg&&v0 m) by cases v0 m<;>cases wg<;>rfl];refine⟨_,rfl,_,_,.str (if !wg&&v0 m then n1 else n0),rfl,rfl,rfl,xZ _,fun H22 S22=>?_⟩;refine⟨true,rfl,Z6 ?_⟩;have U22:=(U20.trans S21).trans S22;have V22:=(V20.trans S21).trans S22;refine⟨_,rfl,M'.p,dm',_,rfl,(S21.trans S22) _ _ (S1620 _ _ obm'),Z4 _ aA,HZ (W'.same ((S1620.trans S21).trans S22)) B' hv2 C'.ne fun l23 ms23 H23 k23 r23 S23=>?_⟩;rw[et,e00,show (v0 m&&true&&wg&&v0 m)=(wg&&v0 m) by cases v0 m<;>cases wg<;>rfl] at r23;refine⟨_,rfl,_,_,.lst ((BP (wg&&v0 m) n0 n1).map Va),rfl,⟨l23,_,rfl,k23,r23⟩,⟨al,ms,rfl,(V22.trans S23) _ _ kal,ral.mono' (V22.trans S23)⟩,BR (n:=1) IF _ aA,fun H24 S24=>?_⟩;exact k H24 (((S2.trans U22).trans S23).trans S24)
end
section
variable{cs:List (Str×Int)}{n0:Str}
def coL(cs:List (Str×Int)):List D:=cs.map fun c=>coD c.1 1 c.2
def m61(cs:List (Str×Int))(n0:Str):Mo:=Mo.brg {mo0 with deeds:=coL cs } n0 2
theorem KM(hn:(cs.map (·.1)).Nodup)(hw:∀c∈cs,1<=c.2/\c.2<=1000)(hm:∀n∈cs.map (·.1),Wl n)(hl:cs.length<=10)(os:List (Int×Str))(bs:List Bool):∀i,i<=cs.length->YX os bs ([],mo0) 0 (coL (cs.take i)) (Z1 (cs.take i),{mo0 with deeds:=coL (cs.take i) }) 0
 | 0,_=>.nil
 | i+1,h=>by
  have hi:cs[i]?=some cs[i]:=xC h;have et:cs.take (i+1)=cs.take i ++ [cs[i]]:=by rw[yG,hi];rfl
  have hc:=zJ h;obtain⟨w0,w1⟩:=hw _ hc;have nin:cs[i].1∉(cs.take i).map (·.1):=fun z=>by
   have:=hn.sublist ((List.take_sublist (i+1) cs).map (·.1));rw[et,xP] at this;exact(List.nodup_append.mp this).2.2 _ z _ (by simp) rfl
  have hll:(cs.take i).length<=10:=by rw[xV];lia
  have:=(KM hn hw hm hl os bs i (yN h)).snoc (.pl (s':=(Z1 (cs.take i)++[.come cs[i].1 1 cs[i].2],{mo0 with deeds:=coL (cs.take i)++[coD cs[i].1 1 cs[i].2] })) "come" [.str cs[i].1,.int 1,.int cs[i].2] aA aA aA fun H a O re=>by
   obtain⟨_,us,e,ha,⟨_,_,rfl,q1,⟨_,_,rfl,q2,⟨_,_,rfl,q3,⟨_,_,rfl,q4,q5⟩⟩⟩⟩⟩:=re;cases e;cases q1;cases q2;cases q3;cases q4;cases q5
   exact .come cs[i].1 1 cs[i].2 ha (by show (coL _).length<400;unfold coL;rw[xB];lia) (by unfold Z1;rw[xB];lia) (hm _ (yQ.mpr ⟨_,hc,rfl⟩)) aA aA w0 w1 (by rw[Up,if_neg nin]))
  rw[et];unfold coL Z1 at this ⊢;rw[xP,xP];exact this
theorem GU(h:n0∈cs.map (·.1)):Vu (Z1 cs) m 2 [n0] none none=none:=by
 have e:Z0 (Z1 cs) n0=some 1:=by rw[Up,if_pos h]
 unfold Vu;simp only[List.findSome?_cons,List.findSome?_nil,BO,CN,EN,e];rfl
theorem Na(n:Str)(d w:Int):AV (coD n d w):=⟨_,rfl,fun x hx=>by
 simp only[xF,yE,or_false] at hx
 rcases hx with rfl | rfl | rfl | rfl<;>exact .inl rfl,yO rfl⟩
theorem cB(C:Tp cs n0 n1):Ts cs n0 n1 wg [] (m61 cs n0):=by
 have hl:(coL cs).length<=10:=by unfold coL;rw[xB];exact C.l10
 have b:WR n0 n1 wg false 0 [] (m61 cs n0):=⟨rfl,rfl,rfl,rfl,rfl,rfl,xD _,by show 1<=(coL cs ++ [_]).length;rw[xK];exact Nat.le_add_left _ _,by show (coL cs ++ [_]).length<=_;rw[xK];show _+1<=12;lia⟩;refine⟨b,fun x c h=>absurd h (Nat.not_lt_zero _),fun x=>Int.le_refl _,(fun r h=>nomatch h),(fun r h=>nomatch h),fun d hd=>?_,fun v=>⟨m61 cs n0,by cases v<;>exact b,fun os bs _ _=>?_⟩⟩
 ·rcases xR.mp hd with z | z
  ·obtain⟨c,_,rfl⟩:=yQ.mp z;exact Na _ _ _
  ·rw[xQ.mp z]
   exact⟨_,rfl,fun x hx=>by
    simp only[xF,yE,or_false] at hx
    rcases hx with rfl | rfl | rfl<;>exact .inl rfl,yO rfl⟩
 ·have a:=KM C.nd C.wt C.nm C.l10 os bs cs.length (xD _);rw[yJ] at a;refine a.snoc (.pl "bring" [.str n0,.int 2] (Z1 cs,m61 cs n0) aA aA aA fun H a O re=>?_);obtain⟨_,us,e,ha,⟨_,_,rfl,q1,⟨_,_,rfl,q2,⟨_,_,rfl,q3,q4⟩⟩⟩⟩:=re;cases e;cases q1;cases q2;cases q3;cases q4;refine .bring n0 2 ha (by show (coL cs).length<400;lia) (by show 0<40;decide) (by show 0<=1000;decide) aA aA ⟨(fun t z=>nomatch z),rfl,(fun i e z=>nomatch z),xZ _,rfl,rfl,(fun q z=>nomatch z),xZ _⟩ ?_;exact GU C.m0
theorem OT(C:Tp cs n0 n1)(h:Ts cs n0 n1 wg rs m)(hl:rs.length<60){q r:ZZ}(hk:rs.length=k+1)(hq:rs[k]?=some q)(hr:U3 r)(hn:r.nm∈cs.map (·.1))(hw:r.wt=Ye cs r.nm) :
  Cn (Z1 cs) (m.pn r.nm) k q.nm 5 r.need (Ye cs) [r.nm] []=none:=by
 obtain⟨g0,g1,g2⟩:=hr;have B:=h.o.pn r.nm;have bk:Uu (m.pn r.nm).trials k q.nm=[]:=Classical.byContradiction fun z=>by
  obtain⟨j,u,a1,_,a3⟩:=brk9_ne.mp z;rw[B.tr] at a1;have hj:=(xE.mp a1).1;rw[Vp] at hj;rw[Af (xC hj)] at a1;cases a1;cases j with
  | zero=>cases a3
  | succ j =>
   obtain⟨q2,_,e2⟩:=yD.mp (show (rs[j]?).map _=some ((k:Int),q.nm) from a3);have e3:(j:Int)=k:=congrArg Prod.fst e2;lia
 unfold Cn;rw[FH ⟨g0,by lia⟩,Kr B (by rw[Vp];exact hl) (Ed h.o r.nm) (by lia),bk,Dr (cs:=cs) B (ps:=[r.nm] ++ []) (fun x hx=>by rw[yL] at hx;rw[xQ.mp hx];exact hn) (.inl rfl) (.inr ⟨k,q.nm,_,rfl,Af hq,by simp⟩)];rfl
end
section
variable{w:dP}{C CM:dN}
theorem ZD.ntup(h:ZD C CM H M ds wa xs m qs)(e:H b=some (.tup t)):¬mo M ds wa xs qs b:=fun hb=>by
 rcases hb with z | z | z | z | z
 ·obtain⟨dx,ob⟩:=h.ob;rw[z,ob] at e;cases e
 ·obtain⟨k,p1,_⟩:=h.pn;rw[z,p1] at e;cases e
 ·obtain⟨ys,y⟩:=h.lst z;rw[e] at y;cases y
 ·obtain⟨ys,y⟩:=h.xl b z;rw[e] at y;cases y
 ·obtain⟨o,e',_,n2⟩:=h.fk.there z;rw[e] at e';cases e';exact n2 t rfl
variable{H:Hp}{p s la nl rl:dN}{ns:dF}{ds:List ZQ}{m:Mo}{O:dN->Prop}{rs:List ZZ}
theorem YR.ntup(h:YR C CM H p ds m O)(e:H b=some (.tup t)):¬O b:=by
 obtain⟨M,wa,xs,qs,_,W,rfl⟩:=h;exact W.ntup e
theorem YR.x(h:YR C CM H p ds m O)(hs:H s=some (.lst ys))(hn:¬O s)(k:ZI s H H'):YR C CM H' p ds m O:=by
 obtain⟨M,wa,xs,qs,e,W,rfl⟩:=h;exact⟨M,wa,xs,qs,e,W.x hs hn k,rfl⟩
theorem YR.out(h:YR C CM H p ds m O)(e:H b=none):¬O b:=fun z=>by
 obtain⟨o,y⟩:=h.there z;rw[e] at y;cases y
structure To (C CM T:dN) (H:Hp) (p s la nl:dN) (ns:dF) (ds:List ZQ) (m:Mo) (O:dN->Prop):Prop where
 w:YR C CM H p ds m O
 sr:ZX H s la
 n1:¬O s
 n2:¬O la
 nm:H nl=some (.lst (ns.map V.str))
 n3:¬O nl
 e3:nl≠s
 tb:ZY H T U9
 n5:¬O T
theorem To.step(h:To C CM T0 H p s la nl ns ds m O)(k:YR C CM H' p ds' m' O')(f:WH O H O' H'):To C CM T0 H' p s la nl ns ds' m' O':=by
 have no:∀{b:dN}{o:HO},H b=some o->¬O b->¬O' b:=fun e n z=>(f.2 _ z).elim n (fun y=>by rw[e] at y;cases y);obtain⟨ks,i,big,st,cnt,a,b,c,d⟩:=id h.sr;obtain⟨ps,t,t1,t2⟩:=id h.tb;exact⟨k,⟨ks,i,big,st,cnt,f.1 _ _ a h.n1,f.1 _ _ b h.n2,c,d⟩,no a h.n1,no b h.n2,f.1 _ _ h.nm h.n3,no h.nm h.n3,h.e3,⟨ps,t,f.1 _ _ t1 h.n5,t2⟩,no t1 h.n5⟩
theorem To.same(h:To C CM T0 H p s la nl ns ds m O)(k:ZC H H'):To C CM T0 H' p s la nl ns ds m O:=h.step (h.w.same k) (WH.same k)
theorem To.x(h:To C CM T0 H p s la nl ns ds m O)(hs:ZX H' s la)(k:ZI s H H'):To C CM T0 H' p s la nl ns ds m O:=by
 obtain⟨_,_,_,_,_,a,_⟩:=id h.sr;exact⟨h.w.x a h.n1 k,hs,h.n1,h.n2,k _ _ h.e3 h.nm,h.n3,h.e3,h.tb.x a k,h.n5⟩
theorem YI.gen(h:YI H rl rs)(k1:∀o,H rl=some o->H' rl=some o)(kt:V6 H H'):YI H' rl rs:=by
 obtain⟨us,a,b,c⟩:=h;exact⟨us,k1 _ a,b,fun i r e=>let ⟨x,y,z⟩:=c i r e;⟨x,y,kt _ _ z⟩⟩
structure VY (C CM T:dN) (H:Hp) (p s la nl rl:dN) (ns:dF) (ds:List ZQ) (m:Mo) (O:dN->Prop) (rs:List ZZ):Prop where
 u:To C CM T H p s la nl ns ds m O
 ra:YI H rl rs
 n4:¬O rl
 e4:rl≠s
theorem VY.step(h:VY C CM T0 H p s la nl rl ns ds m O rs)(k:YR C CM H' p ds' m' O')(f:WH O H O' H'):VY C CM T0 H' p s la nl rl ns ds' m' O' rs:=by
 obtain⟨us,a,_⟩:=id h.ra;exact⟨h.u.step k f,h.ra.gen (fun o e=>f.1 _ _ e h.n4) (fun b u e=>f.1 b _ e (h.u.w.ntup e)),fun z=>(f.2 _ z).elim h.n4 (fun y=>by rw[a] at y;cases y),h.e4⟩
theorem VY.same(h:VY C CM T0 H p s la nl rl ns ds m O rs)(k:ZC H H'):VY C CM T0 H' p s la nl rl ns ds m O rs:=⟨h.u.same k,h.ra.same k,h.n4,h.e4⟩
theorem VY.x(h:VY C CM T0 H p s la nl rl ns ds m O rs)(hs:ZX H' s la)(k:ZI s H H'):VY C CM T0 H' p s la nl rl ns ds m O rs:=by
 obtain⟨_,_,_,_,_,a,_⟩:=id h.u.sr;exact⟨h.u.x hs k,h.ra.gen (fun o e=>k _ _ h.e4 e) (fun b u e=>k b _ (fun z=>by rw[z,a] at e;cases e) e),h.n4,h.e4⟩
theorem VY.row(h:VY C CM T0 H p s la nl rl ns ds m O rs){q:dN}(e:H rl=some (.lst us))(hq:H q=some (.tup [.str r.nm,Wu (Z9 rs rs.length),.int 1]))(y1:rl≠la)(y2:rl≠nl) :
  VY C CM T0 (upd H rl (.lst (us ++ [.ref q]))) p s la nl rl ns ds m O (rs ++ [r]):=by
 have kx:ZI rl H (upd H rl (.lst (us ++ [.ref q]))):=ZI.upd;have kt:V6 H (upd H rl (.lst (us ++ [.ref q]))):=CS e;obtain⟨us',a,b,c⟩:=h.ra;rw[e] at a;cases a;have u:=h.u;have pr:∀i,i<=rs.length->Z9 (rs ++ [r]) i=Z9 rs i:=fun i hi=>by
  cases i with
  | zero=>rfl
  | succ i=>show ((rs ++ [r])[i]?).map _=(rs[i]?).map _;rw[yW hi]
 refine⟨⟨u.w.x e h.n4 kx,u.sr.keepX kx h.e4 y1,u.n1,u.n2,kx _ _ (Ne.symm y2) u.nm,u.n3,u.e3,u.tb.x e kx,u.n5⟩,⟨_,Zg,by rw[xK,xK,b];rfl,fun i q' hi=>?_⟩,h.n4,h.e4⟩
 by_cases z:i<rs.length
 ·rw[yW z] at hi;obtain⟨x,x1,x2⟩:=c i q' hi;refine⟨x,by rw[yW (by lia)];exact x1,?_⟩;rw[pr i (yN z)];exact kt _ _ x2
 ·have hj:=(xE.mp hi).1;rw[xK] at hj;have hj:i<rs.length+1:=hj;have:i=rs.length:=by lia
  subst this;rw[wD] at hi;cases hi;exact⟨q,by rw[← b];exact wD,by rw[pr _ (xD _)];exact kt _ _ hq⟩
end
abbrev J8:Stmt:=top 92
theorem sc_law:ZR ["_law_script","_law_src_here","_law_moot","_law_names_here","_law_name","_law_wergild","_law_rows","_law_count","_law_middle","_law_last","_law_case","_law_others","_law_swearer","_law_need"] ["_law_script"] (Zs J8):=fsc
theorem BI:Nm (Zs J8) "_law_last" .cell:=aA
theorem Oq:Nm (Zs J8) "_law_others" .local:=aA
theorem Sv(hts:∃c,(⟨c,Tt,U9⟩:Tb)∈ts)(F_law:Jh K "law" "law" J8 f fd)(T:Txt mg)(Tm:ZJ K CM)(Z2b:Fn P w K mg base "_law_src" ["_law_script"] 1 (JJ K))(Ww:Fn P w K mg base "_law_next" ["_law_src_here","_law_base"] 1 WU)(Z2c:Fn P w K mg base "_law_names" ["_law_src_here","_law_many"] 3 UR)(M_Moot:B2 P w K mg base CM "Moot" 3 (VJ C CM))(MM_come:Mt P w K mg base CM "come" ["self","name","day","weight"] 4 (VI C CM))(MM_bring:Mt P w K mg base CM "bring" ["self","name","day"] 4 (WT C CM))(MM_penance:Mt P w K mg base CM "penance" ["self","name"] 2 (Jb C CM))(MM_weight:Mt P w K mg base CM "weight" ["self","name","day"] 3 (UK C CM))(MM_accuse:Mt P w K mg base CM "accuse" ["self","case","name","day","need","ones","others"] 7 (JQ C CM))(MM_wergild:Mt P w K mg base CM "wergild" ["self","claimer","answerer","many","day","need","ones","others"] 6 (TQ C CM))(MM_claim:Mt P w K mg base CM "claim" ["self","claimer","thing","day","need","ones","others"] 6 (VQ C CM))(Zpq:Fn P w K mg base "_law_right" ["_law_moot","_law_rows","_law_names_here","_law_wergild"] 10 (UZ C CM Tt)):YG P w K mg base YY 11 f fd ["_law_script"] (Cf K ts):=by
 refine F_law.okQ sc_law (fun vs H Q E h=>?_) (fun cdv A outer s H vs Q E hr h=>?_)
 ·obtain⟨a,ns,rfl,_⟩:=h;rfl
 ·obtain⟨a,ks,rfl,hS,hlen,hTs,k⟩:=h;obtain⟨cT,hcT⟩:=hts
  refine⟨_,(Zd (Zx 1 (Zk Z2b (Za Q0 Zb))) (Zd (Zx 2 (E3 M_Moot)) (Zd (Zx 3 (Zk Z2c (Za Q5 (Za (Zy Vd Zf (Zk Ww (Za Q5 (Za Zf Zb)))) Zb)))) (Zd (Wi PassesOwn.never rfl (Y7 Q7) (Yv 4) (Ze (Zo (Zz Q6 Tm.cl MM_come (Za Q8 (Za Zf (Za (Zy Vd Zf (Zk Ww (Za Q5 (Za Zf Zb)))) Zb))))))) (Zd (Zo (Zz Q6 Tm.cl MM_bring (Za (Zh Z3 Q7 Zf) (Za Zf Zb)))) (Zd (Zx 5 (Ul Y4 (Zk Ww (Za Q5 (Za Zf Zb))) Zf (Zu _))) (Zd (Zx 6 (Ym Zb)) (Zd (Zx 7 (Zy Vd Zf (Zk Ww (Za Q5 (Za Zf Zb))))) (Zd (Zx 8 (Zk Ww (Za Q5 (Za Qb Zb)))) (Zd (CC (i:=9) sc_law.nd BI Y3) (Zd (Wi PassesOwn.never rfl (BC T.range (Za Qb Zb)) (Yv 10) (Zd (FA (locs:=["_law_name"]) (fr:=[("_law_last", 9)]) ⟨rfl,aA,aA,aA,aA,aA⟩ (.consN BI .nil) rfl (Y7 Q7) ⟨fun _ _ _ _ _ _=>by
  have cnd:(inN ["_law_name"] [("_law_last", 9)]).Nodup:=aA
  exact⟨(Yw 0 cnd),(JK (Zt Bc (Yj 0) (Vn 1) (Zu _))),(Yj 0)⟩⟩ sc_law.nd Oq (by rfl) (i:=11))
 (Zd (Zx 12 (Zh Z3 (qvN 11) (Zk Ww (Za Q5 (Za (Z5 Y8 T.len Yz (Za (qvN 11) Zb)) Zb)))))
 (Zd (Zo (Zz Q6 Tm.cl MM_penance (Za (qvN 12) Zb)))
 (Zd (Zx 13 (Zy Vd Zf (Zk Ww (Za Q5 (Za (Zz Q6 Tm.cl MM_weight (Za (qvN 12) (Za Zf Zb))) Zb)))))
 (Zd (Zn (Zt Da (qvN 10) Zf (Zu _)) (Ze (Zo (Zz Q6 Tm.cl MM_accuse (Za (Zy Vm (qvN 10) Zf) (Za (qvC 9 BI) (Za Zf (Za (qvN 13) (Za (Ym (Za (qvN 12) Zb)) (Za (Ym Zb) Zb))))))))) (Ze (Zn (Yu Q9) (Ze (Zo (Zz Q6 Tm.cl MM_wergild (Za (Zh Z3 Q7 Zf) (Za (Zh Z3 Q7 Zf) (Za Zf (Za Zf (Za (qvN 13) (Za (Ym (Za (qvN 12) Zb)) (Za (Ym Zb) Zb)))))))))) (Ze (Zo (Zz Q6 Tm.cl MM_claim (Za (Zh Z3 Q7 Zf) (Za Zf (Za Zf (Za (qvN 13) (Za (Ym (Za (qvN 12) Zb)) (Za (Ym Zb) Zb))))))))))))
 (Zd (Zo (Wd aD aE aF Wk Qa (Za (Yi (Za (qvN 12) (Za (qvC 9 BI) (Za Zf Zb)))) Zb)))
 (Zd (CC (i:=9) sc_law.nd BI (qvN 12))
 (Ze (Zn (QW.pt (Uk (Zt Y4 (qvN 10) (qvN 8) (Zu _)) (Uw (Wq (Yu (Zk Zpq (Za Q6 (Za Qa (Za Q7 (Za Q9 Zb)))))))))) (Ze (Zm Wj)) Zq))))))))))
 (Ze (Zm (Zk Zpq (Za Q6 (Za Qa (Za Q7 (Za Q9 Zb)))))))))))))))))),?_⟩
  have hz:=aC
  have hT0:ZY H Tt U9:=hTs _ hcT;refine⟨_,rfl,a,ks,rfl,hS,fun s la H1 hs hla hs1 sm1=>?_⟩;intro p dx nx ndx nex;refine⟨p,dx,rfl,Zg,fun M H2 hM W2 kp fr=>⟨rfl,?_⟩⟩;have sm2:ZC H1 H2:=fun b o e=>kp b o (by rw[Zc (Zi e nx),Zc (Zi e ndx)];exact e) (Zi e nx);have no2:∀b o,H1 b=some o->¬mo M [] (fun _=>0) [] [] b:=fun b o e z=>by
   rcases fr b z with y | y
   ·rw[y,nx] at e;cases e
   ·have nb:b≠p:=fun z=>by rw[z,nx] at e;cases e
    rw[Zc nb,Zc (Zi e ndx),e] at y;cases y
  obtain⟨_,_,_,_,_,hq1,hq2,_⟩:=id hs1;obtain⟨ps,tk,t1,_⟩:=id (hT0.same sm1);have G2:YR C CM H2 p [] mo0 (mo M [] (fun _=>0) [] []):=⟨M,_,[],[],hM,W2,rfl⟩;have hT2:=(hT0.same sm1).same sm2;have hs2:=hs1.keep sm2;have nt:=no2 _ _ t1;have n1:=no2 _ _ hq1;have n2:=no2 _ _ hq2;have hq1':=sm2 _ _ hq1;generalize mo M [] (fun _=>0) [] []=O2 at G2 nt n1 n2 no2;clear W2 kp fr no2 sm1 hS hT0 hTs hs1 hq1 hq2 t1 sm2;refine Yd ?_;dsimp only [Yb];refine⟨_,rfl,_,rfl,s,la,7,rfl,hs2,aA,aA,fun d3 H3 d30 d31 hs3 sx3=>?_⟩;have G3:=G2.x hq1' n1 sx3;have hT3:=hT2.x hq1' sx3;refine⟨_,_,rfl,rfl,s,la,4+d3,rfl,hs3,by lia,by lia,fun nl ns H4 hnl hnd hnm fnl knl hs4 sx4=>?_⟩;have U4:To C CM Tt H4 p s la nl ns [] mo0 O2:=by
   obtain⟨_,_,_,_,_,hq3,_⟩:=id hs3;exact⟨G3.x hq3 n1 sx4,hs4,n1,n2,knl,(fun z=>by obtain⟨o,e⟩:=G3.there z;rw[fnl] at e;cases e),(hs3.ne fnl).1,hT3.x hq3 sx4,nt⟩
  clear G2 G3 hT2 hT3 hs2 hs3 sx3 sx4 hs4 knl;refine Yd ?_;dsimp only [Yb];refine⟨_,rfl,nl,rfl,⟨_,ZG.of U4.nm⟩,?_⟩;refine Ue (ns.map V.str) (fun i U H'=>∃(v4:Option V)(cs:List (Str×Int))(O:dN->Prop),U=[some (.ref a),some (.ref s),some (.ref p),some (.ref nl),v4,none,none,none,none,none,none,none,none,none]/\cs.map (·.1)=ns.take i/\(∀c∈cs,1<=c.2/\c.2<=1000)/\To C CM Tt H' p s la nl ns (Z1 cs) {mo0 with deeds:=coL cs } O) ⟨none,[],_,rfl,rfl,(fun c h=>nomatch h),U4⟩ (fun i U H' _ ⟨_,_,_,_,_,_,ZB⟩=>ZG.of ZB.nm) ?_ ?_
  ·rintro i v U H5 hv ⟨v4,cs,O,rfl,hcs,hw,ZB⟩;rw[xJ] at hv;obtain⟨n,hn,rfl⟩:=yD.mp hv;have hi:=(xE.mp hn).1;have et:ns.take (i+1)=ns.take i ++ [n]:=by rw[yG,hn];rfl
   have nin:n∉cs.map (·.1):=fun z=>by
    have:=hnd.sublist (List.take_sublist (i+1) ns);rw[et] at this;rw[hcs] at z;exact(List.nodup_append.mp this).2.2 _ z _ (by simp) rfl
   have hl:cs.length<=10:=by have:=congrArg List.length hcs;rw[xB,xV] at this;lia
   obtain⟨M5,wa5,xs5,qs5,hM5,W5,hO5⟩:=id ZB.w;obtain⟨dm5,obm5⟩:=W5.ob;rw[hM5] at obm5;refine⟨_,rfl,p,dm5,_,rfl,obm5,Z4 _ aA,_,rfl,_,rfl,s,la,1000,rfl,ZB.sr,aA,aA,fun wt H6 wt0 wt1 hs6 sx6=>?_⟩;have U6:=ZB.x hs6 sx6;obtain⟨M6,wa6,xs6,qs6,hM6,W6,hO6⟩:=id U6.w;refine⟨_,_,rfl,rfl,M6,Z1 cs,wa6,xs6,_,qs6,n,1,1+wt,by rw[hM6];rfl,W6,by show (coL cs).length<400;unfold coL;rw[xB];lia,by unfold Z1;rw[xB];lia,hnm n (xO hn),aA,aA,by lia,by lia,by rw[Up,if_neg nin],fun wa7 H7 W7 T7 F7=>?_⟩;refine⟨_,cs ++ [(n,1+wt)],mo M6 (Z1 cs ++ [.come n 1 (1+wt)]) wa7 xs6 qs6,rfl,by rw[et,xP,hcs];rfl,fun x hx=>(xR.mp hx).elim (hw x) fun z=>by rw[xQ.mp z];exact⟨by show 1<=1+wt;lia,by show 1+wt<=1000;lia⟩,?_⟩;have e1:Z1 (cs ++ [(n,1+wt)])=Z1 cs ++ [.come n 1 (1+wt)]:=by unfold Z1;rw[xP];rfl
   have e2:coL (cs ++ [(n,1+wt)])=coL cs ++ [coD n 1 (1+wt)]:=by unfold coL;rw[xP];rfl
   rw[e1,e2];exact U6.step ⟨M6,wa7,xs6,qs6,hM6,W7,rfl⟩ (by rw[hO6];exact⟨T7,F7⟩)
  rintro U H5 ⟨v4,cs,O5,rfl,hcs,hw,U5⟩;rw[xB,yJ] at hcs;have hl4:4<=ns.length:=by lia
  have hl10:ns.length<=10:=by lia
  obtain⟨n0,h0⟩:∃n,ns[0]?=some n:=⟨_,xC (by lia)⟩;obtain⟨n1',h1⟩:∃n,ns[1]?=some n:=⟨_,xC (by lia)⟩;have C0:Tp cs n0 n1':=by
   refine⟨by rw[hcs];exact hnd,hw,?_,by rw[hcs];exact hnm,by rw[hcs];exact xO h0,by rw[hcs];exact xO h1,fun e=>?_⟩
   ·have:=congrArg List.length hcs;rw[xB] at this;lia
   ·rw[e] at h0;have:=(List.getElem?_inj (show 0<ns.length by lia) hnd).mp (h0.trans h1.symm);lia
  have i0:atI (ns.map V.str) 0=some (.str n0):=Yl (j:=0) (by rw[xJ,h0];rfl);have i1:atI (ns.map V.str) 1=some (.str n1'):=Yl (j:=1) (by rw[xJ,h1];rfl);obtain⟨M5,wa5,xs5,qs5,hM5,W5,hO5⟩:=id U5.w;obtain⟨dm5,obm5⟩:=W5.ob;rw[hM5] at obm5;have cl:(coL cs).length<=10:=by unfold coL;rw[xB];exact C0.l10
  refine⟨_,rfl,p,dm5,_,rfl,obm5,Z4 _ aA,_,rfl,nl,_,0,_,rfl,rfl,ZG.of U5.nm,i0,M5,Z1 cs,wa5,xs5,_,qs5,n0,2,by rw[hM5];rfl,W5,by show (coL cs).length<400;lia,by show 0<40;decide,by show 0<=1000;decide,aA,aA,⟨(fun t z=>nomatch z),rfl,(fun i e z=>nomatch z),xZ _,rfl,rfl,(fun q z=>nomatch z),xZ _⟩,GU C0.m0,fun q H6 W6 T6 F6=>?_⟩;have U6:To C CM Tt H6 p s la nl ns (Z1 cs) (m61 cs n0) (mo M5 (Z1 cs) wa5 xs5 (qs5 ++ [q])):=U5.step ⟨M5,wa5,xs5,_,hM5,W6,rfl⟩ (by rw[hO5];exact⟨T6,F6⟩);generalize mo M5 (Z1 cs) wa5 xs5 (qs5 ++ [q])=O6 at U6;clear U5 W5 W6 T6 F6 U4;refine⟨_,rfl,s,la,2,rfl,U6.sr,aA,aA,fun d7 H7 d70 d71 hs7 sx7=>?_⟩;have U7:=U6.x hs7 sx7;refine⟨rfl,?_⟩;generalize hwg:decide (V.int d7=V.int 0)=wg;have I7:=cB (wg:=wg) C0;refine Yd ?_;dsimp only [Yb];refine⟨aB rfl,fun rl hrl=>?_⟩;have nrl:=U7.w.out hrl;have U8:=U7.same (ZC.new (o:=.lst []) hrl);have k8:(upd H7 rl (.lst [])) rl=some (.lst []):=Zg;have rls:=(hs7.ne hrl);have rnl:rl≠nl:=fun z=>by rw[z,U7.nm] at hrl;cases hrl
  generalize (upd H7 rl (.lst []))=H8 at U8 k8 ⊢;have V8:VY C CM Tt H8 p s la nl rl ns (Z1 cs) (m61 cs n0) O6 []:=⟨U8,⟨[],k8,rfl,fun i r e=>nomatch e⟩,nrl,rls.1⟩;clear U7 U6 hs7 sx7 U8;refine Yd ?_;dsimp only [Yb];refine⟨_,rfl,s,la,59,rfl,V8.u.sr,aA,aA,fun d9 H9 d90 d91 hs9 sx9=>?_⟩;have V9:=V8.x hs9 sx9;refine⟨_,_,rfl,rfl,?_⟩;refine Yd ?_;dsimp only [Yb];refine⟨_,rfl,_,rfl,s,la,2+d9,rfl,V9.u.sr,by lia,by lia,fun d10 H10 d100 d101 hs10 sx10=>?_⟩;have V10:=V9.x hs10 sx10;refine Yd ?_;dsimp only [Yb];refine Yd ?_;dsimp only [Yb];refine⟨_,rfl,2+d9,rfl,by lia,by lia,?_⟩;refine Dv (2+d9).toNat (by lia) (fun i U H'=>∃(v10 v11 v12 v13:Option V)(rs:List ZZ)(m:Mo)(O:dN->Prop),U=[some (.ref a),some (.ref s),some (.ref p),some (.ref nl),v4,some (.bl wg),some (.ref rl),some (.int (2+d9)),some (.int d10),some (Wu (Z9 rs rs.length)),v10,v11,v12,v13]/\rs.length=i/\VY C CM Tt H' p s la nl rl ns (Z1 cs) m O rs/\Ts cs n0 n1' wg rs m) ⟨none,none,none,none,[],_,_,rfl,rfl,V10,I7⟩ ?_ ?_
  ·rintro i U H11 hi ⟨v10,v11,v12,v13,rs,m,O,rfl,hrl,Z,I⟩;have hi60:rs.length<60:=by lia
   refine⟨_,rfl,nl,rfl,⟨_,ZG.of Z.u.nm⟩,?_⟩;refine Ur (xs:=ns.map V.str) (fun j ys H'=>ZC H11 H'/\ys=((ns.take j).filter fun n=>!decide (V.str n=Wu (Z9 rs rs.length))).map V.str) ⟨ZC.refl _,rfl⟩ (by rw[xB];lia) (fun j ys H' _ ⟨e,_⟩=>ZG.of (e _ _ Z.u.nm)) (fun j ys H' ⟨_,e⟩=>by rw[e,xB];exact xW (zI ..) (by rw[xV];lia)) ?_ ?_
   ·rintro j v ys H' hv ⟨sm,rfl⟩ ls hls;obtain⟨w0,rfl⟩:=Us hls;rw[xJ] at hv;obtain⟨n,hn,rfl⟩:=yD.mp hv;rw[yG,hn,wQ];refine⟨⟨[_],rfl,rfl⟩,?_⟩;refine⟨_,rfl,_,rfl,by cases Z9 rs rs.length<;>rfl,_,rfl,Wc (fun z=>?_) (fun z=>?_)⟩
    ·refine⟨_,rfl,sm,?_⟩;rw[xP];congr 1;show _=List.map V.str (List.filter _ [n]);rw[List.filter_cons,xT z];rfl
    ·grind
   rintro ys H12 ⟨sm12,rfl⟩ ol hol;rw[xB,yJ];obtain⟨os,hos⟩:∃os,ns.filter (fun n=>!decide (V.str n=Wu (Z9 rs rs.length)))=os:=⟨_,rfl⟩;have ho:∀n∈os,n∈ns/\V.str n≠Wu (Z9 rs rs.length):=fun n hn=>by grind
   have hop:0<os.length:=by
    refine List.length_pos_iff.mpr fun z=>?_;rw[z,List.filter_eq_nil_iff] at hos;have e0:=hos n0 (xO h0);have e1:=hos n1' (xO h1);simp only[Bool.not_eq_true',decide_eq_false_iff_not,Decidable.not_not] at e0 e1;exact C0.ne (V.str.inj (e0.trans e1.symm))
   have hol10:os.length<=10:=by rw[← hos];exact xW (zI ..) hl10
   rw[hos];have Z13:=Z.same (sm12.trans (ZC.new (o:=.lst (os.map V.str)) hol));have k13:(upd H12 ol (.lst (os.map V.str))) ol=some (.lst (os.map V.str)):=Zg;have ols:ol≠s:=by
    have:=(Z.same sm12).u.sr.ne hol;exact this.1
   generalize (upd H12 ol (.lst (os.map V.str)))=H13 at Z13 k13 ⊢;clear Z sm12;refine Yd ?_;dsimp only [Yb];refine⟨_,rfl,_,rfl,_,rfl,ol,_,rfl,.inl (ZG.of k13),s,la,_,rfl,Z13.u.sr,by rw[xB];lia,by rw[xB];lia,fun j H14 j0 j1 hs14 sx14=>?_⟩;rw[xB] at j1;have Z14:=Z13.x hs14 sx14;have k14:=sx14 _ _ ols k13;obtain⟨j,rfl⟩:=zY j0;have hj:j<os.length:=by lia
   refine⟨ol,_,_,.str os[j],rfl,rfl,ZG.of k14,Yl (by rw[xJ,xC hj];rfl),?_⟩;obtain⟨hnm2,hnl⟩:=ho _ (zJ hj);generalize os[j]=sw at hnm2 hnl;have hsw:sw∈cs.map (·.1):=by rw[hcs];exact hnm2
   refine Yd ?_;dsimp only [Yb];obtain⟨M14,wa14,xs14,qs14,hM14,W14,hO14⟩:=id Z14.u.w;obtain⟨dm14,obm14⟩:=W14.ob;rw[hM14] at obm14;have d2:=I.o.d2;have np:=I.o.np;have tl:m.trials.length=rs.length:=by rw[I.o.tr,Vp]
   refine⟨_,rfl,p,dm14,_,rfl,obm14,Z4 _ aA,_,rfl,M14,Z1 cs,wa14,xs14,m,qs14,sw,1,by rw[hM14];rfl,W14,by lia,by lia,by lia,by rw[Up,if_pos hsw],Bk cs sw,fun H15 W15 T15=>?_⟩;have Z15:VY C CM Tt H15 p s la nl rl ns (Z1 cs) (m.pn sw) O rs:=Z14.step ⟨M14,wa14,xs14,qs14,hM14,W15,hO14⟩ (by rw[hO14];exact⟨T15,fun b hb=>.inl hb⟩);have obm15:=W15.ob;clear W14 T15 obm14 dm14 Z13 k13;obtain⟨dm15,obm15⟩:=obm15;rw[hM14] at obm15;obtain⟨w0,w1⟩:=DI C0.wt hsw;refine⟨_,rfl,_,rfl,p,dm15,_,rfl,obm15,Z4 _ aA,_,rfl,M14,Z1 cs,wa14,xs14,_,qs14,sw,5,1,Ye cs sw,by rw[hM14];rfl,W15,by unfold Z1;rw[xB];have:=C0.l10;lia,aA,aA,by rw[Up,if_pos hsw],aA,Kf C0.nd hsw,fun H16 S16=>?_⟩;have Z16:=Z15.same S16;refine⟨s,la,Ye cs sw,rfl,Z16.u.sr,by lia,by lia,fun nd H17 nd0 nd1 hs17 sx17=>?_⟩;have Z17:=Z16.x hs17 sx17;refine⟨_,_,rfl,rfl,?_⟩;refine Yd ?_;dsimp only [Yb];generalize hr:(⟨sw,Ye cs sw,1+nd⟩:ZZ)=r;have rok:U3 r:=by rw[← hr];exact⟨by show 1<=1+nd;lia,by show 1+nd<=Ye cs sw;lia,w1⟩
   have rn:r.nm∈cs.map (·.1):=by rw[← hr];exact hsw
   have rw_:r.wt=Ye cs r.nm:=by rw[← hr]
   have e1:sw=r.nm:=by rw[← hr]
   have e2:1+nd=r.need:=by rw[← hr]
   clear hr;subst e1;rw[e2];have Bp:=I.o.pn r.nm;have okp:VE (m.pn r.nm):=Bp.ok (ED I.ro) (by rw[Vp];lia);have dp:(m.pn r.nm).deeds.length<400:=by have:=Bp.d2;lia
   obtain⟨M17,wa17,xs17,qs17,hM17,W17,hO17⟩:=id Z17.u.w;obtain⟨dm17,obm17⟩:=W17.ob;rw[hM17] at obm17;refine Dj (fun U H'=>∃O':dN->Prop,U=[some (.ref a),some (.ref s),some (.ref p),some (.ref nl),v4,some (.bl wg),some (.ref rl),some (.int (2+d9)),some (.int d10),some (Wu (Z9 rs rs.length)),some (.int (0+(i:Int))),some (.ref ol),some (.str r.nm),some (.int r.need)]/\VY C CM Tt H' p s la nl rl ns (Z1 cs) (Jp n0 n1' wg (Ye cs) (Z9 rs rs.length) (m.pn r.nm) r) O' rs) ?_ fun D' hn _ _ _=>?_
   rotate_left
   ·refine⟨_,rfl,_,_,rfl,rfl,_,rfl,Z7 (fun z=>?_) (fun z=>?_)⟩
    ·obtain⟨kk,hkk⟩:∃kk,rs.length=kk+1:=⟨rs.length - 1,by lia⟩;obtain⟨q,hq⟩:∃q,rs[kk]?=some q:=⟨_,xC (by lia)⟩;have hp:Z9 rs rs.length=some ((kk:Int),q.nm):=by rw[hkk];show (rs[kk]?).map _=_;rw[hq];rfl
     have mq:=xO hq;rw[hp];refine⟨_,rfl,p,dm17,_,rfl,obm17,Z4 _ aA,_,rfl,_,_,rfl,rfl,_,rfl,_,rfl,_,rfl,aB rfl,fun l1 hl1=>?_⟩;refine nw (o:=.lst [.str r.nm]) hl1 fun H18 S1 k1=>?_;refine⟨aB rfl,fun l2 hl2=>?_⟩;refine nw (o:=.lst []) hl2 fun H19 S2 k2=>?_;have Z19:=Z17.same (S1.trans S2);refine⟨p,_,_,O,(kk:Int),q.nm,5,r.need,l1,l2,[r.nm],[],Ye cs,by rw[show (0:Int)+(i:Int) - 1=(kk:Int) by lia];rfl,Z19.u.w,B1 C0.nd C0.wt C0.l10 okp dp (S2 _ _ k1) k2 rn,Z17.u.w.out hl1,Z17.u.w.out (S1.free hl2),OT C0 I hi60 hkk hq rok rn rw_,?_⟩;exact fun O' H' W' F'=>hn _ _ ⟨O',by rw[hp];rfl,by rw[hp];exact Z19.step W' F'⟩
    ·have hr0:rs=[]:=List.length_eq_zero_iff.mp (by lia);subst hr0;obtain⟨c1,c2,c3,c4⟩:=Fy C0 (show WR n0 n1' wg false 1 [] (m.pn r.nm) from Bp) aA rok rn rw_ (Ed I.o r.nm);refine⟨_,rfl,wg,rfl,?_⟩;cases wg with
     | true =>
      refine Z6 ⟨_,rfl,p,dm17,_,rfl,obm17,Z4 _ aA,_,rfl,nl,_,1,_,rfl,rfl,ZG.of Z17.u.nm,i1,_,rfl,nl,_,0,_,rfl,rfl,ZG.of Z17.u.nm,i0,_,rfl,_,rfl,aB rfl,fun l1 hl1=>?_⟩;refine nw (o:=.lst [.str r.nm]) hl1 fun H18 S1 k1=>?_;refine⟨aB rfl,fun l2 hl2=>?_⟩;refine nw (o:=.lst []) hl2 fun H19 S2 k2=>?_;have Z19:=Z17.same (S1.trans S2);refine⟨p,_,_,O,n1',n0,7,5,r.need,l1,l2,[r.nm],[],Ye cs,rfl,Z19.u.w,B1 C0.nd C0.wt C0.l10 okp dp (S2 _ _ k1) k2 rn,Z17.u.w.out hl1,Z17.u.w.out (S1.free hl2),aA,aA,c3 rfl,?_⟩;exact fun O' H' W' F'=>hn _ _ ⟨O',rfl,Z19.step W' F'⟩
     | false =>
      refine Zp ⟨_,rfl,p,dm17,_,rfl,obm17,Z4 _ aA,_,rfl,nl,_,1,_,rfl,rfl,ZG.of Z17.u.nm,i1,_,rfl,_,rfl,aB rfl,fun l1 hl1=>?_⟩;refine nw (o:=.lst [.str r.nm]) hl1 fun H18 S1 k1=>?_;refine⟨aB rfl,fun l2 hl2=>?_⟩;refine nw (o:=.lst []) hl2 fun H19 S2 k2=>?_;have Z19:=Z17.same (S1.trans S2);refine⟨p,_,_,O,n1',0,5,r.need,l1,l2,[r.nm],[],Ye cs,rfl,Z19.u.w,B1 C0.nd C0.wt C0.l10 okp dp (S2 _ _ k1) k2 rn,Z17.u.w.out hl1,Z17.u.w.out (S1.free hl2),c4 rfl,?_⟩;exact fun O' H' W' F'=>hn _ _ ⟨O',rfl,Z19.step W' F'⟩
   ·rintro U H20 ⟨O',rfl,Z20⟩;have I':=I.step C0 hi60 rok rn rw_;generalize Jp n0 n1' wg (Ye cs) (Z9 rs rs.length) (m.pn r.nm) r=m' at Z20 I';have hlen':(rs ++ [r]).length=rs.length+1:=by rw[xK];rfl
    obtain⟨us,hu,hul,_⟩:=id Z20.ra;refine⟨_,rfl,.inl ⟨rfl,_,ZG.of hu⟩,_,rfl,_,rfl,aB rfl,fun q hq=>?_⟩;refine nw (o:=.tup [.str r.nm,Wu (Z9 rs rs.length),.int 1]) hq fun H21 Sq kq=>?_;refine⟨rl,us,.ref q,rfl,rfl,Sq _ _ hu,by lia,?_⟩;have Z22:=(Z20.same Sq).row (Sq _ _ hu) kq rls.2 rnl;generalize (upd H21 rl (.lst (us ++ [.ref q])))=H22 at Z22 ⊢;refine⟨_,rfl,?_⟩;refine Yd ?_;dsimp only [Yb];have el:V.str r.nm=Wu (Z9 (rs ++ [r]) (rs ++ [r]).length):=by
     rw[hlen'];show _=Wu (((rs ++ [r])[rs.length]?).map _);rw[wD];rfl
    rw[el];have fin:∀H',ZC H22 H'->∃(v10 v11 v12 v13:Option V)(rs_1:List ZZ)(m:Mo)(O:dN->Prop),[some (V.ref a),some (V.ref s),some (V.ref p),some (V.ref nl),v4,some (V.bl wg),some (V.ref rl),some (V.int (2+d9)),some (V.int d10),some (Wu (Z9 (rs ++ [r]) (rs ++ [r]).length)),some (V.int (0+(i:Int))),some (V.ref ol),some (Wu (Z9 (rs ++ [r]) (rs ++ [r]).length)),some (V.int r.need)]=
       [some (V.ref a),some (V.ref s),some (V.ref p),some (V.ref nl),v4,some (V.bl wg),some (V.ref rl),some (V.int (2+d9)),some (V.int d10),some (Wu (Z9 rs_1 rs_1.length)),v10,v11,v12,v13]/\rs_1.length=i+1/\VY C CM Tt H' p s la nl rl ns (Z1 cs) m O rs_1/\Ts cs n0 n1' wg rs_1 m:=fun H' S=>⟨_,_,_,_,rs ++ [r],m',O',rfl,by lia,Z22.same S,I'⟩
    refine⟨_,rfl,_,rfl,rfl,_,rfl,Z7 (fun z=>?_) (fun z=>Zp (fin _ (ZC.refl _)))⟩;refine⟨_,rfl,_,rfl,_,rfl,_,rfl,p,rl,nl,cs,n0,n1',wg,rs ++ [r],m',O',rfl,Z22.u.w,Z22.ra,by rw[hcs];exact Z22.u.nm,C0,by rw[hcs];exact h0,by rw[hcs];exact h1,I',by simp,by lia,Z22.u.tb,fun H23 S23=>⟨_,rfl,Zp (fin _ S23)⟩⟩
  ·rintro U H11 ⟨v10,v11,v12,v13,rs,m,O,rfl,hrl,Z,I⟩;have hne:rs ≠ []:=fun z=>by rw[z] at hrl;have hrl:0=(2+d9).toNat:=hrl;lia
   exact⟨_,rfl,_,rfl,_,rfl,_,rfl,p,rl,nl,cs,n0,n1',wg,rs,m,O,rfl,Z.u.w,Z.ra,by rw[hcs];exact Z.u.nm,C0,by rw[hcs];exact h0,by rw[hcs];exact h1,I,hne,by lia,Z.u.tb,fun H23 _=>k H23⟩
def tabs:List Tb:=[⟨591,587, "by_day" ++ ".<locals>." ++ "<lambda>"⟩]
theorem tabs_ok(p:Params):∀t∈tabs,(CD p).lookup t.P=some {cls:=.none,data:=.fields #[] }/\PySem.W.codeHdIn (KK p) t.c t.P=true/\(KK p).lookup t.P=none:=by
 intro t ht;simp only[tabs,xF,yE,or_false] at ht;rcases ht with rfl<;>exact⟨by kernel_rfl,by kernel_rfl,by kernel_rfl⟩
local macro_rules | `(tactic| walk_at "k")=>`(tactic| ((repeat' (refine And.intro ?_ ?_))<;>kernel_rfl))
theorem all_mk{Pz:dO}{w:dP}{h:Heap}{mg:dE}{fa:dN}(X:(KK w.params).In h)(G:h.Ns mainGlobals mg)(hfa:mg "law"=some (.ref fa)) :
  ∃fd:FuncData,(∀(s:dJ)(v:dM),BindsTo s fd ⟨[v],[]⟩ [("_law_script", v)])/\∀base:Heap,(KK w.params).In base->base.Ns mainGlobals mg->YG Pz w (KK w.params) mg base YY 40 fa fd ["_law_script"] (Cf (KK w.params) tabs):=by
 have e:some (Value.ref fa)=some (.ref 1074):=hfa.symm.trans (PySem.W.mg_of X G (by kernel_rfl));cases e;have Ziz:=hQ "done" Lz 352 351 pm0 X G;have Zic:=hQ "copied" GK 357 356 pm0 X G;have Zim:=hQ "owed" Gp 362 361 pm1 X G;have Zik:=hQ "set_against" HS 369 368 pm1 X G;have Zil:=hQ "triple" II 376 375 pm1 X G;have Zgy:=hQ "check_day" FR 383 382 pm2 X G;have Zgz:=hQ "check_weight" Hy 390 389 pm2 X G;have Zhk:=hQ "check_need" Gu 397 396 pm2 X G;have Zhn:=hQ "check_money" Ii 404 403 pm2 X G;have Zgx:=hQ "is_name" FX 409 408 pm3 X G;have Zhc:=hQ "total" GH 414 413 pm3 X G;have Zir:=hQ "road" ER 578 577 pm5 X G;have Zis:=hQ "holder" Fz 585 584 pm5 X G;have Zin:TF (KK w.params) mg "by_day" Ce 591:=cJ (f:=592) (oc:=.type "function") (od:=none) (an:=none) (osl:=#[]) (kV:=.none) (doc:=.none) (pm:=(.str "forsworn.goods" 896)) (ct:=.none) X G (by kernel_rfl) (by kernel_rfl) (by kernel_rfl) (by kernel_rfl);have B_by_day:JT (KK w.params) mg 591 587:=⟨by kernel_rfl,⟨4,⟨.type "module", some 0,.plain,#[]⟩,PySem.W.mg_of X G (by kernel_rfl),aA,aA,aA,by kernel_rfl,rfl,rfl,rfl⟩,aA⟩;have Zio:=hQ "leave_on" HA 599 598 pm5 X G;have Zip:=hQ "pass_on" HP 606 605 pm5 X G;have Zhg:=hQ "settled" Ke 613 612 pm6 X G;have Zhf:=hQ "settled_with" Kv 620 619 pm6 X G;have Zig:=hQ "broken" Gi 627 626 pm6 X G;have Zhr:=hQ "breakers" Hl 634 633 pm6 X G;have Zie:=hQ "chain" IU 641 640 pm6 X G;have Zhi:=hQ "breaking" GO 646 645 pm6 X G;have Zhh:=hQ "naming" Kc 653 652 pm6 X G;have Zhm:=hQ "check_case" GB 660 659 pm6 X G;have Zhp:=hQ "check_oath" GI 665 664 pm6 X G;have Zhe:=hQ "margin_without" Fo 672 671 pm6 X G;have Zhd:=hQ "kept_weight" Dk 677 676 pm6 X G;have Zi0:=hQ "struck" IB 998 997 pm8 X G;have Ziy:=hQ "with_kept_names" KJ 1005 1004 pm8 X G;have Zix:=hQ "kept_names" Cw 1010 1009 pm8 X G;have Zgr:=hQ "_law_src" IE 1017 1016 pm9 X G;have Zgs:=hQ "_law_next" HL 1024 1023 pm9 X G;have Zgq:=hQ "_law_whole" L0 1031 1030 pm9 X G;have Ut:=hQ "_law_same" BG 1038 1037 pm9 X G;have Zgu:=hQ "_law_unlike" Kz 1045 1044 pm9 X G;have Zgt:=hQ "_law_word" B0 1050 1049 pm9 X G;have Zgv:=hQ "_law_names" FW 1057 1056 pm9 X G;have Zi2:=hQ "_law_forsworn" Ln 1064 1063 pm9 X G;have Zi3:=hQ "_law_right" JL 1069 1068 pm9 X G;have F_law:=Ek (K:=KK w.params) (x:="law") (qual:="law") (st:=J8) (f:=1074) (oc:=.type "function") (od:=none) (an:=none) (osl:=#[]) (kV:=.none) (doc:=.none) (pm:=(.str "law_forsworn_k61_whole_sixty_cases_in_a_line" 1514)) (cdv:=(.ref 1073)) (ct:=.none) (by kernel_rfl) (by kernel_rfl) (by kernel_rfl);have Zg3:=hMQ (K:=KK w.params) 569 "__init__" "Folk.__init__" Ir 428 427 pm4;have Zg7:=hMQ (K:=KK w.params) 569 "come" "Folk.come" Ky 435 434 pm4;have Zha:=hMQ (K:=KK w.params) 569 "weight" "Folk.weight" Ef 468 467 pm4;have Zij:=hMQ (K:=KK w.params) 569 "stand_in" "Folk.stand_in" Iq 496 495 pm4;have Zg2:=hMQ (K:=KK w.params) 569 "died_by" "Folk.died_by" KU 503 502 pm4;have Zih:=hMQ (K:=KK w.params) 569 "death_day" "Folk.death_day" GJ 510 509 pm4;have Zii:=hMQ (K:=KK w.params) 569 "heir_of" "Folk.heir_of" FQ 517 516 pm4;have Zg4:=hMQ (K:=KK w.params) 569 "check_coming" "Folk.check_coming" FN 524 523 pm4;have Zg0:=hMQ (K:=KK w.params) 569 "check_known" "Folk.check_known" Le 545 544 pm4;have Zg1:=hMQ (K:=KK w.params) 569 "check_there" "Folk.check_there" Ip 552 551 pm4;have Zg8:=hMQ (K:=KK w.params) 569 "check_living" "Folk.check_living" Ka 559 558 pm4;have Zh7:=hMQ (K:=KK w.params) 569 "check_untold" "Folk.check_untold" HC 566 565 pm4;have TcFolk:Rc (KK w.params) 569:=by
  refine⟨⟨?_,?_,?_,?_⟩,?_,?_,?_,?_⟩<;>(show _=_;kernel_rfl)
 have mkFolk:PySem.W.makesIn (KK w.params) 569=true:=by kernel_rfl
 have kcFolk:PySem.W.keepIn (KK w.params) (.ref 569)=true:=by kernel_rfl
 have gCFolk:mg "Folk"=some (.ref 569):=PySem.W.mg_of X G (by kernel_rfl);have Zh4:=hMQ (K:=KK w.params) 987 "__init__" "Moot.__init__" Ij 691 690 pm7;have Zhy:=hMQ (K:=KK w.params) 987 "come" "Moot.come" K1 698 697 pm7;have Zh8:=hMQ (K:=KK w.params) 987 "penance" "Moot.penance" Gw 719 718 pm7;have Zh3:=hMQ (K:=KK w.params) 987 "bring" "Moot.bring" K8 726 725 pm7;have Zh0:=hMQ (K:=KK w.params) 987 "claim" "Moot.claim" FU 747 746 pm7;have Zh1:=hMQ (K:=KK w.params) 987 "wergild" "Moot.wergild" K4 754 753 pm7;have Zh2:=hMQ (K:=KK w.params) 987 "accuse" "Moot.accuse" GP 761 760 pm7;have Zid:=hMQ (K:=KK w.params) 987 "roll" "Moot.roll" Ia 773 772 pm7;have Zia:=hMQ (K:=KK w.params) 987 "weight" "Moot.weight" FG 787 786 pm7;have Zh5:=hMQ (K:=KK w.params) 987 "cases" "Moot.cases" Kb 815 814 pm7;have Zh6:=hMQ (K:=KK w.params) 987 "suits" "Moot.suits" Gs 820 819 pm7;have Zh9:=hMQ (K:=KK w.params) 987 "standing" "Moot.standing" KL 827 826 pm7;have Zif:=hMQ (K:=KK w.params) 987 "chain" "Moot.chain" Gv 855 854 pm7;have Zib:=hMQ (K:=KK w.params) 987 "forsworn" "Moot.forsworn" Ie 883 882 pm7;have Ziv:=hMQ (K:=KK w.params) 987 "holder" "Moot.holder" IQ 890 889 pm7;have Ziw:=hMQ (K:=KK w.params) 987 "owed" "Moot.owed" HJ 911 910 pm7;have Ziu:=hMQ (K:=KK w.params) 987 "counting" "Moot.counting" Fj 937 936 pm7;have Zhw:=hMQ (K:=KK w.params) 987 "forsworn_names" "Moot.forsworn_names" KR 944 943 pm7;have Zhv:=hMQ (K:=KK w.params) 987 "weighed" "Moot.weighed" Cy 949 948 pm7;have Zhz:=hMQ (K:=KK w.params) 987 "try_case" "Moot.try_case" Hx 956 955 pm7;have Zhu:=hMQ (K:=KK w.params) 987 "check_named" "Moot.check_named" Hn 963 962 pm7;have Zhl:=hMQ (K:=KK w.params) 987 "check_thing" "Moot.check_thing" GC 970 969 pm7;have Zhx:=hMQ (K:=KK w.params) 987 "check_sides" "Moot.check_sides" FT 977 976 pm7;have Zho:=hMQ (K:=KK w.params) 987 "check_moments" "Moot.check_moments" Gz 984 983 pm7;have TcMoot:ZJ (KK w.params) 987:=by
  refine⟨⟨?_,?_,?_,?_⟩,?_,?_,?_,?_,?_,?_,?_,?_,?_⟩<;>(show _=_;kernel_rfl)
 have mkMoot:PySem.W.makesIn (KK w.params) 987=true:=by kernel_rfl
 have kcMoot:PySem.W.keepIn (KK w.params) (.ref 987)=true:=by kernel_rfl
 have gCMoot:mg "Moot"=some (.ref 987):=PySem.W.mg_of X G (by kernel_rfl);have al_owed_dues:mg "owed_dues"=mg "owed" := (PySem.W.mg_of X G (by kernel_rfl):mg "owed_dues"=some (.ref 362)).trans (PySem.W.mg_of X G (by kernel_rfl):mg "owed"=some (.ref 362)).symm;have al_holder_goods:mg "holder_goods"=mg "holder" := (PySem.W.mg_of X G (by kernel_rfl):mg "holder_goods"=some (.ref 585)).trans (PySem.W.mg_of X G (by kernel_rfl):mg "holder"=some (.ref 585)).symm;have al_breakers_stands:mg "breakers_stands"=mg "breakers" := (PySem.W.mg_of X G (by kernel_rfl):mg "breakers_stands"=some (.ref 634)).trans (PySem.W.mg_of X G (by kernel_rfl):mg "breakers"=some (.ref 634)).symm;have al_chain_stands:mg "chain_stands"=mg "chain" := (PySem.W.mg_of X G (by kernel_rfl):mg "chain_stands"=some (.ref 641)).trans (PySem.W.mg_of X G (by kernel_rfl):mg "chain"=some (.ref 641)).symm;have c_LAST_DAY:mg "LAST_DAY"=some (.int 9999 635):=PySem.W.mg_of X G (by kernel_rfl);have c_MOST_WEIGHT:mg "MOST_WEIGHT"=some (.int 1000 637):=PySem.W.mg_of X G (by kernel_rfl);have c_MOST_NEED:mg "MOST_NEED"=some (.int 12000 639):=PySem.W.mg_of X G (by kernel_rfl);have c_MOST_MONEY:mg "MOST_MONEY"=some (.int 1000000 641):=PySem.W.mg_of X G (by kernel_rfl);have c_LONGEST_NAME:mg "LONGEST_NAME"=some (.int 12 673):=PySem.W.mg_of X G (by kernel_rfl);have c_MOST_FOLK:mg "MOST_FOLK"=some (.int 40 689):=PySem.W.mg_of X G (by kernel_rfl);have c_DAY:mg "DAY"=some (.int 0 898):=PySem.W.mg_of X G (by kernel_rfl);have c_WORD:mg "WORD"=some (.int 1 900):=PySem.W.mg_of X G (by kernel_rfl);have c_GIVER:mg "GIVER"=some (.int 2 902):=PySem.W.mg_of X G (by kernel_rfl);have c_TAKER:mg "TAKER"=some (.int 3 904):=PySem.W.mg_of X G (by kernel_rfl);have c_ONES:mg "ONES"=some (.int 0 953):=PySem.W.mg_of X G (by kernel_rfl);have c_OTHERS:mg "OTHERS"=some (.int 1 955):=PySem.W.mg_of X G (by kernel_rfl);have c_NEED:mg "NEED"=some (.int 2 957):=PySem.W.mg_of X G (by kernel_rfl);have c_NAMED:mg "NAMED"=some (.int 3 959):=PySem.W.mg_of X G (by kernel_rfl);have c_MOST_THINGS:mg "MOST_THINGS"=some (.int 40 1057):=PySem.W.mg_of X G (by kernel_rfl);have c_MOST_CASES:mg "MOST_CASES"=some (.int 60 1059):=PySem.W.mg_of X G (by kernel_rfl);have c_MOST_SWEARERS:mg "MOST_SWEARERS"=some (.int 12 1061):=PySem.W.mg_of X G (by kernel_rfl);have c_MOST_MOMENTS:mg "MOST_MOMENTS"=some (.int 400 1063):=PySem.W.mg_of X G (by kernel_rfl);have T:Txt mg:=by constructor<;>exact PySem.W.mg_none_of X G (by kernel_rfl)
 exact⟨PySem.W.fnOf "law" "law" (Wo J8) (Yy J8) (Zs J8) .none .none .none (.str "law_forsworn_k61_whole_sixty_cases_in_a_line" 1514) none (.ref 1073) .none,fun s v=>.of_eq rfl,fun base kb _=>by
  have F1:=OY (P:=Pz) (w:=w) (base:=base) Zgr T;have F2:=Pu (P:=Pz) (w:=w) (base:=base) Zgs T;have F3:=Qw Zgt T F2;have F4:=RF (P:=Pz) (w:=w) (base:=base) Zgu T;have F5:=SN Zgv T F2 F3 F4;have F8:=IM Ut T (Ox (P:=Pz) (w:=w) (base:=base) Zgq T) 5;have F9:=MI (P:=Pz) (w:=w) (base:=base) Zgx T ⟨_,c_LONGEST_NAME⟩;have F10:=Qf (P:=Pz) (w:=w) (base:=base) Zgy ⟨_,c_LAST_DAY⟩;have F11:=SI (P:=Pz) (w:=w) (base:=base) Zgz ⟨_,c_MOST_WEIGHT⟩;have F12:=PU (P:=Pz) (w:=w) (base:=base) Zhn ⟨_,c_MOST_MONEY⟩;have F13:=RD (P:=Pz) (w:=w) (base:=base) Zhk ⟨_,c_MOST_NEED⟩;have M1:=RZ (P:=Pz) (w:=w) (mg:=mg) (base:=base) Zg0 TcFolk;have M2:=XJ (P:=Pz) (w:=w) (mg:=mg) (base:=base) Zg1 TcFolk;have M3:=MF (P:=Pz) (w:=w) (mg:=mg) (base:=base) Zg2 TcFolk;have M3b:=bM Zij TcFolk M3;have M4:=OM (P:=Pz) (w:=w) (mg:=mg) (base:=base) Zih TcFolk;have M5:=bY (P:=Pz) (w:=w) (mg:=mg) (base:=base) Zii TcFolk;have MU:=Og (P:=Pz) (w:=w) (mg:=mg) (base:=base) Zh7 TcFolk;have X3:=SW Zg8 TcFolk M3;have M6:=Ml Zg4 T TcFolk ⟨_,c_MOST_FOLK⟩ F9 F10 F11;have M7:=bT Zg7 TcFolk M6;have M8:=SC Zha T TcFolk F10 M1 M2;have M0:=(Oy (P:=Pz) (w:=w) (mg:=mg) (base:=base) Zg3 TcFolk).mks mkFolk kcFolk gCFolk;have G1:=Mm (P:=Pz) (w:=w) (base:=base) Zhd T;have G2:=Oo Zhe T ⟨_,c_ONES⟩ ⟨_,c_OTHERS⟩ ⟨_,c_NEED⟩ G1;have G3:=Rx Zhf T ⟨_,c_NAMED⟩ G2;have G4:=cC Zhg T G3;have G5:=So (P:=Pz) (w:=w) (base:=base) Zhh T ⟨_,c_NAMED⟩;have G6:=MQ Zhi T G4 G5;have G7:=LX (P:=Pz) (w:=w) (base:=base) Zhm T;have G8:=Oe Zhp T ⟨_,c_ONES⟩ ⟨_,c_OTHERS⟩ G7;have G9:=Mq Zhr T G8 G6;have G10:=Ov (P:=Pz) (w:=w) (base:=base) Zhc T;have G11:=cA Zig T G6;have G12:=cL Zie T ⟨_,c_NAMED⟩ G7;have D1:=P6 (P:=Pz) (w:=w) (base:=base) Zik;have D2:=Ou (P:=Pz) (w:=w) (base:=base) Zil;have D3:=X1 Zim T TcFolk M3b D1 D2;have D4:=MW (P:=Pz) (w:=w) Zin B_by_day kb T ⟨_,c_DAY⟩;have D5:=Xy Zio T TcFolk ⟨_,c_DAY⟩ ⟨_,c_TAKER⟩ M3 M4 M5;have D6:=Oi (P:=Pz) (w:=w) (base:=base) Zip T ⟨_,c_DAY⟩ ⟨_,c_WORD⟩ ⟨_,c_GIVER⟩ ⟨_,c_TAKER⟩;have D7:=Mr Zir T ⟨_,c_DAY⟩ D4 D5 D6;have D8:=XQ Zis ⟨_,c_TAKER⟩ D7;have N1:=fun C=>SX (P:=Pz) (w:=w) (base:=base) (C:=C) Zho T TcMoot ⟨_,c_MOST_MOMENTS⟩;have N2:=fun C=>Sy (P:=Pz) (w:=w) (mg:=mg) (base:=base) (C:=C) Zhl T TcMoot;have N3:=Nq Zhu TcFolk TcMoot M1 M2 X3 (N2 _) G8;have N0:=(RX Zh4 TcMoot M0).mks mkMoot kcMoot gCMoot;have N4:=Qk Zhy TcFolk TcMoot M6 M7 (N1 _);have N5:=QF Zhv TcFolk TcMoot M8;have N6:=fun C=>Rb (P:=Pz) (w:=w) (mg:=mg) (base:=base) (C:=C) Zhw T TcMoot ⟨_,c_NAMED⟩;have N7:=PD Zhx T TcMoot ⟨_,c_MOST_CASES⟩ ⟨_,c_MOST_SWEARERS⟩ (N1 _) (N6 _) N5 G10;have N8:=Rm Zhz T TcMoot N5 G4;have N9:=Sz Zh3 T TcMoot ⟨_,c_MOST_THINGS⟩ F10 N3 (N1 _);have P1:=MS Zh0 T TcMoot F10 F13 N3 N7 N8;have P2:=Xz Zh1 T TcMoot F12 F10 F13 N3 N7 N8;have P3:=Pk Zh2 T TcMoot F10 F13 N3 N7 (Fn.alias G9 al_breakers_stands) N8;have P4:=Qc Zh8 T TcFolk TcMoot M1 MU (N1 _);have P5:=cG Ziz TcMoot N4 N9 P1 P4 P2;have R1:=fun C=>NB (P:=Pz) (w:=w) (mg:=mg) (base:=base) (C:=C) Zh5 T TcMoot;have R2:=fun C=>X6 (P:=Pz) (w:=w) (base:=base) (C:=C) Zh6 T TcMoot;have R3:=fun C=>QL (P:=Pz) (w:=w) (mg:=mg) (base:=base) (C:=C) Zh9 T TcMoot;have R4:=PY Zia TcFolk TcMoot M8;have R5:=cH Zib TcFolk TcMoot M1 (N6 _);have R6:=fun C=>Xd (C:=C) Zid TcMoot (QV (P:=Pz) (w:=w) (base:=base) Zic T);have R7:=fun C=>Xb (C:=C) Zif TcMoot (Fn.alias G12 al_chain_stands);have R8:=fun C=>QN (P:=Pz) (w:=w) (mg:=mg) (base:=base) (C:=C) Ziu TcMoot;have R9:=NM Ziv TcMoot F10 (N2 _) (R8 _) (Fn.alias D8 al_holder_goods);have R10:=Ob Ziw TcMoot F10 (R8 _) (Fn.alias D3 al_owed_dues);have Q1:=Re Ziy (Oz (P:=Pz) (w:=w) (base:=base) Zix T);have Q2:=Rq Zi0 T TcMoot (R3 _) (R2 _) G11 N0 (R6 _) P5 Q1;have Q3:=XY (P:=Pz) (w:=w) (base:=base) Zi2 T;have Q4:=SQ Zi3 T TcMoot F8 (R3 _) (R1 _) (R7 _) R5 Q3 R9 R10 Q2
  exact(Sv (ts:=tabs) ⟨_,xU⟩ F_law T TcMoot F1 F2 F5 N0 N4 N9 P4 R4 P3 P2 P1 Q4).mono aA⟩
end Law
open PySem PySem.W PyProof.Rows
set_option maxRecDepth 100000 in
set_option maxHeartbeats 0 in
theorem PySem.Challenge.cw_forsworn_k61_whole_sixty_cases_in_a_line_holds : PySem.Challenge.rw_forsworn_k61_whole_sixty_cases_in_a_line.Holds := by
 w_on;o_law
 refine holds_open (q:=Law.q) (loose:=["owed_dues","holder_goods","breakers_stands","chain_stands"]) (Xt:=fun s=>xlAt Law.q [] s&&recOk (RowW.records PySem.Challenge.rw_forsworn_k61_whole_sixty_cases_in_a_line.row.toRowW) s) (XP:=XL Law.q []) (Yf:=Law.HK.obs) (Ya:=Law.HK.val) (YP:=Law.HK.says) (N:=12341) Law.left Law.HK.of Law.HK.keeps (fun s e=>xl_of s (Bool.and_eq_true_iff.mp e).1) XL.keeps (by rfl) (by rfl) (by rfl) (fun s e=>recFacts_of (Bool.and_eq_true_iff.mp e).2) (by rfl) (by first | assumption | decide +kernel) (by decide +kernel) ⟨rfl,rfl,rfl,rfl,rfl,by decide +kernel⟩ ?hw ?hc
 case hw=>w_witness2
 refine L2.walkLawT (l:=PySem.Challenge.rw_forsworn_k61_whole_sixty_cases_in_a_line) (K:=Law.KK) (KT:=Law.CD) (ts:=Law.tabs) rfl rfl (fun w h Y=>PySem.W.kIn_of (K:=Law.CD) Y) (fun p h x=>L2.Frag.In.left x) (fun p t ht=>Law.tabs_ok p t ht) aA fun w mg fa h KX G hmg=>Law.all_mk KX G hmg
namespace Law
end Law
