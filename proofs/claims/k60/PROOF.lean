import PyProof.Rows.All
import Wide.All
import OpenK.AllK
import Wide.FinOn
import Lean
import PyProof.EqAt
import PyProof.EqKinds
import PyProof.TupleCall
import KE.KSortTup
import PyProof.NeKinds
import KE.KDictSum
import KE.KLam
import KE.KNestM
import KE.KSortKey
import PyProof.Rows.TupAdd
import KE.KRevIter
import PyProof.Rows.TupDisplay
import KE.KDictOf
import KE.KRevIter
import KE.KDictList
import PySem.Challenge.RW_forsworn_k60_long_lines_of_heirs
section
set_option Elab.async false
set_option linter.all false
set_option maxRecDepth 100000
set_option maxHeartbeats 4000000
namespace L2
open PySem PySem.W
def topRunT (tb:String->Option Builtin) (p:Program) (w:World) (m:Nat) (ann:Option Value):Nat->SharedT->Thread->Option SharedT
 | 0,_,_=>none
 | n+1,s,t=>match through t with
  | true=>some s
  | false=>match stepOk m ann t with
   | false=>none
   | true=>match stepT (denote tb) p w s t with
    | some x=>topRunT tb p w m ann n x.1 x.2
    | none=>none
theorem Zfd {tb:String->Option Builtin}{p:Program}{w:World}{m:Nat}{ann:Option Value}:∀ {n:Nat}{s r:SharedT}{t:Thread},topRunT tb p w m ann n s t=some r->topRun tb p w m ann n s.abs t=some r.abs
 | 0,s,r,t,h=>by cases h
 | n+1,s,r,t,h=>by
  unfold topRunT at h
  unfold topRun
  cases a:through t with
  | true=>rw [a] at h; cases h; rfl
  | false =>
   rw [a] at h
   cases b:stepOk m ann t with
   | false=>rw [b] at h; cases h
   | true =>
    rw [b] at h
    cases c:stepT (denote tb) p w s t with
    | none=>rw [c] at h; cases h
    | some x=>obtain ⟨s2,t2⟩:=x; rw [c] at h; dsimp only at h ⊢; rw [stepT_spec c]; exact Zfd h
def Zek:List Obj->Nat->BT->BT
 | [],_,t=>t
 | o::r,i,t=>Zek r (i+1) (t.ins i o)
noncomputable def s0T (P:Params) (os:OsState):SharedT:=⟨Zek (boot_heap P).objs.toList 0 .nil,11,(boot_heap P).life,#[],boot_drawn,boot_toks,os⟩
noncomputable def seenT {α:Type}(p q:Program) (loose:List Str) (Xt:Shared->Bool) (Yf:Shared->α) (P:Params) (s:Shared) :=
 (staticsOk (importedModules p.main.body) (boot_heap P) s.heap && namesBound p s.heap && gensDone s && laidKept (boot_heap P) s.heap,openSeen q loose (importedModules p.main.body) Xt true s,Yf s)
theorem Zmp (P:Params) (os:OsState):(s0T P os).abs=⟨boot_heap P,#[],boot_drawn,boot_toks,os⟩:=by kernel_rfl
theorem Zk5 (P:Params):((boot_heap P).isNs mainGlobals && (#[]:Array GenState).size == 0,(boot_heap P).objs.size,(boot_heap P).nsMap mainGlobals "__annotations__")=(true,11,some (.ref 6)):=by kernel_rfl
theorem Z7i {p q:Program}{loose:List Str}{Xt:Shared->Bool}{α:Type}{Yf:Shared->α}{Ya:World->α}{N:Nat}(e:opening p=plainProg p.main.scope.names) (hN:Nat.ble 600 N=true) (f:∀ s,fenceModules? p s=some s)
  (run:∀ (w:World) (os:OsState),(topRunT treeTable p w 11 (some (.ref 6)) N (s0T w.params os) (topStub p)).map (fun s=>seenT p q loose Xt Yf w.params s.abs)=some (true,openGood q loose,Ya w)):LeftO p q loose Xt Yf Ya N:=fun w=>by
 obtain ⟨⟨h,gs,d,k,os⟩,e1,e2⟩:=Option.map_eq_some_iff.mp (boot_open e hN f w)
 obtain ⟨rfl,rfl,rfl,rfl⟩:h=boot_heap w.params/\gs = #[]/\d=boot_drawn/\k=boot_toks:=by simpa using e2
 obtain ⟨s,r1,r2⟩:=Option.map_eq_some_iff.mp (run w os)
 unfold seenT at r2
 obtain ⟨l1,l2,l3⟩:_/\_/\_:=by simpa only [Prod.mk.injEq] using r2
 have r:=Zfd r1
 rw [Zmp] at r
 obtain ⟨z1,z2,z3⟩:_/\_/\_:=by simpa only [Prod.mk.injEq] using Zk5 w.params
 have t:topFrom treeTable p w N ⟨boot_heap w.params,#[],boot_drawn,boot_toks,os⟩=some s.abs:=by
  unfold topFrom
  dsimp only
  rw [z1,z2,z3,r]
  show (match staticsOk (importedModules p.main.body) (boot_heap w.params) s.abs.heap && namesBound p s.abs.heap && gensDone s.abs && laidKept (boot_heap w.params) s.abs.heap with | true=>some s.abs | false=>none)=_
  rw [l1]
 unfold openEnds
 rw [e1]
 show (topFrom treeTable p w N _).map _=_
 rw [t]
 exact congrArg some (Prod.ext l2 l3)
def Zo (p:Program) (i:Nat):Stmt:=p.main.body.getD i (.Pass ⟨0,0,0,0⟩)
def hIn (s:Stmt) (j:Nat):Stmt:=match s with
 | .ClassDef _ _ _ b _ _ _ _ _ _ _=>b.getD j (.Pass ⟨0,0,0,0⟩)
 | _=>s
def Zoe (s:Stmt):Arguments:=match s with
 | .FunctionDef _ a _ _ _ _ _ _ _ _=>a
 | _=>⟨[],[],none,[],[],none,[]⟩
def Zof (s:Stmt):List Stmt:=match s with
 | .FunctionDef _ _ b _ _ _ _ _ _ _=>b
 | _=>[]
def Znq (s:Stmt):Scope:=match s with
 | .FunctionDef _ _ _ _ _ _ c _ _ _=>c
 | _=>{kind:=.function,names:=[],isGenerator:=false,isCoroutine:=false }
def de (P:Params) (n:Str) (t:Tok) (v:Value):DictEntry:=⟨PyData.keyHash P n,.str n t,v⟩
def kFn (n q:Str) (st:Stmt) (pm:Value) (c:Addr):Obj:=⟨.type "function", none,.func (PySem.W.fnOf n q (Zoe st) (Zof st) (Znq st) .none .none .none pm none (.ref c) .none),#[]⟩
end L2
namespace PySem.W.Fast
noncomputable def tw14598715356260435866:PySem.Params->PySem.Obj:=PySem.W.boot_o_0
theorem te14598715356260435866:PySem.W.boot_o_0=tw14598715356260435866:=rfl
end PySem.W.Fast
lay_quick L2.topRunT L2.s0T L2.seenT
end
section
set_option Elab.async false
set_option linter.all false
set_option maxRecDepth 100000
set_option maxHeartbeats 4000000
namespace L2
open PySem PySem.W PyProof.Rows
abbrev p0:Pos:=⟨0,0,0,0⟩
def Zcs (p:Program):Env:={scope:=p.main.scope,locals:=mainNs,globals:=mainNs,cells:=[],code:=.ref 13,frame:=some 14 }
def cP (p:Program):Code:=.body (behindTheImports p) (Zcs p)
def Zdy (tb:String->Option Builtin) (p:Program) (w:World) (m:Nat) (ann:Option Value):Nat->SharedT->Thread->Option (SharedT×Thread)
 | 0,s,t=>some (s,t)
 | n+1,s,t=>match through t with
  | true=>none
  | false=>match stepOk m ann t with
   | false=>none
   | true=>match stepT (denote tb) p w s t with
    | some x=>Zdy tb p w m ann n x.1 x.2
    | none=>none
theorem Zk6 {tb:String->Option Builtin}{p:Program}{w:World}{m:Nat}{ann:Option Value}:∀ {n:Nat}{s r:SharedT}{t u:Thread},Zdy tb p w m ann n s t=some (r,u)->topGo tb p w m ann n s.abs t=some (r.abs,u)
 | 0,s,r,t,u,h=>by cases h; rfl
 | n+1,s,r,t,u,h=>by
  unfold Zdy at h
  unfold topGo
  cases a:through t with
  | true=>rw [a] at h; cases h
  | false =>
   rw [a] at h
   cases b:stepOk m ann t with
   | false=>rw [b] at h; cases h
   | true =>
    rw [b] at h
    cases c:stepT (denote tb) p w s t with
    | none=>rw [c] at h; cases h
    | some x=>obtain ⟨s2,t2⟩:=x; rw [c] at h; dsimp only at h ⊢; rw [stepT_spec c]; exact Zk6 h
def preP (p:Program) (w:World) (s:SharedT):Option (SharedT×Thread):=Zdy treeTable p w 11 (some (.ref 6)) 12 s (topStub p)
def stubT (p:Program):Thread:=⟨denote treeTable (cP p),cP p,p0,[topFrame p0]⟩
def blkP (p:Program) (w:World) (s:SharedT):Option (Flow×SharedT×Code×Pos):=segRunT treeTable p w 11 (some (.ref 6)) 1 1 s (blockOf (behindTheImports p) (Zcs p) (cP p) p0 [topFrame p0])
def segP (p:Program) (w:World) (n k j:Nat) (pos:Pos) (s:SharedT):Option (Flow×SharedT×Code×Pos):=segRunT treeTable p w 11 (some (.ref 6)) 1 n s (piecesOf (((behindTheImports p).drop k).take j) (Zcs p) (cP p) pos [topFrame p0])
def topQ (p:Program) (w:World) (n k:Nat) (pos:Pos) (s:SharedT):Option SharedT:=topRunT treeTable p w 11 (some (.ref 6)) n s (restOf ((behindTheImports p).drop k) (Zcs p) (cP p) pos [topFrame p0])
def vI (n:Nat):Value:=.int n 0
def tuO (l:List Value):Obj:=⟨.type "tuple", none,.seq l.toArray 0,#[]⟩
def fdO (c:Value) (l:List Value):Obj:=⟨c,none,.fields l.toArray,#[]⟩
def diO (l:List DictEntry) (n:Nat):Obj:=⟨.type "dict", none,.dict l.toArray n,#[]⟩
def cut (t:Nat):Value:=.str "/claim/cut.py" t
def mdl:Value:=.str "forsworn.errors" 194
def cdO (n q:Str) (b l:Nat) (ar fl:Nat) (fn:Bool) (a:Nat) (r:List Value):Obj:=fdO (.type "code") ([.str n b,.str q (b+1),cut (b+2),vI l,vI ar,vI 0,vI 0,vI fl,.ref a,.bool fn,vI 181,.ref (a+1)]++r ++ [vI (if fn then b+4 else b+3),vI l,cut (if fn then b+5 else b+4)])
def fn0 (n q:Str) (st:Stmt):Obj:=⟨.none,none,.func {name:=n,qualname:=q,params:=Zoe st,body:=.stmts (Zof st),scope:=Znq st,globals:=0,closure:=[],defaults:=.none,kwdefaults:=.none },#[]⟩
def Zqq (P:Params) (a b l:Nat) (st:Stmt) (bs:Value) (dc:Nat) (more:List DictEntry) (cl:Obj) (n q:Str) (hd:List Obj) (tl:List Obj):List Obj :=
 let one:=[de P "__module__" (b+7) mdl]
 let two:=[de P "__firstlineno__" (b+11) (.int l (b+10)),de P "called" (b+18) (.ref (a+13)),de P "__static_attributes__" (b+19) (.ref (a+14))]
 hd ++ [tuO [bs],fdO (.type "builtin_function_or_method") [.builtin "type.__prepare__", .type "type"],diO (one ++ [de P "__qualname__" (b+9) (.str n (b+8))]++two) 5,tuO [],fdO .none [vI (l+2),vI 4,.ref (a+12)],
  cdO n n (b+2) l 0 0 false (a+3) [.none,.none,.none,.none],⟨.type "frame", none,.plain,#[some (.ref (a+5)),some (.ref 3),some (.ref (a+2)),none,some mdl,none,some (.ref 0)]⟩,
  tuO [],fdO .none [],tuO [.str "self" (b+15)],tuO [],fn0 "called" q st,cdO "called" q (b+12) (l+2) 1 3 true (a+7) [.none,.ref (a+9),.ref (a+10),.ref (a+11)],
  kFn "called" q st mdl (a+12),tuO [],diO (one++two++more) dc,cl]++tl ++ [fdO (.type "super") [.ref (a+16),.ref (a+16),.ref (a+16)],fdO (.type "builtin_function_or_method") [.builtin "object.__init_subclass__", .ref (a+16)]]
def tyO (a b:Nat) (n:Str) (bs:List Value) (mro:List Value) (sub:List Value):Obj:=⟨.type "type", none,.cls {name:=n,bases:=bs,mro:=.ref (a+16)::mro,ns:=a+15,qualname:=n,hasDict:=true,slotNames:=[],subclasses:=sub,abstract:=false,collection:=none,hasDel:=false },
 #[some (.ref a),none,some (.str n b),some (.str n (b+8)),some (.builtin "ValueError.__new__"),some (.bool true)]⟩
def Zqr:List Value:=[.type "ValueError", .type "Exception", .type "BaseException", .type "object"]
def Z6v (P:Params) (p:Program) (j:Nat) (x:Str×Str):List Obj:=let a:=42+19 * j; let b:=221+23 * j; let l:=9+4 * j
 Zqq P a b l (hIn (Zo p (3+j)) 0) (.ref 38) 2 [de P "__doc__" (b+20) .none] (tyO a b x.1 [.ref 38] (.ref 38::Zqr) []) x.1 x.2 [] []
def num {α:Type}:Nat->List α->List (Nat × α)
 | _,[]=>[]
 | i,x::r=>(i,x)::num (i+1) r
noncomputable def Z6w (p:Program) (P:Params) (ns:List (Str×Str)):List Obj:=let w:=Zo p 0
  [boot_o_0 P,boot_o_1 P,boot_o_2 P,
   diO ([de P "__name__" 165 mdl,de P "__doc__" 166 .none,de P "__package__" 167 .none,de P "__loader__" 168 (.builtin "__main__.__loader__#opaque"),de P "__spec__" 169 .none,de P "__annotations__" 170 (.ref 6),de P "__builtins__" 171 (.ref 4),de P "__file__" 173 (cut 172),de P "__cached__" 174 .none,de P "_wall" 193 (.ref 21),de P "MootError" 220 (.ref 38)]++(num 0 ns).map fun x=>de P x.2.1 (243+23 * x.1) (.ref (58+19 * x.1))) (11+ns.length),
   boot_o_4 P,boot_o_5 P,boot_o_6 P,boot_o_7 P,boot_o_8 P,boot_o_9 P,boot_o_10 P,tuO [],fdO .none ([vI 1,vI 0,.ref 20,vI 5,vI 0,.ref 27]++((num 0 ns).map fun x=>[vI (9+4 * x.1),vI 0,.ref (47+19 * x.1)]).flatten),
   cdO "<module>" "<module>" 182 1 0 0 false 11 [.none,.none,.none,.none],⟨.type "frame", none,.plain,#[some (.ref 13),some (.ref 3),some (.ref 3),none,some (.str "__main__" 164),none,some (.ref 0)]⟩,
   tuO [],fdO .none [],tuO [.str "k" 190],tuO [],fn0 "_wall" "_wall" w,cdO "_wall" "_wall" 187 1 1 3 true 15 [.none,.ref 17,.ref 18,.ref 19],kFn "_wall" "_wall" w (.str "__main__" 164) 20] ++
  Zqq P 22 196 5 (hIn (Zo p 2) 0) (.type "ValueError") 3 [de P "__weakref__" 217 (.ref 39),de P "__doc__" 218 .none] (tyO 22 196 "MootError" [.type "ValueError"] Zqr ((num 0 ns).map fun x=>.ref (58+19 * x.1))) "MootError" "MootError.called" [] [fdO (.type "getset_descriptor") [.str "__weakref__" 216,.ref 38,.builtin "ExceptionGroup.__weakref__", .none]] ++
  ((num 0 ns).map fun x=>Z6v P p x.1 x.2).flatten
noncomputable def errS (p:Program) (ns:List (Str×Str)) (P:Params) (os:OsState):SharedT:=⟨Zek (Z6w p P ns) 0 .nil,42+19 * ns.length,(boot_heap P).life,#[],boot_drawn,221+23 * ns.length,os⟩
noncomputable def stubS (P:Params) (os:OsState):SharedT:=⟨Zek ((boot_heap P).objs.toList ++ [tuO [],fdO .none [],cdO "<module>" "<module>" 182 1 0 0 false 11 [.none,.none,.none,.none],⟨.type "frame", none,.plain,#[some (.ref 13),some (.ref 3),some (.ref 3),none,some (.str "__main__" 164),none,some (.ref 0)]⟩]) 0 .nil,15,(boot_heap P).life,#[],boot_drawn,187,os⟩
def Reach (p:Program) (w:World) (os:OsState) (M:Nat) (s:SharedT) (k:Nat) (pos:Pos):Prop:=∀ (N:Nat) (r:Shared),
 topRun treeTable p w 11 (some (.ref 6)) N s.abs (restOf ((behindTheImports p).drop k) (Zcs p) (cP p) pos [topFrame p0])=some r->topRun treeTable p w 11 (some (.ref 6)) (M+N) (s0T w.params os).abs (topStub p)=some r
theorem Reach.zero {p:Program}{w:World}{os:OsState}(h:preP p w (s0T w.params os)=some (stubS w.params os,stubT p)) (b:blkP p w (stubS w.params os)=some (.next,stubS w.params os,cP p,p0)):Reach p w os 13 (stubS w.params os) 0 p0:=fun N r k=>by
 have k':=go_top (Zk6 h) (piece_block (segRun_of b) k)
 rwa [← Nat.add_assoc] at k'
theorem Reach.step {p:Program}{w:World}{os:OsState}{M k:Nat}{s s':SharedT}{pos pos':Pos}(R:Reach p w os M s k pos) (n j:Nat) (h:segP p w n k j pos s=some (.next,s',cP p,pos')):Reach p w os (M+n) s' (k+j) pos':=fun N r x=>by
 rw [Nat.add_assoc]
 refine R _ r ?_
 rw [← List.take_append_drop j ((behindTheImports p).drop k),List.drop_drop]
 exact piece_app (segRun_of h) x
section
variable (p q:Program) (loose:List Str) (Xt:Shared->Bool)
noncomputable def sn0 (P:Params) (s:SharedT):Bool:=staticsOk (importedModules p.main.body) (boot_heap P) s.abs.heap && namesBound p s.abs.heap && gensDone s.abs && laidKept (boot_heap P) s.abs.heap
def sn1 (s:SharedT):=(seen ((recsOf q).map (·.name)) (ownsOf q) [] {s.abs with gens:=#[] },s.abs.heap.bltView)
def sn2 (s:SharedT):Bool:=s.abs.heap.keysOk (looseW q loose) ((recsOf q).map (·.name)) ((litsOf q).map (·.1)) ((clssOf q (looseW q loose)).map (·.name)) && s.abs.heap.accountedOkI (importedModules p.main.body) && s.abs.heap.isNs mainGlobals && s.abs.heap.isNs builtinsNs && tablesOk q s.abs.heap && Xt s.abs && (if true then s.abs.gens.size == 0 else !leftWithCleanup s.abs.gens)
def sn3 (s:SharedT):Bool:=tabsOk q s.abs
def sn4 (s:SharedT):=(pinSeenD q (drecsOf q) s.abs,plainSeenE q (looseW q loose) s.abs)
def sn5 (s:SharedT):=(plainSeenD q loose s.abs,wideSeen q s.abs)
def sn6 (s:SharedT):=clsSeenW q loose s.abs
end
theorem Zu0 {p q:Program}{loose:List Str}{Xt:Shared->Bool}{α:Type}{Yf:Shared->α}{Ya:World->α}{M N k:Nat}{s:World->OsState->SharedT}{pos:Pos}(e:opening p=plainProg p.main.scope.names) (hN:Nat.ble 600 (M+N)=true) (f:∀ s,fenceModules? p s=some s)
  (R:∀ (w:World) (os:OsState),Reach p w os M (s w os) k pos)
  (r0:∀ (w:World) (os:OsState),(topQ p w N k pos (s w os)).map (sn0 p w.params)=some true)
  (r1:∀ (w:World) (os:OsState),(topQ p w N k pos (s w os)).map (sn1 q)=some (expectedOf q,bltViewBooted))
  (r2:∀ (w:World) (os:OsState),(topQ p w N k pos (s w os)).map (sn2 p q loose Xt)=some true)
  (r3:∀ (w:World) (os:OsState),(topQ p w N k pos (s w os)).map (sn3 q)=some true)
  (r4:∀ (w:World) (os:OsState),(topQ p w N k pos (s w os)).map (sn4 q loose)=some (pinGoodD (drecsOf q),plainGoodE q (looseW q loose)))
  (r5:∀ (w:World) (os:OsState),(topQ p w N k pos (s w os)).map (sn5 q loose)=some (plainGoodD q loose,wideGood q))
  (r6:∀ (w:World) (os:OsState),(topQ p w N k pos (s w os)).map (sn6 q loose)=some (clsGoodW q loose))
  (r7:∀ (w:World) (os:OsState),(topQ p w N k pos (s w os)).map (fun s=>Yf s.abs)=some (Ya w)):LeftO p q loose Xt Yf Ya (M+N):=fun w=>by
 obtain ⟨⟨h,gs,d,k,os⟩,e1,e2⟩:=Option.map_eq_some_iff.mp (boot_open e hN f w)
 obtain ⟨rfl,rfl,rfl,rfl⟩:h=boot_heap w.params/\gs = #[]/\d=boot_drawn/\k=boot_toks:=by simpa using e2
 obtain ⟨s,x,y0⟩:=Option.map_eq_some_iff.mp (r0 w os)
 have y1:=r1 w os
 have y2:=r2 w os
 have y3:=r3 w os
 have y4:=r4 w os
 have y5:=r5 w os
 have y6:=r6 w os
 have y7:=r7 w os
 rw [x,Option.map_some,Option.some_inj] at y1 y2 y3 y4 y5 y6 y7
 have r:=R w os N _ (Zfd x)
 rw [Zmp] at r
 obtain ⟨z1,z2,z3⟩:_/\_/\_:=by simpa only [Prod.mk.injEq] using Zk5 w.params
 have t:topFrom treeTable p w (M+N) ⟨boot_heap w.params,#[],boot_drawn,boot_toks,os⟩=some s.abs:=by
  unfold topFrom
  dsimp only
  rw [z1,z2,z3,r]
  show (match staticsOk (importedModules p.main.body) (boot_heap w.params) s.abs.heap && namesBound p s.abs.heap && gensDone s.abs && laidKept (boot_heap w.params) s.abs.heap with | true=>some s.abs | false=>none)=_
  unfold sn0 at y0
  rw [y0]
 unfold openEnds
 rw [e1]
 show (topFrom treeTable p w (M+N) _).map _=_
 rw [t]
 refine congrArg some (Prod.ext ?_ y7)
 have a1:=congrArg Prod.fst y1
 have b1:=congrArg Prod.snd y1
 have a4:=congrArg Prod.fst y4
 have b4:=congrArg Prod.snd y4
 have a5:=congrArg Prod.fst y5
 have b5:=congrArg Prod.snd y5
 exact Prod.ext a1 (Prod.ext b1 (Prod.ext y2 (Prod.ext y3 (Prod.ext a4 (Prod.ext b4 (Prod.ext a5 (Prod.ext b5 y6)))))))
end L2
lay_quick L2.preP L2.blkP L2.segP L2.topQ L2.errS L2.stubS L2.stubT L2.sn0 L2.sn1 L2.sn2 L2.sn3 L2.sn4 L2.sn5 L2.sn6
end
set_option Elab.async false
set_option linter.all false
set_option maxRecDepth 100000
set_option maxHeartbeats 4000000
namespace Law
open PySem L2
def Kp (p:Program) (P:Params):PySem.W.Frag:=[
 (3,⟨(.type "dict"),none,(.dict #[de P "__name__" 165 (.str "law_forsworn_k60_long_lines_of_heirs" 1247),de P "__doc__" 166 .none,de P "__package__" 167 .none,de P "__loader__" 168 (.builtin "__main__.__loader__#opaque"),de P "__spec__" 169 .none,de P "__annotations__" 170 (.ref 6),de P "__builtins__" 171 (.ref 4),de P "__file__" 173 (.str "/claim/cut.py" 172),de P "__cached__" 174 .none,de P "_wall" 193 (.ref 21),de P "MootError" 220 (.ref 38),de P "NoName" 243 (.ref 58),de P "NoMeasure" 266 (.ref 77),de P "Unknown" 289 (.ref 96),de P "Taken" 312 (.ref 115),de P "NoThing" 335 (.ref 134),de P "NoCase" 358 (.ref 153),de P "NoOath" 381 (.ref 172),de P "NotYet" 404 (.ref 191),de P "Dead" 427 (.ref 210),de P "NoHeir" 450 (.ref 229),de P "TooMany" 473 (.ref 248),de P "owed" 481 (.ref 255),de P "owed_dues" 482 (.ref 255),de P "set_against" 492 (.ref 262),de P "triple" 500 (.ref 269),de P "LAST_DAY" 504 (.int (9999) 503),de P "MOST_WEIGHT" 506 (.int (1000) 505),de P "MOST_MONEY" 508 (.int (1000000) 507),de P "check_day" 515 (.ref 276),de P "check_weight" 522 (.ref 283),de P "check_money" 529 (.ref 290),de P "LONGEST_NAME" 533 (.int (12) 532),de P "is_name" 539 (.ref 295),de P "MOST_FOLK" 543 (.int (40) 542),de P "Folk" 748 (.ref 450),de P "DAY" 752 (.int (0) 751),de P "WORD" 754 (.int (1) 753),de P "GIVER" 756 (.int (2) 755),de P "TAKER" 758 (.int (3) 757),de P "road" 764 (.ref 459),de P "road_goods" 765 (.ref 459),de P "holder" 776 (.ref 466),de P "holder_goods" 777 (.ref 466),de P "by_day" 784 (.ref 473),de P "leave_on" 795 (.ref 480),de P "pass_on" 804 (.ref 487),de P "ONES" 808 (.int (0) 807),de P "OTHERS" 810 (.int (1) 809),de P "check_case" 818 (.ref 494),de P "check_oath" 824 (.ref 499),de P "MOST_THINGS" 828 (.int (40) 827),de P "MOST_MOMENTS" 830 (.int (400) 829),de P "Moot" 1246 (.ref 813),de P "_law_src" 1255 (.ref 824),de P "_law_next" 1265 (.ref 831),de P "_law_whole" 1272 (.ref 838),de P "_law_same" 1282 (.ref 845),de P "_law_unlike" 1293 (.ref 852),de P "_law_word" 1299 (.ref 857),de P "_law_names" 1313 (.ref 864),de P "_law_days" 1319 (.ref 869),de P "_law_line" 1330 (.ref 876),de P "_law_road" 1341 (.ref 883),de P "law" 1347 (.ref 888)] 65),#[]⟩),
 (4,⟨(.type "module"),(some 0),.plain,#[]⟩),
 (254,⟨(.type "code"),none,(.fields #[(.str "owed" 476),(.str "owed" 477),(.str "/claim/cut.py" 478),(.int (54) 0),(.int (3) 0),(.int (0) 0),(.int (0) 0),(.int (3) 0),(.ref 251),(.bool true),(.int (181) 0),(.ref 252),.none,.none,.none,(.ref 253),(.int (479) 0),(.int (54) 0),(.str "/claim/cut.py" 480)]),#[]⟩),
 (255,kFn "owed" "owed" (Zo p 15) (.str "forsworn.dues" 474) 254),
 (261,⟨(.type "code"),none,(.fields #[(.str "set_against" 483),(.str "set_against" 484),(.str "/claim/cut.py" 485),(.int (61) 0),(.int (4) 0),(.int (0) 0),(.int (0) 0),(.int (3) 0),(.ref 256),(.bool true),(.int (181) 0),(.ref 257),.none,(.ref 258),(.ref 259),(.ref 260),(.int (490) 0),(.int (61) 0),(.str "/claim/cut.py" 491)]),#[]⟩),
 (262,kFn "set_against" "set_against" (Zo p 17) (.str "forsworn.dues" 474) 261),
 (268,⟨(.type "code"),none,(.fields #[(.str "triple" 493),(.str "triple" 494),(.str "/claim/cut.py" 495),(.int (66) 0),(.int (2) 0),(.int (0) 0),(.int (0) 0),(.int (3) 0),(.ref 263),(.bool true),(.int (181) 0),(.ref 264),.none,(.ref 265),(.ref 266),(.ref 267),(.int (498) 0),(.int (66) 0),(.str "/claim/cut.py" 499)]),#[]⟩),
 (269,kFn "triple" "triple" (Zo p 18) (.str "forsworn.dues" 474) 268),
 (275,⟨(.type "code"),none,(.fields #[(.str "check_day" 509),(.str "check_day" 510),(.str "/claim/cut.py" 511),(.int (74) 0),(.int (1) 0),(.int (0) 0),(.int (0) 0),(.int (3) 0),(.ref 270),(.bool true),(.int (181) 0),(.ref 271),.none,(.ref 272),(.ref 273),(.ref 274),(.int (513) 0),(.int (74) 0),(.str "/claim/cut.py" 514)]),#[]⟩),
 (276,kFn "check_day" "check_day" (Zo p 23) (.str "forsworn.measures" 501) 275),
 (282,⟨(.type "code"),none,(.fields #[(.str "check_weight" 516),(.str "check_weight" 517),(.str "/claim/cut.py" 518),(.int (77) 0),(.int (1) 0),(.int (0) 0),(.int (0) 0),(.int (3) 0),(.ref 277),(.bool true),(.int (181) 0),(.ref 278),.none,(.ref 279),(.ref 280),(.ref 281),(.int (520) 0),(.int (77) 0),(.str "/claim/cut.py" 521)]),#[]⟩),
 (283,kFn "check_weight" "check_weight" (Zo p 24) (.str "forsworn.measures" 501) 282),
 (289,⟨(.type "code"),none,(.fields #[(.str "check_money" 523),(.str "check_money" 524),(.str "/claim/cut.py" 525),(.int (80) 0),(.int (1) 0),(.int (0) 0),(.int (0) 0),(.int (3) 0),(.ref 284),(.bool true),(.int (181) 0),(.ref 285),.none,(.ref 286),(.ref 287),(.ref 288),(.int (527) 0),(.int (80) 0),(.str "/claim/cut.py" 528)]),#[]⟩),
 (290,kFn "check_money" "check_money" (Zo p 25) (.str "forsworn.measures" 501) 289),
 (294,⟨(.type "code"),none,(.fields #[(.str "is_name" 534),(.str "is_name" 535),(.str "/claim/cut.py" 536),(.int (85) 0),(.int (1) 0),(.int (0) 0),(.int (0) 0),(.int (3) 0),(.ref 291),(.bool true),(.int (181) 0),(.ref 292),.none,.none,.none,(.ref 293),(.int (537) 0),(.int (85) 0),(.str "/claim/cut.py" 538)]),#[]⟩),
 (295,kFn "is_name" "is_name" (Zo p 28) (.str "forsworn.oaths" 530) 294),
 (308,⟨(.type "code"),none,(.fields #[(.str "__init__" 556),(.str "Folk.__init__" 557),(.str "/claim/cut.py" 558),(.int (91) 0),(.int (1) 0),(.int (0) 0),(.int (0) 0),(.int (3) 0),(.ref 303),(.bool true),(.int (181) 0),(.ref 304),.none,(.ref 305),(.ref 306),(.ref 307),(.int (560) 0),(.int (91) 0),(.str "/claim/cut.py" 561)]),#[]⟩),
 (309,kFn "__init__" "Folk.__init__" (hIn (Zo p 31) 0) (.str "forsworn.folk" 540) 308),
 (315,⟨(.type "code"),none,(.fields #[(.str "come" 563),(.str "Folk.come" 564),(.str "/claim/cut.py" 565),(.int (97) 0),(.int (4) 0),(.int (0) 0),(.int (0) 0),(.int (3) 0),(.ref 310),(.bool true),(.int (181) 0),(.ref 311),.none,(.ref 312),(.ref 313),(.ref 314),(.int (570) 0),(.int (97) 0),(.str "/claim/cut.py" 571)]),#[]⟩),
 (316,kFn "come" "Folk.come" (hIn (Zo p 31) 1) (.str "forsworn.folk" 540) 315),
 (329,⟨(.type "code"),none,(.fields #[(.str "die" 583),(.str "Folk.die" 584),(.str "/claim/cut.py" 585),(.int (105) 0),(.int (4) 0),(.int (0) 0),(.int (0) 0),(.int (3) 0),(.ref 324),(.bool true),(.int (181) 0),(.ref 325),.none,(.ref 326),(.ref 327),(.ref 328),(.int (590) 0),(.int (105) 0),(.str "/claim/cut.py" 591)]),#[]⟩),
 (330,kFn "die" "Folk.die" (hIn (Zo p 31) 3) (.str "forsworn.folk" 540) 329),
 (362,⟨(.type "code"),none,(.fields #[(.str "stands_for" 623),(.str "Folk.stands_for" 624),(.str "/claim/cut.py" 625),(.int (128) 0),(.int (3) 0),(.int (0) 0),(.int (0) 0),(.int (3) 0),(.ref 357),(.bool true),(.int (181) 0),(.ref 358),.none,(.ref 359),(.ref 360),(.ref 361),(.int (629) 0),(.int (128) 0),(.str "/claim/cut.py" 630)]),#[]⟩),
 (363,kFn "stands_for" "Folk.stands_for" (hIn (Zo p 31) 8) (.str "forsworn.folk" 540) 362),
 (376,⟨(.type "code"),none,(.fields #[(.str "stand_in" 639),(.str "Folk.stand_in" 640),(.str "/claim/cut.py" 641),(.int (136) 0),(.int (3) 0),(.int (0) 0),(.int (0) 0),(.int (3) 0),(.ref 371),(.bool true),(.int (181) 0),(.ref 372),.none,(.ref 373),(.ref 374),(.ref 375),(.int (645) 0),(.int (136) 0),(.str "/claim/cut.py" 646)]),#[]⟩),
 (377,kFn "stand_in" "Folk.stand_in" (hIn (Zo p 31) 10) (.str "forsworn.folk" 540) 376),
 (383,⟨(.type "code"),none,(.fields #[(.str "died_by" 648),(.str "Folk.died_by" 649),(.str "/claim/cut.py" 650),(.int (141) 0),(.int (3) 0),(.int (0) 0),(.int (0) 0),(.int (3) 0),(.ref 378),(.bool true),(.int (181) 0),(.ref 379),.none,(.ref 380),(.ref 381),(.ref 382),(.int (654) 0),(.int (141) 0),(.str "/claim/cut.py" 655)]),#[]⟩),
 (384,kFn "died_by" "Folk.died_by" (hIn (Zo p 31) 11) (.str "forsworn.folk" 540) 383),
 (390,⟨(.type "code"),none,(.fields #[(.str "death_day" 657),(.str "Folk.death_day" 658),(.str "/claim/cut.py" 659),(.int (144) 0),(.int (2) 0),(.int (0) 0),(.int (0) 0),(.int (3) 0),(.ref 385),(.bool true),(.int (181) 0),(.ref 386),.none,(.ref 387),(.ref 388),(.ref 389),(.int (662) 0),(.int (144) 0),(.str "/claim/cut.py" 663)]),#[]⟩),
 (391,kFn "death_day" "Folk.death_day" (hIn (Zo p 31) 12) (.str "forsworn.folk" 540) 390),
 (397,⟨(.type "code"),none,(.fields #[(.str "heir_of" 665),(.str "Folk.heir_of" 666),(.str "/claim/cut.py" 667),(.int (147) 0),(.int (2) 0),(.int (0) 0),(.int (0) 0),(.int (3) 0),(.ref 392),(.bool true),(.int (181) 0),(.ref 393),.none,(.ref 394),(.ref 395),(.ref 396),(.int (670) 0),(.int (147) 0),(.str "/claim/cut.py" 671)]),#[]⟩),
 (398,kFn "heir_of" "Folk.heir_of" (hIn (Zo p 31) 13) (.str "forsworn.folk" 540) 397),
 (404,⟨(.type "code"),none,(.fields #[(.str "check_coming" 673),(.str "Folk.check_coming" 674),(.str "/claim/cut.py" 675),(.int (150) 0),(.int (4) 0),(.int (0) 0),(.int (0) 0),(.int (3) 0),(.ref 399),(.bool true),(.int (181) 0),(.ref 400),.none,(.ref 401),(.ref 402),(.ref 403),(.int (680) 0),(.int (150) 0),(.str "/claim/cut.py" 681)]),#[]⟩),
 (405,kFn "check_coming" "Folk.check_coming" (hIn (Zo p 31) 14) (.str "forsworn.folk" 540) 404),
 (418,⟨(.type "code"),none,(.fields #[(.str "check_death" 693),(.str "Folk.check_death" 694),(.str "/claim/cut.py" 695),(.int (163) 0),(.int (4) 0),(.int (0) 0),(.int (0) 0),(.int (3) 0),(.ref 413),(.bool true),(.int (181) 0),(.ref 414),.none,(.ref 415),(.ref 416),(.ref 417),(.int (700) 0),(.int (163) 0),(.str "/claim/cut.py" 701)]),#[]⟩),
 (419,kFn "check_death" "Folk.check_death" (hIn (Zo p 31) 16) (.str "forsworn.folk" 540) 418),
 (425,⟨(.type "code"),none,(.fields #[(.str "check_known" 703),(.str "Folk.check_known" 704),(.str "/claim/cut.py" 705),(.int (173) 0),(.int (2) 0),(.int (0) 0),(.int (0) 0),(.int (3) 0),(.ref 420),(.bool true),(.int (181) 0),(.ref 421),.none,(.ref 422),(.ref 423),(.ref 424),(.int (708) 0),(.int (173) 0),(.str "/claim/cut.py" 709)]),#[]⟩),
 (426,kFn "check_known" "Folk.check_known" (hIn (Zo p 31) 17) (.str "forsworn.folk" 540) 425),
 (432,⟨(.type "code"),none,(.fields #[(.str "check_there" 711),(.str "Folk.check_there" 712),(.str "/claim/cut.py" 713),(.int (177) 0),(.int (3) 0),(.int (0) 0),(.int (0) 0),(.int (3) 0),(.ref 427),(.bool true),(.int (181) 0),(.ref 428),.none,(.ref 429),(.ref 430),(.ref 431),(.int (717) 0),(.int (177) 0),(.str "/claim/cut.py" 718)]),#[]⟩),
 (433,kFn "check_there" "Folk.check_there" (hIn (Zo p 31) 18) (.str "forsworn.folk" 540) 432),
 (439,⟨(.type "code"),none,(.fields #[(.str "check_living" 720),(.str "Folk.check_living" 721),(.str "/claim/cut.py" 722),(.int (181) 0),(.int (3) 0),(.int (0) 0),(.int (0) 0),(.int (3) 0),(.ref 434),(.bool true),(.int (181) 0),(.ref 435),.none,(.ref 436),(.ref 437),(.ref 438),(.int (726) 0),(.int (181) 0),(.str "/claim/cut.py" 727)]),#[]⟩),
 (440,kFn "check_living" "Folk.check_living" (hIn (Zo p 31) 19) (.str "forsworn.folk" 540) 439),
 (446,⟨(.type "code"),none,(.fields #[(.str "check_untold" 729),(.str "Folk.check_untold" 730),(.str "/claim/cut.py" 731),(.int (185) 0),(.int (2) 0),(.int (0) 0),(.int (0) 0),(.int (3) 0),(.ref 441),(.bool true),(.int (181) 0),(.ref 442),.none,(.ref 443),(.ref 444),(.ref 445),(.int (734) 0),(.int (185) 0),(.str "/claim/cut.py" 735)]),#[]⟩),
 (447,kFn "check_untold" "Folk.check_untold" (hIn (Zo p 31) 20) (.str "forsworn.folk" 540) 446),
 (449,⟨(.type "dict"),none,(.dict #[de P "__module__" 551 (.str "forsworn.folk" 540),de P "__firstlineno__" 555 (.int (89) 554),de P "__init__" 562 (.ref 309),de P "come" 572 (.ref 316),de P "rise" 582 (.ref 323),de P "die" 592 (.ref 330),de P "names" 599 (.ref 337),de P "came" 607 (.ref 344),de P "weight" 613 (.ref 349),de P "dead" 622 (.ref 356),de P "stands_for" 631 (.ref 363),de P "twin" 638 (.ref 370),de P "stand_in" 647 (.ref 377),de P "died_by" 656 (.ref 384),de P "death_day" 664 (.ref 391),de P "heir_of" 672 (.ref 398),de P "check_coming" 682 (.ref 405),de P "check_rise" 692 (.ref 412),de P "check_death" 702 (.ref 419),de P "check_known" 710 (.ref 426),de P "check_there" 719 (.ref 433),de P "check_living" 728 (.ref 440),de P "check_untold" 736 (.ref 447),de P "__static_attributes__" 741 (.ref 448),de P "__dict__" 743 (.ref 451),de P "__weakref__" 745 (.ref 452),de P "__doc__" 746 .none] 4),#[]⟩),
 (450,⟨(.type "type"),none,(.cls {name := "Folk", bases:=[(.type "object")],mro:=[(.ref 450),(.type "object")],ns:=449,qualname := "Folk", hasDict:=true,slotNames:=[],subclasses:=[],abstract:=false,collection:=none,hasDel:=false }),#[none,none,some (.str "Folk" 544),some (.str "Folk" 552),some (.builtin "object.__new__"),some (.bool true)]⟩),
 (458,⟨(.type "code"),none,(.fields #[(.str "road" 759),(.str "road" 760),(.str "/claim/cut.py" 761),(.int (193) 0),(.int (4) 0),(.int (0) 0),(.int (0) 0),(.int (3) 0),(.ref 455),(.bool true),(.int (181) 0),(.ref 456),.none,.none,.none,(.ref 457),(.int (762) 0),(.int (193) 0),(.str "/claim/cut.py" 763)]),#[]⟩),
 (459,kFn "road" "road" (Zo p 37) (.str "forsworn.goods" 749) 458),
 (465,⟨(.type "code"),none,(.fields #[(.str "holder" 766),(.str "holder" 767),(.str "/claim/cut.py" 768),(.int (204) 0),(.int (4) 0),(.int (0) 0),(.int (0) 0),(.int (3) 0),(.ref 460),(.bool true),(.int (181) 0),(.ref 461),.none,(.ref 462),(.ref 463),(.ref 464),(.int (774) 0),(.int (204) 0),(.str "/claim/cut.py" 775)]),#[]⟩),
 (466,kFn "holder" "holder" (Zo p 39) (.str "forsworn.goods" 749) 465),
 (472,⟨(.type "code"),none,(.fields #[(.str "by_day" 778),(.str "by_day" 779),(.str "/claim/cut.py" 780),(.int (208) 0),(.int (1) 0),(.int (0) 0),(.int (0) 0),(.int (3) 0),(.ref 467),(.bool true),(.int (181) 0),(.ref 468),.none,(.ref 469),(.ref 470),(.ref 471),(.int (782) 0),(.int (208) 0),(.str "/claim/cut.py" 783)]),#[]⟩),
 (473,kFn "by_day" "by_day" (Zo p 41) (.str "forsworn.goods" 749) 472),
 (479,⟨(.type "code"),none,(.fields #[(.str "leave_on" 785),(.str "leave_on" 786),(.str "/claim/cut.py" 787),(.int (210) 0),(.int (3) 0),(.int (0) 0),(.int (0) 0),(.int (3) 0),(.ref 474),(.bool true),(.int (181) 0),(.ref 475),.none,(.ref 476),(.ref 477),(.ref 478),(.int (793) 0),(.int (210) 0),(.str "/claim/cut.py" 794)]),#[]⟩),
 (480,kFn "leave_on" "leave_on" (Zo p 42) (.str "forsworn.goods" 749) 479),
 (486,⟨(.type "code"),none,(.fields #[(.str "pass_on" 796),(.str "pass_on" 797),(.str "/claim/cut.py" 798),(.int (215) 0),(.int (2) 0),(.int (0) 0),(.int (0) 0),(.int (3) 0),(.ref 481),(.bool true),(.int (181) 0),(.ref 482),.none,(.ref 483),(.ref 484),(.ref 485),(.int (802) 0),(.int (215) 0),(.str "/claim/cut.py" 803)]),#[]⟩),
 (487,kFn "pass_on" "pass_on" (Zo p 43) (.str "forsworn.goods" 749) 486),
 (512,⟨(.type "code"),none,(.fields #[(.str "__init__" 843),(.str "Moot.__init__" 844),(.str "/claim/cut.py" 845),(.int (234) 0),(.int (1) 0),(.int (0) 0),(.int (0) 0),(.int (3) 0),(.ref 507),(.bool true),(.int (181) 0),(.ref 508),.none,(.ref 509),(.ref 510),(.ref 511),(.int (847) 0),(.int (234) 0),(.str "/claim/cut.py" 848)]),#[]⟩),
 (513,kFn "__init__" "Moot.__init__" (hIn (Zo p 52) 0) (.str "forsworn.moot" 825) 512),
 (519,⟨(.type "code"),none,(.fields #[(.str "come" 850),(.str "Moot.come" 851),(.str "/claim/cut.py" 852),(.int (245) 0),(.int (4) 0),(.int (0) 0),(.int (0) 0),(.int (3) 0),(.ref 514),(.bool true),(.int (181) 0),(.ref 515),.none,(.ref 516),(.ref 517),(.ref 518),(.int (857) 0),(.int (245) 0),(.str "/claim/cut.py" 858)]),#[]⟩),
 (520,kFn "come" "Moot.come" (hIn (Zo p 52) 1) (.str "forsworn.moot" 825) 519),
 (533,⟨(.type "code"),none,(.fields #[(.str "die" 870),(.str "Moot.die" 871),(.str "/claim/cut.py" 872),(.int (254) 0),(.int (4) 0),(.int (0) 0),(.int (0) 0),(.int (3) 0),(.ref 528),(.bool true),(.int (181) 0),(.ref 529),.none,(.ref 530),(.ref 531),(.ref 532),(.int (877) 0),(.int (254) 0),(.str "/claim/cut.py" 878)]),#[]⟩),
 (534,kFn "die" "Moot.die" (hIn (Zo p 52) 3) (.str "forsworn.moot" 825) 533),
 (547,⟨(.type "code"),none,(.fields #[(.str "bring" 888),(.str "Moot.bring" 889),(.str "/claim/cut.py" 890),(.int (263) 0),(.int (3) 0),(.int (0) 0),(.int (0) 0),(.int (3) 0),(.ref 542),(.bool true),(.int (181) 0),(.ref 543),.none,(.ref 544),(.ref 545),(.ref 546),(.int (894) 0),(.int (263) 0),(.str "/claim/cut.py" 895)]),#[]⟩),
 (548,kFn "bring" "Moot.bring" (hIn (Zo p 52) 5) (.str "forsworn.moot" 825) 547),
 (561,⟨(.type "code"),none,(.fields #[(.str "pay" 908),(.str "Moot.pay" 909),(.str "/claim/cut.py" 910),(.int (277) 0),(.int (5) 0),(.int (0) 0),(.int (0) 0),(.int (3) 0),(.ref 556),(.bool true),(.int (181) 0),(.ref 557),.none,(.ref 558),(.ref 559),(.ref 560),(.int (916) 0),(.int (277) 0),(.str "/claim/cut.py" 917)]),#[]⟩),
 (562,kFn "pay" "Moot.pay" (hIn (Zo p 52) 7) (.str "forsworn.moot" 825) 561),
 (624,⟨(.type "code"),none,(.fields #[(.str "stands_for" 998),(.str "Moot.stands_for" 999),(.str "/claim/cut.py" 1000),(.int (309) 0),(.int (3) 0),(.int (0) 0),(.int (0) 0),(.int (3) 0),(.ref 619),(.bool true),(.int (181) 0),(.ref 620),.none,(.ref 621),(.ref 622),(.ref 623),(.int (1004) 0),(.int (309) 0),(.str "/claim/cut.py" 1005)]),#[]⟩),
 (625,kFn "stands_for" "Moot.stands_for" (hIn (Zo p 52) 16) (.str "forsworn.moot" 825) 624),
 (713,⟨(.type "code"),none,(.fields #[(.str "holder" 1099),(.str "Moot.holder" 1100),(.str "/claim/cut.py" 1101),(.int (348) 0),(.int (3) 0),(.int (0) 0),(.int (0) 0),(.int (3) 0),(.ref 708),(.bool true),(.int (181) 0),(.ref 709),.none,(.ref 710),(.ref 711),(.ref 712),(.int (1105) 0),(.int (348) 0),(.str "/claim/cut.py" 1106)]),#[]⟩),
 (714,kFn "holder" "Moot.holder" (hIn (Zo p 52) 29) (.str "forsworn.moot" 825) 713),
 (720,⟨(.type "code"),none,(.fields #[(.str "road" 1108),(.str "Moot.road" 1109),(.str "/claim/cut.py" 1110),(.int (353) 0),(.int (3) 0),(.int (0) 0),(.int (0) 0),(.int (3) 0),(.ref 715),(.bool true),(.int (181) 0),(.ref 716),.none,(.ref 717),(.ref 718),(.ref 719),(.int (1114) 0),(.int (353) 0),(.str "/claim/cut.py" 1115)]),#[]⟩),
 (721,kFn "road" "Moot.road" (hIn (Zo p 52) 30) (.str "forsworn.moot" 825) 720),
 (734,⟨(.type "code"),none,(.fields #[(.str "owed" 1126),(.str "Moot.owed" 1127),(.str "/claim/cut.py" 1128),(.int (361) 0),(.int (2) 0),(.int (0) 0),(.int (0) 0),(.int (3) 0),(.ref 729),(.bool true),(.int (181) 0),(.ref 730),.none,(.ref 731),(.ref 732),(.ref 733),(.int (1131) 0),(.int (361) 0),(.str "/claim/cut.py" 1132)]),#[]⟩),
 (735,kFn "owed" "Moot.owed" (hIn (Zo p 52) 32) (.str "forsworn.moot" 825) 734),
 (760,⟨(.type "code"),none,(.fields #[(.str "counting" 1158),(.str "Moot.counting" 1159),(.str "/claim/cut.py" 1160),(.int (374) 0),(.int (2) 0),(.int (0) 0),(.int (0) 0),(.int (3) 0),(.ref 757),(.bool true),(.int (181) 0),(.ref 758),.none,.none,.none,(.ref 759),(.int (1161) 0),(.int (374) 0),(.str "/claim/cut.py" 1162)]),#[]⟩),
 (761,kFn "counting" "Moot.counting" (hIn (Zo p 52) 36) (.str "forsworn.moot" 825) 760),
 (788,⟨(.type "code"),none,(.fields #[(.str "check_named" 1192),(.str "Moot.check_named" 1193),(.str "/claim/cut.py" 1194),(.int (386) 0),(.int (5) 0),(.int (0) 0),(.int (0) 0),(.int (3) 0),(.ref 783),(.bool true),(.int (181) 0),(.ref 784),.none,(.ref 785),(.ref 786),(.ref 787),(.int (1201) 0),(.int (386) 0),(.str "/claim/cut.py" 1202)]),#[]⟩),
 (789,kFn "check_named" "Moot.check_named" (hIn (Zo p 52) 40) (.str "forsworn.moot" 825) 788),
 (795,⟨(.type "code"),none,(.fields #[(.str "check_thing" 1204),(.str "Moot.check_thing" 1205),(.str "/claim/cut.py" 1206),(.int (402) 0),(.int (2) 0),(.int (0) 0),(.int (0) 0),(.int (3) 0),(.ref 790),(.bool true),(.int (181) 0),(.ref 791),.none,(.ref 792),(.ref 793),(.ref 794),(.int (1209) 0),(.int (402) 0),(.str "/claim/cut.py" 1210)]),#[]⟩),
 (796,kFn "check_thing" "Moot.check_thing" (hIn (Zo p 52) 41) (.str "forsworn.moot" 825) 795),
 (809,⟨(.type "code"),none,(.fields #[(.str "check_moments" 1223),(.str "Moot.check_moments" 1224),(.str "/claim/cut.py" 1225),(.int (409) 0),(.int (1) 0),(.int (0) 0),(.int (0) 0),(.int (3) 0),(.ref 804),(.bool true),(.int (181) 0),(.ref 805),.none,(.ref 806),(.ref 807),(.ref 808),(.int (1227) 0),(.int (409) 0),(.str "/claim/cut.py" 1228)]),#[]⟩),
 (810,kFn "check_moments" "Moot.check_moments" (hIn (Zo p 52) 43) (.str "forsworn.moot" 825) 809),
 (812,⟨(.type "dict"),none,(.dict #[de P "__module__" 838 (.str "forsworn.moot" 825),de P "__firstlineno__" 842 (.int (232) 841),de P "__init__" 849 (.ref 513),de P "come" 859 (.ref 520),de P "rise" 869 (.ref 527),de P "die" 879 (.ref 534),de P "penance" 887 (.ref 541),de P "bring" 896 (.ref 548),de P "give" 907 (.ref 555),de P "pay" 918 (.ref 562),de P "claim" 931 (.ref 569),de P "wergild" 945 (.ref 576),de P "accuse" 958 (.ref 583),de P "now" 965 (.ref 590),de P "roll" 972 (.ref 597),de P "names" 979 (.ref 604),de P "weight" 988 (.ref 611),de P "dead" 997 (.ref 618),de P "stands_for" 1006 (.ref 625),de P "things" 1013 (.ref 632),de P "cases" 1020 (.ref 639),de P "suits" 1026 (.ref 644),de P "standing" 1033 (.ref 651),de P "stands" 1041 (.ref 658),de P "margin" 1049 (.ref 665),de P "breakers" 1058 (.ref 672),de P "chain" 1066 (.ref 679),de P "bearing" 1074 (.ref 686),de P "paper" 1082 (.ref 693),de P "fewest" 1090 (.ref 700),de P "forsworn" 1098 (.ref 707),de P "holder" 1107 (.ref 714),de P "road" 1116 (.ref 721),de P "holds" 1125 (.ref 728),de P "owed" 1133 (.ref 735),de P "balance" 1142 (.ref 742),de P "twin" 1149 (.ref 749),de P "then" 1157 (.ref 756),de P "counting" 1163 (.ref 761),de P "forsworn_names" 1170 (.ref 768),de P "weighed" 1179 (.ref 775),de P "try_case" 1191 (.ref 782),de P "check_named" 1203 (.ref 789),de P "check_thing" 1211 (.ref 796),de P "check_sides" 1222 (.ref 803),de P "check_moments" 1229 (.ref 810),de P "__static_attributes__" 1239 (.ref 811),de P "__dict__" 1241 (.ref 814),de P "__weakref__" 1243 (.ref 815),de P "__doc__" 1244 .none] 4),#[]⟩),
 (813,⟨(.type "type"),none,(.cls {name := "Moot", bases:=[(.type "object")],mro:=[(.ref 813),(.type "object")],ns:=812,qualname := "Moot", hasDict:=true,slotNames:=[],subclasses:=[],abstract:=false,collection:=none,hasDel:=false }),#[none,none,some (.str "Moot" 831),some (.str "Moot" 839),some (.builtin "object.__new__"),some (.bool true)]⟩),
 (823,⟨(.type "code"),none,(.fields #[(.str "_law_src" 1249),(.str "_law_src" 1250),(.str "/claim/cut.py" 1251),(.int (413) 0),(.int (1) 0),(.int (0) 0),(.int (0) 0),(.int (3) 0),(.ref 818),(.bool true),(.int (181) 0),(.ref 819),.none,(.ref 820),(.ref 821),(.ref 822),(.int (1253) 0),(.int (413) 0),(.str "/claim/cut.py" 1254)]),#[]⟩),
 (824,kFn "_law_src" "_law_src" (Zo p 54) (.str "law_forsworn_k60_long_lines_of_heirs" 1247) 823),
 (830,⟨(.type "code"),none,(.fields #[(.str "_law_next" 1256),(.str "_law_next" 1257),(.str "/claim/cut.py" 1258),(.int (415) 0),(.int (2) 0),(.int (0) 0),(.int (0) 0),(.int (3) 0),(.ref 825),(.bool true),(.int (181) 0),(.ref 826),.none,(.ref 827),(.ref 828),(.ref 829),(.int (1263) 0),(.int (415) 0),(.str "/claim/cut.py" 1264)]),#[]⟩),
 (831,kFn "_law_next" "_law_next" (Zo p 55) (.str "law_forsworn_k60_long_lines_of_heirs" 1247) 830),
 (837,⟨(.type "code"),none,(.fields #[(.str "_law_whole" 1266),(.str "_law_whole" 1267),(.str "/claim/cut.py" 1268),(.int (430) 0),(.int (1) 0),(.int (0) 0),(.int (0) 0),(.int (3) 0),(.ref 832),(.bool true),(.int (181) 0),(.ref 833),.none,(.ref 834),(.ref 835),(.ref 836),(.int (1270) 0),(.int (430) 0),(.str "/claim/cut.py" 1271)]),#[]⟩),
 (838,kFn "_law_whole" "_law_whole" (Zo p 56) (.str "law_forsworn_k60_long_lines_of_heirs" 1247) 837),
 (844,⟨(.type "code"),none,(.fields #[(.str "_law_same" 1273),(.str "_law_same" 1274),(.str "/claim/cut.py" 1275),(.int (432) 0),(.int (2) 0),(.int (0) 0),(.int (0) 0),(.int (3) 0),(.ref 839),(.bool true),(.int (181) 0),(.ref 840),.none,(.ref 841),(.ref 842),(.ref 843),(.int (1280) 0),(.int (432) 0),(.str "/claim/cut.py" 1281)]),#[]⟩),
 (845,kFn "_law_same" "_law_same" (Zo p 57) (.str "law_forsworn_k60_long_lines_of_heirs" 1247) 844),
 (851,⟨(.type "code"),none,(.fields #[(.str "_law_unlike" 1283),(.str "_law_unlike" 1284),(.str "/claim/cut.py" 1285),(.int (449) 0),(.int (2) 0),(.int (0) 0),(.int (0) 0),(.int (3) 0),(.ref 846),(.bool true),(.int (181) 0),(.ref 847),.none,(.ref 848),(.ref 849),(.ref 850),(.int (1291) 0),(.int (449) 0),(.str "/claim/cut.py" 1292)]),#[]⟩),
 (852,kFn "_law_unlike" "_law_unlike" (Zo p 58) (.str "law_forsworn_k60_long_lines_of_heirs" 1247) 851),
 (856,⟨(.type "code"),none,(.fields #[(.str "_law_word" 1294),(.str "_law_word" 1295),(.str "/claim/cut.py" 1296),(.int (457) 0),(.int (2) 0),(.int (0) 0),(.int (0) 0),(.int (3) 0),(.ref 853),(.bool true),(.int (181) 0),(.ref 854),.none,.none,.none,(.ref 855),(.int (1297) 0),(.int (457) 0),(.str "/claim/cut.py" 1298)]),#[]⟩),
 (857,kFn "_law_word" "_law_word" (Zo p 59) (.str "law_forsworn_k60_long_lines_of_heirs" 1247) 856),
 (863,⟨(.type "code"),none,(.fields #[(.str "_law_names" 1300),(.str "_law_names" 1301),(.str "/claim/cut.py" 1302),(.int (460) 0),(.int (2) 0),(.int (0) 0),(.int (0) 0),(.int (3) 0),(.ref 858),(.bool true),(.int (181) 0),(.ref 859),.none,(.ref 860),(.ref 861),(.ref 862),(.int (1311) 0),(.int (460) 0),(.str "/claim/cut.py" 1312)]),#[]⟩),
 (864,kFn "_law_names" "_law_names" (Zo p 60) (.str "law_forsworn_k60_long_lines_of_heirs" 1247) 863),
 (868,⟨(.type "code"),none,(.fields #[(.str "_law_days" 1314),(.str "_law_days" 1315),(.str "/claim/cut.py" 1316),(.int (473) 0),(.int (2) 0),(.int (0) 0),(.int (0) 0),(.int (3) 0),(.ref 865),(.bool true),(.int (181) 0),(.ref 866),.none,.none,.none,(.ref 867),(.int (1317) 0),(.int (473) 0),(.str "/claim/cut.py" 1318)]),#[]⟩),
 (869,kFn "_law_days" "_law_days" (Zo p 61) (.str "law_forsworn_k60_long_lines_of_heirs" 1247) 868),
 (875,⟨(.type "code"),none,(.fields #[(.str "_law_line" 1320),(.str "_law_line" 1321),(.str "/claim/cut.py" 1322),(.int (481) 0),(.int (3) 0),(.int (0) 0),(.int (0) 0),(.int (3) 0),(.ref 870),(.bool true),(.int (181) 0),(.ref 871),.none,(.ref 872),(.ref 873),(.ref 874),(.int (1328) 0),(.int (481) 0),(.str "/claim/cut.py" 1329)]),#[]⟩),
 (876,kFn "_law_line" "_law_line" (Zo p 62) (.str "law_forsworn_k60_long_lines_of_heirs" 1247) 875),
 (882,⟨(.type "code"),none,(.fields #[(.str "_law_road" 1331),(.str "_law_road" 1332),(.str "/claim/cut.py" 1333),(.int (489) 0),(.int (3) 0),(.int (0) 0),(.int (0) 0),(.int (3) 0),(.ref 877),(.bool true),(.int (181) 0),(.ref 878),.none,(.ref 879),(.ref 880),(.ref 881),(.int (1339) 0),(.int (489) 0),(.str "/claim/cut.py" 1340)]),#[]⟩),
 (883,kFn "_law_road" "_law_road" (Zo p 63) (.str "law_forsworn_k60_long_lines_of_heirs" 1247) 882),
 (887,⟨(.type "code"),none,(.fields #[(.str "law" 1342),(.str "law" 1343),(.str "/claim/cut.py" 1344),(.int (496) 0),(.int (1) 0),(.int (0) 0),(.int (0) 0),(.int (3) 0),(.ref 884),(.bool true),(.int (181) 0),(.ref 885),.none,.none,.none,(.ref 886),(.int (1345) 0),(.int (496) 0),(.str "/claim/cut.py" 1346)]),#[]⟩),
 (888,kFn "law" "law" (Zo p 64) (.str "law_forsworn_k60_long_lines_of_heirs" 1247) 887)]
def KK (P:Params):PySem.W.Frag:=Kp PySem.Challenge.pw_forsworn_k60_long_lines_of_heirs P
def Z6x:PySem.W.Frag:=[(468,⟨.none,none,.fields #[],#[]⟩)]
def KTp (p:Program) (P:Params):PySem.W.Frag:=(Kp p P++Z6x:List (Addr×Obj))
def KTK (P:Params):PySem.W.Frag:=KTp PySem.Challenge.pw_forsworn_k60_long_lines_of_heirs P
def askd:List Addr:=[3,4,254,255,261,262,268,269,275,276,282,283,289,290,294,295,308,309,315,316,329,330,362,363,376,377,383,384,390,391,397,398,404,405,418,419,425,426,432,433,439,440,446,447,449,450,458,459,465,466,472,473,479,480,486,487,512,513,519,520,533,534,547,548,561,562,624,625,713,714,720,721,734,735,760,761,788,789,795,796,809,810,812,813,823,824,830,831,837,838,844,845,851,852,856,857,863,864,868,869,875,876,882,883,887,888,468]
def HK:PySem.W.Hook:=PySem.W.kHook KTK askd fun _=>by kernel_rfl
def q:Program:=PySem.W.view PySem.Challenge.pw_forsworn_k60_long_lines_of_heirs [0,2,3,4,5,6,7,8,9,10,11,12,13,15,16,17,18,20,21,22,23,24,25,27,28,30,31,33,34,35,36,37,38,39,40,41,42,43,45,46,47,48,50,51,52,54,55,56,57,58,59,60,61,62,63,64]
def ens:List (Str×Str):=[("NoName", "NoName.called"),("NoMeasure", "NoMeasure.called"),("Unknown", "Unknown.called"),("Taken", "Taken.called"),("NoThing", "NoThing.called"),("NoCase", "NoCase.called"),("NoOath", "NoOath.called"),("NotYet", "NotYet.called"),("Dead", "Dead.called"),("NoHeir", "NoHeir.called"),("TooMany", "TooMany.called")]
end Law
namespace PySem.W.Fast
noncomputable def tw18159890868899263440:PySem.Program:=PySem.Challenge.pw_forsworn_k60_long_lines_of_heirs
theorem te18159890868899263440:PySem.Challenge.pw_forsworn_k60_long_lines_of_heirs=tw18159890868899263440:=rfl
end PySem.W.Fast
lay_quick PySem.Challenge.rw_forsworn_k60_long_lines_of_heirs Law.q Law.ens
namespace Law
open PySem L2
set_option maxRecDepth 1000000 in
theorem Z6y (w:World) (os:PySem.OsState):PySem.W.Fast.tw14574945829899846032 (PySem.W.Fast.tw2368527892694137696 PySem.W.Fast.tw14847104347666499520).prog w (PySem.W.Fast.tw15095419895629540892 w.params os)=some (PySem.W.Fast.tw17173385231801463501 w.params os,PySem.W.Fast.tw17649063868247884333 (PySem.W.Fast.tw2368527892694137696 PySem.W.Fast.tw14847104347666499520).prog):=by
 kernel_rfl
set_option maxRecDepth 1000000 in
theorem Z6z (w:World) (os:PySem.OsState):PySem.W.Fast.tw897522592586576512 (PySem.W.Fast.tw2368527892694137696 PySem.W.Fast.tw14847104347666499520).prog w (PySem.W.Fast.tw17173385231801463501 w.params os)=some (.next,PySem.W.Fast.tw17173385231801463501 w.params os,cP (PySem.W.Fast.tw2368527892694137696 PySem.W.Fast.tw14847104347666499520).prog,p0):=by
 kernel_rfl
set_option maxRecDepth 1000000 in
theorem Z60 (w:World) (os:PySem.OsState):PySem.W.Fast.tw3364177927453363911 (PySem.W.Fast.tw2368527892694137696 PySem.W.Fast.tw14847104347666499520).prog w 2928 0 14 p0 (PySem.W.Fast.tw17173385231801463501 w.params os)=some (.next,(PySem.W.Fast.tw15053072615319938550 (PySem.W.Fast.tw2368527892694137696 PySem.W.Fast.tw14847104347666499520).prog (PySem.W.Fast.tw2665081048563830263.take 11) w.params os),cP (PySem.W.Fast.tw2368527892694137696 PySem.W.Fast.tw14847104347666499520).prog,⟨49,0,52,24⟩):=by
 kernel_rfl
set_option maxRecDepth 1000000 in
theorem Zwy (w:World) (os:PySem.OsState):Option.map (PySem.W.Fast.tw5166864615210023351 (PySem.W.Fast.tw2368527892694137696 PySem.W.Fast.tw14847104347666499520).prog w.params) (PySem.W.Fast.tw9491608239551792999 (PySem.W.Fast.tw2368527892694137696 PySem.W.Fast.tw14847104347666499520).prog w 7150 14 ⟨49,0,52,24⟩ (PySem.W.Fast.tw15053072615319938550 (PySem.W.Fast.tw2368527892694137696 PySem.W.Fast.tw14847104347666499520).prog (PySem.W.Fast.tw2665081048563830263.take 11) w.params os))=some true:=by
 kernel_rfl
set_option maxRecDepth 1000000 in
theorem Zwz (w:World) (os:PySem.OsState):Option.map (PySem.W.Fast.tw9146811602139678113 PySem.W.Fast.tw2797900513057943271) (PySem.W.Fast.tw9491608239551792999 (PySem.W.Fast.tw2368527892694137696 PySem.W.Fast.tw14847104347666499520).prog w 7150 14 ⟨49,0,52,24⟩ (PySem.W.Fast.tw15053072615319938550 (PySem.W.Fast.tw2368527892694137696 PySem.W.Fast.tw14847104347666499520).prog (PySem.W.Fast.tw2665081048563830263.take 11) w.params os))=some (PyProof.Rows.expectedOf PySem.W.Fast.tw2797900513057943271,bltViewBooted):=by
 kernel_rfl
set_option maxRecDepth 1000000 in
theorem Zw0 (w:World) (os:PySem.OsState):Option.map (PySem.W.Fast.tw4330636226384752446 (PySem.W.Fast.tw2368527892694137696 PySem.W.Fast.tw14847104347666499520).prog PySem.W.Fast.tw2797900513057943271 ["owed_dues", "road_goods", "holder_goods"] (fun s=>PySem.W.xlAt PySem.W.Fast.tw2797900513057943271 [] s && PySem.W.recOk (PySem.W.Fast.tw2368527892694137696 PySem.W.Fast.tw14847104347666499520).records s)) (PySem.W.Fast.tw9491608239551792999 (PySem.W.Fast.tw2368527892694137696 PySem.W.Fast.tw14847104347666499520).prog w 7150 14 ⟨49,0,52,24⟩ (PySem.W.Fast.tw15053072615319938550 (PySem.W.Fast.tw2368527892694137696 PySem.W.Fast.tw14847104347666499520).prog (PySem.W.Fast.tw2665081048563830263.take 11) w.params os))=some true:=by
 kernel_rfl
set_option maxRecDepth 1000000 in
theorem Zw1 (w:World) (os:PySem.OsState):Option.map (PySem.W.Fast.tw290884773970851577 PySem.W.Fast.tw2797900513057943271) (PySem.W.Fast.tw9491608239551792999 (PySem.W.Fast.tw2368527892694137696 PySem.W.Fast.tw14847104347666499520).prog w 7150 14 ⟨49,0,52,24⟩ (PySem.W.Fast.tw15053072615319938550 (PySem.W.Fast.tw2368527892694137696 PySem.W.Fast.tw14847104347666499520).prog (PySem.W.Fast.tw2665081048563830263.take 11) w.params os))=some true:=by
 kernel_rfl
set_option maxRecDepth 1000000 in
theorem Zw2 (w:World) (os:PySem.OsState):Option.map (PySem.W.Fast.tw9020109020722589832 PySem.W.Fast.tw2797900513057943271 ["owed_dues", "road_goods", "holder_goods"]) (PySem.W.Fast.tw9491608239551792999 (PySem.W.Fast.tw2368527892694137696 PySem.W.Fast.tw14847104347666499520).prog w 7150 14 ⟨49,0,52,24⟩ (PySem.W.Fast.tw15053072615319938550 (PySem.W.Fast.tw2368527892694137696 PySem.W.Fast.tw14847104347666499520).prog (PySem.W.Fast.tw2665081048563830263.take 11) w.params os))=some (pinGoodD (PyProof.Rows.drecsOf PySem.W.Fast.tw2797900513057943271),PyProof.Rows.plainGoodE PySem.W.Fast.tw2797900513057943271 (PySem.W.looseW PySem.W.Fast.tw2797900513057943271 ["owed_dues", "road_goods", "holder_goods"])):=by
 kernel_rfl
set_option maxRecDepth 1000000 in
theorem Zw3 (w:World) (os:PySem.OsState):Option.map (PySem.W.Fast.tw11153056314078912757 PySem.W.Fast.tw2797900513057943271 ["owed_dues", "road_goods", "holder_goods"]) (PySem.W.Fast.tw9491608239551792999 (PySem.W.Fast.tw2368527892694137696 PySem.W.Fast.tw14847104347666499520).prog w 7150 14 ⟨49,0,52,24⟩ (PySem.W.Fast.tw15053072615319938550 (PySem.W.Fast.tw2368527892694137696 PySem.W.Fast.tw14847104347666499520).prog (PySem.W.Fast.tw2665081048563830263.take 11) w.params os))=some (PyProof.Rows.plainGoodD PySem.W.Fast.tw2797900513057943271 ["owed_dues", "road_goods", "holder_goods"],PySem.W.wideGood PySem.W.Fast.tw2797900513057943271):=by
 kernel_rfl
set_option maxRecDepth 1000000 in
theorem Zw4 (w:World) (os:PySem.OsState):Option.map (PySem.W.Fast.tw15055011524645977279 PySem.W.Fast.tw2797900513057943271 ["owed_dues", "road_goods", "holder_goods"]) (PySem.W.Fast.tw9491608239551792999 (PySem.W.Fast.tw2368527892694137696 PySem.W.Fast.tw14847104347666499520).prog w 7150 14 ⟨49,0,52,24⟩ (PySem.W.Fast.tw15053072615319938550 (PySem.W.Fast.tw2368527892694137696 PySem.W.Fast.tw14847104347666499520).prog (PySem.W.Fast.tw2665081048563830263.take 11) w.params os))=some (PySem.W.clsGoodW PySem.W.Fast.tw2797900513057943271 ["owed_dues", "road_goods", "holder_goods"]):=by
 kernel_rfl
set_option maxRecDepth 1000000 in
theorem Zw5 (w:World) (os:PySem.OsState):Option.map (fun s=>askd.map s.abs.heap.get?) (PySem.W.Fast.tw9491608239551792999 (PySem.W.Fast.tw2368527892694137696 PySem.W.Fast.tw14847104347666499520).prog w 7150 14 ⟨49,0,52,24⟩ (PySem.W.Fast.tw15053072615319938550 (PySem.W.Fast.tw2368527892694137696 PySem.W.Fast.tw14847104347666499520).prog (PySem.W.Fast.tw2665081048563830263.take 11) w.params os))=some ((KTp PySem.W.Fast.tw18159890868899263440 w.params).map fun p=>some p.2):=by
 kernel_rfl
theorem left:PySem.W.LeftO PySem.Challenge.rw_forsworn_k60_long_lines_of_heirs.row.prog q ["owed_dues", "road_goods", "holder_goods"] (fun s=>PySem.W.xlAt q [] s && PySem.W.recOk (PySem.W.RowW.records PySem.Challenge.rw_forsworn_k60_long_lines_of_heirs.row.toRowW) s) HK.obs HK.val 10091:=by
 refine Zu0 (M:=2941) (N:=7150) (k:=14) (pos:=⟨49,0,52,24⟩) (s:=fun w os=>errS PySem.Challenge.rw_forsworn_k60_long_lines_of_heirs.row.prog (ens.take 11) w.params os) (by kernel_rfl) (by decide) (fun s=>by kernel_rfl) (fun w os=>?_)
  (fun w os=>(by have h:=Zwy w os; simp only [← PySem.W.Fast.te14574945829899846032,← PySem.W.Fast.te897522592586576512,← PySem.W.Fast.te3364177927453363911,← PySem.W.Fast.te9491608239551792999,← PySem.W.Fast.te15053072615319938550,← PySem.W.Fast.te17173385231801463501,← PySem.W.Fast.te17649063868247884333,← PySem.W.Fast.te2665081048563830263,← PySem.W.Fast.te5166864615210023351,← PySem.W.Fast.te9146811602139678113,← PySem.W.Fast.te4330636226384752446,← PySem.W.Fast.te290884773970851577,← PySem.W.Fast.te9020109020722589832,← PySem.W.Fast.te11153056314078912757,← PySem.W.Fast.te15055011524645977279,← PySem.W.Fast.te15095419895629540892,← PySem.W.Fast.te2797900513057943271,← PySem.W.Fast.te2368527892694137696,← PySem.W.Fast.te14847104347666499520,← PySem.W.Fast.te14364793385576792824,← PySem.W.Fast.te18159890868899263440] at h; exact h))
  (fun w os=>(by have h:=Zwz w os; simp only [← PySem.W.Fast.te14574945829899846032,← PySem.W.Fast.te897522592586576512,← PySem.W.Fast.te3364177927453363911,← PySem.W.Fast.te9491608239551792999,← PySem.W.Fast.te15053072615319938550,← PySem.W.Fast.te17173385231801463501,← PySem.W.Fast.te17649063868247884333,← PySem.W.Fast.te2665081048563830263,← PySem.W.Fast.te5166864615210023351,← PySem.W.Fast.te9146811602139678113,← PySem.W.Fast.te4330636226384752446,← PySem.W.Fast.te290884773970851577,← PySem.W.Fast.te9020109020722589832,← PySem.W.Fast.te11153056314078912757,← PySem.W.Fast.te15055011524645977279,← PySem.W.Fast.te15095419895629540892,← PySem.W.Fast.te2797900513057943271,← PySem.W.Fast.te2368527892694137696,← PySem.W.Fast.te14847104347666499520,← PySem.W.Fast.te14364793385576792824,← PySem.W.Fast.te18159890868899263440] at h; exact h))
  (fun w os=>(by have h:=Zw0 w os; simp only [← PySem.W.Fast.te14574945829899846032,← PySem.W.Fast.te897522592586576512,← PySem.W.Fast.te3364177927453363911,← PySem.W.Fast.te9491608239551792999,← PySem.W.Fast.te15053072615319938550,← PySem.W.Fast.te17173385231801463501,← PySem.W.Fast.te17649063868247884333,← PySem.W.Fast.te2665081048563830263,← PySem.W.Fast.te5166864615210023351,← PySem.W.Fast.te9146811602139678113,← PySem.W.Fast.te4330636226384752446,← PySem.W.Fast.te290884773970851577,← PySem.W.Fast.te9020109020722589832,← PySem.W.Fast.te11153056314078912757,← PySem.W.Fast.te15055011524645977279,← PySem.W.Fast.te15095419895629540892,← PySem.W.Fast.te2797900513057943271,← PySem.W.Fast.te2368527892694137696,← PySem.W.Fast.te14847104347666499520,← PySem.W.Fast.te14364793385576792824,← PySem.W.Fast.te18159890868899263440] at h; exact h))
  (fun w os=>(by have h:=Zw1 w os; simp only [← PySem.W.Fast.te14574945829899846032,← PySem.W.Fast.te897522592586576512,← PySem.W.Fast.te3364177927453363911,← PySem.W.Fast.te9491608239551792999,← PySem.W.Fast.te15053072615319938550,← PySem.W.Fast.te17173385231801463501,← PySem.W.Fast.te17649063868247884333,← PySem.W.Fast.te2665081048563830263,← PySem.W.Fast.te5166864615210023351,← PySem.W.Fast.te9146811602139678113,← PySem.W.Fast.te4330636226384752446,← PySem.W.Fast.te290884773970851577,← PySem.W.Fast.te9020109020722589832,← PySem.W.Fast.te11153056314078912757,← PySem.W.Fast.te15055011524645977279,← PySem.W.Fast.te15095419895629540892,← PySem.W.Fast.te2797900513057943271,← PySem.W.Fast.te2368527892694137696,← PySem.W.Fast.te14847104347666499520,← PySem.W.Fast.te14364793385576792824,← PySem.W.Fast.te18159890868899263440] at h; exact h))
  (fun w os=>(by have h:=Zw2 w os; simp only [← PySem.W.Fast.te14574945829899846032,← PySem.W.Fast.te897522592586576512,← PySem.W.Fast.te3364177927453363911,← PySem.W.Fast.te9491608239551792999,← PySem.W.Fast.te15053072615319938550,← PySem.W.Fast.te17173385231801463501,← PySem.W.Fast.te17649063868247884333,← PySem.W.Fast.te2665081048563830263,← PySem.W.Fast.te5166864615210023351,← PySem.W.Fast.te9146811602139678113,← PySem.W.Fast.te4330636226384752446,← PySem.W.Fast.te290884773970851577,← PySem.W.Fast.te9020109020722589832,← PySem.W.Fast.te11153056314078912757,← PySem.W.Fast.te15055011524645977279,← PySem.W.Fast.te15095419895629540892,← PySem.W.Fast.te2797900513057943271,← PySem.W.Fast.te2368527892694137696,← PySem.W.Fast.te14847104347666499520,← PySem.W.Fast.te14364793385576792824,← PySem.W.Fast.te18159890868899263440] at h; exact h))
  (fun w os=>(by have h:=Zw3 w os; simp only [← PySem.W.Fast.te14574945829899846032,← PySem.W.Fast.te897522592586576512,← PySem.W.Fast.te3364177927453363911,← PySem.W.Fast.te9491608239551792999,← PySem.W.Fast.te15053072615319938550,← PySem.W.Fast.te17173385231801463501,← PySem.W.Fast.te17649063868247884333,← PySem.W.Fast.te2665081048563830263,← PySem.W.Fast.te5166864615210023351,← PySem.W.Fast.te9146811602139678113,← PySem.W.Fast.te4330636226384752446,← PySem.W.Fast.te290884773970851577,← PySem.W.Fast.te9020109020722589832,← PySem.W.Fast.te11153056314078912757,← PySem.W.Fast.te15055011524645977279,← PySem.W.Fast.te15095419895629540892,← PySem.W.Fast.te2797900513057943271,← PySem.W.Fast.te2368527892694137696,← PySem.W.Fast.te14847104347666499520,← PySem.W.Fast.te14364793385576792824,← PySem.W.Fast.te18159890868899263440] at h; exact h))
  (fun w os=>(by have h:=Zw4 w os; simp only [← PySem.W.Fast.te14574945829899846032,← PySem.W.Fast.te897522592586576512,← PySem.W.Fast.te3364177927453363911,← PySem.W.Fast.te9491608239551792999,← PySem.W.Fast.te15053072615319938550,← PySem.W.Fast.te17173385231801463501,← PySem.W.Fast.te17649063868247884333,← PySem.W.Fast.te2665081048563830263,← PySem.W.Fast.te5166864615210023351,← PySem.W.Fast.te9146811602139678113,← PySem.W.Fast.te4330636226384752446,← PySem.W.Fast.te290884773970851577,← PySem.W.Fast.te9020109020722589832,← PySem.W.Fast.te11153056314078912757,← PySem.W.Fast.te15055011524645977279,← PySem.W.Fast.te15095419895629540892,← PySem.W.Fast.te2797900513057943271,← PySem.W.Fast.te2368527892694137696,← PySem.W.Fast.te14847104347666499520,← PySem.W.Fast.te14364793385576792824,← PySem.W.Fast.te18159890868899263440] at h; exact h))
  (fun w os=>(by have h:=Zw5 w os; simp only [← PySem.W.Fast.te14574945829899846032,← PySem.W.Fast.te897522592586576512,← PySem.W.Fast.te3364177927453363911,← PySem.W.Fast.te9491608239551792999,← PySem.W.Fast.te15053072615319938550,← PySem.W.Fast.te17173385231801463501,← PySem.W.Fast.te17649063868247884333,← PySem.W.Fast.te2665081048563830263,← PySem.W.Fast.te5166864615210023351,← PySem.W.Fast.te9146811602139678113,← PySem.W.Fast.te4330636226384752446,← PySem.W.Fast.te290884773970851577,← PySem.W.Fast.te9020109020722589832,← PySem.W.Fast.te11153056314078912757,← PySem.W.Fast.te15055011524645977279,← PySem.W.Fast.te15095419895629540892,← PySem.W.Fast.te2797900513057943271,← PySem.W.Fast.te2368527892694137696,← PySem.W.Fast.te14847104347666499520,← PySem.W.Fast.te14364793385576792824,← PySem.W.Fast.te18159890868899263440] at h; exact h))
 have R:=Reach.zero (p:=PySem.Challenge.rw_forsworn_k60_long_lines_of_heirs.row.prog) (w:=w) (os:=os) (by have h:=Z6y w os; simp only [← PySem.W.Fast.te14574945829899846032,← PySem.W.Fast.te897522592586576512,← PySem.W.Fast.te3364177927453363911,← PySem.W.Fast.te9491608239551792999,← PySem.W.Fast.te15053072615319938550,← PySem.W.Fast.te17173385231801463501,← PySem.W.Fast.te17649063868247884333,← PySem.W.Fast.te2665081048563830263,← PySem.W.Fast.te5166864615210023351,← PySem.W.Fast.te9146811602139678113,← PySem.W.Fast.te4330636226384752446,← PySem.W.Fast.te290884773970851577,← PySem.W.Fast.te9020109020722589832,← PySem.W.Fast.te11153056314078912757,← PySem.W.Fast.te15055011524645977279,← PySem.W.Fast.te15095419895629540892,← PySem.W.Fast.te2797900513057943271,← PySem.W.Fast.te2368527892694137696,← PySem.W.Fast.te14847104347666499520,← PySem.W.Fast.te14364793385576792824,← PySem.W.Fast.te18159890868899263440] at h; exact h) (by have h:=Z6z w os; simp only [← PySem.W.Fast.te14574945829899846032,← PySem.W.Fast.te897522592586576512,← PySem.W.Fast.te3364177927453363911,← PySem.W.Fast.te9491608239551792999,← PySem.W.Fast.te15053072615319938550,← PySem.W.Fast.te17173385231801463501,← PySem.W.Fast.te17649063868247884333,← PySem.W.Fast.te2665081048563830263,← PySem.W.Fast.te5166864615210023351,← PySem.W.Fast.te9146811602139678113,← PySem.W.Fast.te4330636226384752446,← PySem.W.Fast.te290884773970851577,← PySem.W.Fast.te9020109020722589832,← PySem.W.Fast.te11153056314078912757,← PySem.W.Fast.te15055011524645977279,← PySem.W.Fast.te15095419895629540892,← PySem.W.Fast.te2797900513057943271,← PySem.W.Fast.te2368527892694137696,← PySem.W.Fast.te14847104347666499520,← PySem.W.Fast.te14364793385576792824,← PySem.W.Fast.te18159890868899263440] at h; exact h)
 have R:=R.step 2928 14 (by have h:=Z60 w os; simp only [← PySem.W.Fast.te14574945829899846032,← PySem.W.Fast.te897522592586576512,← PySem.W.Fast.te3364177927453363911,← PySem.W.Fast.te9491608239551792999,← PySem.W.Fast.te15053072615319938550,← PySem.W.Fast.te17173385231801463501,← PySem.W.Fast.te17649063868247884333,← PySem.W.Fast.te2665081048563830263,← PySem.W.Fast.te5166864615210023351,← PySem.W.Fast.te9146811602139678113,← PySem.W.Fast.te4330636226384752446,← PySem.W.Fast.te290884773970851577,← PySem.W.Fast.te9020109020722589832,← PySem.W.Fast.te11153056314078912757,← PySem.W.Fast.te15055011524645977279,← PySem.W.Fast.te15095419895629540892,← PySem.W.Fast.te2797900513057943271,← PySem.W.Fast.te2368527892694137696,← PySem.W.Fast.te14847104347666499520,← PySem.W.Fast.te14364793385576792824,← PySem.W.Fast.te18159890868899263440] at h; exact h)
 exact R
end Law
section
set_option Elab.async false
set_option linter.all false
set_option maxRecDepth 100000
namespace L2
open PySem PySem.Spec PyProof.Rows
abbrev Key:=Sum Int Str
def Zbd:Key->Value->Bool
 | .inl k,v=>Value.isInt k v
 | .inr x,v=>Value.isStrOf x v
def Z61 (w:World):Key->Int
 | .inl k=>hashInt k
 | .inr x=>hashStr w x
theorem Uh:∀ {k:Key}{v:Value},Zbd k v=true->(∃ i t,k=Sum.inl i/\v=Value.int i t)\/(∃ x t,k=Sum.inr x/\v=Value.str x t)
 | .inl i,v,h=>by
  obtain ⟨t,e⟩:=Value.isInt_shape (k:=i) (v:=v) h
  exact .inl ⟨i,t,rfl,e⟩
 | .inr x,v,h=>by
  obtain ⟨t,e⟩:=Value.isStrOf_shape (x:=x) (v:=v) h
  exact .inr ⟨x,t,rfl,e⟩
theorem Ztn (i:Int) (t:Tok):Zbd (.inl i) (.int i t)=true:=by simp [Zbd,Value.isInt]
theorem Zto (x:Str) (t:Tok):Zbd (.inr x) (.str x t)=true:=by simp [Zbd,Value.isStrOf]
theorem Zyx (a b:Int):decide ((Sum.inl a:Key)=Sum.inl b)=(a == b):=by
 by_cases e:a=b
 ·subst e; simp
 ·have h:¬ (Sum.inl a:Key)=Sum.inl b:=fun q=>e (Sum.inl.inj q)
  rw [decide_eq_false h]
  exact (beq_eq_false_iff_ne.mpr e).symm
theorem Zyy (a b:Str):decide ((Sum.inr a:Key)=Sum.inr b)=decide (a=b):=by
 by_cases e:a=b
 ·subst e; simp
 ·have h:¬ (Sum.inr a:Key)=Sum.inr b:=fun q=>e (Sum.inr.inj q)
  rw [decide_eq_false h,decide_eq_false e]
theorem Zyz (a:Int) (b:Str):decide ((Sum.inl a:Key)=Sum.inr b)=false:=decide_eq_false (fun q=>nomatch q)
theorem Zy0 (a:Str) (b:Int):decide ((Sum.inr a:Key)=Sum.inl b)=false:=decide_eq_false (fun q=>nomatch q)
def Ym (prog:Program) (w:World):PySem.KeyKind prog w Key where
 is:=Zbd
 hash:=Z61 w
 inj:=fun v a b ha hb=>by
  rcases Uh ha with ⟨i,t,rfl,rfl⟩ | ⟨x,t,rfl,rfl⟩
  ·rcases Uh hb with ⟨j,u,rfl,e⟩ | ⟨y,u,rfl,e⟩
   ·injection e with e1 _; rw [e1]
   ·exact nomatch e
  ·rcases Uh hb with ⟨j,u,rfl,e⟩ | ⟨y,u,rfl,e⟩
   ·exact nomatch e
   ·injection e with e1 _; rw [e1]
 byValue:=fun k v h=>by
  rcases Uh h with ⟨i,t,rfl,rfl⟩ | ⟨x,t,rfl,rfl⟩ <;> rfl
 pyHash:=fun hv h=>by
  rcases Uh hv with ⟨i,t,rfl,rfl⟩ | ⟨x,t,rfl,rfl⟩
  ·exact wpAny_pyHash_int h
  ·exact wpAny_pyHash_str h
 eqBool:=fun hu hv h=>by
  rcases Uh hu with ⟨i,t,rfl,rfl⟩ | ⟨x,t,rfl,rfl⟩
  ·rcases Uh hv with ⟨j,u,rfl,rfl⟩ | ⟨y,u,rfl,rfl⟩
   ·rw [Zyx] at h; exact wpAny_eqBool_int h
   ·rw [Zyz] at h; exact SeqAt.EqAt.int_str i t y u _ _ _ _ h
  ·rcases Uh hv with ⟨j,u,rfl,rfl⟩ | ⟨y,u,rfl,rfl⟩
   ·rw [Zy0] at h; exact SeqAt.EqAt.str_int x t j u _ _ _ _ h
   ·rw [Zyy] at h; exact wpAny_eqBool_str h
 «strs»:=fun k x t v h=>by
  rcases Uh h with ⟨i,u,rfl,e⟩ | ⟨y,u,rfl,e⟩
  ·exact nomatch e
  ·injection e with e1 _
   subst e1
   cases v <;> rfl
theorem Zsd (prog:Program) (w:World) (i:Int) (t:Tok):(Ym prog w).is (.inl i) (.int i t)=true:=Ztn i t
theorem Zse (prog:Program) (w:World) (x:Str) (t:Tok):(Ym prog w).is (.inr x) (.str x t)=true:=Zto x t
end L2
namespace L2
open PySem PySem.Spec PyProof.Rows
inductive V where
 | non | bl (b:Bool) | int (i:Int) | str (x:Str) | byt (b:Array UInt8) | flt (b:UInt64) | ref (a:Addr) | ty (n:String)
 deriving DecidableEq
def RelV:V->Value->Prop
 | .non,u=>u=Value.none
 | .bl b,u=>u=Value.bool b
 | .int i,u=>∃ t,u=Value.int i t
 | .str x,u=>∃ t,u=Value.str x t
 | .byt b,u=>∃ t,u=Value.bytes b t
 | .flt b,u=>∃ t,u=Value.float b t
 | .ref a,u=>u=Value.ref a
 | .ty n,u=>u=Value.type n
abbrev Vals:List V->List Value->Prop:=Paired RelV
theorem Vals.length {xs:List V}{us:List Value}(r:Vals xs us):xs.length=us.length:=Paired.length r
theorem Vals.get:∀ {xs:List V}{us:List Value}{i:Nat}{x:V},Vals xs us->xs[i]? = some x->∃ u,us[i]? = some u/\RelV x u
 | _,_,_,_,.nil,e=>by simp at e
 | _,_,0,_,.cons r _,e=>by simp at e; subst e; exact ⟨_,rfl,r⟩
 | _,_,i+1,x,.cons _ t,e=>by
  obtain ⟨u,h1,h2⟩:=Vals.get (i:=i) (x:=x) t (by simpa using e)
  exact ⟨u,by simpa using h1,h2⟩
theorem Vals.set {x:V}{u:Value}(r:RelV x u):∀ {xs:List V}{us:List Value}(i:Nat),Vals xs us->Vals (xs.set i x) (us.set i u)
 | _,_,_,.nil=>.nil
 | _,_,0,.cons _ t=>.cons r t
 | _,_,i+1,.cons q t=>.cons q (Vals.set r i t)
theorem Vals.append:∀ {xs ys:List V}{us ws:List Value},Vals xs us->Vals ys ws->Vals (xs++ys) (us++ws)
 | _,_,_,_,.nil,s=>s
 | _,_,_,_,.cons r t,s=>.cons r (Vals.append t s)
theorem Vals.take:∀ {xs:List V}{us:List Value}(n:Nat),Vals xs us->Vals (xs.take n) (us.take n)
 | _,_,0,_=>.nil
 | _,_,_+1,.nil=>.nil
 | _,_,n+1,.cons r t=>.cons r (Vals.take n t)
theorem Vals.drop:∀ {xs:List V}{us:List Value}(n:Nat),Vals xs us->Vals (xs.drop n) (us.drop n)
 | _,_,0,r=>r
 | _,_,_+1,.nil=>.nil
 | _,_,n+1,.cons _ t=>Vals.drop n t
theorem Vals.none_of:∀ {xs:List V}{us:List Value}{i:Nat},Vals xs us->xs[i]? = none->us[i]? = none:=fun {xs us i} r e=>by
 have h1:=r.length
 have h2:xs.length<=i:=List.getElem?_eq_none_iff.mp e
 exact List.getElem?_eq_none_iff.mpr (by lia)
def RelO:Option V->Option Value->Prop
 | some v,some u=>RelV v u
 | none,none=>True
 | _,_=>False
def KV {κ:Type}:List (κ×V)->List (κ×Value)->Prop:=Paired fun (p : κ×V) (q : κ×Value)=>p.1=q.1/\RelV p.2 q.2
def kV:Key->V
 | .inl i=>.int i
 | .inr x=>.str x
inductive HO where
 | lst (xs:List V)
 | tup (xs:List V)
 | dK (kvs:List (Key×V)) | dT (kvs:List (List Key×V))
 | set (S:Int->Bool) (n:Nat)
 | ins (C dx:Addr) (fs:List (Str×V))
 | own (x:Addr)
 | xd (fs:List (Str×V))
 | met (f x:Addr)
 | rng (lo hi:Int)
 | frz (o:Obj) (u:HO)
 | tbl (ps:Array Value)
 | ext (φ:Heap->Prop)
abbrev Hp:=Addr->Option HO
def upd (H:Hp) (a:Addr) (o:HO):Hp:=fun b=>if b=a then some o else H b
theorem Zi {H:Hp}{a:Addr}{o:HO}:upd H a o a=some o:=by unfold upd; rw [if_pos rfl]
theorem Zc {H:Hp}{a b:Addr}{o:HO}(h:b≠a):upd H a o b=H b:=by unfold upd; rw [if_neg h]
theorem Z0h {H:Hp}{a b:Addr}{o u:HO}(h:H a=some o) (h':H b=some u) (d:o≠u):a≠b:=by
 intro e; subst e; rw [h] at h'; exact d (Option.some.inj h')
theorem Zh {H:Hp}{a b:Addr}{o:HO}(h:H a=some o) (h':H b=none):a≠b:=by
 intro e; subst e; rw [h] at h'; cases h'
section
variable (P:Program) (w:World)
def ObjOk (H:Hp) (h:Heap) (a:Addr):HO->Prop
 | .lst xs=>xs.length<=sizeLine/\∃ (its:List Value) (n:Nat),Vals xs its/\h.get? a=some {cls:=.type "list", data:=.seq its.toArray n }
 | .tup xs=>xs.length<=sizeLine/\∃ its:List Value,Vals xs its/\IsTup h a its.toArray
 | .dK kvs=>kvs.length<=sizeLine/\(a == sysModules)=false/\∃ vs,KV kvs vs/\h.DictOf (Ym P w) a vs
 | .dT kvs=>kvs.length<=sizeLine/\(a == sysModules)=false/\∃ xs:List (List Key×Addr×Value),
   Paired (fun (p:List Key×V) (q:List Key×Addr×Value)=>p.1=q.1/\H q.2.1=some (.tup (p.1.map kV))/\RelV p.2 q.2.2) kvs xs /\
   ∃ o es ep,h.get? a=some o/\o.ExactDict/\o.data = .dict es ep/\es.toList=xs.map (entryOfKey (tupleKind (Ym P w)))/\(xs.map (·.1)).Nodup
 | .set S n=>h.SetOf (intKind P w) a S n
 | .ins C dx fs=>H dx=some (.own a)/\fs.length<=1000/\dx≠a/\h.get? a=some (PySem.W.instObj C dx) /\
   ∃ mA,h.Ns1 dx mA/\(∀ f,RelO (fs.lookup f) (mA f))/\PySem.Within mA (fs.map (·.1))
 | .own _=>∃ o,h.get? a=some o
 | .xd fs=>∃ mA,h.Ns1 a mA/\∀ f,RelO (fs.lookup f) (mA f)
 | .rng lo hi=>∃ t u v,h.get? a=some {cls:=.type "range", data:=.fields #[.int lo t,.int hi u,.int 1 v] }
 | .frz o u=>h.get? a=some o/\ObjOk H h a u
 | .tbl ps=>∃ (qs:Array Value) (nm:Str) (t:Tok),h.get? a=some {cls:=.none,data:=.fields qs }/\TriplesOk qs.toList/\ps[0]? = some (.str nm t)/\∀ pos cv,codeAmong pos qs.toList=some cv->∃ c,cv = .ref c/\H c=some (.own a)/\h.CodeRec (.ref c) nm
 | .met f x=>h.get? a=some (PySem.W.methodObj (.ref f) (.ref x))
 | .ext φ=>φ h/\(∃ o,h.get? a=some o)/\∀ h1 h2:Heap,φ h1->(∀ o,h1.get? a=some o->h2.get? a=some o)->φ h2
def HOk (H:Hp) (h:Heap):Prop:=∀ a o,H a=some o->ObjOk P w H h a o
end
section
variable {P:Program}{w:World}{H H':Hp}{h h':Heap}{a:Addr}{o:HO}
theorem ObjOk.lt (x:ObjOk P w H h a o):a < h.objs.size:=by
 cases o with
 | lst xs=>obtain ⟨_,_,_,_,e⟩:=x; exact Heap.lt_size e
 | tup xs=>obtain ⟨_,_,_,p⟩:=x; exact p.lt
 | dK kvs=>obtain ⟨_,_,_,_,o,_,_,e,_⟩:=x; exact Heap.lt_size e
 | dT kvs=>obtain ⟨_,_,_,_,o,_,_,e,_⟩:=x; exact Heap.lt_size e
 | set S n=>obtain ⟨o,_,_,_,e,_⟩:=x; exact Heap.lt_size e
 | ins C dx fs=>obtain ⟨_,_,_,e,_⟩:=x; exact Heap.lt_size e
 | own y=>obtain ⟨_,e⟩:=x; exact Heap.lt_size e
 | xd fs=>obtain ⟨_,⟨_,_,_,e,_⟩,_⟩:=x; exact Heap.lt_size e
 | rng lo hi=>obtain ⟨_,_,_,e⟩:=x; exact Heap.lt_size e
 | frz ob u=>obtain ⟨e,_⟩:=x; exact Heap.lt_size e
 | tbl ps=>obtain ⟨_,_,_,e,_⟩:=x; exact Heap.lt_size e
 | met f y=>exact Heap.lt_size (show h.get? a=some _ from x)
 | ext φ=>obtain ⟨_,⟨_,e⟩,_⟩:=x; exact Heap.lt_size e
theorem Paired.mapP {α β:Type}{F G : α->β->Prop}:∀ {l₁:List α}{l₂:List β},Paired F l₁ l₂->(∀ a b,F a b->G a b)->Paired G l₁ l₂
 | _,_,.nil,_=>.nil
 | _,_,.cons r t,f=>.cons (f _ _ r) (Paired.mapP t f)
theorem ObjOk.stay (x:ObjOk P w H h a o) (k:∀ b u,(b=a\/H b=some (.own a))->h.get? b=some u->h'.get? b=some u)
  (ho:∀ b,H b=some (.own a)->H' b=some (.own a)) (ht:∀ b xs,H b=some (.tup xs)->H' b=some (.tup xs)):ObjOk P w H' h' a o:=by
 induction o with
 | lst xs=>obtain ⟨z,its,n,r,e⟩:=x; exact ⟨z,its,n,r,k _ _ (.inl rfl) e⟩
 | tup xs=>obtain ⟨z,its,r,ob,e,c⟩:=x; exact ⟨z,its,r,ob,k _ _ (.inl rfl) e,c⟩
 | dK kvs=>obtain ⟨z,y,vs,r,ob,es,ep,e,c⟩:=x; exact ⟨z,y,vs,r,ob,es,ep,k _ _ (.inl rfl) e,c⟩
 | dT kvs =>
  obtain ⟨z,y,xs,r,ob,es,ep,e,c⟩:=x
  exact ⟨z,y,xs,Paired.mapP r fun p q z=>⟨z.1,ht _ _ z.2.1,z.2.2⟩,ob,es,ep,k _ _ (.inl rfl) e,c⟩
 | set S n=>obtain ⟨ob,es,ep,t,e,c⟩:=x; exact ⟨ob,es,ep,t,k _ _ (.inl rfl) e,c⟩
 | ins C dx fs =>
  obtain ⟨d,z,ne,e,mA,⟨od,es,ep,e2,c⟩,r⟩:=x
  exact ⟨ho _ d,z,ne,k _ _ (.inl rfl) e,mA,⟨od,es,ep,k _ _ (.inr d) e2,c⟩,r⟩
 | own y=>obtain ⟨ob,e⟩:=x; exact ⟨ob,k _ _ (.inl rfl) e⟩
 | xd fs=>obtain ⟨mA,⟨od,es,ep,e,c⟩,r⟩:=x; exact ⟨mA,⟨od,es,ep,k _ _ (.inl rfl) e,c⟩,r⟩
 | rng lo hi=>obtain ⟨t,u,v,e⟩:=x; exact ⟨t,u,v,k _ _ (.inl rfl) e⟩
 | frz ob u ih=>obtain ⟨e,q⟩:=x; exact ⟨k _ _ (.inl rfl) e,ih q⟩
 | tbl ps =>
  obtain ⟨qs,nm,t,e,z1,z2,z3⟩:=x
  refine ⟨qs,nm,t,k a _ (.inl rfl) e,z1,z2,fun pos cv ec=>?_⟩
  obtain ⟨c,e1,e2,c2,oc,vs,tt,e3,e4,e5⟩:=z3 pos cv ec
  cases e3
  exact ⟨c,e1,ho _ e2,c,oc,vs,tt,rfl,k _ _ (.inr e2) e4,e5⟩
 | met f y =>
  have e:h.get? a=some (PySem.W.methodObj (.ref f) (.ref y)):=x
  show h'.get? a=some (PySem.W.methodObj (.ref f) (.ref y))
  exact k a _ (.inl rfl) e
 | ext φ=>obtain ⟨p,⟨o,e⟩,st⟩:=x; exact ⟨st _ _ p fun o q=>k _ _ (.inl rfl) q,⟨o,k _ _ (.inl rfl) e⟩,st⟩
theorem HOk.lt (x:HOk P w H h) (e:H a=some o):a < h.objs.size:=(x a o e).lt
theorem HOk.fresh (x:HOk P w H h) (e:h.objs.size<=a):H a=none:=by
 cases q:H a with
 | none=>rfl
 | some u=>exact absurd (Nat.lt_of_lt_of_le (x.lt q) e) (Nat.lt_irrefl _)
theorem HOk.kept (x:HOk P w H h) (k:∀ b u,h.get? b=some u->h'.get? b=some u):HOk P w H h':=fun a o e =>
 (x a o e).stay (fun b u _ q=>k b u q) (fun _ q=>q) fun _ _ q=>q
theorem HOk.laid (x:HOk P w H h) (k:∀ b u,h.get? b=some u->h'.get? b=some u) (hp:h.objs.size<=a) (new:ObjOk P w (upd H a o) h' a o):HOk P w (upd H a o) h':=fun b u e=>by
 have hn:=x.fresh hp
 by_cases hb:b=a
 ·subst hb; rw [Zi] at e; cases e; exact new
 ·rw [Zc hb] at e
  exact (x b u e).stay (fun c v _ q=>k c v q) (fun c q=>by rw [Zc (Zh q hn)]; exact q) fun c xs q=>by rw [Zc (Zh q hn)]; exact q
end
def Rd (H:Hp) (a:Addr) (u:HO):Prop:=H a=some u\/∃ o,H a=some (.frz o u)
theorem Rd.ok {P:Program}{w:World}{H:Hp}{h:Heap}{a:Addr}{u:HO}(r:Rd H a u) (x:HOk P w H h):ObjOk P w H h a u:=by
 rcases r with r | ⟨o,r⟩
 ·exact x a u r
 ·obtain ⟨_,q⟩:=x a _ r
  exact q
def Mut:Option HO->Prop
 | some (.lst _)=>True
 | some (.dK _)=>True
 | some (.dT _)=>True
 | some (.set _ _)=>True
 | some (.ins _ _ _)=>True
 | some (.ext _)=>True
 | _=>False
section
variable {P:Program}{w:World}{H:Hp}{h h':Heap}{x e:Addr}{o':HO}
theorem HOk.write (ok:HOk P w H h) (mu:Mut (H x)) (he:e=x\/H e=some (.own x)) (k:∀ b u,b≠e->h.get? b=some u->h'.get? b=some u) (heo:∃ u,h'.get? e=some u)
  (new:ObjOk P w (upd H x o') h' x o'):HOk P w (upd H x o') h':=fun b u q=>by
 have nown:∀ c y,H c=some (.own y)->c≠x:=fun c y r z=>by subst z; rw [r] at mu; exact mu
 have ntup:∀ c xs,H c=some (.tup xs)->c≠x:=fun c xs r z=>by subst z; rw [r] at mu; exact mu
 by_cases hb:b=x
 ·subst hb; rw [Zi] at q; cases q; exact new
 ·rw [Zc hb] at q
  by_cases hbe:b=e
  ·have q':H b=some (.own x):=by
    rcases he with z | z
    ·exact absurd (hbe.trans z) hb
    ·rw [hbe]; exact z
   rw [q] at q'; cases q'
   obtain ⟨v,hv⟩:=heo
   exact ⟨v,by rw [hbe]; exact hv⟩
  ·refine (ok b u q).stay (fun c v hc r=>k c v ?_ r) (fun c r=>by rw [Zc (nown c b r)]; exact r) fun c xs r=>by rw [Zc (ntup c xs r)]; exact r
   rcases hc with rfl | hc
   ·exact hbe
   ·rintro rfl
    rcases he with z | z
    ·exact nown c b hc z
    ·rw [hc] at z; cases z; exact hb rfl
end
structure Un (fs ex:List Addr) (H H':Hp) (h h':Heap):Prop where
 keep:∀ b o,h.get? b=some o->H b=none->b∉fs->b∉ex->h'.get? b=some o
 slot:∀ b o,h.get? b=some o->H b=none->b∈fs->b∉ex->∃ sl,h'.get? b=some {o with slots:=sl }
 free:∀ b o,h.get? b=some o->H b=none->b∉ex->H' b=none
 there:∀ b o,h.get? b=some o->b∉ex->∃ o',h'.get? b=some o'
 tups:∀ b xs,H b=some (.tup xs)->H' b=some (.tup xs)
 frzs:∀ b o u,H b=some (.frz o u)->H' b=some (.frz o u)
 tbls:∀ b ps,H b=some (.tbl ps)->∃ more,H' b=some (.tbl (ps++more))
section
variable {fs fs' ex ex':List Addr}{H H1 H2:Hp}{h h1 h2 h':Heap}{a x e:Addr}{o:HO}
theorem Un.any (u:Un fs ex H H1 h h1) {b:Addr}{ob:Obj}(q:h.get? b=some ob) (n:H b=none) (hx:b∉ex):∃ sl,h1.get? b=some {ob with slots:=sl }:=by
 by_cases hb:b∈fs
 ·exact u.slot b ob q n hb hx
 ·exact ⟨ob.slots,u.keep b ob q n hb hx⟩
theorem Un.kept (k:∀ b u,h.get? b=some u->h'.get? b=some u):Un fs ex H H h h' :=
 ⟨fun b ob q _ _ _=>k b ob q,fun b ob q _ _ _=>⟨ob.slots,k b ob q⟩,fun _ _ _ n _=>n,fun b ob q _=>⟨ob,k b ob q⟩,fun _ _ q=>q,fun _ _ _ q=>q,fun _ ps q=>⟨#[],by rw [q]; simp⟩⟩
theorem Un.refl:Un fs ex H H h h:=Un.kept fun _ _ q=>q
theorem Un.laid (k:∀ b u,h.get? b=some u->h'.get? b=some u) (hp:h.objs.size<=a) (hn:H a=none):Un fs ex H (upd H a o) h h' where
 keep:=fun b u q _ _ _=>k b u q
 slot:=fun b u q _ _ _=>⟨u.slots,k b u q⟩
 free:=fun b u q n _=>by rw [Zc (Nat.ne_of_lt (Nat.lt_of_lt_of_le (Heap.lt_size q) hp))]; exact n
 there:=fun b u q _=>⟨u,k b u q⟩
 tups:=fun b xs q=>by rw [Zc (Zh q hn)]; exact q
 frzs:=fun b u xs q=>by rw [Zc (Zh q hn)]; exact q
 tbls:=fun b ps q=>⟨#[],by rw [Zc (Zh q hn),q]; simp⟩
theorem Un.write (mu:Mut (H x)) (he:e=x\/H e=some (.own x)) (k:∀ b u,b≠e->h.get? b=some u->h'.get? b=some u) (heo:∃ u,h'.get? e=some u):Un fs ex H (upd H x o) h h':=by
 have hx:∀ b,H b=none->b≠x:=fun b n z=>by subst z; rw [n] at mu; exact mu
 have hb:∀ b,H b=none->b≠e:=fun b n z=>by
  subst z
  rcases he with r | r
  ·exact hx b n r
  ·rw [n] at r; cases r
 have hm:∀ b u,H b=some u->¬ Mut (some u)->b≠x:=fun b u q nm z=>by subst z; rw [q] at mu; exact nm mu
 refine ⟨fun b u q n _ _=>k b u (hb b n) q,fun b u q n _ _=>⟨u.slots,k b u (hb b n) q⟩,fun b u q n _=>by rw [Zc (hx b n)]; exact n,fun b u q _=>?_,
  fun b xs q=>by rw [Zc (hm b _ q fun z=>z)]; exact q,fun b u xs q=>by rw [Zc (hm b _ q fun z=>z)]; exact q,fun b ps q=>⟨#[],by rw [Zc (hm b _ q fun z=>z),q]; simp⟩⟩
 by_cases hbe:b=e
 ·subst hbe; exact heo
 ·exact ⟨u,k b u hbe q⟩
end
def trk (h:Heap) (H:Hp):List Addr:=(List.range h.objs.size).filter fun a=>(H a).isSome
def Ui (h:Heap) (H:Hp):Heap:=PySem.W.hideAll h (trk h H)
theorem Ztp (h:Heap) (H:Hp):(Ui h H).objs.size=h.objs.size:=PySem.W.hideAll_size _ _
theorem Zu1 {h:Heap}{H:Hp}{b:Addr}{o:Obj}(e:h.get? b=some o) (n:H b=none):(Ui h H).get? b=some o :=
 PySem.W.hideAll_get _ e fun hm=>by
  have q:(H b).isSome=true:=(List.mem_filter.mp hm).2
  rw [n] at q; simp at q
theorem Zw6 {h:Heap}{H:Hp}{b:Addr}{o:Obj}(e:(Ui h H).get? b=some o):h.get? b=some o/\H b=none:=by
 have e':h.get? b=some o:=PySem.W.of_hideAll (trk h H) e
 refine ⟨e',?_⟩
 cases q:H b with
 | none=>rfl
 | some x =>
  have hm:b∈trk h H:=List.mem_filter.mpr ⟨List.mem_range.mpr (Heap.lt_size e'),by simp [q]⟩
  have z:(Ui h H).get? b=none:=PySem.W.hideAll_none (trk h H) hm
  rw [z] at e; cases e
end L2
namespace L2
open PySem PySem.Spec PyProof.Rows
structure Mod (K:PySem.W.Frag) (mg:Str->Option Value) (base:Heap):Prop where
 kin:K.In base
 glob:base.Ns mainGlobals mg
 blt:∃ mb,base.Ns builtinsNs mb/\∀ x:Str,x ≠ "__name__" -> mb x=bootBuiltins x
 nolimit:base.NoLimit
/-- the context: a def's body (or a comprehension's block) running. base: fixed through the whole law; s₀,H₀: the entry; outer: the frames whose slots others may change (a def's callers); stack: all frames that run;
   ex: iterators that were made ahead of the entry and are walked here (a comprehension's); fn: the names whose cells were made at the entry (a def: all; a comprehension's block: its own); calm: not within an except suite; pn: pins that every state bears; xe: what is wanted of an exception that leaves the code -/
structure Cx where
 prog:Program
 w:World
 K:PySem.W.Frag
 mg:Str->Option Value
 base:Heap
 A:Around
 N:List Str
 s₀:Shared
 H₀:Hp
 env:Env
 outer:List Env
 stack:List Env
 ex:List Addr
 fn:Str->Bool
 calm:Bool
 pn:List (Addr×Obj)
 xe:Value->Shared->Prop
def frs (l:List Env):List Addr:=l.filterMap (·.frame)
abbrev Cx.fs (X:Cx):List Addr:=frs X.outer
def Vis (sc:Scope) (x:Str):Prop:=sc.names.lookup x=some .local\/sc.names.lookup x=some .cell\/sc.names.lookup x=some .free
def Loc (sc:Scope) (x:Str):Prop:=sc.names.lookup x=some .local\/sc.names.lookup x=some .cell
def Z62 (env:Env) (h:Heap) (m:Str->Option Value) (x:Str) (u:Value):Prop :=
 (env.kindOf x=some .local/\m x=some u)\/((env.kindOf x=some .cell\/env.kindOf x=some .free)/\∃ c,env.cells.lookup x=some c/\h.IsCell c (some u))
structure Cx.Ok (X:Cx):Prop where
 mod:Mod X.K X.mg X.base
 kind:X.env.scope.kind = .function
 glob:X.env.globals=mainGlobals
 blt:X.env.builtins=builtinsNs
 above:X.s₀.heap.objs.size<=X.env.locals
 inj:∀ x y c,X.env.cells.lookup x=some c->X.env.cells.lookup y=some c->x=y
 has:∀ x,(X.env.kindOf x=some .cell\/X.env.kindOf x=some .free)->∃ c,X.env.cells.lookup x=some c
 cab:∀ x c,X.fn x=true->X.env.cells.lookup x=some c->X.s₀.heap.objs.size<=c
 hd:X.calm=true->X.A.handled=none
 frames:X.A.frames=some X.stack
 stk:X.stack=X.outer\/(X.stack=X.env::X.outer/\X.env.frame=some X.env.locals)
 exf:∀ b∈X.ex,b≠X.env.locals/\∀ x c,X.env.cells.lookup x=some c->c≠b
 bs:∀ b o,X.base.get? b=some o->X.s₀.heap.get? b=some o/\X.H₀ b=none
 bsz:X.base.objs.size<=X.s₀.heap.objs.size
 noex:∀ b o,X.base.get? b=some o->b∉X.ex
 exfs:∀ b∈X.ex,b∉X.fs
 funs:X.s₀.heap.FunFrames X.base X.outer
 frf:∀ b∈X.fs,X.H₀ b=none
structure Inv (X:Cx) (pins:List (Addr×Obj)) (σ:List (Option V)) (H:Hp) (s:Shared):Prop where
 ok:X.Ok
 os:s.os=X.s₀.os
 bare:AllBare s.gens
 base:Un X.fs X.ex X.H₀ H X.s₀.heap s.heap
 loc:∃ m,s.heap.Ns X.env.locals m/\∀ (i:Nat) (x:Str) (v:V),X.N[i]? = some x->σ[i]? = some (some v)->Vis X.env.scope x->∃ u,RelV v u/\Z62 X.env s.heap m x u
 cell:∀ x c,X.env.cells.lookup x=some c->∃ v,s.heap.IsCell c v
 free:H X.env.locals=none
 freeC:∀ x c,X.env.cells.lookup x=some c->H c=none
 pin:∀ p∈X.pn++pins,s.heap.get? p.1=some p.2/\H p.1=none/\p.1≠X.env.locals/\p.1∉X.fs/\∀ v,p.2.data ≠ .cell v
 hok:HOk X.prog X.w H s.heap
 len : σ.length=X.N.length
section
variable {X:Cx}{pins:List (Addr×Obj)}{σ:List (Option V)}{H H':Hp}{s:Shared}{h':Heap}
theorem Cx.Ok.nofr (ok:X.Ok) {b:Addr}{o:Obj}(e:X.base.get? b=some o):b∉X.fs:=fun hb=>by
 have:=(ok.funs.mem hb).1
 rw [e] at this; cases this
theorem Inv.bs (I:Inv X pins σ H s):∀ b o,X.base.get? b=some o->s.heap.get? b=some o/\H b=none:=fun b o e =>
 ⟨I.base.keep b o (I.ok.bs b o e).1 (I.ok.bs b o e).2 (I.ok.nofr e) (I.ok.noex b o e),I.base.free b o (I.ok.bs b o e).1 (I.ok.bs b o e).2 (I.ok.noex b o e)⟩
theorem Inv.bk (I:Inv X pins σ H s):∀ b o,X.base.get? b=some o->s.heap.get? b=some o:=fun b o e=>(I.bs b o e).1
theorem Inv.mod (I:Inv X pins σ H s):Mod X.K X.mg X.base:=I.ok.mod
theorem Inv.kIn (I:Inv X pins σ H s):X.K.In s.heap:=I.ok.mod.kin.keeps I.bk
theorem Inv.lt (I:Inv X pins σ H s):X.env.locals < s.heap.objs.size:=let ⟨_,hn,_⟩:=I.loc; hn.lt
theorem Inv.sz (I:Inv X pins σ H s):X.s₀.heap.objs.size<=s.heap.objs.size:=Nat.le_trans I.ok.above (Nat.le_of_lt I.lt)
theorem Inv.nofs (I:Inv X pins σ H s) {a:Addr}(h:s.heap.objs.size<=a):a∉X.fs:=fun hb=>by
 obtain ⟨_,o,ho,_⟩:=I.ok.funs.mem hb
 exact absurd (Nat.lt_of_lt_of_le (Heap.lt_size ho) (Nat.le_trans I.sz h)) (Nat.lt_irrefl _)
theorem Inv.cne (I:Inv X pins σ H s):∀ x c,X.env.cells.lookup x=some c->c≠X.env.locals:=fun x c e z=>by
 obtain ⟨v,o,ho,hd⟩:=I.cell x c e
 obtain ⟨m,⟨o',es,ep,ho',hd',_⟩,_⟩:=I.loc
 rw [z,ho'] at ho; cases ho; rw [hd'] at hd; cases hd
theorem Inv.funs (I:Inv X pins σ H s):s.heap.FunFrames X.base X.outer:=by
 have all:∀ (l:List Env),(∀ b∈frs l,b∈X.fs)->X.s₀.heap.FunFrames X.base l->s.heap.FunFrames X.base l:=by
  intro l
  induction l with
  | nil=>intro _ _; trivial
  | cons env r ih =>
   intro hs hl
   obtain ⟨hk,⟨L,o,hf,hn,ho,hd⟩,hr⟩:=hl
   have hL:L∈X.fs:=hs L (by unfold frs; rw [List.filterMap_cons,hf]; exact List.mem_cons_self)
   obtain ⟨sl,e⟩:=I.base.slot L o ho (I.ok.frf L hL) hL fun z=>I.ok.exfs L z hL
   exact ⟨hk,⟨L,_,hf,hn,e,hd⟩,ih (fun b hb=>hs b (by unfold frs; rw [List.filterMap_cons,hf]; exact List.mem_cons_of_mem _ hb)) hr⟩
 exact all X.outer (fun _ hb=>hb) I.ok.funs
theorem Inv.stack (I:Inv X pins σ H s):s.heap.FunFrames X.base X.stack:=by
 rcases I.ok.stk with e | ⟨e,hf⟩
 ·rw [e]; exact I.funs
 ·rw [e]
  obtain ⟨m,hn,_⟩:=I.loc
  refine .cons (by rw [I.ok.kind]; decide) hf hn ?_ I.funs
  exact Heap.get?_none_of_le (Nat.le_trans I.ok.bsz I.ok.above)
theorem Inv.stkSub (I:Inv X pins σ H s):∀ b∈frs X.stack,b∈X.env.locals::X.fs:=fun b hb=>by
 rcases I.ok.stk with e | ⟨e,hf⟩
 ·rw [e] at hb; exact List.mem_cons_of_mem _ hb
 ·rw [e] at hb
  unfold frs at hb
  rw [List.filterMap_cons,hf] at hb
  exact hb
theorem Inv.stkFree (I:Inv X pins σ H s):∀ b∈frs X.stack,H b=none:=fun b hb=>by
 rcases List.mem_cons.mp (I.stkSub b hb) with e | hb
 ·rw [e]; exact I.free
 ·obtain ⟨_,o,ho,_⟩:=I.ok.funs.mem hb
  exact I.base.free b o ho (I.ok.frf b hb) fun z=>I.ok.exfs b z hb
theorem Inv.step {g':Array GenState}{t':Nat}{d':Drawn}{ch:List Addr}(I:Inv X pins σ H s)
  (hch:∀ b∈ch,(b∈X.ex\/X.s₀.heap.objs.size<=b)/\b≠X.env.locals/\(∀ x c,X.env.cells.lookup x=some c->c≠b)/\∀ p∈X.pn++pins,p.1≠b)
  (keep:∀ b o,b≠X.env.locals->b∉X.fs->b∉ch->s.heap.get? b=some o->H b=none->h'.get? b=some o)
  (slot:∀ b o,b≠X.env.locals->b∈X.fs->b∉ch->s.heap.get? b=some o->H b=none->∃ sl,h'.get? b=some {o with slots:=sl }) (free:∀ b o,b∉ch->s.heap.get? b=some o->H b=none->H' b=none)
  (there:∀ b o,b∉ch->s.heap.get? b=some o->∃ o',h'.get? b=some o')
  (tups:∀ b xs,H b=some (.tup xs)->H' b=some (.tup xs)) (frzs:∀ b o u,H b=some (.frz o u)->H' b=some (.frz o u)) (tbls:∀ b ps,H b=some (.tbl ps)->∃ more,H' b=some (.tbl (ps++more)))
  (ns:∀ m,s.heap.Ns X.env.locals m->h'.Ns X.env.locals m) (hok:HOk X.prog X.w H' h') (hg:AllBare g') :
  Inv X pins σ H' {s with heap:=h',gens:=g',drawn:=d',toks:=t' }:=by
 have neL:∀ b o,X.s₀.heap.get? b=some o->b≠X.env.locals:=fun b o e=>Nat.ne_of_lt (Nat.lt_of_lt_of_le (Heap.lt_size e) I.ok.above)
 have neC:∀ b o,X.s₀.heap.get? b=some o->b∉X.ex->b∉ch:=fun b o e hx hb=>by
  rcases (hch b hb).1 with z | z
  ·exact hx z
  ·exact absurd (Nat.lt_of_lt_of_le (Heap.lt_size e) z) (Nat.lt_irrefl _)
 have cellK:∀ x c,X.env.cells.lookup x=some c->∀ v,s.heap.IsCell c v->h'.IsCell c v:=fun x c e v ⟨o,ho,hd⟩=>by
  have nch:c∉ch:=fun z=>(hch c z).2.2.1 x c e rfl
  by_cases hc:c∈X.fs
  ·obtain ⟨sl,q⟩:=slot c o (I.cne x c e) hc nch ho (I.freeC x c e)
   exact ⟨_,q,hd⟩
  ·exact ⟨o,keep c o (I.cne x c e) hc nch ho (I.freeC x c e),hd⟩
 refine ⟨I.ok,I.os,hg,⟨fun b o e n hb hx=>?_,fun b o e n hb hx=>?_,fun b o e n hx=>?_,fun b o e hx=>?_,fun b xs e=>tups b xs (I.base.tups b xs e),fun b o xs e=>frzs b o xs (I.base.frzs b o xs e),fun b ps e=>?_⟩,?_,fun x c e=>?_,?_,fun x c e=>?_,fun p hp=>?_,hok,I.len⟩
 ·exact keep b o (neL b o e) hb (neC b o e hx) (I.base.keep b o e n hb hx) (I.base.free b o e n hx)
 ·obtain ⟨sl,e1⟩:=I.base.slot b o e n hb hx
  obtain ⟨sl',e2⟩:=slot b _ (neL b o e) hb (neC b o e hx) e1 (I.base.free b o e n hx)
  exact ⟨sl',e2⟩
 ·obtain ⟨o',e1⟩:=I.base.there b o e hx
  exact free b o' (neC b o e hx) e1 (I.base.free b o e n hx)
 ·obtain ⟨o',e1⟩:=I.base.there b o e hx
  exact there b o' (neC b o e hx) e1
 ·obtain ⟨m1,e1⟩:=I.base.tbls b ps e
  obtain ⟨m2,e2⟩:=tbls b _ e1
  exact ⟨m1++m2,by rw [e2,Array.append_assoc]⟩
 ·obtain ⟨m,hn,hl⟩:=I.loc
  refine ⟨m,ns m hn,fun i x v e1 e2 e3=>?_⟩
  obtain ⟨u,r,l⟩:=hl i x v e1 e2 e3
  refine ⟨u,r,?_⟩
  rcases l with l | ⟨k,c,e,z⟩
  ·exact .inl l
  ·exact .inr ⟨k,c,e,cellK x c e _ z⟩
 ·obtain ⟨v,z⟩:=I.cell x c e
  exact ⟨v,cellK x c e v z⟩
 ·obtain ⟨m,⟨o,_,_,ho,_⟩,_⟩:=I.loc
  exact free _ o (fun z=>(hch _ z).2.1 rfl) ho I.free
 ·obtain ⟨v,o,ho,hd⟩:=I.cell x c e
  exact free c o (fun z=>(hch c z).2.2.1 x c e rfl) ho (I.freeC x c e)
 ·obtain ⟨e,n,ne,nf,d⟩:=I.pin p hp
  have nch:p.1∉ch:=fun z=>(hch p.1 z).2.2.2 p hp rfl
  exact ⟨keep p.1 p.2 ne nf nch e n,free p.1 p.2 nch e n,ne,nf,d⟩
theorem Inv.un {t':Nat}(I:Inv X pins σ H s) (u:Un X.fs [] H H' s.heap h') (hok:HOk X.prog X.w H' h'):Inv X pins σ H' {s with heap:=h',toks:=t' }:=by
 obtain ⟨m,⟨o,es,ep,ho,r⟩,_⟩:=id I.loc
 obtain ⟨sl,hL⟩:=u.any ho I.free (by simp)
 exact I.step (g':=s.gens) (d':=s.drawn) (ch:=[]) (fun _ z=>nomatch z) (fun b o _ hb _ e n=>u.keep b o e n hb (by simp)) (fun b o _ hb _ e n=>u.slot b o e n hb (by simp)) (fun b o _ e n=>u.free b o e n (by simp)) (fun b o _ e=>u.there b o e (by simp)) u.tups u.frzs u.tbls (fun m' hm=>by
  obtain ⟨o',es',ep',ho',r'⟩:=hm
  rw [ho] at ho'; cases ho'
  exact ⟨_,es',ep',hL,r'⟩) hok I.bare
theorem Inv.call {g':Array GenState}{t':Nat}{d':Drawn}{ch:List Addr}(I:Inv X pins σ H s) (u:Un (frs X.stack) ch H H' s.heap h') (hok:HOk X.prog X.w H' h') (hg:AllBare g')
  (hch:∀ b∈ch,(b∈X.ex\/X.s₀.heap.objs.size<=b)/\b≠X.env.locals/\(∀ x c,X.env.cells.lookup x=some c->c≠b)/\∀ p∈X.pn++pins,p.1≠b) :
  Inv X pins σ H' {s with heap:=h',gens:=g',drawn:=d',toks:=t' }:=by
 obtain ⟨m,⟨o,es,ep,ho,r⟩,_⟩:=id I.loc
 obtain ⟨sl,hL⟩:=u.any ho I.free fun z=>(hch _ z).2.1 rfl
 exact I.step (ch:=ch) hch (fun b o hL hb hc e n=>u.keep b o e n (fun z=>(List.mem_cons.mp (I.stkSub b z)).elim hL hb) hc) (fun b o _ _ hc e n=>u.any e n hc) (fun b o hc e n=>u.free b o e n hc) (fun b o hc e=>u.there b o e hc) u.tups u.frzs u.tbls (fun m' hm=>by
  obtain ⟨o',es',ep',ho',r'⟩:=hm
  rw [ho] at ho'; cases ho'
  exact ⟨_,es',ep',hL,r'⟩) hok hg
theorem Inv.turned {t':Nat}{it:Addr}(I:Inv X pins σ H s) (k:∀ b o,b≠it->s.heap.get? b=some o->h'.get? b=some o) (hn:H it=none) (hL:it≠X.env.locals)
  (h1:it∈X.ex\/X.s₀.heap.objs.size<=it) (h2:∀ x c,X.env.cells.lookup x=some c->c≠it) (h3:∀ p∈X.pn++pins,p.1≠it):Inv X pins σ H {s with heap:=h',toks:=t' }:=by
 have nit:∀ b u,H b=some u->b≠it:=fun b u e z=>by rw [z,hn] at e; cases e
 refine I.step (g':=s.gens) (d':=s.drawn) (ch:=[it]) (fun b hb=>?_) (fun b o _ _ hc e _=>k b o (fun z=>hc (by simp [z])) e) (fun b o _ _ hc e _=>⟨o.slots,k b o (fun z=>hc (by simp [z])) e⟩) (fun _ _ _ _ n=>n)
  (fun b o hc e=>⟨o,k b o (fun z=>hc (by simp [z])) e⟩) (fun _ _ e=>e) (fun _ _ _ e=>e) (fun b ps e=>⟨#[],by rw [e]; simp⟩) (fun m hm=>?_) (fun b u e=>?_) I.bare
 ·have e:b=it:=by simpa using hb
  subst e
  exact ⟨h1,hL,h2,h3⟩
 ·obtain ⟨o,es,ep,ho,r⟩:=hm
  exact ⟨o,es,ep,k _ o (Ne.symm hL) ho,r⟩
 ·refine (I.hok b u e).stay (fun c v hc q=>k c v ?_ q) (fun _ q=>q) fun _ _ q=>q
  rcases hc with z | z
  ·rw [z]; exact nit b u e
  ·exact nit c _ z
theorem Inv.tok (I:Inv X pins σ H s) (t:Nat):Inv X pins σ H {s with toks:=t }:=I.un (h':=s.heap) (t':=t) Un.refl I.hok
theorem Inv.kept {t':Nat}(I:Inv X pins σ H s) (k:∀ b u,s.heap.get? b=some u->h'.get? b=some u):Inv X pins σ H {s with heap:=h',toks:=t' }:=I.un (Un.kept k) (I.hok.kept k)
theorem Inv.laid {a:Addr}{o:HO}{t':Nat}(I:Inv X pins σ H s) (k:∀ b u,s.heap.get? b=some u->h'.get? b=some u) (hp:s.heap.objs.size<=a) (new:ObjOk X.prog X.w (upd H a o) h' a o) :
  Inv X pins σ (upd H a o) {s with heap:=h',toks:=t' }:=I.un (Un.laid k hp (I.hok.fresh hp)) (I.hok.laid k hp new)
theorem Inv.write {x e:Addr}{o:HO}{t':Nat}(I:Inv X pins σ H s) (mu:Mut (H x)) (he:e=x\/H e=some (.own x)) (k:∀ b u,b≠e->s.heap.get? b=some u->h'.get? b=some u) (heo:∃ u,h'.get? e=some u)
  (new:ObjOk X.prog X.w (upd H x o) h' x o):Inv X pins σ (upd H x o) {s with heap:=h',toks:=t' }:=I.un (Un.write mu he k heo) (I.hok.write mu he k heo new)
theorem Inv.pins_of {pins':List (Addr×Obj)}(I:Inv X pins σ H s) (h:∀ p∈pins',s.heap.get? p.1=some p.2/\H p.1=none/\p.1≠X.env.locals/\p.1∉X.fs/\∀ v,p.2.data ≠ .cell v):Inv X pins' σ H s :=
 ⟨I.ok,I.os,I.bare,I.base,I.loc,I.cell,I.free,I.freeC,fun p hp=>(List.mem_append.mp hp).elim (fun z=>I.pin p (List.mem_append_left _ z)) (h p),I.hok,I.len⟩
theorem Zlv {N:List Str}(hN:N.Nodup) {i j:Nat}{x:Str}(a:N[i]? = some x) (b:N[j]? = some x):i=j:=by
 obtain ⟨h1,e1⟩:=List.getElem?_eq_some_iff.mp a
 obtain ⟨h2,e2⟩:=List.getElem?_eq_some_iff.mp b
 exact (List.getElem_inj hN).mp (e1.trans e2.symm)
theorem Ztq {M:Model}{A:Around}{E:Value->Shared->Prop}{i:Nat}{x:Str}{v:V}{u:Value}{Q:Unit->Shared->Prop}(I:Inv X pins σ H s) (hN:X.N.Nodup) (hi:X.N[i]? = some x) (hx:Loc X.env.scope x) (r:RelV v u)
  (h:∀ s',Inv X pins (σ.set i (some v)) H s'->(∃ a,Heap.SameBut a s.heap s'.heap/\(a=X.env.locals\/X.env.cells.lookup x=some a))->Q () s') (hf:X.fn x=true\/X.env.scope.names.lookup x=some .local:=by first | exact .inl rfl | exact .inr rfl | assumption):wpAny M A (storeName X.env x u) Q E s:=by
 obtain ⟨m,hn,hl⟩:=id I.loc
 have hcls:(X.env.scope.kind == .class || (X.env.scope.kind == .module && X.env.locals != X.env.globals))=false:=by rw [I.ok.kind]; rfl
 have hiσ:i < σ.length:=by rw [I.len]; exact (List.getElem?_eq_some_iff.mp hi).1
 have cne:=I.cne
 have tracked:∀ {a:Addr}{h':Heap},(∃ o,s.heap.get? a=some o/\H a=none)->Heap.SameBut a s.heap h'->HOk X.prog X.w H h':=fun {a h'} ha hs b ob e=>by
  obtain ⟨_,_,hfree⟩:=ha
  refine (I.hok b ob e).stay (fun c w' hc q=>(hs.2 c ?_).trans q) (fun _ q=>q) fun _ _ q=>q
  rintro rfl
  rcases hc with rfl | hc
  ·rw [hfree] at e; cases e
  ·rw [hfree] at hc; cases hc
 rcases hx with hk | hk
 ·refine wpAny_storeName_local hk hn (fun h' hn' hs=>?_) hcls
  obtain ⟨oL,_,_,hoL,_⟩:=id hn
  refine h _ ⟨I.ok,I.os,I.bare,⟨fun b o e n hb hx=>?_,fun b o e n hb hx=>?_,I.base.free,fun b o e hx=>?_,I.base.tups,I.base.frzs,I.base.tbls⟩,⟨_,hn',fun j y v' e1 e2 e3=>?_⟩,fun y c e=>?_,I.free,I.freeC,fun p hp=>?_,tracked ⟨oL,hoL,I.free⟩ hs,by simpa using I.len⟩ ⟨_,hs,.inl rfl⟩
  ·exact (hs.2 b (Nat.ne_of_lt (Nat.lt_of_lt_of_le (Heap.lt_size e) I.ok.above))).trans (I.base.keep b o e n hb hx)
  ·obtain ⟨sl,e1⟩:=I.base.slot b o e n hb hx
   exact ⟨sl,(hs.2 b (Nat.ne_of_lt (Nat.lt_of_lt_of_le (Heap.lt_size e) I.ok.above))).trans e1⟩
  ·obtain ⟨o',e1⟩:=I.base.there b o e hx
   exact ⟨o',(hs.2 b (Nat.ne_of_lt (Nat.lt_of_lt_of_le (Heap.lt_size e) I.ok.above))).trans e1⟩
  ·by_cases hj:j=i
   ·subst hj
    rw [hi] at e1; cases e1
    rw [List.getElem?_set_self hiσ] at e2
    cases e2
    exact ⟨u,r,.inl ⟨hk,by simp⟩⟩
   ·rw [List.getElem?_set_ne (Ne.symm hj)] at e2
    obtain ⟨u',r',q⟩:=hl j y v' e1 e2 e3
    refine ⟨u',r',?_⟩
    rcases q with ⟨k,e⟩ | ⟨k,c,e,z⟩
    ·refine .inl ⟨k,?_⟩
     have:y≠x:=fun e=>hj (Zlv hN e1 (e▸hi))
     simp [this,e]
    ·exact .inr ⟨k,c,e,z.sameBut hs (cne y c e)⟩
  ·obtain ⟨w',z⟩:=I.cell y c e
   exact ⟨w',z.sameBut hs (cne y c e)⟩
  ·obtain ⟨e,n,ne,nf,d⟩:=I.pin p hp
   exact ⟨(hs.2 p.1 ne).trans e,n,ne,nf,d⟩
 ·have hfn:X.fn x=true:=by
   rcases hf with z | z
   ·exact z
   ·rw [z] at hk; cases hk
  obtain ⟨c,hc⟩:=I.ok.has x (.inl hk)
  obtain ⟨w',z⟩:=I.cell x c hc
  refine wpAny_storeName_cell I.ok.kind hk hc z (fun h' hc' hs=>?_)
  obtain ⟨oc,hoc,hocd⟩:=id z
  refine h {s with heap:=h' } ⟨I.ok,I.os,I.bare,⟨fun b o e n hb hx=>?_,fun b o e n hb hx=>?_,I.base.free,fun b o e hx=>?_,I.base.tups,I.base.frzs,I.base.tbls⟩,⟨m,hn.sameBut hs (Ne.symm (cne x c hc)),fun j y v' e1 e2 e3=>?_⟩,fun y c' e=>?_,I.free,I.freeC,fun p hp=>?_,tracked ⟨oc,hoc,I.freeC x c hc⟩ hs,by simpa using I.len⟩ ⟨c,hs,.inr hc⟩
  ·exact (hs.2 b (Nat.ne_of_lt (Nat.lt_of_lt_of_le (Heap.lt_size e) (I.ok.cab x c hfn hc)))).trans (I.base.keep b o e n hb hx)
  ·obtain ⟨sl,e1⟩:=I.base.slot b o e n hb hx
   exact ⟨sl,(hs.2 b (Nat.ne_of_lt (Nat.lt_of_lt_of_le (Heap.lt_size e) (I.ok.cab x c hfn hc)))).trans e1⟩
  ·obtain ⟨o',e1⟩:=I.base.there b o e hx
   exact ⟨o',(hs.2 b (Nat.ne_of_lt (Nat.lt_of_lt_of_le (Heap.lt_size e) (I.ok.cab x c hfn hc)))).trans e1⟩
  ·by_cases hj:j=i
   ·subst hj
    rw [hi] at e1; cases e1
    rw [List.getElem?_set_self hiσ] at e2
    cases e2
    exact ⟨u,r,.inr ⟨.inl hk,c,hc,hc'⟩⟩
   ·rw [List.getElem?_set_ne (Ne.symm hj)] at e2
    obtain ⟨u',r',q⟩:=hl j y v' e1 e2 e3
    refine ⟨u',r',?_⟩
    rcases q with q | ⟨k,c',e,z'⟩
    ·exact .inl q
    ·refine .inr ⟨k,c',e,z'.sameBut hs ?_⟩
     rintro rfl
     exact hj (Zlv hN e1 (I.ok.inj _ _ _ e hc▸hi))
  ·by_cases hcc:c'=c
   ·subst hcc; exact ⟨_,hc'⟩
   ·obtain ⟨w2,z2⟩:=I.cell y c' e
    exact ⟨w2,z2.sameBut hs hcc⟩
  ·obtain ⟨e,n,ne,nf,d⟩:=I.pin p hp
   refine ⟨(hs.2 p.1 ?_).trans e,n,ne,nf,d⟩
   intro q
   rw [q,hoc] at e
   have q':oc=p.2:=Option.some.inj e
   exact d w' (by rw [← q']; exact hocd)
theorem Zfs {M:Model}{A:Around}{E:Value->Shared->Prop}{i:Nat}{x:Str}{v:V}{u:Value}{Q:Unit->Shared->Prop}(I:Inv X pins σ H s) (hN:X.N.Nodup) (hi:X.N[i]? = some x) (hx:Loc X.env.scope x) (r:RelV v u)
  (h:∀ s',Inv X pins (σ.set i (some v)) H s'->Q () s') (hf:X.fn x=true\/X.env.scope.names.lookup x=some .local:=by first | exact .inl rfl | exact .inr rfl | assumption):wpAny M A (storeName X.env x u) Q E s :=
 Ztq I hN hi hx r (fun s' I' _=>h s' I') hf
theorem Inv.call' {s':Shared}{ch:List Addr}(I:Inv X pins σ H s) (ho:s'.os=s.os) (u:Un (frs X.stack) ch H H' s.heap s'.heap) (hok:HOk X.prog X.w H' s'.heap) (hg:AllBare s'.gens)
  (hch:∀ b∈ch,(b∈X.ex\/X.s₀.heap.objs.size<=b)/\b≠X.env.locals/\(∀ x c,X.env.cells.lookup x=some c->c≠b)/\∀ p∈X.pn++pins,p.1≠b):Inv X pins σ H' s':=by
 obtain ⟨h',g',d',t',o'⟩:=s'
 have e:o'=s.os:=ho
 subst e
 exact I.call (g':=g') (t':=t') (d':=d') u hok hg hch
end
abbrev XK:=Value->Option Addr->Hp->Prop
abbrev St:=List (Option V)
abbrev VK:=V->Hp->Prop
abbrev TE:=St->Hp->VK->Prop
abbrev TT:=St->Hp->(Bool->Hp->Prop)->Prop
abbrev TA:=St->Hp->(List V->Hp->Prop)->Prop
structure Ends where
 nx:St->Hp->Prop
 rt:VK
 bk:St->Hp->Prop:=fun _ _=>False
 ct:St->Hp->Prop:=fun _ _=>False
abbrev TS:=Ends->St->Hp->Prop
def EP (X:Cx) (pins:List (Addr×Obj)) (σ:St) (Q:VK) (u:Value) (s':Shared):Prop:=∃ v H',Inv X pins σ H' s'/\RelV v u/\Q v H'
def TP (X:Cx) (pins:List (Addr×Obj)) (σ:St) (Q:Bool->Hp->Prop) (b:Bool) (s':Shared):Prop:=∃ H',Inv X pins σ H' s'/\Q b H'
def AP (X:Cx) (pins:List (Addr×Obj)) (σ:St) (Q:List V->Hp->Prop) (us:List Value) (s':Shared):Prop:=∃ vs H',Inv X pins σ H' s'/\Vals vs us/\Q vs H'
def SP (X:Cx) (pins:List (Addr×Obj)) (D:Ends) (f:Flow) (s':Shared):Prop :=
 match f with
 | .next=>∃ σ' H',Inv X pins σ' H' s'/\D.nx σ' H'
 | .brk=>∃ σ' H',Inv X pins σ' H' s'/\D.bk σ' H'
 | .cont=>∃ σ' H',Inv X pins σ' H' s'/\D.ct σ' H'
 | .ret u=>∃ v σ' H',Inv X pins σ' H' s'/\RelV v u/\D.rt v H'
def PE (X:Cx) (e:Expr) (t:TE):Prop :=
 ∀ (pins:List (Addr×Obj)) (s:Shared) (σ:St) (H:Hp) (Q:VK),Inv X pins σ H s->t σ H Q->wpAny (model X.prog X.w) X.A (eval e X.env) (EP X pins σ Q) X.xe s
def PT (X:Cx) (e:Expr) (t:TT):Prop :=
 ∀ (pins:List (Addr×Obj)) (s:Shared) (σ:St) (H:Hp) (Q:Bool->Hp->Prop),Inv X pins σ H s->t σ H Q->wpAny (model X.prog X.w) X.A (isTrue e X.env (eval e X.env)) (TP X pins σ Q) X.xe s
def PW (X:Cx) (e:Expr) (t:TT):Prop :=
 ∀ (whole:Sem Value) (pins:List (Addr×Obj)) (s:Shared) (σ:St) (H:Hp) (Q:Bool->Hp->Prop),Inv X pins σ H s->t σ H Q->wpAny (model X.prog X.w) X.A (isTrue e X.env whole) (TP X pins σ Q) X.xe s
theorem PW.pt {X:Cx}{e:Expr}{t:TT}(h:PW X e t):PT X e t:=h _
def PA (X:Cx) (es:List Expr) (t:TA):Prop :=
 ∀ (pos:Pos) (pins:List (Addr×Obj)) (s:Shared) (σ:St) (H:Hp) (Q:List V->Hp->Prop),Inv X pins σ H s->t σ H Q->wpAny (model X.prog X.w) X.A (spliced (backTo pos (starEach es X.env))) (AP X pins σ Q) X.xe s
def PS (X:Cx) (st:Stmt) (t:TS):Prop :=
 ∀ (pins:List (Addr×Obj)) (s:Shared) (σ:St) (H:Hp) (D:Ends),Inv X pins σ H s->t D σ H->wpAny (model X.prog X.w) X.A (exec st X.env) (SP X pins D) X.xe s
def PSs (X:Cx) (st:List Stmt) (t:TS):Prop :=
 ∀ (pins:List (Addr×Obj)) (s:Shared) (σ:St) (H:Hp) (D:Ends),Inv X pins σ H s->t D σ H->wpAny (model X.prog X.w) X.A (execs st X.env) (SP X pins D) X.xe s
theorem thn {α:Type}{t:Sem α}{Q Q' : α->Shared->Prop}{M:Model}{A:Around}{E:Value->Shared->Prop}{s:Shared}(h:wpAny M A t Q E s) (hQ:∀ a s,Q a s->Q' a s):wpAny M A t Q' E s:=wpAny_mono h hQ fun _ _ x=>x
end L2
namespace L2
open PySem PySem.Spec PyProof.Rows
section
variable {X:Cx}
def Yh (i:Nat):TE:=fun σ H Q=>∃ v,σ[i]? = some (some v)/\Q v H
def tC (v:V):TE:=fun _ H Q=>Q v H
theorem Zdz {i:Nat}{x:Str}{pos:Pos}(hN:X.N[i]? = some x) (hv:Vis X.env.scope x) (hd:(x == ("__debug__" : Str))=false:=by decide) (hcd:(x == ("__classdict__" : Str))=false:=by decide):PE X (.Name x pos) (Yh i):=by
 intro pins s σ H Q I h
 obtain ⟨v,e,h⟩:=h
 obtain ⟨m,hn,hl⟩:=I.loc
 obtain ⟨u,r,l⟩:=hl i x v hN e hv
 have fin:EP X pins σ Q u s:=⟨v,H,I,r,h⟩
 rcases l with ⟨hk,hm⟩ | ⟨hk,c,hc,hcell⟩
 ·exact wpAny_Name (wpAny_loadName_local I.ok.kind hk hn hm fin) hd
 ·rcases hk with hk | hk
  ·exact wpAny_Name (wpAny_loadName_cell I.ok.kind hk hc hcell fin) hd
  ·exact wpAny_Name (wpAny_loadName_free I.ok.kind hk hc hcell fin hcd) hd
theorem Zy1 {i j pos}:PE X (.Constant (.int i) j pos) (tC (.int i)):=fun _ _ _ H _ I h=>wpAny_Constant_int ⟨.int i,H,I.tok _,⟨_,rfl⟩,h⟩
theorem Z0i {b j pos}:PE X (.Constant (.bool b) j pos) (tC (.bl b)):=fun _ _ _ H _ I h=>Constant_bool ⟨.bl b,H,I,rfl,h⟩
theorem Zy2 {j pos}:PE X (.Constant .none j pos) (tC .non):=fun _ _ _ H _ I h=>Constant_none ⟨.non,H,I,rfl,h⟩
theorem Zy3 {x j pos}:PE X (.Constant (.str x) j pos) (tC (.str x)):=fun _ _ _ H _ I h=>Calls.Constant_str ⟨.str x,H,I.tok _,⟨_,rfl⟩,h⟩
def Gl (X:Cx) (x:Str):Prop:=X.env.kindOf x=some .globalImplicit
theorem Zf1 {E:Value->Shared->Prop}{pins:List (Addr×Obj)}{s:Shared}{σ:St}{H:Hp}{x:Str}{u:Value}{pos:Pos}{Q:Value->Shared->Prop}(I:Inv X pins σ H s) (hg:Gl X x) (hm:X.mg x=some u) (h:Q u s)
  (hd:(x == ("__debug__" : Str))=false:=by decide):wpAny (model X.prog X.w) X.A (eval (.Name x pos) X.env) Q E s :=
 Calls.Name_function_global I.ok.kind hg (Calls.loadGlobal_global (by rw [I.ok.glob]; exact I.mod.glob.keeps I.bk) hm h) hd
theorem Vf {E:Value->Shared->Prop}{pins:List (Addr×Obj)}{s:Shared}{σ:St}{H:Hp}{x:Str}{u:Value}{pos:Pos}{Q:Value->Shared->Prop}(I:Inv X pins σ H s) (hg:Gl X x) (hm:X.mg x=none) (hv:bootBuiltins x=some u) (h:Q u s)
  (hn:x ≠ "__name__" := by decide) (hd:(x == ("__debug__" : Str))=false:=by decide):wpAny (model X.prog X.w) X.A (eval (.Name x pos) X.env) Q E s:=by
 obtain ⟨mb,h1,h2⟩:=I.mod.blt
 exact Calls.Name_function_global I.ok.kind hg (Calls.loadGlobal_builtin (by rw [I.ok.glob]; exact I.mod.glob.keeps I.bk) hm (by rw [I.ok.blt]; exact h1.keeps I.bk) ((h2 x hn).trans hv) h) hd
theorem Zw7 {x:Str}{v:V}{u:Value}{pos:Pos}(hg:Gl X x) (hm:X.mg x=some u) (r:RelV v u) (hd:(x == ("__debug__" : Str))=false:=by decide):PE X (.Name x pos) (tC v) :=
 fun _ _ _ H _ I h=>Zf1 I hg hm ⟨v,H,I,r,h⟩ hd
theorem Zw8 {x:Str}{v:V}{u:Value}{pos:Pos}(hg:Gl X x) (hm:X.mg x=none) (hv:bootBuiltins x=some u) (r:RelV v u) (hn:x ≠ "__name__" := by decide) (hd:(x == ("__debug__" : Str))=false:=by decide):PE X (.Name x pos) (tC v) :=
 fun _ _ _ H _ I h=>Vf I hg hm hv ⟨v,H,I,r,h⟩ hn hd
variable {a b:Expr}{ta tb:TE}{pos:Pos}
def tB (t:TE):TT:=fun σ H Q=>t σ H fun x H1=>∃ c,x = .bl c/\Q c H1
theorem Zy4 {e:Expr}{t:TE}(h:PE X e t) (he:∀ whole,isTrue e X.env whole=(do let v ← whole; standAt e.pos; holding [v] (truthy v)):=by intro _; rfl):PT X e (tB t):=by
 intro pins s σ H Q I hw
 refine isTrue_plain (thn (h pins s σ H _ I hw) fun v s1 ⟨x,H1,I1,r1,q1⟩=>?_) (he _)
 obtain ⟨d,rfl,q⟩:=q1
 cases r1
 exact wpAny_truthy_bool ⟨H1,I1,q⟩
variable {tA tB':TT}{rest:List Expr}
def Zqs (t u:TT):TT:=fun σ H Q=>t σ H fun c H1=>if c=true then u σ H1 Q else Q false H1
def tOr (t u:TT):TT:=fun σ H Q=>t σ H fun c H1=>if c=true then Q true H1 else u σ H1 Q
def Zqt (t:TT):TT:=fun σ H Q=>t σ H fun c H1=>Q (!c) H1
theorem Zw9 (ha:PT X a tA):PW X (.BoolOp .And [a] pos) tA:=by
 intro wh pins s σ H Q I h
 refine isTrue_and (thn (ha pins s σ H Q I h) fun c s1 e=>?_)
 cases c with
 | true=>exact isTrue_and_nil e
 | false=>exact e
theorem Zy5 (ha:PT X a tA):PW X (.BoolOp .Or [a] pos) tA:=by
 intro wh pins s σ H Q I h
 refine isTrue_or (thn (ha pins s σ H Q I h) fun c s1 e=>?_)
 cases c with
 | false=>exact isTrue_or_nil e
 | true=>exact e
theorem Zy6 (ha:PT X a tA) (hb:PW X (.BoolOp .And (b::rest) pos) tB'):PW X (.BoolOp .And (a::b::rest) pos) (Zqs tA tB'):=by
 intro wh pins s σ H Q I h
 refine isTrue_and (thn (ha pins s σ H _ I h) fun c s1 ⟨H1,I1,q1⟩=>?_)
 cases c with
 | true=>exact hb wh pins s1 σ H1 Q I1 q1
 | false=>exact ⟨H1,I1,q1⟩
theorem Z0j (ha:PT X a tA) (hb:PW X (.BoolOp .Or (b::rest) pos) tB'):PW X (.BoolOp .Or (a::b::rest) pos) (tOr tA tB'):=by
 intro wh pins s σ H Q I h
 refine isTrue_or (thn (ha pins s σ H _ I h) fun c s1 ⟨H1,I1,q1⟩=>?_)
 cases c with
 | true=>exact ⟨H1,I1,q1⟩
 | false=>exact hb wh pins s1 σ H1 Q I1 q1
theorem Zy7 (ha:PT X a tA):PT X (.UnaryOp .Not a pos) (Zqt tA):=by
 intro pins s σ H Q I h
 exact isTrue_not (ha pins s σ H (fun c H1=>Q (!c) H1) I h)
def Zog (ta tb:TE):TE:=fun σ H Q=>ta σ H fun x H1=>∃ c,x = .bl c/\if c=true then tb σ H1 Q else Q (.bl false) H1
def Zoh (ta:TE):TE:=fun σ H Q=>ta σ H fun x H1=>∃ c,x = .bl c/\Q (.bl (!c)) H1
theorem Zy8 {op} {t:TE}(h:PE X a t):PE X (.BoolOp op [a] pos) t:=fun pins s σ H Q I hw=>BoolOp_one (h pins s σ H Q I hw)
theorem Zy9 (ha:PE X a ta) (hb:PE X (.BoolOp .And (b::rest) pos) tb):PE X (.BoolOp .And (a::b::rest) pos) (Zog ta tb):=by
 intro pins s σ H Q I h
 refine BoolOp_and (thn (ha pins s σ H _ I h) fun v s1 ⟨x,H1,I1,r1,q1⟩=>?_)
 obtain ⟨c,rfl,q1⟩:=q1
 cases r1
 refine wpAny_truthy_bool ?_
 cases c with
 | true=>exact hb pins s1 σ H1 Q I1 q1
 | false=>exact ⟨.bl false,H1,I1,rfl,q1⟩
theorem Zza (ha:PE X a ta):PE X (.UnaryOp .Not a pos) (Zoh ta):=by
 intro pins s σ H Q I h
 refine UnaryOp_ (thn (ha pins s σ H _ I h) fun v s1 ⟨x,H1,I1,r1,q1⟩=>?_)
 obtain ⟨c,rfl,q1⟩:=q1
 cases r1
 exact not_of (wpAny_truthy_bool ⟨.bl (!c),H1,I1,rfl,q1⟩)
def tIf (t:TT) (ta tb:TE):TE:=fun σ H Q=>t σ H fun c H1=>if c=true then ta σ H1 Q else tb σ H1 Q
theorem Zu2 {c:Expr}(hc:PT X c tA) (ha:PE X a ta) (hb:PE X b tb):PE X (.IfExp c a b pos) (tIf tA ta tb):=by
 intro pins s σ H Q I h
 refine wpAny_IfExp (thn (hc pins s σ H _ I h) fun d s1 ⟨H1,I1,q1⟩=>?_)
 cases d with
 | true=>exact ha pins s1 σ H1 Q I1 q1
 | false=>exact hb pins s1 σ H1 Q I1 q1
end
end L2
namespace L2
open PySem PySem.Spec PyProof.Rows
def SqL (K:PySem.W.Frag) (H:Hp) (a:Addr) (xs:List V):Prop :=
 Rd H a (.lst xs) \/
  ∃ (o:Obj) (its:Array Value) (n:Nat),K.lookup a=some o/\o.cls = .type "list" /\ o.dict=none/\o.data = .seq its n/\its.size<=sizeLine/\Vals xs its.toList
def SqT (K:PySem.W.Frag) (H:Hp) (a:Addr) (xs:List V):Prop :=
 Rd H a (.tup xs) \/
  ∃ (o:Obj) (its:Array Value) (n:Nat),K.lookup a=some o/\o.cls = .type "tuple" /\ o.data = .seq its n/\its.size<=sizeLine/\Vals xs its.toList
def Z63:Value->Option V
 | .none=>some .non
 | .bool b=>some (.bl b)
 | .int i _=>some (.int i)
 | .str x _=>some (.str x)
 | .bytes b _=>some (.byt b)
 | .float b _=>some (.flt b)
 | .ref a=>some (.ref a)
 | .type n=>some (.ty n)
 | _=>none
theorem RelV.abs {x:V}{u:Value}(r:RelV x u):Z63 u=some x:=by
 cases x with
 | non=>cases r; rfl
 | bl _=>cases r; rfl
 | int _=>obtain ⟨t,rfl⟩:=r; rfl
 | str _=>obtain ⟨t,rfl⟩:=r; rfl
 | byt _=>obtain ⟨t,rfl⟩:=r; rfl
 | flt _=>obtain ⟨t,rfl⟩:=r; rfl
 | ref _=>cases r; rfl
 | ty _=>cases r; rfl
theorem RelV.inj {x y:V}{u:Value}(r:RelV x u) (q:RelV y u):x=y:=Option.some.inj (r.abs.symm.trans q.abs)
theorem Vals.inj:∀ {xs ys:List V}{us:List Value},Vals xs us->Vals ys us->xs=ys
 | _,_,_,.nil,.nil=>rfl
 | _,_,_,.cons r t,.cons r' t'=>by rw [r.inj r',Vals.inj t t']
section
variable {X:Cx}{pins:List (Addr×Obj)}{σ:St}{H:Hp}{s:Shared}{a:Addr}{xs ys:List V}
theorem SqL.of {K:PySem.W.Frag}(h:H a=some (.lst xs)):SqL K H a xs:=.inl (.inl h)
theorem SqT.of {K:PySem.W.Frag}(h:H a=some (.tup xs)):SqT K H a xs:=.inl (.inl h)
theorem Inv.list (I:Inv X pins σ H s) (h:SqL X.K H a xs):∃ its:List Value,Vals xs its/\PlainL s.heap a its.toArray/\xs.length<=sizeLine:=by
 rcases h with h | ⟨o,its,n,hk,hc,hd,hs,hz,r⟩
 ·obtain ⟨z,its,n,r,e⟩:=h.ok I.hok
  exact ⟨its,r,⟨_,n,e,rfl,rfl,rfl⟩,z⟩
 ·refine ⟨its.toList,r,⟨o,n,I.kIn a o hk,hc,hd,by simpa using hs⟩,?_⟩
  have e:=r.length
  simp only [Array.length_toList] at e
  lia
theorem Inv.tuple (I:Inv X pins σ H s) (h:SqT X.K H a xs):∃ its:List Value,Vals xs its/\IsTup s.heap a its.toArray/\xs.length<=sizeLine:=by
 rcases h with h | ⟨o,its,n,hk,hc,hs,hz,r⟩
 ·obtain ⟨z,its,r,p⟩:=h.ok I.hok
  exact ⟨its,r,p,z⟩
 ·refine ⟨its.toList,r,⟨o,I.kIn a o hk,hc,n,by simpa using hs⟩,?_⟩
  have e:=r.length
  simp only [Array.length_toList] at e
  lia
theorem Inv.list_inj (I:Inv X pins σ H s) (h:SqL X.K H a xs) (h':SqL X.K H a ys):xs=ys:=by
 obtain ⟨its,r,⟨o,n,e,_,_,d⟩,_⟩:=I.list h
 obtain ⟨its',r',⟨o',n',e',_,_,d'⟩,_⟩:=I.list h'
 rw [e] at e'; cases e'
 rw [d] at d'
 injection d' with d1 _
 have:its=its':=by simpa using congrArg Array.toList d1
 subst this
 exact r.inj r'
theorem Inv.tuple_inj (I:Inv X pins σ H s) (h:SqT X.K H a xs) (h':SqT X.K H a ys):xs=ys:=by
 obtain ⟨its,r,⟨o,e,_,n,d⟩,_⟩:=I.tuple h
 obtain ⟨its',r',⟨o',e',_,n',d'⟩,_⟩:=I.tuple h'
 rw [e] at e'; cases e'
 rw [d] at d'
 injection d' with d1 _
 have:its=its':=by simpa using congrArg Array.toList d1
 subst this
 exact r.inj r'
end
abbrev Cx.wish (X:Cx) (E:Value->Shared->Prop):Cx:={X with xe:=E }
abbrev Cx.nox (X:Cx):Cx:=X.wish fun _ _=>False
theorem Cx.Ok.wish {X:Cx}(ok:X.Ok) (E:Value->Shared->Prop):(X.wish E).Ok :=
 ⟨ok.mod,ok.kind,ok.glob,ok.blt,ok.above,ok.inj,ok.has,ok.cab,ok.hd,ok.frames,ok.stk,ok.exf,ok.bs,ok.bsz,ok.noex,ok.exfs,ok.funs,ok.frf⟩
theorem Cx.Ok.unwish {X:Cx}{E:Value->Shared->Prop}(ok:(X.wish E).Ok):X.Ok :=
 ⟨ok.mod,ok.kind,ok.glob,ok.blt,ok.above,ok.inj,ok.has,ok.cab,ok.hd,ok.frames,ok.stk,ok.exf,ok.bs,ok.bsz,ok.noex,ok.exfs,ok.funs,ok.frf⟩
section
variable {X:Cx}{pins:List (Addr×Obj)}{σ:St}{H:Hp}{s:Shared}{E:Value->Shared->Prop}
theorem Inv.wish (I:Inv X pins σ H s) (E:Value->Shared->Prop):Inv (X.wish E) pins σ H s:=⟨I.ok.wish E,I.os,I.bare,I.base,I.loc,I.cell,I.free,I.freeC,I.pin,I.hok,I.len⟩
theorem Inv.unwish (I:Inv (X.wish E) pins σ H s):Inv X pins σ H s:=⟨I.ok.unwish,I.os,I.bare,I.base,I.loc,I.cell,I.free,I.freeC,I.pin,I.hok,I.len⟩
theorem SP.unwish {D:Ends}{f:Flow}{s':Shared}(h:SP (X.wish E) pins D f s'):SP X pins D f s':=by
 cases f with
 | next=>obtain ⟨σ',H',I,q⟩:=h; exact ⟨σ',H',I.unwish,q⟩
 | brk=>obtain ⟨σ',H',I,q⟩:=h; exact ⟨σ',H',I.unwish,q⟩
 | cont=>obtain ⟨σ',H',I,q⟩:=h; exact ⟨σ',H',I.unwish,q⟩
 | ret u=>obtain ⟨v,σ',H',I,r,q⟩:=h; exact ⟨v,σ',H',I.unwish,r,q⟩
theorem PSs.nox {st:List Stmt}{t:TS}(h:PSs X.nox st t):PSs X st t:=fun pins s σ H D I hw =>
 wpAny_mono (h pins s σ H D (I.wish _) hw) (fun _ _ q=>q.unwish) fun _ _ z=>False.elim z
end
section
variable {X:Cx}{st:Stmt}{rest:List Stmt}{t u:TS}{e:Expr}{te:TE}{pos:Pos}
def Ur:TS:=fun D σ H=>D.nx σ H
def Zbh (t u:TS):TS:=fun D σ H=>t {D with nx:=u D } σ H
theorem Zxa:PSs X [] Ur:=fun _ _ σ H _ I h=>wpAny_execs_nil ⟨σ,H,I,h⟩
theorem Zu3 (h1:PS X st t) (h2:PSs X rest u):PSs X (st::rest) (Zbh t u):=by
 intro pins s σ H D I h
 refine wpAny_execs_cons (thn (h1 pins s σ H {D with nx:=u D } I h) fun f s1 q=>?_)
 cases f with
 | next =>
  obtain ⟨σ',H',I',q⟩:=q
  exact h2 pins s1 σ' H' D I' q
 | ret v=>exact q
 | brk=>exact q
 | cont=>exact q
theorem Zxb (h1:PS X st t):PSs X [st] t:=by
 intro pins s σ H D I h
 refine wpAny_execs_cons (thn (h1 pins s σ H D I h) fun f s1 q=>?_)
 cases f with
 | next=>exact wpAny_execs_nil q
 | ret v=>exact q
 | brk=>exact q
 | cont=>exact q
theorem Inv.quiet {pins:List (Addr×Obj)}{σ:St}{H:Hp}{s:Shared}(I:Inv X pins σ H s):interactive X.env=false:=by simp [interactive,I.ok.kind]
def Zeb (te:TE):TS:=fun D σ H=>te σ H fun _ H1=>D.nx σ H1
theorem Zxc (he:PE X e te) (hs:swapsWith e none pos.line X.env=pure false:=by rfl):PS X (.Expr e pos) (Zeb te):=by
 intro pins s σ H D I h
 exact wpAny_Expr_any (thn (he pins s σ H _ I h) fun v s1 ⟨x,H1,I1,r1,q1⟩=>⟨σ,H1,I1,q1⟩) I.quiet hs
def Zqu (te:TE):TS:=fun D σ H=>te σ H D.rt
theorem Zzb (he:PE X e te):PS X (.Return (some e) pos) (Zqu te):=by
 intro pins s σ H D I h
 exact wpAny_Return_some (thn (he pins s σ H _ I h) fun v s1 ⟨x,H1,I1,r1,q1⟩=>⟨x,σ,H1,I1,r1,q1⟩)
def Zix (c:TT) (t u:TS):TS:=fun D σ H=>c σ H fun b H1=>if b=true then t D σ H1 else u D σ H1
theorem Z0k {c:Expr}{a b:List Stmt}{tc:TT}(hc:PT X c tc) (ha:PSs X a t) (hb:PSs X b u):PS X (.If c a b pos) (Zix tc t u):=by
 intro pins s σ H D I h
 refine wpAny_If (thn (hc pins s σ H _ I h) fun d s1 ⟨H1,I1,q1⟩=>?_)
 cases d with
 | true=>exact ha pins s1 σ H1 D I1 q1
 | false=>exact hb pins s1 σ H1 D I1 q1
end
abbrev TG:=V->St->Hp->(St->Hp->Prop)->Prop
abbrev TGs:=List V->St->Hp->(St->Hp->Prop)->Prop
def PG (X:Cx) (target:Expr) (t:TG):Prop :=
 ∀ (pins:List (Addr×Obj)) (s:Shared) (σ:St) (H:Hp) (v:V) (u:Value) (Q:St->Hp->Prop),Inv X pins σ H s->RelV v u->t v σ H Q ->
  wpAny (model X.prog X.w) X.A (assign target X.env u) (fun _ s'=>∃ σ' H',Inv X pins σ' H' s'/\Q σ' H') X.xe s
def PGs (X:Cx) (ts:List Expr) (t:TGs):Prop :=
 ∀ (pins:List (Addr×Obj)) (s:Shared) (σ:St) (H:Hp) (vs:List V) (us:List Value) (Q:St->Hp->Prop),Inv X pins σ H s->Vals vs us->t vs σ H Q ->
  wpAny (model X.prog X.w) X.A (assignInOrder ((assignEach ts X.env).map (·.2)) us) (fun _ s'=>∃ σ' H',Inv X pins σ' H' s'/\Q σ' H') X.xe s
abbrev Zct:=V->V->V->Hp->(Hp->Prop)->Prop
def Ziy (X:Cx) (t:Zct):Prop :=
 ∀ (pins:List (Addr×Obj)) (s:Shared) (σ:St) (H:Hp) (o i v:V) (ov iv u:Value) (Q:Hp->Prop),Inv X pins σ H s->RelV o ov->RelV i iv->RelV v u->t o i v H Q ->
  wpAny (model X.prog X.w) X.A (setItem ov iv u) (fun _ s'=>∃ H',Inv X pins σ H' s'/\Q H') X.xe s
abbrev TIp:=V->V->Hp->VK->Prop
def PIp (X:Cx) (op:Operator) (t:TIp):Prop :=
 ∀ (pins:List (Addr×Obj)) (s:Shared) (σ:St) (H:Hp) (x y:V) (v u:Value) (Q:VK),Inv X pins σ H s->RelV x v->RelV y u->t x y H Q ->
  wpAny (model X.prog X.w) X.A (inplaceOp op v u) (EP X pins σ Q) X.xe s
section
variable {X:Cx}{pos:Pos}
def Yx (i:Nat):TG:=fun v σ H Q=>Q (σ.set i (some v)) H
theorem Zf2 {i:Nat}{x:Str}(hN:X.N.Nodup) (hi:X.N[i]? = some x) (hx:Loc X.env.scope x) (hf:X.fn x=true\/X.env.scope.names.lookup x=some .local:=by first | exact .inl rfl | exact .inr rfl | assumption):PG X (.Name x pos) (Yx i):=by
 intro pins s σ H v u Q I r h
 exact wpAny_assign_Name (Zfs I hN hi hx r (fun s' I'=>⟨_,H,I',h⟩) hf)
def Zqv:TGs:=fun vs σ H Q=>vs = []/\Q σ H
def Zoi (t:TG) (u:TGs):TGs:=fun vs σ H Q=>∃ v r,vs=v::r/\t v σ H fun σ' H'=>u r σ' H' Q
theorem Zxd:PGs X [] Zqv:=by
 intro pins s σ H vs us Q I r h
 obtain ⟨e,h⟩:=h
 subst e
 cases r
 exact assignInOrder_nil ⟨σ,H,I,h⟩
theorem Zu4 {e:Expr}{es:List Expr}{t:TG}{u:TGs}(h1:PG X e t) (h2:PGs X es u)
  (hs:(assignEach (e::es) X.env).map (·.2)=assign e X.env::(assignEach es X.env).map (·.2):=by rfl):PGs X (e::es) (Zoi t u):=by
 intro pins s σ H vs us Q I r h
 obtain ⟨v,vr,e1,h⟩:=h
 subst e1
 cases r with
 | cons r rr =>
  rw [hs]
  refine assignInOrder_cons (thn (h1 pins s σ H _ _ _ I r h) fun _ s1 ⟨σ1,H1,I1,q1⟩=>?_)
  exact h2 pins s1 σ1 H1 _ _ Q I1 rr q1
def Ziz (K:PySem.W.Frag) (n:Nat) (t:TGs):TG:=fun v σ H Q=>∃ a xs,v = .ref a/\SqT K H a xs/\xs.length=n/\t xs σ H Q
theorem Znr {es:List Expr}{k:Nat}{t:TGs}{n:Nat}(hc:X.calm=true) (h:PGs X es t)
  (hn:(assignEach es X.env).length=n:=by rfl) (hst:(assignEach es X.env).findIdx? (·.1)=none:=by rfl):PG X (.Tuple es k pos) (Ziz X.K n t):=by
 intro pins s σ H v u Q I r hw
 obtain ⟨a,xs,e1,hq,hl,hw⟩:=hw
 subst e1
 cases r
 obtain ⟨its,rv,ht,hz⟩:=I.tuple hq
 refine assign_Tuple_tuple (I.ok.hd hc) ht (by simp [hn,← hl,rv.length]) hst fun h' hx=>?_
 have I1:Inv X pins σ H {s with heap:=h' }:=I.kept (t':=s.toks) fun b o e=>hx b o (Nat.ne_of_lt (Heap.lt_size e)) e
 exact h pins _ σ H xs _ Q I1 (by simpa using rv) hw
def Zqw (to ti:TE) (t:Zct):TG:=fun v σ H Q=>to σ H fun o H1=>ti σ H1 fun i H2=>t o i v H2 fun H3=>Q σ H3
theorem Zzc {o i:Expr}{to ti:TE}{t:Zct}(ho:PE X o to) (hi:PE X i ti) (hs:Ziy X t)
  (ha:∀ v,assign (.Subscript o i pos) X.env v=(do
   let ov ← holding [v] (eval o X.env)
   let iv ← holding [v,ov] (eval i X.env)
   standAt pos
   holding [v,ov,iv] (setItem ov iv v)
   release [v,ov,iv] []):=by intro _; rfl):PG X (.Subscript o i pos) (Zqw to ti t):=by
 intro pins s σ H v u Q I r h
 rw [ha]
 refine wpAny_bind (wpAny_holding (thn (ho pins s σ H _ I h) fun ov s1 ⟨x,H1,I1,r1,q1⟩=>?_))
 refine wpAny_bind (wpAny_holding (thn (hi pins s1 σ H1 _ I1 q1) fun iv s2 ⟨y,H2,I2,r2,q2⟩=>?_))
 refine wpAny_bind (wpAny_standAt (wpAny_bind (wpAny_holding (thn (hs pins s2 σ H2 x y v ov iv u _ I2 r1 r2 r q2) fun _ s3 ⟨H3,I3,q3⟩=>?_))))
 exact wpAny_release ⟨σ,H3,I3,q3⟩
def V2 (te:TE) (g:TG):TS:=fun D σ H=>te σ H fun x H1=>g x σ H1 D.nx
theorem Zzd {tg e:Expr}{te:TE}{g:TG}(he:PE X e te) (hg:PG X tg g) (hs:swapsWithSole [tg] e pos.line X.env=pure false:=by rfl) (hw:swappedStores [tg] e X.env=pure none:=by rfl)
  (h1:(assignEach [tg] X.env).map (·.2) = [assign tg X.env]:=by rfl):PS X (.Assign [tg] e pos) (V2 te g):=by
 intro pins s σ H D I h
 refine wpAny_Assign_stores (thn (he pins s σ H _ I h) fun v s1 ⟨x,H1,I1,r1,q1⟩=>?_) hs hw
 rw [h1]
 exact thn (hg pins s1 σ H1 x v _ I1 r1 q1) fun _ s2 q=>q
theorem Zns {i:Nat}{x:Str}{e:Expr}{te:TE}{pos':Pos}(hN:X.N.Nodup) (hi:X.N[i]? = some x) (hx:Loc X.env.scope x) (he:PE X e te) (hs:swapsWith e (some (.Name x pos')) pos.line X.env=pure false:=by rfl) (hf:X.fn x=true\/X.env.scope.names.lookup x=some .local:=by first | exact .inl rfl | exact .inr rfl | assumption) :
  PS X (.Assign [.Name x pos'] e pos) (V2 te (Yx i)):=by
 intro pins s σ H D I h
 refine wpAny_Assign_Name (thn (he pins s σ H _ I h) fun v s1 ⟨y,H1,I1,r1,q1⟩=>?_) hs
 exact Zfs I1 hN hi hx r1 (fun s2 I2=>⟨_,H1,I2,q1⟩) hf
end
section
variable {X:Cx}{pos:Pos}
def Znt (c:TT) (tb:TS):TS:=fun D σ H=>∃ W:Nat->St->Hp->Prop,(∃ m,W m σ H)/\∀ m σ H,W m σ H ->
 c σ H fun b H1=>if b=true then ∃ N:St->Hp->Prop,(∀ σ' H',N σ' H'->∃ m',m' < m/\W m' σ' H')/\tb {D with nx:=N,ct:=N,bk:=D.nx } σ H1 else D.nx σ H1
theorem Zu5 {c:Expr}{body:List Stmt}{tc:TT}{tb:TS}(hp:PassesOwn (model X.prog X.w) X.A X.env X.xe) (hc:PT X c tc) (hb:PSs X body tb):PS X (.While c body [] pos) (Znt tc tb):=by
 intro pins s σ H D I h
 obtain ⟨W,⟨m0,w0⟩,turn⟩:=h
 refine wpAny_While (codeAny_whileLoop (fun n s'=>∃ σ' H',Inv X pins σ' H' s'/\W n σ' H') ?_ m0 ⟨σ,H,I,w0⟩)
 rintro n s1 ⟨σ1,H1,I1,w1⟩
 refine wpAny_passesOwn hp (thn (hc pins s1 σ1 H1 _ I1 (turn n σ1 H1 w1)) fun b s2 ⟨H2,I2,q2⟩=>?_)
 cases b with
 | true =>
  obtain ⟨N,hN,q2⟩:=q2
  rw [if_pos rfl]
  refine wpAny_passesOwn hp (thn (hb pins s2 σ1 H2 _ I2 q2) fun f s3 q3=>?_)
  cases f with
  | next =>
   obtain ⟨σ3,H3,I3,n3⟩:=q3
   obtain ⟨m',hm,w3⟩:=hN σ3 H3 n3
   exact ⟨m',hm,σ3,H3,I3,w3⟩
  | cont =>
   obtain ⟨σ3,H3,I3,n3⟩:=q3
   obtain ⟨m',hm,w3⟩:=hN σ3 H3 n3
   exact ⟨m',hm,σ3,H3,I3,w3⟩
  | brk=>exact q3
  | ret v=>exact q3
 | false =>
  rw [if_neg Bool.false_ne_true]
  exact wpAny_execs_nil ⟨σ1,H2,I2,q2⟩
end
structure It where
 go:Nat->Hp->Prop
 yld:Nat->Hp->V->Hp->Prop
 stop:Nat->Hp->Prop
def Z7 (X:Cx) (pins:List (Addr×Obj)) (H:Hp) (b:Addr):Prop :=
 H b=none/\b≠X.env.locals/\b∉X.fs/\(b∈X.ex\/X.s₀.heap.objs.size<=b)/\(∀ x c,X.env.cells.lookup x=some c->c≠b)/\∀ p∈X.pn++pins,p.1≠b
theorem Inv.fpOk {X:Cx}{pins:List (Addr×Obj)}{σ:St}{H H':Hp}{s:Shared}{b:Addr}(I:Inv X pins σ H s) (hb:s.heap.objs.size<=b) (hn:H' b=none):Z7 X pins H' b:=by
 refine ⟨hn,Nat.ne_of_gt (Nat.lt_of_lt_of_le I.lt hb),I.nofs hb,.inr (Nat.le_trans I.sz hb),fun x c e z=>?_,fun p hp z=>?_⟩
 ·obtain ⟨v,q⟩:=I.cell x c e
  exact absurd (Nat.lt_of_lt_of_le q.lt (by rw [z]; exact hb)) (Nat.lt_irrefl _)
 ·exact absurd (Nat.lt_of_lt_of_le (Heap.lt_size (I.pin p hp).1) (by rw [z]; exact hb)) (Nat.lt_irrefl _)
structure Turn (P:Program) (w:World) (K:PySem.W.Frag) (tg:Expr) (J:It) (fp:List Addr) (it:Addr) (tn:Nat->Heap->Prop):Prop where
 mem:it∈fp
 obj:∀ i h,tn i h->∀ b∈fp,∃ o,h.get? b=some o/\∀ v,o.data ≠ .cell v
 keep:∀ i h h',tn i h->(∀ b∈fp,∀ o,h.get? b=some o->h'.get? b=some o)->tn i h'
 item:∀ (X:Cx),X.prog=P->X.w=w->X.K=K->X.calm=true->∀ (i:Nat) (pins:List (Addr×Obj)) (s:Shared) (σ:St) (H:Hp) (E:Value->Shared->Prop),Inv X pins σ H s->(∀ b∈fp,Z7 X pins H b)->tn i s.heap->J.go i H ->
  wpAny (model P w) X.A (pyNext (.ref it)) (fun r s1=>∃ u,r=some u /\
   wpAny (model P w) X.A (letOwnedTupleGo tg (.ref it) u) (fun _ s2=>∃ x H',Inv X pins σ H' s2/\RelV x u/\J.yld i H x H'/\tn (i+1) s2.heap/\∀ b∈fp,H' b=none) E s1) E s
 done:∀ (X:Cx),X.prog=P->X.w=w->X.K=K->X.calm=true->∀ (i:Nat) (pins:List (Addr×Obj)) (s:Shared) (σ:St) (H:Hp) (E:Value->Shared->Prop),Inv X pins σ H s->(∀ b∈fp,Z7 X pins H b)->tn i s.heap->J.stop i H ->
  wpAny (model P w) X.A (pyNext (.ref it)) (fun r s1=>r=none/\Inv X pins σ H s1) E s
 self:∀ (A:Around) (i:Nat) (s:Shared) (Q:Value->Shared->Prop) (E:Value->Shared->Prop),tn i s.heap->Q (.ref it) s->wpAny (model P w) A (pyIter (.ref it)) Q E s
abbrev TI:=St->Hp->(It->Hp->Prop)->Prop
def PIE (X:Cx) (pins:List (Addr×Obj)) (σ:St) (tg:Expr) (R:It->Hp->Prop) (itv:Value) (s2:Shared):Prop :=
 ∃ (it:Addr) (fp:List Addr) (tn:Nat->Heap->Prop) (J:It) (H':Hp),itv = .ref it/\Inv X pins σ H' s2/\Turn X.prog X.w X.K tg J fp it tn/\tn 0 s2.heap/\(∀ b∈fp,Z7 X pins H' b)/\R J H'
def PI (X:Cx) (tg iter:Expr) (wi:TI):Prop :=
 ∀ (pins:List (Addr×Obj)) (s:Shared) (σ:St) (H:Hp) (R:It->Hp->Prop),Inv X pins σ H s->wi σ H R ->
  wpAny (model X.prog X.w) X.A (eval iter X.env) (fun v s1=>wpAny (model X.prog X.w) X.A (pyIter v) (PIE X pins σ tg R) X.xe s1) X.xe s
theorem Zec {M:Model}{A:Around}{E:Value->Shared->Prop}{s:Shared}{tg:Expr}{it:Addr}{u:Value}{o:Obj}{n:String}{vs:Array Value}{Q:Unit->Shared->Prop}(ho:s.heap.get? it=some o) (hc:o.cls = .type n) (hd:o.data = .fields vs)
    (hn : ["enumerate", "zip", "dict_itemiterator", "dict_reverseitemiterator", "odict_iterator", "itertools.zip_longest", "itertools.pairwise"].contains n=false) (hQ:Q () s):wpAny M A (letOwnedTupleGo tg (.ref it) u) Q E s:=by
  unfold letOwnedTupleGo
  cases tg <;> first
    | exact wpAny_pure hQ
    | (cases u <;> first
        | exact wpAny_pure hQ
        | (refine wpAny_bind (wpAny_load ho ?_)
           rw [hc,hd]
           show wpAny M A (if (["enumerate", "zip", "dict_itemiterator", "dict_reverseitemiterator", "odict_iterator", "itertools.zip_longest", "itertools.pairwise"].contains n && vs[0]? == some (rawInt _))=true then _ else _) Q E s
           rw [if_neg (by intro h; rw [hn,Bool.false_and] at h; cases h)]
           exact wpAny_pure hQ))
def Itl (K:PySem.W.Frag) (a:Addr):It :=
 ⟨fun i H=>∃ xs x,SqL K H a xs/\xs[i]? = some x,fun i H x H'=>H'=H/\∀ xs,SqL K H a xs->xs[i]? = some x,fun i H=>∃ xs,SqL K H a xs/\xs.length<=i⟩
def Itr (lo:Int) (n:Nat):It:=⟨fun i _=>i < n,fun i H x H'=>H'=H/\x = .int (lo+i),fun i _=>n<=i⟩
theorem Ztr {P:Program}{w:World}{K:PySem.W.Frag}{tg:Expr}(a it:Addr):Turn P w K tg (Itl K a) [it] it (fun i h=>h.IsListIter it a i) where
 mem:=by simp
 obj:=fun i h st b hb=>by
  have e:b=it:=by simpa using hb
  subst e
  obtain ⟨o,e,c,d⟩:=st
  exact ⟨o,e,fun v z=>by rw [d] at z; cases z⟩
 keep:=fun i h h' st k=>st.at fun o e=>k it (by simp) o e
 item:=by
  intro X hP hw hK hc i pins s σ H E I hf st hg
  subst hP hw hK
  obtain ⟨xs,x,hq,hx⟩:=hg
  obtain ⟨its,rv,p,hz⟩:=I.list hq
  obtain ⟨u,hu,ru⟩:=rv.get hx
  obtain ⟨f0,f1,f2,f3,f4,f5⟩:=hf it (by simp)
  refine wpAny_pyNext_list_item st p.isList (x:=u) (by simpa using hu) fun h' st' sb=>?_
  have I1:Inv X pins σ H {s with heap:=h' }:=I.turned (t':=s.toks) (fun b o hb e=>(sb.2 b hb).trans e) f0 f1 f3 f4 f5
  obtain ⟨o,e,c,d⟩:=id st'
  exact ⟨u,rfl,Zec (s:={s with heap:=h' }) e c d (by decide) ⟨x,H,I1,ru,⟨rfl,fun ys hy=>by rw [I.list_inj hy hq]; exact hx⟩,st',fun b hb=>(hf b hb).1⟩⟩
 done:=by
  intro X hP hw hK hc i pins s σ H E I hf st hg
  subst hP hw hK
  obtain ⟨xs,hq,hx⟩:=hg
  obtain ⟨its,rv,p,hz⟩:=I.list hq
  obtain ⟨f0,f1,f2,f3,f4,f5⟩:=hf it (by simp)
  have hl:=rv.length
  exact wpAny_pyNext_list_end (I.ok.hd hc) st p.isList (by simp; lia) fun h' eb=>⟨rfl,I.turned (t':=s.toks) (fun b o hb e=>eb b o hb e) f0 f1 f3 f4 f5⟩
 self:=fun _ _ _ _ _ st h=>wpAny_pyIter_listiter st h
theorem Zss {P:Program}{w:World}{K:PySem.W.Frag}{tg:Expr}(it:Addr) (lo:Int) (n:Nat):Turn P w K tg (Itr lo n) [it] it (fun i h=>IsRangeIter h it (lo+(i:Nat) * 1) ((n:Int) - (i:Nat)) 1) where
 mem:=by simp
 obj:=fun i h st b hb=>by
  have e:b=it:=by simpa using hb
  subst e
  exact ⟨_,st,fun v z=>by
   have z':Data.fields _=Data.cell v:=z
   cases z'⟩
 keep:=fun i h h' st k=>k it (by simp) _ st
 item:=by
  intro X hP hw hK hc i pins s σ H E I hf st hg
  subst hP hw hK
  obtain ⟨f0,f1,f2,f3,f4,f5⟩:=hf it (by simp)
  have W:=Walks.range (prog:=X.prog) (w:=X.w) (I.ok.hd hc) it lo 1 n
  refine W.item i s _ _ hg st fun v h' tk hv st' kk=>?_
  obtain ⟨t,rfl⟩:=hv
  have I1:Inv X pins σ H {s with heap:=h',toks:=tk }:=I.turned (fun b o hb e=>kk b o (by simpa using hb) e) f0 f1 f3 f4 f5
  refine ⟨_,rfl,Zec (s:={s with heap:=h',toks:=tk }) (n := "range_iterator") st' rfl rfl (by decide) ⟨.int (lo+i),H,I1,⟨t,?_⟩,⟨rfl,rfl⟩,st',fun b hb=>(hf b hb).1⟩⟩
  rw [Int.mul_one]
 done:=by
  intro X hP hw hK hc i pins s σ H E I hf st hg
  subst hP hw hK
  obtain ⟨f0,f1,f2,f3,f4,f5⟩:=hf it (by simp)
  exact wpAny_pyNext_range_end (I.ok.hd hc) st (by have:n<=i:=hg; lia) fun h' eb=>⟨rfl,I.turned (t':=s.toks) (fun b o hb e=>eb b o hb e) f0 f1 f3 f4 f5⟩
 self:=fun _ _ _ _ _ st h=>wpAny_pyIter_rangeiter st h
end L2
namespace L2
open PySem PySem.Spec PyProof.Rows
section
variable {X:Cx}{tg:Expr}
def Zoj (K:PySem.W.Frag) (tl:TE):TI:=fun σ H R=>tl σ H fun x H1=>∃ a,x = .ref a/\(∃ xs,SqL K H1 a xs)/\R (Itl K a) H1
theorem Zxe {l:Expr}{tl:TE}(hl:PE X l tl):PI X tg l (Zoj X.K tl):=by
 intro pins s σ H R I h
 refine thn (hl pins s σ H _ I h) fun v s1 ⟨x,H1,I1,r1,q1⟩=>?_
 obtain ⟨a,e,⟨xs,hq⟩,q⟩:=q1
 subst e
 cases r1
 obtain ⟨its,rv,p,hz⟩:=I1.list hq
 refine wpAny_pyIter_list p.isList ?_
 refine ⟨s1.heap.objs.size,[s1.heap.objs.size],_,_,H1,rfl,I1.kept (t':=s1.toks) fun b o e=>Heap.get?_push_of_some _ e,Ztr a _,⟨_,Heap.get?_push_size _ rfl,rfl,rfl⟩,fun b hb=>?_,q⟩
 have e:b=s1.heap.objs.size:=by simpa using hb
 subst e
 exact I1.fpOk (Nat.le_refl _) (I1.hok.fresh (Nat.le_refl _))
theorem Zu6 {pins:List (Addr×Obj)}{σ:St}{H:Hp}{s:Shared}{R:It->Hp->Prop}{E:Value->Shared->Prop}{lo hi:Int}{t u v:Tok}{tk:Nat}(I:Inv X pins σ H s) (h1 : -(2 ^ 62)<=lo) (h2:lo < 2 ^ 62) (h3 : -(2 ^ 62)<=hi) (h4:hi < 2 ^ 62)
  (q:R (Itr lo (hi - lo).toNat) H):wpAny (model X.prog X.w) X.A (pyIter (.ref s.heap.objs.size)) (PIE X pins σ tg R) E {s with heap:=s.heap.push {cls:=.type "range", data:=.fields #[.int lo t,.int hi u,.int 1 v] },toks:=tk }:=by
 refine wpAny_pyIter_range (IsRange.new ..) (small_one h1 h2 h3 h4) ?_
 have I1:Inv X pins σ H {s with heap:=s.heap.push {cls:=.type "range", data:=.fields #[.int lo t,.int hi u,.int 1 v] },toks:=tk }:=I.kept fun b o e=>Heap.get?_push_of_some _ e
 refine ⟨(s.heap.push {cls:=.type "range", data:=.fields #[.int lo t,.int hi u,.int 1 v] }).objs.size,[(s.heap.push {cls:=.type "range", data:=.fields #[.int lo t,.int hi u,.int 1 v] }).objs.size],_,_,H,rfl,
  I1.kept (t':=tk) fun b o e=>Heap.get?_push_of_some _ e,Zss _ lo (hi - lo).toNat,?_,fun b hb=>?_,q⟩
 ·have e1:lo+((0:Nat):Int) * 1=lo:=by simp
  have e2:(((hi - lo).toNat:Nat):Int) - ((0:Nat):Int)=Builtin.Range.rangeSize lo hi 1:=by rw [rangeSize_one]; split <;> lia
  show IsRangeIter _ _ (lo+((0:Nat):Int) * 1) ((((hi - lo).toNat:Nat):Int) - ((0:Nat):Int)) 1
  rw [e1,e2]
  exact Heap.get?_push_size _ rfl
 ·have e:b=(s.heap.push {cls:=.type "range", data:=.fields #[.int lo t,.int hi u,.int 1 v] }).objs.size:=by simpa using hb
  subst e
  exact I1.fpOk (Nat.le_refl _) (I1.hok.fresh (Nat.le_refl _))
def Zok (ta:TA):TI:=fun σ H R=>ta σ H fun vs H1=>∃ j:Int,vs = [.int j] /\ -(2 ^ 62)<=j/\j < 2 ^ 62/\R (Itr 0 j.toNat) H1
theorem Zts {a:Expr}{ta:TA}{p pos:Pos}(hg:Gl X "range") (hm:X.mg "range" = none) (ha:PA X [a] ta) (hs:starEach [a] X.env = [(false,eval a X.env)]:=by rfl):PI X tg (.Call (.Name "range" p) [a] [] pos) (Zok ta):=by
 intro pins s σ H R I h
 refine Call_ (Vf I hg hm boot_range (PyProof.Rows.callWith_type1 (thn (ha pos pins s σ H _ I h) fun us s1 ⟨vs,H1,I1,r1,q1⟩=>?_) hs rfl))
 obtain ⟨j,e,q1,q2,q⟩:=q1
 subst e
 cases r1 with
 | cons r rr =>
  cases rr
  obtain ⟨t,rfl⟩:=r
  exact call_range_1 (Zu6 I1 (by lia) (by lia) q1 q2 (by simpa using q))
def Z64 (wi:TI) (g:TG) (tb:TS):TS:=fun D σ H=>wi σ H fun J H1=>∃ W:Nat->Nat->St->Hp->Prop,(∃ m,W 0 m σ H1)/\∀ i m σ H,W i m σ H ->
 (J.stop i H/\D.nx σ H)\/(J.go i H/\∃ N:St->Hp->Prop,(∀ σ' H',N σ' H'->∃ m',m' < m/\W (i+1) m' σ' H')/\∀ x H',J.yld i H x H'->g x σ H' fun σ2 H2=>tb {D with nx:=N,ct:=N,bk:=D.nx } σ2 H2)
def U8 (fp:List Addr) (h:Heap):List (Addr×Obj):=fp.filterMap fun b=>(h.get? b).map fun o=>(b,o)
theorem Zdf {fp:List Addr}{h:Heap}{b:Addr}{o:Obj}(hb:b∈fp) (e:h.get? b=some o):(b,o)∈U8 fp h:=List.mem_filterMap.mpr ⟨b,hb,by rw [e]; rfl⟩
theorem Zk7 {fp:List Addr}{h:Heap}{p:Addr×Obj}(hp:p∈U8 fp h):p.1∈fp/\h.get? p.1=some p.2:=by
 obtain ⟨b,hb,e⟩:=List.mem_filterMap.mp hp
 cases q:h.get? b with
 | none=>rw [q] at e; cases e
 | some o =>
  rw [q] at e
  have e':(b,o)=p:=Option.some.inj e
  subst e'
  exact ⟨hb,q⟩
theorem Inv.pinned {pins:List (Addr×Obj)}{σ:St}{H:Hp}{s:Shared}{fp:List Addr}(I:Inv X pins σ H s) (hf:∀ b∈fp,Z7 X pins H b) (ho:∀ b∈fp,∃ o,s.heap.get? b=some o/\∀ v,o.data ≠ .cell v):Inv X (pins++U8 fp s.heap) σ H s :=
 I.pins_of fun p hp=>(List.mem_append.mp hp).elim (fun z=>I.pin p (List.mem_append_right _ z)) fun z=>by
  obtain ⟨hb,e⟩:=Zk7 z
  obtain ⟨f0,f1,f2,_⟩:=hf p.1 hb
  obtain ⟨o,e',d⟩:=ho p.1 hb
  rw [e] at e'; cases e'
  exact ⟨e,f0,f1,f2,d⟩
theorem Inv.unpinned {pins pl:List (Addr×Obj)}{σ:St}{H:Hp}{s:Shared}(I:Inv X (pins++pl) σ H s):Inv X pins σ H s:=I.pins_of fun p hp=>I.pin p (List.mem_append_right _ (List.mem_append_left _ hp))
theorem Zze {iter:Expr}{body:List Stmt}{wi:TI}{g:TG}{tb:TS}{pos:Pos}(hp:PassesOwn (model X.prog X.w) X.A X.env X.xe) (hc:X.calm=true) (hi:PI X tg iter wi) (hg:PG X tg g) (hb:PSs X body tb)
  (hs:∀ x,foldedSetIterable iter X.env x=pure x:=by intro _; rfl):PS X (.For tg iter body [] pos) (Z64 wi g tb):=by
 intro pins s σ H D I h
 refine wpAny_For (thn (hi pins s σ H _ I h) fun v s1 h1=>thn h1 fun itv s2 h2=>?_) hs
 obtain ⟨it,fp,tn,J,H2,e,I2,T,st2,f2,W,⟨m0,w0⟩,turn⟩:=h2
 subst e
 have stat:∀ {H':Hp},(∀ b∈fp,H' b=none)->∀ b∈fp,Z7 X pins H' b:=fun hn b hb=>⟨hn b hb,(f2 b hb).2⟩
 refine codeAny_forLoop_any (fun n s'=>∃ i σ' H',Inv X pins σ' H' s'/\tn i s'.heap/\(∀ b∈fp,H' b=none)/\W i n σ' H') ?_ m0 ⟨0,σ,H2,I2,st2,fun b hb=>(f2 b hb).1,w0⟩
 rintro n s3 ⟨i,σ3,H3,I3,st3,fr3,w3⟩
 rcases turn i n σ3 H3 w3 with ⟨stop,qn⟩ | ⟨go,N,hN,step⟩
 ·refine wpAny_passesOwn hp (thn (T.done X rfl rfl rfl hc i pins s3 σ3 H3 X.xe I3 (stat fr3) st3 stop) fun r s4 ⟨hr,I4⟩=>?_)
  subst hr
  exact wpAny_execs_nil ⟨σ3,H3,I4,qn⟩
 ·refine wpAny_passesOwn hp (thn (T.item X rfl rfl rfl hc i pins s3 σ3 H3 X.xe I3 (stat fr3) st3 go) fun r s4 ⟨u,hr,h4⟩=>?_)
  subst hr
  refine wpAny_passesOwn hp (thn h4 fun _ s5 ⟨x,H5,I5,r5,y5,st5,fr5⟩=>?_)
  have I5':=I5.pinned (stat fr5) (T.obj _ _ st5)
  refine wpAny_passesOwn hp (thn (hg _ s5 σ3 H5 x u _ I5' r5 (step x H5 y5)) fun _ s6 ⟨σ6,H6,I6,q6⟩=>?_)
  refine wpAny_passesOwn hp (thn (hb _ s6 σ6 H6 _ I6 q6) fun f s7 q7=>?_)
  have again:∀ {σ7:St}{H7:Hp},Inv X (pins++U8 fp s5.heap) σ7 H7 s7->N σ7 H7->∃ m,m < n/\∃ i σ' H',Inv X pins σ' H' s7/\tn i s7.heap/\(∀ b∈fp,H' b=none)/\W i m σ' H':=fun {σ7 H7} I7 n7=>by
   obtain ⟨m',hm,w7⟩:=hN σ7 H7 n7
   refine ⟨m',hm,i+1,σ7,H7,I7.unpinned,T.keep _ _ _ st5 fun b hb o e=>(I7.pin (b,o) (List.mem_append_right _ (List.mem_append_right _ (Zdf hb e)))).1,fun b hb=>?_,w7⟩
   obtain ⟨o,e,d⟩:=T.obj _ _ st5 b hb
   exact (I7.pin (b,o) (List.mem_append_right _ (List.mem_append_right _ (Zdf hb e)))).2.1
  cases f with
  | next=>obtain ⟨σ7,H7,I7,n7⟩:=q7; exact again I7 n7
  | cont=>obtain ⟨σ7,H7,I7,n7⟩:=q7; exact again I7 n7
  | brk=>obtain ⟨σ7,H7,I7,q7⟩:=q7; exact ⟨σ7,H7,I7.unpinned,q7⟩
  | ret v=>obtain ⟨x7,σ7,H7,I7,r7,q7⟩:=q7; exact ⟨x7,σ7,H7,I7.unpinned,r7,q7⟩
end
theorem Zu7 {K:PySem.W.Frag}{a:Addr}{xs:List V}{g:TG}{tb:TS}{D:Ends}{σ:St}{H:Hp}(Pv:Nat->St->Hp->Prop) (h0:Pv 0 σ H) (hl:∀ i σ H,i<=xs.length->Pv i σ H->SqL K H a xs)
  (hs:∀ i x σ H,xs[i]? = some x->Pv i σ H->g x σ H fun σ2 H2=>tb {D with nx:=Pv (i+1),ct:=Pv (i+1),bk:=D.nx } σ2 H2) (hd:∀ σ H,Pv xs.length σ H->D.nx σ H) :
  ∃ W:Nat->Nat->St->Hp->Prop,(∃ m,W 0 m σ H)/\∀ i m σ H,W i m σ H ->
   ((Itl K a).stop i H/\D.nx σ H)\/((Itl K a).go i H/\∃ N:St->Hp->Prop,(∀ σ' H',N σ' H'->∃ m',m' < m/\W (i+1) m' σ' H')/\∀ x H',(Itl K a).yld i H x H'->g x σ H' fun σ2 H2=>tb {D with nx:=N,ct:=N,bk:=D.nx } σ2 H2):=by
 refine ⟨fun i m σ H=>m=xs.length - i/\i<=xs.length/\Pv i σ H,⟨xs.length,by simp,Nat.zero_le _,h0⟩,?_⟩
 rintro i m σ H ⟨rfl,hi,p⟩
 have q:=hl i σ H hi p
 by_cases hlt:i < xs.length
 ·refine .inr ⟨⟨xs,xs[i],q,by simp [hlt]⟩,Pv (i+1),fun σ' H' p'=>⟨xs.length - (i+1),by lia,rfl,hlt,p'⟩,fun x H' y=>?_⟩
  obtain ⟨e,y⟩:=y
  subst e
  exact hs i x σ _ (y xs q) p
 ·have e:i=xs.length:=by lia
  subst e
  exact .inl ⟨⟨xs,q,Nat.le_refl _⟩,hd σ H p⟩
theorem Ztt {lo:Int}{n:Nat}{g:TG}{tb:TS}{D:Ends}{σ:St}{H:Hp}(Pv:Nat->St->Hp->Prop) (h0:Pv 0 σ H)
  (hs:∀ i σ H,i < n->Pv i σ H->g (.int (lo+i)) σ H fun σ2 H2=>tb {D with nx:=Pv (i+1),ct:=Pv (i+1),bk:=D.nx } σ2 H2) (hd:∀ σ H,Pv n σ H->D.nx σ H) :
  ∃ W:Nat->Nat->St->Hp->Prop,(∃ m,W 0 m σ H)/\∀ i m σ H,W i m σ H ->
   ((Itr lo n).stop i H/\D.nx σ H)\/((Itr lo n).go i H/\∃ N:St->Hp->Prop,(∀ σ' H',N σ' H'->∃ m',m' < m/\W (i+1) m' σ' H')/\∀ x H',(Itr lo n).yld i H x H'->g x σ H' fun σ2 H2=>tb {D with nx:=N,ct:=N,bk:=D.nx } σ2 H2):=by
 refine ⟨fun i m σ H=>m=n - i/\i<=n/\Pv i σ H,⟨n,by simp,Nat.zero_le _,h0⟩,?_⟩
 rintro i m σ H ⟨rfl,hi,p⟩
 by_cases hlt:i < n
 ·refine .inr ⟨hlt,Pv (i+1),fun σ' H' p'=>⟨n - (i+1),by lia,rfl,hlt,p'⟩,fun x H' y=>?_⟩
  obtain ⟨e,y⟩:=y
  subst e y
  exact hs i σ _ hlt p
 ·have e:i=n:=by lia
  subst e
  exact .inl ⟨Nat.le_refl _,hd σ H p⟩
end L2
namespace L2
open PySem PySem.Spec PyProof.Rows
abbrev R2:=V->V->Hp->VK->Prop
def OpR (X:Cx) (f:Value->Value->Sem Value) (r:R2):Prop :=
 ∀ (pins:List (Addr×Obj)) (s:Shared) (σ:St) (H:Hp) (x y:V) (v u:Value) (Q:VK),Inv X pins σ H s->RelV x v->RelV y u->r x y H Q ->
  wpAny (model X.prog X.w) X.A (f v u) (EP X pins σ Q) X.xe s
def UnR (X:Cx) (f:Value->Sem Value) (r:V->Hp->VK->Prop):Prop :=
 ∀ (pins:List (Addr×Obj)) (s:Shared) (σ:St) (H:Hp) (x:V) (v:Value) (Q:VK),Inv X pins σ H s->RelV x v->r x H Q ->
  wpAny (model X.prog X.w) X.A (f v) (EP X pins σ Q) X.xe s
def Wh (X:Cx) (f:Value) (r:List V->Hp->VK->Prop):Prop :=
 ∀ (pins:List (Addr×Obj)) (s:Shared) (σ:St) (H:Hp) (xs:List V) (us:List Value) (Q:VK),Inv X pins σ H s->Vals xs us->r xs H Q ->
  wpAny (model X.prog X.w) X.A (call f us) (EP X pins σ Q) X.xe s
def Z65 (X:Cx) (r:V->Hp->(Bool->Hp->Prop)->Prop):Prop :=
 ∀ (pins:List (Addr×Obj)) (s:Shared) (σ:St) (H:Hp) (x:V) (v:Value) (Q:Bool->Hp->Prop),Inv X pins σ H s->RelV x v->r x H Q ->
  wpAny (model X.prog X.w) X.A (truthy v) (TP X pins σ Q) X.xe s
def tOp (r:R2) (ta tb:TE):TE:=fun σ H Q=>ta σ H fun x H1=>tb σ H1 fun y H2=>r x y H2 Q
def tUn (r:V->Hp->VK->Prop) (ta:TE):TE:=fun σ H Q=>ta σ H fun x H1=>r x H1 Q
def rI (C:Int->Int->Prop) (g:Int->Int->V):R2:=fun x y H Q=>∃ i j,x = .int i/\y = .int j/\C i j/\Q (g i j) H
def rI0 (g:Int->Int->V):R2:=fun x y H Q=>∃ i j,x = .int i/\y = .int j/\Q (g i j) H
def rU (g:Int->V):V->Hp->VK->Prop:=fun x H Q=>∃ i,x = .int i/\Q (g i) H
section
variable {X:Cx}{a b c:Expr}{ta tb tc:TE}{pos:Pos}
theorem Zi0 (ha:PE X a ta) (hb:PE X b tb) {pins:List (Addr×Obj)}{s:Shared}{σ:St}{H:Hp}{R:V->V->Hp->Prop}(I:Inv X pins σ H s)
  (h:ta σ H fun x H1=>tb σ H1 fun y H2=>R x y H2) {Q:Value->Shared->Prop}{f:Value->Value->Sem Value}
  (hf:∀ v u s2 x y H2,Inv X pins σ H2 s2->RelV x v->RelV y u->R x y H2->wpAny (model X.prog X.w) X.A (f v u) Q X.xe s2) :
  wpAny (model X.prog X.w) X.A (eval a X.env) (fun v s₁=>wpAny (model X.prog X.w) X.A (eval b X.env) (fun u s₂=>wpAny (model X.prog X.w) X.A (f v u) Q X.xe s₂) X.xe s₁) X.xe s:=by
 refine thn (ha pins s σ H _ I h) fun v s1 ⟨x,H1,I1,r1,q1⟩=>?_
 refine thn (hb pins s1 σ H1 _ I1 q1) fun u s2 ⟨y,H2,I2,r2,q2⟩=>?_
 exact hf v u s2 x y H2 I2 r1 r2 q2
theorem Z0l {op:Operator}{r:R2}(ho:OpR X (binaryOp op) r) (ha:PE X a ta) (hb:PE X b tb):PE X (.BinOp a op b pos) (tOp r ta tb):=by
 intro pins s σ H Q I h
 exact wpAny_BinOp (Zi0 ha hb I h fun v u s2 x y H2 I2 rx ry q=>ho pins s2 σ H2 x y v u Q I2 rx ry q)
theorem Z0m {op:UnaryOp}{r:V->Hp->VK->Prop}(ho:UnR X (unaryOp op) r) (ha:PE X a ta):PE X (.UnaryOp op a pos) (tUn r ta):=by
 intro pins s σ H Q I h
 exact UnaryOp_ (thn (ha pins s σ H _ I h) fun v s1 ⟨x,H1,I1,r1,q1⟩=>ho pins s1 σ H1 x v Q I1 r1 q1)
theorem opI {f:Value->Value->Sem Value}{C:Int->Int->Prop}{g:Int->Int->Int}
  (rule:∀ (i j:Int) (t u:Tok) (s:Shared) (Q:Value->Shared->Prop) (E:Value->Shared->Prop),C i j->Q (.int (g i j) s.toks) {s with toks:=s.toks+1 }->wpAny (model X.prog X.w) X.A (f (.int i t) (.int j u)) Q E s) :
  OpR X f (rI C fun i j=>.int (g i j)):=by
 intro pins s σ H x y v u Q I rx ry h
 obtain ⟨i,j,rfl,rfl,hc,q⟩:=h
 obtain ⟨t,rfl⟩:=rx
 obtain ⟨t',rfl⟩:=ry
 exact rule i j t t' s _ _ hc ⟨.int (g i j),H,I.tok _,⟨_,rfl⟩,q⟩
theorem Zqx {f:Value->Value->Sem Value}{g:Int->Int->Int}
  (rule:∀ (i j:Int) (t u:Tok) (s:Shared) (Q:Value->Shared->Prop) (E:Value->Shared->Prop),Q (.int (g i j) s.toks) {s with toks:=s.toks+1 }->wpAny (model X.prog X.w) X.A (f (.int i t) (.int j u)) Q E s) :
  OpR X f (rI0 fun i j=>.int (g i j)):=by
 intro pins s σ H x y v u Q I rx ry h
 obtain ⟨i,j,rfl,rfl,q⟩:=h
 obtain ⟨t,rfl⟩:=rx
 obtain ⟨t',rfl⟩:=ry
 exact rule i j t t' s _ _ ⟨.int (g i j),H,I.tok _,⟨_,rfl⟩,q⟩
theorem Zel {f:Value->Value->Sem Value}{g:Int->Int->Bool}
  (rule:∀ (i j:Int) (t u:Tok) (s:Shared) (Q:Value->Shared->Prop) (E:Value->Shared->Prop),Q (.bool (g i j)) s->wpAny (model X.prog X.w) X.A (f (.int i t) (.int j u)) Q E s) :
  OpR X f (rI0 fun i j=>.bl (g i j)):=by
 intro pins s σ H x y v u Q I rx ry h
 obtain ⟨i,j,rfl,rfl,q⟩:=h
 obtain ⟨t,rfl⟩:=rx
 obtain ⟨t',rfl⟩:=ry
 exact rule i j t t' s _ _ ⟨.bl (g i j),H,I,rfl,q⟩
def Zi1 (i j:Int):Prop:=0 < j/\j < 1073741824
def Zi2 (i j:Int):Prop:=0<=j/\j<=1000000/\i.natAbs < 2 ^ 64
def CMul (i j:Int):Prop:=(-(2 ^ 64) < i/\i < 2 ^ 64)\/(-(2 ^ 64) < j/\j < 2 ^ 64)
theorem CMul.ok {i j:Int}(h:CMul i j):IntMulOk i j:=by
 rcases h with ⟨h1,h2⟩ | ⟨h1,h2⟩
 ·exact .of_left (intBits_le_64 h1 h2)
 ·exact .of_right (intBits_le_64 h1 h2)
theorem Zzf:OpR X (binaryOp .Add) (rI0 fun i j=>.int (i+j)):=Zqx fun _ _ _ _ _ _ _ q=>add_int q
theorem Zzg:OpR X (binaryOp .Sub) (rI0 fun i j=>.int (i - j)):=Zqx fun _ _ _ _ _ _ _ q=>sub_int q
theorem Zzh:OpR X (binaryOp .Mult) (rI CMul fun i j=>.int (i * j)):=opI fun _ _ _ _ _ _ _ hc q=>mul_int q hc.ok
theorem Zxf:OpR X (binaryOp .FloorDiv) (rI Zi1 fun i j=>.int (i / j)):=opI fun i j _ _ _ _ _ hc q=>by
 have h1:(0:Int) < j:=hc.1
 have h2:j < 1073741824:=hc.2
 exact floordiv_int (by lia) (by rw [Int.fdiv_eq_ediv_of_nonneg i (by lia)]; exact q) (.inl (PyProof.noPylong_small (by lia)))
theorem Zzi:OpR X (binaryOp .Mod) (rI (fun _ j=>0 < j) fun i j=>.int (i % j)):=opI fun i j _ _ _ _ _ hc q=>by
 have h1:(0:Int) < j:=hc
 exact mod_int' (by lia) (by rw [Int.fmod_eq_emod_of_nonneg i (by lia)]; exact q)
theorem Zzj:OpR X (binaryOp .Pow) (rI Zi2 fun i j=>.int (i ^ j.toNat)):=opI fun _ _ _ _ _ _ _ hc q=>pow_int_small hc.1 hc.2.1 hc.2.2 q
end
def Zqy:V->V->Bool
 | .non,.non=>true | .non,.int _=>true | .int _,.non=>true | .non,.bl _=>true | .bl _,.non=>true | .non,.str _=>true | .str _,.non=>true
 | .int _,.int _=>true | .bl _,.bl _=>true | .str _,.str _=>true | .byt _,.byt _=>true
 | .int _,.str _=>true | .str _,.int _=>true | .bl _,.str _=>true | .str _,.bl _=>true
 | _,_=>false
def rEq:R2:=fun x y H Q=>Zqy x y=true/\Q (.bl (decide (x=y))) H
def rNe:R2:=fun x y H Q=>Zqy x y=true/\Q (.bl (!decide (x=y))) H
theorem Zf3 {i j:Int}:decide (V.int i=V.int j)=(i == j):=by
 rw [Bool.eq_iff_iff]
 simp
theorem Zgt {i j:Bool}:decide (V.bl i=V.bl j)=(i == j):=by
 rw [Bool.eq_iff_iff]
 simp
theorem Zf4 {i j:Str}:decide (V.str i=V.str j)=(i == j):=by
 rw [Bool.eq_iff_iff]
 simp
theorem Zmq {i j:Array UInt8}:decide (V.byt i=V.byt j)=(i.toList == j.toList):=by
 rw [Bool.eq_iff_iff]
 cases i
 cases j
 simp
section
variable {X:Cx}{a b c:Expr}{ta tb tc:TE}{pos:Pos}
theorem Z3 {pins:List (Addr×Obj)}{σ:St}{H:Hp}{s:Shared}{Q:VK}{k k':Bool}(I:Inv X pins σ H s) (q:Q (.bl k) H) (e:k=k'):EP X pins σ Q (.bool k') s:=by
 subst e
 exact ⟨.bl k,H,I,rfl,q⟩
theorem Z0n:OpR X (compareOp .Eq) rEq:=by
 intro pins s σ H x y v u Q I rx ry h
 obtain ⟨hs,q⟩:=h
 cases x with
 | non =>
  cases rx
  cases y with
  | non=>cases ry; exact PySem.EqNone.eq_none_none (Z3 I q (by simp))
  | bl j=>cases ry; exact PySem.EqNone.eq_none_bool (Z3 I q (by simp))
  | int j=>obtain ⟨t',rfl⟩:=ry; exact PySem.EqNone.eq_none_int (Z3 I q (by simp))
  | str j=>obtain ⟨t',rfl⟩:=ry; exact PySem.EqNone.eq_none_str (Z3 I q (by simp))
  | _=>exact absurd (show false=true from hs) Bool.false_ne_true
 | bl i =>
  cases rx
  cases y with
  | non=>cases ry; exact PySem.EqNone.eq_bool_none (Z3 I q (by simp))
  | bl j=>cases ry; exact eq_bool (Z3 I q Zgt)
  | str j=>obtain ⟨t',rfl⟩:=ry; exact PySem.EqMixed.eq_bool_str (Z3 I q (by simp))
  | _=>exact absurd (show false=true from hs) Bool.false_ne_true
 | int i =>
  obtain ⟨t,rfl⟩:=rx
  cases y with
  | non=>cases ry; exact PySem.EqNone.eq_int_none (Z3 I q (by simp))
  | int j=>obtain ⟨t',rfl⟩:=ry; exact eq_int (Z3 I q Zf3)
  | str j=>obtain ⟨t',rfl⟩:=ry; exact PySem.EqMixed.eq_int_str (Z3 I q (by simp))
  | _=>exact absurd (show false=true from hs) Bool.false_ne_true
 | str i =>
  obtain ⟨t,rfl⟩:=rx
  cases y with
  | non=>cases ry; exact PySem.EqNone.eq_str_none (Z3 I q (by simp))
  | bl j=>cases ry; exact PySem.EqMixed.eq_str_bool (Z3 I q (by simp))
  | int j=>obtain ⟨t',rfl⟩:=ry; exact PySem.EqMixed.eq_str_int (Z3 I q (by simp))
  | str j=>obtain ⟨t',rfl⟩:=ry; exact eq_str (Z3 I q Zf4)
  | _=>exact absurd (show false=true from hs) Bool.false_ne_true
 | byt i =>
  obtain ⟨t,rfl⟩:=rx
  cases y with
  | byt j=>obtain ⟨t',rfl⟩:=ry; exact PySem.W.eq_bytes (Z3 I q Zmq)
  | _=>exact absurd (show false=true from hs) Bool.false_ne_true
 | _=>cases y <;> exact absurd (show false=true from hs) Bool.false_ne_true
theorem Z0o:OpR X (compareOp .NotEq) rNe:=by
 intro pins s σ H x y v u Q I rx ry h
 obtain ⟨hs,q⟩:=h
 cases x with
 | non =>
  cases rx
  cases y with
  | non=>cases ry; exact PySem.EqNone.ne_none_none (Z3 I q (by simp))
  | bl j=>cases ry; exact PySem.EqNone.ne_none_bool (Z3 I q (by simp))
  | int j=>obtain ⟨t',rfl⟩:=ry; exact PySem.EqNone.ne_none_int (Z3 I q (by simp))
  | str j=>obtain ⟨t',rfl⟩:=ry; exact PySem.EqNone.ne_none_str (Z3 I q (by simp))
  | _=>exact absurd (show false=true from hs) Bool.false_ne_true
 | bl i =>
  cases rx
  cases y with
  | non=>cases ry; exact PySem.EqNone.ne_bool_none (Z3 I q (by simp))
  | bl j=>cases ry; exact ne_bool (Z3 I q (congrArg not Zgt))
  | str j=>obtain ⟨t',rfl⟩:=ry; exact PySem.EqMixed.ne_bool_str (Z3 I q (by simp))
  | _=>exact absurd (show false=true from hs) Bool.false_ne_true
 | int i =>
  obtain ⟨t,rfl⟩:=rx
  cases y with
  | non=>cases ry; exact PySem.EqNone.ne_int_none (Z3 I q (by simp))
  | int j=>obtain ⟨t',rfl⟩:=ry; exact ne_int (Z3 I q (congrArg not Zf3))
  | str j=>obtain ⟨t',rfl⟩:=ry; exact PySem.EqMixed.ne_int_str (Z3 I q (by simp))
  | _=>exact absurd (show false=true from hs) Bool.false_ne_true
 | str i =>
  obtain ⟨t,rfl⟩:=rx
  cases y with
  | non=>cases ry; exact PySem.EqNone.ne_str_none (Z3 I q (by simp))
  | bl j=>cases ry; exact PySem.EqMixed.ne_str_bool (Z3 I q (by simp))
  | int j=>obtain ⟨t',rfl⟩:=ry; exact PySem.EqMixed.ne_str_int (Z3 I q (by simp))
  | str j=>obtain ⟨t',rfl⟩:=ry; exact ne_str (Z3 I q (congrArg not Zf4))
  | _=>exact absurd (show false=true from hs) Bool.false_ne_true
 | byt i =>
  obtain ⟨t,rfl⟩:=rx
  cases y with
  | byt j=>obtain ⟨t',rfl⟩:=ry; exact PySem.W.ne_bytes (Z3 I q (congrArg not Zmq))
  | _=>exact absurd (show false=true from hs) Bool.false_ne_true
 | _=>cases y <;> exact absurd (show false=true from hs) Bool.false_ne_true
theorem Z0p:OpR X (compareOp .Lt) (rI0 fun i j=>.bl (decide (i < j))):=Zel fun _ _ _ _ _ _ _ q=>lt_int q
theorem Z0q:OpR X (compareOp .LtE) (rI0 fun i j=>.bl (decide (i<=j))):=Zel fun _ _ _ _ _ _ _ q=>le_int q
theorem Z0r:OpR X (compareOp .Gt) (rI0 fun i j=>.bl (decide (j < i))):=Zel fun _ _ _ _ _ _ _ q=>gt_int q
theorem Z0s:OpR X (compareOp .GtE) (rI0 fun i j=>.bl (decide (j<=i))):=Zel fun _ _ _ _ _ _ _ q=>ge_int q
theorem Ztu:OpR X (compareOp .Lt) (fun x y H Q=>∃ i j,x = .str i/\y = .str j/\Q (.bl (decide (i.cps.toList < j.cps.toList))) H):=by
 intro pins s σ H x y v u Q I rx ry h
 obtain ⟨i,j,rfl,rfl,q⟩:=h
 obtain ⟨t,rfl⟩:=rx
 obtain ⟨t',rfl⟩:=ry
 exact lt_str (Z3 I q rfl)
theorem Zzk:OpR X (compareOp .Is) (fun x y H Q=>y = .non/\Q (.bl (decide (x = .non))) H):=by
 intro pins s σ H x y v u Q I rx ry h
 obtain ⟨rfl,q⟩:=h
 cases ry
 refine is_none_gen (Z3 I q ?_)
 cases x <;> first
  | (cases rx; rfl)
  | (obtain ⟨t,rfl⟩:=rx; rfl)
theorem Zxg:OpR X (compareOp .IsNot) (fun x y H Q=>y = .non/\Q (.bl (!decide (x = .non))) H):=by
 intro pins s σ H x y v u Q I rx ry h
 obtain ⟨rfl,q⟩:=h
 cases ry
 refine isnot_none_gen (Z3 I q ?_)
 cases x <;> first
  | (cases rx; rfl)
  | (obtain ⟨t,rfl⟩:=rx; rfl)
theorem Zw (b:Expr) {op:CmpOp}(h:op ≠ .In:=by decide) (h2:op ≠ .NotIn:=by decide):behindInMarks op b=false:=by
 have e1:(op == CmpOp.In)=false:=by cases op <;> first | rfl | exact absurd rfl h
 have e2:(op == CmpOp.NotIn)=false:=by cases op <;> first | rfl | exact absurd rfl h2
 cases b <;> simp [behindInMarks,e1,e2]
theorem Zxh {op:CmpOp}{r:R2}(ho:OpR X (compareOp op) r) (ha:PE X a ta) (hb:PE X b tb) (hm:behindInMarks op b=false):PE X (.Compare a [op] [b] pos) (tOp r ta tb):=by
 intro pins s σ H Q I h
 exact wpAny_Compare1 (Zi0 ha hb I h fun v u s2 x y H2 I2 rx ry q=>ho pins s2 σ H2 x y v u Q I2 rx ry q) hm
def Zcd (t:TE):TT:=fun σ H Q=>t σ H fun x H'=>∃ k,x = .bl k/\Q k H'
theorem Zxi {op:CmpOp}{r:R2}(ho:OpR X (compareOp op) r) (ha:PE X a ta) (hb:PE X b tb) (hm:behindInMarks op b=false):PT X (.Compare a [op] [b] pos) (Zcd (tOp r ta tb)):=by
 intro pins s σ H Q I h
 refine wpAny_isTrue_Compare1 (thn (ha pins s σ H _ I h) fun v s1 ⟨x,H1,I1,r1,q1⟩=>thn (hb pins s1 σ H1 _ I1 q1) fun u s2 ⟨y,H2,I2,r2,q2⟩ =>
  thn (ho pins s2 σ H2 x y v u _ I2 r1 r2 q2) fun c s3 ⟨z,H3,I3,r3,k,e,q3⟩=>?_) hm
 subst e
 cases r3
 exact wpAny_truthy_bool ⟨H3,I3,q3⟩
def Zd0 (r r':R2) (ta tb tc:TE):TE:=fun σ H Q=>ta σ H fun x H1=>tb σ H1 fun y H2=>r x y H2 fun z H3=>∃ k,z = .bl k /\
 (if k=true then tc σ H3 fun w' H4=>r' y w' H4 Q else Q (.bl false) H3)
theorem Zu8 {op op':CmpOp}{r r':R2}(ho:OpR X (compareOp op) r) (ho':OpR X (compareOp op') r') (ha:PE X a ta) (hb:PE X b tb) (hc:PE X c tc)
  (hm:lastMarks [op,op'] [b,c]=false:=by with_unfolding_all rfl):PE X (.Compare a [op,op'] [b,c] pos) (Zd0 r r' ta tb tc):=by
 intro pins s σ H Q I h
 refine Compare_chain (thn (ha pins s σ H _ I h) fun v s1 ⟨x,H1,I1,r1,q1⟩=>chain_link (thn (hb pins s1 σ H1 _ I1 q1) fun u s2 ⟨y,H2,I2,r2,q2⟩ =>
  thn (ho pins s2 σ H2 x y v u _ I2 r1 r2 q2) fun d s3 ⟨z,H3,I3,r3,k,e,q3⟩=>?_)) hm
 subst e
 cases r3
 refine wpAny_truthy_bool ?_
 cases k with
 | false=>exact ite_ff ⟨.bl false,H3,I3,rfl,q3⟩
 | true=>exact ite_tt (chain_last (thn (hc pins s3 σ H3 _ I3 q3) fun w' s4 ⟨z',H4,I4,r4,q4⟩=>ho' pins s4 σ H4 y z' u w' Q I4 r2 r4 q4))
theorem Zu9 {op op':CmpOp}{r r':R2}(ho:OpR X (compareOp op) r) (ho':OpR X (compareOp op') r') (ha:PE X a ta) (hb:PE X b tb) (hc:PE X c tc)
  (hm:lastMarks [op,op'] [b,c]=false:=by with_unfolding_all rfl):PT X (.Compare a [op,op'] [b,c] pos) (Zcd (Zd0 r r' ta tb tc)):=by
 intro pins s σ H Q I h
 refine isTrue_chain (thn (ha pins s σ H _ I h) fun v s1 ⟨x,H1,I1,r1,q1⟩=>test_link (thn (hb pins s1 σ H1 _ I1 q1) fun u s2 ⟨y,H2,I2,r2,q2⟩ =>
  thn (ho pins s2 σ H2 x y v u _ I2 r1 r2 q2) fun d s3 ⟨z,H3,I3,r3,k,e,q3⟩=>?_)) hm
 subst e
 cases r3
 refine wpAny_truthy_bool ?_
 cases k with
 | false =>
  obtain ⟨k',e',q'⟩:=q3
  cases e'
  exact ite_ff ⟨H3,I3,q'⟩
 | true =>
  refine ite_tt (test_last (thn (hc pins s3 σ H3 _ I3 q3) fun w' s4 ⟨z',H4,I4,r4,q4⟩=>thn (ho' pins s4 σ H4 y z' u w' _ I4 r2 r4 q4) fun d' s5 ⟨z2,H5,I5,r5,k2,e2,q5⟩=>?_))
  subst e2
  cases r5
  exact wpAny_truthy_bool ⟨H5,I5,q5⟩
def Zi3 (K:PySem.W.Frag) (x:V) (H:Hp) (k:Bool):Prop :=
 match x with
 | .non=>k=false
 | .bl b=>k=b
 | .int i=>k=(i != 0)
 | .str y=>y.length<=sizeLine/\k=((y.length:Int) != 0)
 | .byt y=>y.size<=sizeLine/\k=((y.size:Int) != 0)
 | .ref p=>(∃ xs,SqL K H p xs/\k = !xs.isEmpty)\/(∃ xs,SqT K H p xs/\k = !xs.isEmpty)\/∃ kvs,H p=some (.dK kvs)/\k = !kvs.isEmpty
 | _=>False
theorem Zst {κ:Type}{kvs:List (κ×V)}{vs:List (κ×Value)}(r:KV kvs vs):(!vs.isEmpty) = !kvs.isEmpty:=by
 cases r <;> rfl
theorem Zks {xs:List V}{its:List Value}(r:Vals xs its):(!its.toArray.isEmpty) = !xs.isEmpty:=by
 cases r <;> simp
theorem U9:(sizeLine:Nat) < 2 ^ 63:=by rw [sizeLine_eq]; decide
theorem Zzl:Z65 X (fun x H Q=>∃ k,Zi3 X.K x H k/\Q k H):=by
 intro pins s σ H x v Q I rx h
 obtain ⟨k,e,q⟩:=h
 have hl:=U9
 have hs:sizeLine=16777216:=sizeLine_eq
 cases x with
 | non =>
  cases rx
  have e':k=false:=e
  subst e'
  exact truthy_none ⟨H,I,q⟩
 | bl b =>
  cases rx
  have e':k=b:=e
  subst e'
  exact wpAny_truthy_bool ⟨H,I,q⟩
 | int i =>
  obtain ⟨t,rfl⟩:=rx
  have e':k=(i != 0):=e
  subst e'
  exact PySem.P.truthy_int ⟨H,I,q⟩
 | str y =>
  obtain ⟨t,rfl⟩:=rx
  obtain ⟨hy,e'⟩:y.length<=sizeLine/\k=((y.length:Int) != 0):=e
  subst e'
  exact PySem.P.truthy_str (by lia) ⟨H,I.tok _,q⟩
 | byt y =>
  obtain ⟨t,rfl⟩:=rx
  obtain ⟨hy,e'⟩:y.size<=sizeLine/\k=((y.size:Int) != 0):=e
  subst e'
  exact PySem.W.truthy_bytes (by lia) ⟨H,I.tok _,q⟩
 | ref p =>
  cases rx
  have e':(∃ xs,SqL X.K H p xs/\k = !xs.isEmpty)\/(∃ xs,SqT X.K H p xs/\k = !xs.isEmpty)\/∃ kvs,H p=some (.dK kvs)/\k = !kvs.isEmpty:=e
  rcases e' with ⟨xs,hx,e'⟩ | ⟨xs,hx,e'⟩ | ⟨kvs,hx,e'⟩
  ·subst e'
   obtain ⟨its,r,pl,hz⟩:=I.list hx
   have hlen:=r.length
   exact wpAny_truthy_list pl.isList (by simp only [List.size_toArray]; lia) ⟨H,I.tok _,by rw [Zks r]; exact q⟩
  ·subst e'
   obtain ⟨its,r,pl,hz⟩:=I.tuple hx
   have hlen:=r.length
   exact truthy_tuple pl (by simp only [List.size_toArray]; lia) ⟨H,I.tok _,by rw [Zks r]; exact q⟩
  ·subst e'
   obtain ⟨hz,hS,vs,r,m⟩:kvs.length<=sizeLine/\(p == sysModules)=false/\∃ vs,KV kvs vs/\s.heap.DictOf (Ym X.prog X.w) p vs:=I.hok p _ hx
   have hlen:kvs.length=vs.length:=Paired.length r
   exact wpAny_truthy_dict hS m (by lia) ⟨H,I.tok _,by rw [Zst r]; exact q⟩
 | _=>exact (show False from e).elim
theorem Zva (ha:PE X a ta) (he:∀ whole,isTrue a X.env whole=(do let v ← whole; standAt a.pos; holding [v] (truthy v))) :
  PT X a (fun σ H Q=>ta σ H fun x H'=>∃ k,Zi3 X.K x H' k/\Q k H'):=by
 intro pins s σ H Q I h
 exact isTrue_plain (thn (ha pins s σ H _ I h) fun v s1 ⟨x,H1,I1,r1,q1⟩=>Zzl pins s1 σ H1 x v Q I1 r1 q1) (he _)
theorem Zsu:OpR X (binaryOp .Add) (fun x y H Q=>∃ i j,x = .str i/\y = .str j/\i.length+j.length<=sizeLine/\Q (.str (i++j)) H):=by
 intro pins s σ H x y v u Q I rx ry h
 obtain ⟨i,j,rfl,rfl,hz,q⟩:=h
 obtain ⟨t,rfl⟩:=rx
 obtain ⟨t',rfl⟩:=ry
 exact add_str (fun t' tk=>⟨.str (i++j),H,I.tok _,⟨_,rfl⟩,q⟩) hz
theorem Vt {x:V}{us:List Value}(r:Vals [x] us):∃ u,us = [u]/\RelV x u:=by
 cases r with
 | cons r1 r2=>cases r2; exact ⟨_,rfl,r1⟩
theorem Zha {x y:V}{us:List Value}(r:Vals [x,y] us):∃ u w',us = [u,w']/\RelV x u/\RelV y w':=by
 cases r with
 | cons r1 r2 =>
  cases r2 with
  | cons r3 r4=>cases r4; exact ⟨_,_,rfl,r1,r3⟩
theorem Ztv (hc:X.calm=true):Wh X (.builtin "max") (fun xs H Q=>∃ i j,xs = [.int i,.int j]/\Q (.int (if j > i then j else i)) H):=by
 intro pins s σ H xs us Q I r h
 obtain ⟨i,j,rfl,q⟩:=h
 obtain ⟨u,w',rfl,⟨t,rfl⟩,⟨t',rfl⟩⟩:=Zha r
 refine max_two_ints (I.ok.hd hc) fun h' tk k=>⟨_,H,I.kept k,?_,q⟩
 by_cases hj:j > i
 ·rw [if_pos hj,if_pos hj]; exact ⟨_,rfl⟩
 ·rw [if_neg hj,if_neg hj]; exact ⟨_,rfl⟩
end
end L2
namespace L2
open PySem PySem.Spec PyProof.Rows
structure ObjM (h:Heap) (x dx C:Addr) (mA:Str->Option Value):Prop where
 obj:h.get? x=some (PySem.W.instObj C dx)
 ns:h.Ns1 dx mA
 ne:dx≠x
theorem Ztw {h:Heap}{dx:Addr}{mA:Str->Option Value}(n:h.Ns1 dx mA):∃ od,h.get? dx=some od/\∀ name,PySem.W.lookIn name od=some (mA name):=by
 obtain ⟨o,es,ep,ho,hd,hk,_,hm⟩:=n
 refine ⟨o,ho,fun name=>?_⟩
 have e:=hm name
 unfold nsFind findBy at e
 rw [← Array.find?_toList] at e
 unfold PySem.W.lookIn
 rw [hd]
 dsimp only
 split
 ·rename_i y q
  rw [q] at e
  exact congrArg some e
 ·rename_i q
  rw [q] at e
  have a:es.toList.any (·.refKey)=false:=by
   rw [List.any_eq_false]
   intro y hy
   obtain ⟨z,t,hkey⟩:=hk y (Array.mem_toList_iff.mp hy)
   simp [DictEntry.refKey,hkey]
  have a':¬ es.toList.any (·.refKey)=true:=by rw [a]; exact Bool.false_ne_true
  rw [if_neg a']
  exact congrArg some e
theorem ObjM.look {h:Heap}{x dx C:Addr}{mA:Str->Option Value}(I:ObjM h x dx C mA):∃ od,PySem.W.InstAt h x (PySem.W.instObj C dx) C (some od)/\∀ name,PySem.W.lookIn name od=some (mA name) :=
 let ⟨od,ho,hl⟩:=Ztw I.ns
 ⟨od,⟨I.obj,rfl,rfl,ho⟩,hl⟩
section
variable {prog:Program}{w:World}{A:Around}{E:Value->Shared->Prop}{s:Shared}{K:PySem.W.Frag}{x dx C f:Addr}{mA:Str->Option Value}{name:Str}{v:Value}
theorem Zxj {expr:Bool}{Q:Value->Shared->Prop}(X:K.In s.heap) (I:ObjM s.heap x dx C mA) (hg:PySem.W.plainGet K C name=true) (hh:PySem.W.hasDictIn K C=true)
  (ha:PySem.W.findIn K (.ref C) name=some none) (hv:mA name=some v) (hv':PySem.W.handedIn v=true) (h:Q v {s with toks:=s.toks+1 }) :
  wpAny (model prog w) A (getAttr (.ref x) name expr) Q E s:=by
 obtain ⟨od,J,hl⟩:=I.look
 exact PySem.W.get_value X J (PySem.W.plainGet_of hg).1 (PySem.W.findObj_own hh ha rfl (by rw [hl,hv])) hv' h
theorem Zvb {pl:Sem Bool}{Q:Value×List Value->Shared->Prop}(X:K.In s.heap) (I:ObjM s.heap x dx C mA) (hg:PySem.W.plainGet K C name=true)
  (hf:PySem.W.findIn K (.ref C) name=some (some (.ref f))) (ht:PySem.W.isFn K (.ref f)=true) (hv:mA name=none) (h:Q (.ref f,[.ref x]) s) :
  wpAny (model prog w) A (getMethod (.ref x) name pl) Q E s:=by
 obtain ⟨od,J,hl⟩:=I.look
 exact PySem.W.method_fn X J (PySem.W.plainGet_of hg).1 (PySem.W.plainGet_of hg).2 hf (beq_iff_eq.mp ht) (by show (PySem.W.lookIn name od).map (·.isSome)=some false; rw [hl,hv]; rfl) h
theorem Zxk {ns:List Str}{Q:Unit->Shared->Prop}(X:K.In s.heap) (I:ObjM s.heap x dx C mA)
  (hs:PySem.W.findIn K (.ref C) "__setattr__" = some (some (.builtin "object.__setattr__"))) (hp:PySem.W.plainOver K C=true) (ht:PySem.W.takerIn K C name=some none) (hh:PySem.W.hasDictIn K C=true)
  (hw:PySem.Within mA ns) (hsz:ns.length<=sizeLine)
  (h:∀ h',ObjM h' x dx C (fun y=>if y=name then some v else mA y)->Heap.SameBut dx s.heap h'->Q () {s with heap:=h',toks:=s.toks+2 }) :
  wpAny (model prog w) A (setAttr (.ref x) name v) Q E s:=by
 obtain ⟨od,J,hl⟩:=I.look
 refine PySem.W.set_plain X J hs (PySem.W.osa_open (s:={s with toks:=s.toks+1 }) (r:=none) X J hp ht fun b=>?_)
 obtain ⟨cd,hc,hd'⟩:=PySem.W.any_some hh
 have hx:s.heap.get? x=some ⟨.ref C,some dx,.plain,#[]⟩:=I.obj
 refine wpAny_bind (wpAny_pure (wpAny_bind (wpAny_bind (wpAny_loadPart hx (wpAny_bind (PySem.W.Looks.here (s:={s with toks:=s.toks+1 }) (PySem.W.looks_clsIn X hc) ?_))))))
 rw [hd']
 refine wpAny_pure (a:=some dx) (wpAny_bind (wpAny_pure (wpAny_bind ?_)))
 refine wpAny_nsSet1 (s:={s with toks:=s.toks+1 }) I.ns fun h' hn2 hs2=>?_
 obtain ⟨oD,esD,epD,hoD,hdD,hcD⟩:=hn2.count (PySem.Within.cons name v hw)
 refine wpAny_bind (wpAny_lookBehind hoD (by rw [hdD]; exact pastItsLine_dict (Nat.le_trans hcD (by rw [List.length_cons]; lia))) ?_)
 exact wpAny_pure (h _ ⟨(hs2.2 _ (Ne.symm I.ne)).trans I.obj,hn2,I.ne⟩ hs2)
theorem Zvc {R:Result->Shared->Prop}{vs:List Value}{kw:List (Str×Value)}(X:K.In s.heap) (hm:PySem.W.makesIn K C=true)
  (hi:PySem.W.findIn K (.ref C) "__init__" = some (some (.ref f))) (hf:PySem.W.typeIn K (.ref f)=some (.type "function"))
  (h:codeAny (model prog w) (A.under (.builtin "type.__call__" ⟨.ref C::vs,kw⟩)) (.call (.ref f) ⟨.ref (s.heap.objs.size+1)::vs,kw⟩) (PySem.W.InitBack (s.heap.objs.size+1) R)
   {s with heap:=(s.heap.push PySem.W.emptyDict).push (PySem.W.instObj C s.heap.objs.size) }) :
  codeAny (model prog w) A (.call (.ref C) ⟨vs,kw⟩) R s:=by
 obtain ⟨hh,g,d,t,os⟩:=s
 exact PySem.W.make_core (PySem.W.makes_of X hm) (PySem.W.looks_findIn X hi) (fun self=>PySem.W.bind_fn X self hf) (.inl rfl) h
end
def Zj (f:Str) (v:V):List (Str×V)->List (Str×V)
 | []=>[(f,v)]
 | (g,x)::r=>if g=f then (g,v)::r else (g,x)::Zj f v r
theorem Z8 (f g:Str) (v:V):∀ fs:List (Str×V),(Zj f v fs).lookup g=if g=f then some v else fs.lookup g
 | []=>by
  show List.lookup g [(f,v)]=_
  by_cases h:g=f
  ·have hb:(g == f)=true:=beq_iff_eq.mpr h
   simp only [List.lookup,hb,if_pos h]
  ·have hb:(g == f)=false:=beq_eq_false_iff_ne.mpr h
   simp only [List.lookup,hb,if_neg h]
 | (k,x)::r=>by
  have ih:=Z8 f g v r
  rw [show Zj f v ((k,x)::r)=(if k=f then (k,v)::r else (k,x)::Zj f v r) from rfl]
  by_cases hk:k=f
  ·rw [if_pos hk]
   by_cases h:g=k
   ·have hb:(g == k)=true:=beq_iff_eq.mpr h
    simp only [List.lookup,hb,if_pos (h.trans hk)]
   ·have hb:(g == k)=false:=beq_eq_false_iff_ne.mpr h
    simp only [List.lookup,hb,if_neg (fun e:g=f=>h (e.trans hk.symm))]
  ·rw [if_neg hk]
   by_cases h:g=k
   ·have hb:(g == k)=true:=beq_iff_eq.mpr h
    simp only [List.lookup,hb,if_neg (fun e:g=f=>hk (h.symm.trans e))]
   ·have hb:(g == k)=false:=beq_eq_false_iff_ne.mpr h
    simp only [List.lookup,hb]
    exact ih
theorem Zfl (f:Str) (v:V):∀ fs:List (Str×V),f∈(Zj f v fs).map (·.1)/\∀ g,g∈fs.map (·.1)->g∈(Zj f v fs).map (·.1)
 | []=>⟨by simp [Zj],fun g h=>by simp at h⟩
 | (k,x)::r=>by
  obtain ⟨i1,i2⟩:=Zfl f v r
  rw [show Zj f v ((k,x)::r)=(if k=f then (k,v)::r else (k,x)::Zj f v r) from rfl]
  by_cases hk:k=f
  ·rw [if_pos hk]
   subst hk
   exact ⟨by simp,fun g h=>by simpa using h⟩
  ·rw [if_neg hk]
   refine ⟨?_,fun g h=>?_⟩
   ·rw [List.map_cons]
    exact List.mem_cons_of_mem _ i1
   ·rw [List.map_cons] at h ⊢
    rcases List.mem_cons.mp h with e | e
    ·exact List.mem_cons.mpr (.inl e)
    ·exact List.mem_cons_of_mem _ (i2 g e)
theorem Wl (f:Str) (v:V):∀ fs:List (Str×V),(Zj f v fs).length<=fs.length+1
 | []=>by simp [Zj]
 | (k,x)::r=>by
  have ih:=Wl f v r
  rw [show Zj f v ((k,x)::r)=(if k=f then (k,v)::r else (k,x)::Zj f v r) from rfl]
  by_cases hk:k=f
  ·rw [if_pos hk,List.length_cons,List.length_cons]; lia
  ·rw [if_neg hk,List.length_cons,List.length_cons]; lia
theorem RelO.some_of {v:V}{o:Option Value}(r:RelO (some v) o):∃ u,o=some u/\RelV v u:=by
 cases o with
 | none=>exact (show False from r).elim
 | some u=>exact ⟨u,rfl,r⟩
theorem RelO.none_of {o:Option Value}(r:RelO none o):o=none:=by
 cases o with
 | none=>rfl
 | some u=>exact (show False from r).elim
theorem Ztx {v:V}{u:Value}(r:RelV v u):PySem.W.handedIn u=true:=by
 cases v with
 | non=>cases (show u=Value.none from r); rfl
 | bl b=>cases (show u=Value.bool b from r); rfl
 | int i=>obtain ⟨t,e⟩:=(show ∃ t,u=Value.int i t from r); cases e; rfl
 | str x=>obtain ⟨t,e⟩:=(show ∃ t,u=Value.str x t from r); cases e; rfl
 | byt b=>obtain ⟨t,e⟩:=(show ∃ t,u=Value.bytes b t from r); cases e; rfl
 | flt b=>obtain ⟨t,e⟩:=(show ∃ t,u=Value.float b t from r); cases e; rfl
 | ref a=>cases (show u=Value.ref a from r); rfl
 | ty n=>cases (show u=Value.type n from r); rfl
section
variable {P:Program}{w:World}{H H':Hp}{h h':Heap}{a C dx:Addr}{fs fs':List (Str×V)}
theorem Zdn (hok:HOk P w H h) (e:H a=some (.ins C dx fs)):∃ mA,ObjM h a dx C mA/\(∀ f,RelO (fs.lookup f) (mA f))/\PySem.Within mA (fs.map (·.1))/\fs.length<=1000/\H dx=some (.own a):=by
 obtain ⟨d,z,ne,ob,mA,n,r,q⟩:=(show ObjOk P w H h a (.ins C dx fs) from hok a _ e)
 exact ⟨mA,⟨ob,n,ne⟩,r,q,z,d⟩
end
structure Cls (K:PySem.W.Frag) (C:Addr):Prop where
 pg:PySem.W.plainGet K C Str.empty=true
 hd:PySem.W.hasDictIn K C=true
 po:PySem.W.plainOver K C=true
 sa:PySem.W.findIn K (.ref C) "__setattr__" = some (some (.builtin "object.__setattr__"))
theorem Cls.get {K:PySem.W.Frag}{C:Addr}(c:Cls K C) (f:Str):PySem.W.plainGet K C f=true:=c.pg
def NoAttr (K:PySem.W.Frag) (C:Addr) (f:Str):Prop:=PySem.W.findIn K (.ref C) f=some none
theorem NoAttr.taker {K:PySem.W.Frag}{C:Addr}{f:Str}(n:NoAttr K C f):PySem.W.takerIn K C f=some none:=by
 unfold PySem.W.takerIn
 rw [show PySem.W.findIn K (.ref C) f=some none from n]
 rfl
structure Con (K:PySem.W.Frag) (C:Addr) (f:Str) (v:V) (u:Value):Prop where
 at_:PySem.W.findIn K (.ref C) f=some (some u)
 rel:RelV v u
 get:PySem.W.specialIn K u "__get__" = some none
 cp:PySem.W.copiedNames.contains f=false
structure Meth (K:PySem.W.Frag) (C:Addr) (m:Str) (f:Addr):Prop where
 at_:PySem.W.findIn K (.ref C) m=some (some (.ref f))
 fn:PySem.W.isFn K (.ref f)=true
 kp:PySem.W.keepIn K (.ref f)=true
section
variable {X:Cx}{pins:List (Addr×Obj)}{σ:St}{H:Hp}{s:Shared}{a C dx:Addr}{fs:List (Str×V)}{f:Str}{v:V}{A:Around}{E:Value->Shared->Prop}
theorem Zsv {b:Bool}{Q:Value->Shared->Prop}(I:Inv X pins σ H s) (e:H a=some (.ins C dx fs)) (c:Cls X.K C) (n:NoAttr X.K C f) (l:fs.lookup f=some v)
  (h:∀ u s',Inv X pins σ H s'->RelV v u->Q u s'):wpAny (model X.prog X.w) A (getAttr (.ref a) f b) Q E s:=by
 obtain ⟨mA,O,r,_,_,_⟩:=Zdn I.hok e
 obtain ⟨u,hu,ru⟩:=RelO.some_of (v:=v) (o:=mA f) (by rw [← l]; exact r f)
 exact Zxj I.kIn O (c.get f) c.hd n hu (Ztx ru) (h u _ (I.tok _) ru)
theorem Zkt {m:Str}{g:Addr}{pl:Sem Bool}{Q:Value×List Value->Shared->Prop}(I:Inv X pins σ H s) (e:H a=some (.ins C dx fs)) (c:Cls X.K C) (k:Meth X.K C m g) (l:fs.lookup m=none)
  (h:Q (.ref g,[.ref a]) s):wpAny (model X.prog X.w) A (getMethod (.ref a) m pl) Q E s:=by
 obtain ⟨mA,O,r,_,_,_⟩:=Zdn I.hok e
 have hn:mA m=none:=RelO.none_of (by rw [← l]; exact r m)
 exact Zvb I.kIn O (c.get m) k.at_ k.fn hn h
theorem Zsw {y:V}{u:Value}{Q:Unit->Shared->Prop}(I:Inv X pins σ H s) (e:H a=some (.ins C dx fs)) (c:Cls X.K C) (n:NoAttr X.K C f) (hl:fs.length < 1000) (ry:RelV y u)
  (h:∀ s',Inv X pins σ (upd H a (.ins C dx (Zj f y fs))) s'->Q () s'):wpAny (model X.prog X.w) A (setAttr (.ref a) f u) Q E s:=by
 obtain ⟨mA,O,r,wi,_,ho⟩:=Zdn I.hok e
 have hz:(fs.map (·.1)).length<=sizeLine:=by rw [List.length_map,sizeLine_eq]; lia
 refine Zxk I.kIn O c.sa c.po n.taker c.hd wi hz fun h' O' sb=>h _ ?_
 have hd:∃ o,h'.get? dx=some o:=let ⟨o,_,_,e',_⟩:=O'.ns; ⟨o,e'⟩
 refine I.write (x:=a) (e:=dx) (by rw [e]; exact True.intro) (.inr ho) (fun b q hb z=>(sb.2 b hb).trans z) hd ?_
 refine ⟨by rw [Zc O.ne]; exact ho,?_,O.ne,O'.obj,_,O'.ns,fun g=>?_,fun g hg=>?_⟩
 ·have:=Wl f y fs; lia
 ·show RelO ((Zj f y fs).lookup g) (if g=f then some u else mA g)
  rw [Z8]
  by_cases q:g=f
  ·rw [if_pos q,if_pos q]; exact ry
  ·rw [if_neg q,if_neg q]; exact r g
 ·by_cases q:g=f
  ·rw [q]; exact (Zfl f y fs).1
  ·refine (Zfl f y fs).2 g (wi g fun z=>hg ?_)
   show (if g=f then some u else mA g)=none
   rw [if_neg q]; exact z
theorem Inv.made (I:Inv X pins σ H s):Inv X pins σ (upd (upd H s.heap.objs.size (.own (s.heap.objs.size+1))) (s.heap.objs.size+1) (.ins C s.heap.objs.size []))
  {s with heap:=(s.heap.push PySem.W.emptyDict).push (PySem.W.instObj C s.heap.objs.size) }:=by
 have e1:(s.heap.push PySem.W.emptyDict).get? s.heap.objs.size=some PySem.W.emptyDict:=Heap.get?_push_size s.heap rfl
 have e2:((s.heap.push PySem.W.emptyDict).push (PySem.W.instObj C s.heap.objs.size)).get? (s.heap.objs.size+1)=some (PySem.W.instObj C s.heap.objs.size):=by
  have:=Heap.get?_push_size (s.heap.push PySem.W.emptyDict) (o:=PySem.W.instObj C s.heap.objs.size) rfl
  rwa [Heap.size_push] at this
 have e3:(s.heap.push PySem.W.emptyDict).Ns s.heap.objs.size (fun _=>none):=⟨PySem.W.emptyDict,#[],_,e1,rfl,(fun e he=>absurd he (by simp)),fun _=>rfl⟩
 have I1:=I.laid (a:=s.heap.objs.size) (o:=.own (s.heap.objs.size+1)) (h':=s.heap.push PySem.W.emptyDict) (t':=s.toks) (fun b u q=>Heap.get?_push_of_some _ q) (Nat.le_refl _) ⟨_,e1⟩
 refine I1.laid (a:=s.heap.objs.size+1) (o:=.ins C s.heap.objs.size []) (t':=s.toks) (fun b u q=>Heap.get?_push_of_some _ q) (Nat.le_of_eq (Heap.size_push _ _)) ?_
 have ne:s.heap.objs.size≠s.heap.objs.size+1:=Nat.ne_of_lt (Nat.lt_succ_self _)
 refine ⟨by rw [Zc ne,Zi],Nat.zero_le _,ne,e2,fun _=>none,(Heap.Ns1.of_empty e3).at fun o q=>Heap.get?_push_of_some _ q,fun _=>True.intro,fun y hy=>absurd rfl hy⟩
theorem Zxl {prog:Program}{w:World}{env:Env}{e:Expr}{f:Str}{pos:Pos}{s:Shared}{Q:Value->Shared->Prop}(hb:attributeBase e f env (eval e env)=eval e env)
  (h:wpAny (model prog w) A (eval e env) (fun o s₁=>wpAny (model prog w) A (getAttr o f true) Q E s₁) E s):wpAny (model prog w) A (eval (.Attribute e f pos) env) Q E s :=
 Attribute_any_ h (by rw [arm_eval_Attribute,hb])
end
def Zi4 (K:PySem.W.Frag) (ta:TE) (f:Str):TE:=fun σ H Q=>ta σ H fun x H1=>∃ a C dx fs v,x = .ref a/\H1 a=some (.ins C dx fs)/\Cls K C/\NoAttr K C f/\fs.lookup f=some v/\Q v H1
def Zqz (K:PySem.W.Frag) (ta tv:TE) (f:Str):TS:=fun D σ H=>tv σ H fun y H1=>ta σ H1 fun x H2=>∃ a C dx fs,x = .ref a/\H2 a=some (.ins C dx fs)/\Cls K C/\NoAttr K C f/\fs.length < 1000 /\
 D.nx σ (upd H2 a (.ins C dx (Zj f y fs)))
section
variable {X:Cx}{o e value:Expr}{f:Str}{pos pos' tpos:Pos}{ta tv:TE}
theorem Znu (he:PE X e ta) (hb:attributeBase e f X.env (eval e X.env)=eval e X.env):PE X (.Attribute e f pos) (Zi4 X.K ta f):=by
 intro pins s σ H Q I h
 refine Zxl hb (thn (he pins s σ H _ I h) fun u s1 ⟨x,H1,I1,rx,a,C,dx,fs,v,ex,ea,c,n,l,q⟩=>?_)
 subst ex
 obtain rfl:u=Value.ref a:=rx
 exact Zsv I1 ea c n l fun u' s2 I2 ru=>⟨v,H1,I2,ru,q⟩
theorem Zzm (ha:PE X o ta) (hv:PE X value tv) (hs:swapsWith value (some (.Attribute o f pos')) pos.line X.env=pure false):PS X (.Assign [.Attribute o f pos'] value pos) (Zqz X.K ta tv f):=by
 intro pins s σ H D I h
 refine plainObj_wpAny_Assign_Attribute (thn (hv pins s σ H _ I h) fun u s1 ⟨y,H1,I1,ry,q⟩=>thn (ha pins s1 σ H1 _ I1 q) fun ov s2 ⟨x,H2,I2,rx,a,C,dx,fs,ex,ea,c,n,l,q2⟩=>?_) hs
 subst ex
 obtain rfl:ov=Value.ref a:=rx
 exact Zsw I2 ea c n l ry fun s3 I3=>⟨σ,_,I3,q2⟩
end
section
variable {X:Cx}{pins:List (Addr×Obj)}{σ:St}{H:Hp}{s:Shared}{A:Around}{E:Value->Shared->Prop}{Q:Value->Shared->Prop}{c:Value}{b:Bool}
inductive TyOf (K:PySem.W.Frag) (H:Hp):V->Value->Prop where
 | non:TyOf K H .non (.type "NoneType")
 | bl (x:Bool):TyOf K H (.bl x) (.type "bool")
 | int (i:Int):TyOf K H (.int i) (.type "int")
 | str (x:Str):TyOf K H (.str x) (.type "str")
 | flt (x:UInt64):TyOf K H (.flt x) (.type "float")
 | lst {a:Addr}{xs:List V}(e:H a=some (.lst xs)):TyOf K H (.ref a) (.type "list")
 | frz {a:Addr}{o:Obj}{xs:List V}(e:H a=some (.frz o (.lst xs))):TyOf K H (.ref a) (.type "list")
 | tup {a:Addr}{xs:List V}(e:H a=some (.tup xs)):TyOf K H (.ref a) (.type "tuple")
 | dK {a:Addr}{kvs:List (Key×V)}(e:H a=some (.dK kvs)):TyOf K H (.ref a) (.type "dict")
 | dT {a:Addr}{kvs:List (List Key×V)}(e:H a=some (.dT kvs)):TyOf K H (.ref a) (.type "dict")
 | ins {a C dx:Addr}{fs:List (Str×V)}(e:H a=some (.ins C dx fs)) (cl:Cls K C) (ha:PySem.W.findIn K (.ref C) "__class__" = some (some (.builtin "object.__class__")))
   (hn:PySem.W.specialIn K (.builtin "object.__class__") "__get__" = some (some (.builtin "getset_descriptor.__get__"))) (htk:PySem.W.takesIn K (.builtin "object.__class__")=some true)
   (hm:PySem.W.mroIn K C (.type "object")=some true):TyOf K H (.ref a) (.ref C)
theorem Zty {x:V}{u t:Value}(I:Inv X pins σ H s) (rx:RelV x u) (ty:TyOf X.K H x t) (e:PySem.W.kitOne X.K t c=some b) (h:∀ tk,Q (.bool b) {s with toks:=tk }) :
  wpAny (model X.prog X.w) A (call (.builtin "isinstance") [u,c]) Q E s:=by
 cases ty with
 | non=>cases (show u=Value.none from rx); exact PySem.W.kia_one PySem.W.kitx_none I.kIn True.intro e (fun z=>nomatch z) h
 | bl y=>cases (show u=Value.bool y from rx); exact PySem.W.kia_one PySem.W.kitx_bool I.kIn True.intro e (fun z=>nomatch z) h
 | int i=>obtain ⟨t,q⟩:=(show ∃ t,u=Value.int i t from rx); cases q; exact PySem.W.kia_one PySem.W.kitx_int I.kIn True.intro e (fun z=>nomatch z) h
 | str y=>obtain ⟨t,q⟩:=(show ∃ t,u=Value.str y t from rx); cases q; exact PySem.W.kia_one PySem.W.kitx_str I.kIn True.intro e (fun z=>nomatch z) h
 | flt y=>obtain ⟨t,q⟩:=(show ∃ t,u=Value.float y t from rx); cases q; exact PySem.W.kia_one PySem.W.kitx_float I.kIn True.intro e (fun z=>nomatch z) h
 | @lst a xs ea =>
  cases (show u=Value.ref a from rx)
  obtain ⟨_,_,n,_,h1⟩:=(show ObjOk X.prog X.w H s.heap a (.lst xs) from I.hok a _ ea)
  exact PySem.W.kia_one PySem.W.kitx_list I.kIn ⟨_,h1,rfl⟩ e (fun z=>nomatch z) h
 | @frz a ob xs ea =>
  cases (show u=Value.ref a from rx)
  obtain ⟨_,_,_,n,_,h1⟩:=(show ObjOk X.prog X.w H s.heap a (.frz ob (.lst xs)) from I.hok a _ ea)
  exact PySem.W.kia_one PySem.W.kitx_list I.kIn ⟨_,h1,rfl⟩ e (fun z=>nomatch z) h
 | @tup a xs ea =>
  cases (show u=Value.ref a from rx)
  obtain ⟨_,_,_,p⟩:=(show ObjOk X.prog X.w H s.heap a (.tup xs) from I.hok a _ ea)
  obtain ⟨o,h1,h2,_⟩:=p
  exact PySem.W.kia_one PySem.W.kitx_tuple I.kIn ⟨o,h1,h2⟩ e (fun z=>nomatch z) h
 | @dK a kvs ea =>
  cases (show u=Value.ref a from rx)
  obtain ⟨_,_,vs,_,p⟩:=(show ObjOk X.prog X.w H s.heap a (.dK kvs) from I.hok a _ ea)
  obtain ⟨o,es,ep,h1,h2,_⟩:=p
  exact PySem.W.kia_one PySem.W.kitx_dict I.kIn ⟨o,h1,h2.1⟩ e (fun z=>nomatch z) h
 | @dT a kvs ea =>
  cases (show u=Value.ref a from rx)
  obtain ⟨_,_,xs,_,o,es,ep,h1,h2,_⟩:=(show ObjOk X.prog X.w H s.heap a (.dT kvs) from I.hok a _ ea)
  exact PySem.W.kia_one PySem.W.kitx_dict I.kIn ⟨o,h1,h2.1⟩ e (fun z=>nomatch z) h
 | @ins a C dx fs ea cl ha hn htk hm =>
  cases (show u=Value.ref a from rx)
  obtain ⟨mA,O,_⟩:=Zdn I.hok ea
  obtain ⟨od,J,_⟩:=O.look
  exact PySem.W.kia_one (PySem.W.kitx_own (cl.get _) cl.hd ha hn htk hm) I.kIn J e (fun z=>nomatch z) h
end
end L2
namespace L2
open PySem PySem.Spec PyProof.Rows
structure Room (k:Nat) (A:Around):Prop where
 hd:A.handled=none
 dp:A.depth+3 * k+5 < recursionLimit
 un:A.units+16 * k+200 < cLine
theorem Room.mono {j k:Nat}{A:Around}(r:Room k A) (h:j<=k):Room j A:=⟨r.hd,by have:=r.dp; lia,by have:=r.un; lia⟩
theorem Room.deeper {k:Nat}{A:Around}(r:Room (k+1) A) (env:Env):Room k (A.deeper env) :=
 ⟨r.hd,by have:=r.dp; show A.depth+1+3 * k+5 < _; lia,by have:=r.un; show A.units+3+16 * k+200 < _; lia⟩
theorem Room.in1 {k:Nat}{A:Around}(r:Room (k+1) A):Room k A.in1 :=
 ⟨r.hd,by have:=r.dp; show A.depth+3 * k+5 < _; lia,by have:=r.un; show A.units+1+16 * k+200 < _; lia⟩
theorem Zsx {A:Around}{C:Addr}{us:List Value}{kw:List (Str×Value)}:(A.under (.builtin "type.__call__" ⟨.ref C::us,kw⟩)).depth=A.depth+1:=by
 first | rfl | simp [Around.under,Code.weight,Code.isCreation,Code.isGuard,Code.isCaller,Code.frames,Code.isFrame,guardIds]
theorem Zsy {A:Around}{C:Addr}{us:List Value}{kw:List (Str×Value)}:(A.under (.builtin "type.__call__" ⟨.ref C::us,kw⟩)).units=A.units+1:=by
 first | rfl | simp [Around.under,Code.cUnits,Code.frames,Code.isFrame]
theorem Room.make {k:Nat}{A:Around}(r:Room (k+1) A) (C:Addr) (us:List Value) (kw:List (Str×Value)):Room k (A.under (.builtin "type.__call__" ⟨.ref C::us,kw⟩)) :=
 ⟨r.hd,by have:=r.dp; rw [Zsx]; lia,by have:=r.un; rw [Zsy]; lia⟩
theorem Room.depth {k:Nat}{A:Around}(r:Room k A):A.depth < recursionLimit:=by have:=r.dp; lia
theorem Room.units {k:Nat}{A:Around}(r:Room k A):A.units+64 < cLine:=by have:=r.un; lia
def Wy:TA:=fun _ H Q=>Q [] H
def Wv (ta:TE) (tr:TA):TA:=fun σ H Q=>ta σ H fun x H1=>tr σ H1 fun xs H2=>Q (x::xs) H2
section
variable {X:Cx}{e:Expr}{es:List Expr}{te:TE}{t:TA}{pos:Pos}
theorem Zzn:PA X [] Wy:=fun _ _ _ _ H Q I h=>Calls.spliced_nil ⟨[],H,I,.nil,h⟩
theorem Zxm (ha:PE X e te) (hr:PA X es t) (hs:starEach (e::es) X.env=(false,eval e X.env)::starEach es X.env:=by rfl):PA X (e::es) (Wv te t):=by
 intro pos pins s σ H Q I h
 rw [hs]
 show wpAny _ _ (spliced ((false,eval e X.env)::backTo pos (starEach es X.env))) _ _ s
 refine Calls.spliced_cons (thn (ha pins s σ H _ I h) fun u s1 ⟨x,H1,I1,r1,q1⟩=>?_)
 exact thn (hr pos pins s1 σ H1 _ I1 q1) fun us s2 ⟨xs,H2,I2,r2,q2⟩=>⟨x::xs,H2,I2,.cons r1 r2,q2⟩
def Zra (t:TA):TE:=fun σ H Q=>t σ H fun xs H1=>xs.length<=sizeLine/\∀ p,H1 p=none->Q (.ref p) (upd H1 p (.tup xs))
def Zrb (t:TA):TE:=fun σ H Q=>t σ H fun xs H1=>xs.length<=sizeLine/\∀ p,H1 p=none->Q (.ref p) (upd H1 p (.lst xs))
theorem Zzo {x1} (h:PA X es t):PE X (.Tuple es x1 pos) (Zra t):=by
 intro pins s σ H Q I hq
 refine wpAny_Tuple_spliced (thn (h pos pins s σ H _ I hq) fun us s1 ⟨xs,H1,I1,r,z,q⟩=>⟨by rw [← r.length]; exact z,?_⟩)
 have hf:H1 s1.heap.objs.size=none:=I1.hok.fresh (Nat.le_refl _)
 refine ⟨.ref s1.heap.objs.size,upd H1 s1.heap.objs.size (.tup xs),I1.laid (t':=s1.toks) (fun b u e=>Heap.get?_push_of_some _ e) (Nat.le_refl _) ?_,rfl,q _ hf⟩
 exact ⟨z,us,r,⟨_,Heap.get?_push_size _ rfl,rfl,_,rfl⟩⟩
theorem Zzp (h:PA X es t):PE X (.List es pos) (Zrb t):=by
 intro pins s σ H Q I hq
 refine wpAny_List_spliced (thn (h pos pins s σ H _ I hq) fun us s1 ⟨xs,H1,I1,r,z,q⟩=>⟨by rw [← r.length]; exact z,?_⟩)
 have hf:H1 s1.heap.objs.size=none:=I1.hok.fresh (Nat.le_refl _)
 refine ⟨.ref s1.heap.objs.size,upd H1 s1.heap.objs.size (.lst xs),I1.laid (t':=s1.toks) (fun b u e=>Heap.get?_push_of_some _ e) (Nat.le_refl _) ?_,rfl,q _ hf⟩
 exact ⟨z,us,0,r,Heap.get?_push_size _ rfl⟩
end
abbrev Sp:=List V->Hp->VK->XK->Prop
abbrev CXT:=List Env->Hp->Shared->XK->Value->Shared->Prop
structure Env0 (P:Program) (w:World) (K:PySem.W.Frag) (mg:Str->Option Value) (base:Heap) (A:Around) (outer:List Env) (s:Shared) (H:Hp):Prop where
 frames:A.frames=some outer
 mod:Mod K mg base
 bs:∀ b o,base.get? b=some o->s.heap.get? b=some o/\H b=none
 bsz:base.objs.size<=s.heap.objs.size
 funs:s.heap.FunFrames base outer
 frf:∀ b∈frs outer,H b=none
 hok:HOk P w H s.heap
 bare:AllBare s.gens
def CE (outer:List Env) (P:Program) (w:World) (H:Hp) (s:Shared) (Q:VK) (u:Value) (s':Shared):Prop :=
 ∃ v H',s'.os=s.os/\AllBare s'.gens/\Un (frs outer) [] H H' s.heap s'.heap/\HOk P w H' s'.heap/\RelV v u/\Q v H'
def CR (CX:CXT) (outer:List Env) (P:Program) (w:World) (H:Hp) (s:Shared) (Q:VK) (E:XK) (r:Result) (s':Shared):Prop :=
 match r with
 | .ok (.ret u)=>CE outer P w H s Q u s'
 | .ok _=>False
 | .error e=>CX outer H s E e s'
structure FnOk (P:Program) (w:World) (K:PySem.W.Frag) (mg:Str->Option Value) (base:Heap) (CX:CXT) (k:Nat) (f:Addr) (fd:FuncData) (ps:List Str) (sp:Sp):Prop where
 len:∀ vs H Q E,sp vs H Q E->vs.length=ps.length
 run:∀ (A:Around) (outer:List Env) (s:Shared) (H:Hp) (args:Args) (us:List Value) (vs:List V) (Q:VK) (E:XK),Room k A->Env0 P w K mg base A outer s H->BindsTo s fd args (ps.zip us)->Vals vs us->sp vs H Q E ->
  codeAny (model P w) A (.call (.ref f) args) (CR CX outer P w H s Q E) s
theorem FnOk.mono {P:Program}{w:World}{K:PySem.W.Frag}{mg:Str->Option Value}{base:Heap}{CX:CXT}{j k:Nat}{f:Addr}{fd:FuncData}{ps:List Str}{sp:Sp}(F:FnOk P w K mg base CX j f fd ps sp) (h:j<=k) :
  FnOk P w K mg base CX k f fd ps sp:=⟨F.len,fun A outer s H args us vs Q E hr=>F.run A outer s H args us vs Q E (hr.mono h)⟩
theorem FnOk.imp {P:Program}{w:World}{K:PySem.W.Frag}{mg:Str->Option Value}{base:Heap}{CX:CXT}{k:Nat}{f:Addr}{fd:FuncData}{ps:List Str}{sp sp':Sp}(F:FnOk P w K mg base CX k f fd ps sp)
  (h:∀ vs H Q E,sp' vs H Q E->sp vs H Q E):FnOk P w K mg base CX k f fd ps sp' :=
 ⟨fun vs H Q E q=>F.len vs H Q E (h _ _ _ _ q),fun A outer s H args us vs Q E hr he hb hv hs=>F.run A outer s H args us vs Q E hr he hb hv (h _ _ _ _ hs)⟩
theorem Env0.make {P:Program}{w:World}{K:PySem.W.Frag}{mg:Str->Option Value}{base:Heap}{A:Around}{outer:List Env}{s:Shared}{H:Hp}(e:Env0 P w K mg base A outer s H) (C:Addr) (us:List Value) (kw:List (Str×Value)) :
  Env0 P w K mg base (A.under (.builtin "type.__call__" ⟨.ref C::us,kw⟩)) outer s H:=⟨by first | exact e.frames | (simpa [Around.under,Code.envs,Code.isFrame,pushEnvs] using e.frames),e.mod,e.bs,e.bsz,e.funs,e.frf,e.hok,e.bare⟩
section
variable {X:Cx}{pins:List (Addr×Obj)}{σ:St}{H:Hp}{s s':Shared}
theorem Inv.env0 (I:Inv X pins σ H s):Env0 X.prog X.w X.K X.mg X.base X.A X.stack s H :=
 ⟨I.ok.frames,I.ok.mod,I.bs,Nat.le_trans I.ok.bsz I.sz,I.stack,I.stkFree,I.hok,I.bare⟩
theorem Inv.after {Q:VK}{u:Value}(I:Inv X pins σ H s) (h:CE X.stack X.prog X.w H s Q u s'):EP X pins σ Q u s':=by
 obtain ⟨v,H',os,bare,un,hok,r,q⟩:=h
 obtain ⟨hh,g,d,t,os'⟩:=s'
 obtain rfl:os'=s.os:=os
 exact ⟨v,H',I.call (h':=hh) (g':=g) (d':=d) (t':=t) (ch:=[]) un hok bare (fun b z=>absurd z (by simp)),r,q⟩
end
def Zhb (sp:Sp) (dvs:List V) (E:XK) (t:TA):TE:=fun σ H Q=>t σ H fun vs H1=>sp (vs++dvs) H1 Q E
def Zed (C:Addr) (m:Str) (sp:Sp) (dvs:List V) (E:XK) (ta:TE) (t:TA):TE:=fun σ H Q=>ta σ H fun x H1=>∃ a dx fs,x = .ref a/\H1 a=some (.ins C dx fs)/\fs.lookup m=none /\
 t σ H1 fun vs H2=>sp (x::(vs++dvs)) H2 Q E
def Zol (C:Addr) (sp:Sp) (dvs:List V) (E:XK) (t:TA):TE:=fun σ H Q=>t σ H fun vs H1=>∀ x dx,H1 x=none->H1 dx=none->dx≠x ->
 sp (.ref x::(vs++dvs)) (upd (upd H1 dx (.own x)) x (.ins C dx [])) (fun v H2=>v = .non/\Q (.ref x) H2) E
def Binds (K:PySem.W.Frag) (fd:FuncData) (ps:List Str) (ds:List Value):Prop :=
 ∀ (s:Shared) (us:List Value),K.In s.heap->(us++ds).length=ps.length->BindsTo s fd ⟨us,[]⟩ (ps.zip (us++ds))
theorem Binds.all {K:PySem.W.Frag}{fd:FuncData}{ps:List Str}(h:∀ us:List Value,us.length=ps.length->bindArgs fd ⟨us,[]⟩=pure (ps.zip us)):Binds K fd ps []:=fun s us _ hl=>by
 rw [List.append_nil] at hl ⊢
 exact .of_eq (h us hl)
def Zaa (CX:CXT) (X:Cx) (E:XK):Prop:=∀ (pins:List (Addr×Obj)) (σ:St) (H:Hp) (s:Shared) (e:Value) (s':Shared),Inv X pins σ H s->CX X.stack H s E e s'->X.xe e s'
section
variable {X:Cx}{CX:CXT}{k:Nat}{f C:Addr}{fd:FuncData}{ps:List Str}{sp:Sp}{dvs:List V}{ds:List Value}{E:XK}{x m:Str}{p pos apos:Pos}{e o:Expr}{es:List Expr}{ta:TE}{t:TA}
theorem Zgu {pins:List (Addr×Obj)}{σ:St}{H:Hp}{s:Shared}{Q:VK}{us:List Value}{vs:List V}(F:FnOk X.prog X.w X.K X.mg X.base CX k f fd ps sp) (hr:Room k X.A) (hb:Binds X.K fd ps ds) (hd:Vals dvs ds) (hx:Zaa CX X E)
  (I:Inv X pins σ H s) (r:Vals vs us) (h:sp (vs++dvs) H Q E):wpAny (model X.prog X.w) X.A (call (.ref f) us) (EP X pins σ Q) X.xe s:=by
 have r2:Vals (vs++dvs) (us++ds):=r.append hd
 have hl:(us++ds).length=ps.length:=by rw [← r2.length]; exact F.len _ _ _ _ h
 refine wpAny_call (codeAny_mono (F.run X.A X.stack s H ⟨us,[]⟩ (us++ds) (vs++dvs) Q E hr I.env0 (hb s us I.kIn hl) r2 h) fun r s' hq=>?_)
 cases r with
 | error e=>exact hx pins σ H s e s' I hq
 | ok fl =>
  cases fl with
  | ret u=>exact I.after hq
  | next=>exact False.elim hq
  | brk=>exact False.elim hq
  | cont=>exact False.elim hq
theorem Zxn (F:FnOk X.prog X.w X.K X.mg X.base CX k f fd ps sp) (hr:Room k X.A) (hg:Gl X x) (hm:X.mg x=some (.ref f)) (hk:PySem.W.keepIn X.K (.ref f)=true) (hb:Binds X.K fd ps ds) (hd:Vals dvs ds) (hx:Zaa CX X E)
  (ha:PA X (e::es) t) (hdb:(x == ("__debug__" : Str))=false:=by decide) (he:starEach (e::es) X.env=(false,eval e X.env)::starEach es X.env:=by rfl) (hpl:(backTo pos (starEach es X.env)).any (·.1)=false:=by rfl) :
  PE X (.Call (.Name x p) (e::es) [] pos) (Zhb sp dvs E t):=by
 intro pins s σ H Q I h
 refine wpAny_Call_Name_kw (Zf1 I hg hm ?_ hdb)
 refine PySem.W.callWith_K (h₀:=X.base) I.ok.mod.kin hk (thn (ha pos pins s σ H _ I h) fun us s1 ⟨vs,H1,I1,r,q⟩=>⟨I1.kIn,?_⟩) he hpl
 exact Zgu F hr hb hd hx I1 r q
theorem Zxo {pl:Sem Bool}(he:PE X o ta) (c:Cls X.K C) (hm:Meth X.K C m f) (F:FnOk X.prog X.w X.K X.mg X.base CX k f fd ps sp) (hr:Room k X.A) (hb:Binds X.K fd ps ds) (hd:Vals dvs ds) (hx:Zaa CX X E) (ha:PA X (e::es) t)
  (hst:starEach (e::es) X.env=(false,eval e X.env)::starEach es X.env:=by rfl) (hpl:(backTo pos (starEach es X.env)).any (·.1)=false:=by rfl)
  (ht:eval (.Call (.Attribute o m apos) (e::es) [] pos) X.env=(do
   let ov ← eval o X.env
   standAt apos.atName
   let (f,first) ← holding [ov] (getMethod ov m pl)
   callWith pos f first (backTo pos (starEach (e::es) X.env)) (backToKw pos (keywordEach [] X.env))):=by rfl) :
  PE X (.Call (.Attribute o m apos) (e::es) [] pos) (Zed C m sp dvs E ta t):=by
 intro pins s σ H Q I h
 refine PySem.W.methodCall_KW (pl:=pl) (thn (he pins s σ H _ I h) fun u s1 ⟨x,H1,I1,rx,a,dx,fs,ex,ea,l,q⟩=>?_) ht
 subst ex
 obtain rfl:u=Value.ref a:=rx
 refine Zkt I1 ea c hm l ?_
 refine PySem.W.callWith_K (first:=[.ref a]) (h₀:=X.base) I.ok.mod.kin hm.kp (thn (ha pos pins s1 σ H1 _ I1 q) fun us s2 ⟨vs,H2,I2,r,q2⟩=>⟨I2.kIn,?_⟩) hst hpl
 exact Zgu (us:=.ref a::us) (vs:=.ref a::vs) F hr hb hd hx I2 (.cons rfl r) q2
theorem Zvd {pl:Sem Bool}(he:PE X o ta) (c:Cls X.K C) (hm:Meth X.K C m f) (F:FnOk X.prog X.w X.K X.mg X.base CX k f fd ps sp) (hr:Room k X.A) (hb:Binds X.K fd ps ds) (hd:Vals dvs ds) (hx:Zaa CX X E)
  (ht:eval (.Call (.Attribute o m apos) [] [] pos) X.env=(do
   let ov ← eval o X.env
   standAt apos.atName
   let (f,first) ← holding [ov] (getMethod ov m pl)
   callWith pos f first (backTo pos (starEach [] X.env)) (backToKw pos (keywordEach [] X.env))):=by rfl) :
  PE X (.Call (.Attribute o m apos) [] [] pos) (Zed C m sp dvs E ta Wy):=by
 intro pins s σ H Q I h
 refine PySem.W.methodCall_KW (pl:=pl) (thn (he pins s σ H _ I h) fun u s1 ⟨x,H1,I1,rx,a,dx,fs,ex,ea,l,q⟩=>?_) ht
 subst ex
 obtain rfl:u=Value.ref a:=rx
 refine Zkt I1 ea c hm l ?_
 exact PySem.W.callWith_K0 (first:=[.ref a]) I1.kIn hm.kp (Zgu (us:=[.ref a]) (vs:=[.ref a]) F hr hb hd hx I1 (.cons rfl .nil) q)
structure Mk (K:PySem.W.Frag) (C f:Addr):Prop where
 makes:PySem.W.makesIn K C=true
 init:PySem.W.findIn K (.ref C) "__init__" = some (some (.ref f))
 fn:PySem.W.isFn K (.ref f)=true
 kp:PySem.W.keepIn K (.ref C)=true
theorem Zve {pins:List (Addr×Obj)}{σ:St}{H:Hp}{s:Shared}{Q:VK}{us:List Value}{vs:List V}(M:Mk X.K C f) (F:FnOk X.prog X.w X.K X.mg X.base CX k f fd ps sp) (hr:Room (k+1) X.A) (hb:Binds X.K fd ps ds) (hd:Vals dvs ds)
  (hx:Zaa CX X E) (I:Inv X pins σ H s) (r:Vals vs us)
  (h:∀ x dx,H x=none->H dx=none->dx≠x->sp (.ref x::(vs++dvs)) (upd (upd H dx (.own x)) x (.ins C dx [])) (fun v H2=>v = .non/\Q (.ref x) H2) E) :
  wpAny (model X.prog X.w) X.A (call (.ref C) us) (EP X pins σ Q) X.xe s:=by
 have hq:=h (s.heap.objs.size+1) s.heap.objs.size (I.hok.fresh (Nat.le_succ _)) (I.hok.fresh (Nat.le_refl _)) (Nat.ne_of_lt (Nat.lt_succ_self _))
 have I2:=Inv.made (C:=C) I
 have r2:Vals (V.ref (s.heap.objs.size+1)::(vs++dvs)) (Value.ref (s.heap.objs.size+1)::(us++ds)):=.cons rfl (r.append hd)
 have hl:(Value.ref (s.heap.objs.size+1)::us++ds).length=ps.length:=by
  have e:=r2.length
  rw [F.len _ _ _ _ hq] at e
  exact e.symm
 refine wpAny_call (Zvc (f:=f) I.kIn M.makes M.init (beq_iff_eq.mp M.fn) (codeAny_mono (F.run _ X.stack _ _ ⟨Value.ref (s.heap.objs.size+1)::us,[]⟩ (Value.ref (s.heap.objs.size+1)::(us++ds)) _ _ E (hr.make C us [])
  (I2.env0.make C us []) (hb _ (Value.ref (s.heap.objs.size+1)::us) I2.kIn hl) r2 hq) fun r s' hq'=>?_))
 cases r with
 | error e=>exact hx pins σ _ _ e s' I2 hq'
 | ok fl =>
  cases fl with
  | ret u =>
   obtain ⟨v,H',I3,rv,ev,q3⟩:=I2.after hq'
   subst ev
   exact ⟨rv,⟨V.ref (s.heap.objs.size+1),H',I3,rfl,q3⟩⟩
  | next=>exact False.elim hq'
  | brk=>exact False.elim hq'
  | cont=>exact False.elim hq'
theorem Zvf (M:Mk X.K C f) (F:FnOk X.prog X.w X.K X.mg X.base CX k f fd ps sp) (hr:Room (k+1) X.A) (hg:Gl X x) (hm:X.mg x=some (.ref C)) (hb:Binds X.K fd ps ds) (hd:Vals dvs ds) (hx:Zaa CX X E)
  (hdb:(x == ("__debug__" : Str))=false:=by decide):PE X (.Call (.Name x p) [] [] pos) (Zol C sp dvs E Wy):=by
 intro pins s σ H Q I h
 refine wpAny_Call_Name_kw (Zf1 I hg hm ?_ hdb)
 exact PySem.W.callWith_K0 I.kIn M.kp (Zve (us:=[]) M F hr hb hd hx I .nil h)
end
section
variable {X:Cx}{CX:CXT}{k:Nat}{f C:Addr}{fd:FuncData}{ps ks:List Str}{sp:Sp}{E:XK}{x m:Str}{p pos apos kpos:Pos}{e o:Expr}{es:List Expr}{kws:List Keyword}{te ta:TE}{t tk:TA}{nm:Option Str}
structure KBinds (K:PySem.W.Frag) (fd:FuncData) (ps ks:List Str) (g:List Value->List Value->List Value) (gV:List V->List V->List V):Prop where
 to:∀ (s:Shared) (us ws:List Value),K.In s.heap->(g us ws).length=ps.length->BindsTo s fd ⟨us,ks.zip ws⟩ (ps.zip (g us ws))
 rel:∀ {vs:List V}{us:List Value}{zs:List V}{ws:List Value},Vals vs us->Vals zs ws->Vals (gV vs zs) (g us ws)
variable {g:List Value->List Value->List Value}{gV:List V->List V->List V}
end
structure FnScope (N P:List Str) (sc:Scope):Prop where
 kind:sc.kind = .function
 co:sc.isCoroutine=false
 gen:sc.isGenerator=false
 nd:N.Nodup
 pre:N.take P.length=P
 par:∀ x∈P,sc.names.lookup x=some .local\/sc.names.lookup x=some .cell
 nofree:∀ y∈sc.names,y.2 ≠ .free
theorem Zk8 {kindOf:Str->Option NameKind}{x:Str}:∀ {binds:List (Str×Value)}{m:Str->Option Value},(∀ v,(x,v)∉binds)->bindL kindOf binds m x=m x
 | [],_,_=>rfl
 | (n,v)::r,m,h=>by
  unfold bindL
  rw [Zk8 fun w hw=>h w (List.mem_cons_of_mem _ hw)]
  split
  ·have:x≠n:=by rintro rfl; exact h v List.mem_cons_self
   simp [this]
  ·rfl
theorem Zk9 {kindOf:Str->Option NameKind}{x:Str}:∀ {binds:List (Str×Value)}{m:Str->Option Value},(∀ v,(x,v)∉binds)->bindC kindOf binds m x=m x
 | [],_,_=>rfl
 | (n,v)::r,m,h=>by
  unfold bindC
  rw [Zk9 fun w hw=>h w (List.mem_cons_of_mem _ hw)]
  split
  ·rfl
  ·have:x≠n:=by rintro rfl; exact h v List.mem_cons_self
   simp [this]
theorem Zla {kindOf:Str->Option NameKind}{x:Str}{v:Value}:∀ {P:List Str}{vs:List Value}{i:Nat}{m:Str->Option Value},P.Nodup->P[i]? = some x->vs[i]? = some v->kindOf x=some .local ->
  bindL kindOf (P.zip vs) m x=some v
 | [],_,_,_,_,h,_,_=>by simp at h
 | _::_,[],_,_,_,_,h,_=>by simp at h
 | p::P,w::vs,0,m,nd,h1,h2,hk=>by
  simp at h1 h2; subst h1; subst h2
  show bindL kindOf ((p,w)::P.zip vs) m p=_
  unfold bindL
  rw [Zk8 fun v hv=>(List.nodup_cons.mp nd).1 (List.of_mem_zip hv).1,if_pos hk]
  simp
 | p::P,w::vs,i+1,m,nd,h1,h2,hk=>by
  show bindL kindOf ((p,w)::P.zip vs) m x=_
  unfold bindL
  exact Zla (i:=i) (List.nodup_cons.mp nd).2 (by simpa using h1) (by simpa using h2) hk
theorem Zlb {kindOf:Str->Option NameKind}{x:Str}{v:Value}:∀ {P:List Str}{vs:List Value}{i:Nat}{m:Str->Option Value},P.Nodup->P[i]? = some x->vs[i]? = some v->kindOf x≠some .local ->
  bindC kindOf (P.zip vs) m x=some v
 | [],_,_,_,_,h,_,_=>by simp at h
 | _::_,[],_,_,_,_,h,_=>by simp at h
 | p::P,w::vs,0,m,nd,h1,h2,hk=>by
  simp at h1 h2; subst h1; subst h2
  show bindC kindOf ((p,w)::P.zip vs) m p=_
  unfold bindC
  rw [Zk9 fun v hv=>(List.nodup_cons.mp nd).1 (List.of_mem_zip hv).1,if_neg hk]
  simp
 | p::P,w::vs,i+1,m,nd,h1,h2,hk=>by
  show bindC kindOf ((p,w)::P.zip vs) m x=_
  unfold bindC
  exact Zlb (i:=i) (List.nodup_cons.mp nd).2 (by simpa using h1) (by simpa using h2) hk
def start (N:List Str) (vs:List V):St:=vs.map some++List.replicate (N.length - vs.length) none
def Yi (CX:CXT) (P:Program) (w:World) (K:PySem.W.Frag) (mg:Str->Option Value) (base:Heap) (N:List Str) (qual:Str) (scope:Scope) (f:Addr) (cd:Value) (A:Around) (outer:List Env) (s:Shared) (H:Hp) (E:XK):Cx where
 prog:=P
 w:=w
 K:=K
 mg:=mg
 base:=base
 A:=A.deeper (envOfC qual scope s.heap.objs.size f cd)
 N:=N
 s₀:=s
 H₀:=H
 env:=envOfC qual scope s.heap.objs.size f cd
 outer:=outer
 stack:=envOfC qual scope s.heap.objs.size f cd::outer
 ex:=[]
 calm:=true
 fn:=fun _=>true
 pn:=[]
 xe:=fun e s'=>wpAny (model P w) (A.deeper (envOfC qual scope s.heap.objs.size f cd)) (leaving (envOfC qual scope s.heap.objs.size f cd) e) (fun _ s''=>CX outer H s E e s'') (fun e' s''=>CX outer H s E e' s'') s'
theorem Zlw {sc:Scope}{n:Nat}{x:Str}(h:sc.names.lookup x=some .cell):∃ c,(cellsFrom n sc.names []).lookup x=some c:=by
 have q:=PySem.W.cellsFrom_some sc.names n [] (.inl h)
 exact Option.isSome_iff_exists.mp q
theorem Zlc {CX:CXT}{P:Program}{w:World}{K:PySem.W.Frag}{mg:Str->Option Value}{base:Heap}{N ps:List Str}{qual:Str}{scope:Scope}{f:Addr}{cd:Value}{A:Around}{outer:List Env}{s s1:Shared}{H:Hp}{E:XK}{us:List Value}{vs:List V}
  (S:FnScope N ps scope) (hd:A.handled=none) (e0:Env0 P w K mg base A outer s H) (hl:vs.length=ps.length) (r:Vals vs us)
  (x:InCallC s s.heap.objs.size (bindL (envOfC qual scope s.heap.objs.size f cd).kindOf (ps.zip us) fun _=>none) (cellsFrom (s.heap.objs.size+1) scope.names []) (bindC (envOfC qual scope s.heap.objs.size f cd).kindOf (ps.zip us) fun _=>none) s1) :
  Inv (Yi CX P w K mg base N qual scope f cd A outer s H E) [] (start N vs) H s1:=by
 have hpl:ps.length<=N.length:=by have:=congrArg List.length S.pre; rw [List.length_take] at this; lia
 obtain ⟨h1,tk,rfl,hk⟩:=x.done
 have noA:∀ b:Addr,b∉(Yi CX P w K mg base N qual scope f cd A outer s H E).ex:=fun b z=>absurd (show b∈([]:List Addr) from z) (by simp)
 refine ⟨⟨e0.mod,S.kind,rfl,rfl,Nat.le_refl _,fun y z c h1 h2=>?_,fun y hy=>?_,fun y c _ h=>?_,fun _=>hd,Around.frames_deeper e0.frames,.inr ⟨rfl,rfl⟩,fun b z=>absurd z (noA b),e0.bs,e0.bsz,fun b _ _=>noA b,fun b z=>absurd z (noA b),e0.funs,e0.frf⟩,
  rfl,e0.bare,Un.kept hk,⟨_,x.toInCall.ns,fun i y v h1 h2 h3=>?_⟩,fun y c h=>⟨_,x.cell y c h⟩,e0.hok.fresh (Nat.le_refl _),fun y c h=>?_,fun p hp=>absurd (show p∈([]:List (Addr×Obj)) from hp) (by simp),e0.hok.kept hk,?_⟩
 ·exact name_of_addr x.apart (PySem.mem_of_lookup h1) (PySem.mem_of_lookup h2)
 ·have hy:scope.names.lookup y=some .cell\/scope.names.lookup y=some .free:=hy
  rcases hy with hy | hy
  ·exact Zlw hy
  ·exact absurd rfl (S.nofree _ (PySem.mem_of_lookup hy))
 ·exact Nat.le_of_lt (x.above y c (PySem.mem_of_lookup h))
 ·have hi:i < vs.length:=by
   unfold start at h2
   by_cases hi:i < vs.length
   ·exact hi
   ·rw [List.getElem?_append_right (by simpa using hi)] at h2
    rw [List.getElem?_replicate] at h2
    split at h2 <;> cases h2
  have ha:vs[i]? = some v:=by
   unfold start at h2
   rw [List.getElem?_append_left (by simpa using hi),List.getElem?_map] at h2
   cases e:vs[i]? with
   | none=>rw [e] at h2; cases h2
   | some a=>rw [e] at h2; cases h2; rfl
  obtain ⟨u,hu,rv⟩:=r.get ha
  have hp:ps[i]? = some y:=by
   rw [← S.pre,List.getElem?_take_of_lt (by lia)]; exact h1
  have ndP:ps.Nodup:=by rw [← S.pre]; exact S.nd.sublist (List.take_sublist _ _)
  refine ⟨u,rv,?_⟩
  rcases S.par y (List.mem_of_getElem? hp) with k | k
  ·exact .inl ⟨k,Zla ndP hp hu k⟩
  ·obtain ⟨c,e⟩:=Zlw (n:=s.heap.objs.size+1) k
   refine .inr ⟨.inl k,c,e,?_⟩
   have q:=x.cell y c e
   rw [Zlb ndP hp hu (by show scope.names.lookup y≠_; rw [k]; decide)] at q
   exact q
 ·exact e0.hok.fresh (Nat.le_of_lt (x.above y c (PySem.mem_of_lookup h)))
 ·unfold start
  show _=N.length
  rw [List.length_append,List.length_map,List.length_replicate]
  lia
theorem Zom {CX:CXT}{P:Program}{w:World}{K:PySem.W.Frag}{mg:Str->Option Value}{base:Heap}{k:Nat}{f:Addr}{name qual:Str}{params:Arguments}{body:List Stmt}{scope:Scope}{dV kV doc pm cdv ct oc:Value}{an od:Option Addr}
  {osl:Array (Option Value)}{N ps:List Str}{sp:Sp}(lk:K.lookup f=some ⟨oc,od,.func (PySem.W.fnOf name qual params body scope dV kV doc pm an cdv ct),osl⟩) (hcd:PySem.W.codeIn K cdv qual=true) (S:FnScope N ps scope)
  (len:∀ vs H Q E,sp vs H Q E->vs.length=ps.length)
  (hbody:∀ (A:Around) (outer:List Env) (s:Shared) (H:Hp) (vs:List V) (Q:VK) (E:XK),Room k (A.deeper (envOfC qual scope s.heap.objs.size f cdv))->sp vs H Q E ->
   ∃ t,PSs (Yi CX P w K mg base N qual scope f cdv A outer s H E) body t/\t {nx:=fun _ H'=>Q .non H',rt:=Q } (start N vs) H) :
  FnOk P w K mg base CX (k+1) f (PySem.W.fnOf name qual params body scope dV kV doc pm an cdv ct) ps sp:=by
 refine ⟨len,fun A outer s H args us vs Q E hr e0 hb r hsp=>?_⟩
 have hl:=len _ _ _ _ hsp
 have KX:K.In s.heap:=e0.mod.kin.keeps fun b o e=>(e0.bs b o e).1
 have lim:s.heap.NoLimit:=e0.mod.nolimit.keeps fun b o e=>(e0.bs b o e).1
 have hkind:∀ y∈ps.zip us,scope.names.lookup y.1=some .local\/(scope.names.lookup y.1=some .cell/\((cellsFrom (s.heap.objs.size+1) scope.names []).lookup y.1).isSome=true):=fun ⟨n,v⟩ hy=>by
  rcases S.par n (List.of_mem_zip hy).1 with q | q
  ·exact .inl q
  ·exact .inr ⟨q,PySem.W.cellsFrom_some _ _ _ (.inl q)⟩
 refine codeAny_call_function hr.depth (KX _ _ lk) rfl S.co S.gen rfl (PySem.W.codeRec_of KX hcd) (hb _ _ _ _ ?_)
 refine wpAny_newFunctionEnv_cells S.kind hkind fun env he s1 x=>?_
 subst he
 refine ⟨lim.keeps x.toInCall.keep,codeAny_func ?_⟩
 obtain ⟨t,ht,hq⟩:=hbody A outer s H vs Q E (hr.deeper _) hsp
 have I:Inv (Yi CX P w K mg base N qual scope f cdv A outer s H E) [] (start N vs) H s1:=Zlc S hr.hd e0 hl r x
 refine wpAny_mono (ht [] s1 (start N vs) H _ I hq) (fun fl s' hs=>?_) fun e s' hs=>hs
 have fin:∀ {σ':St}{H':Hp}{v:V}{u:Value},Inv (Yi CX P w K mg base N qual scope f cdv A outer s H E) [] σ' H' s'->RelV v u->Q v H'->CE outer P w H s Q u s' :=
  fun {σ' H' v u} J rv q=>⟨v,H',J.os,J.bare,J.base,J.hok,rv,q⟩
 cases fl with
 | ret u =>
  obtain ⟨v,σ',H',J,rv,q⟩:=hs
  exact fin J rv q
 | next =>
  obtain ⟨σ',H',J,q⟩:=hs
  exact fin (v:=V.non) (u:=Value.none) J rfl q
 | brk =>
  obtain ⟨_,_,_,q⟩:=hs
  exact False.elim q
 | cont =>
  obtain ⟨_,_,_,q⟩:=hs
  exact False.elim q
end L2
namespace L2
open PySem PySem.Spec PyProof.Rows
section
variable {X:Cx}{x:Str}{p pos:Pos}{e:Expr}{es:List Expr}{t:TA}{id T:String}{r:List V->Hp->VK->Prop}
def tCB (r:List V->Hp->VK->Prop) (t:TA):TE:=fun σ H Q=>t σ H fun vs H1=>r vs H1 Q
theorem Zvg (hc:Wh X (.builtin id) r) (hg:Gl X x) (hm:X.mg x=none) (hv:bootBuiltins x=some (.builtin id)) (ha:PA X (e::es) t) (hn:x ≠ "__name__" := by decide) (hdb:(x == ("__debug__" : Str))=false:=by decide)
  (he:starEach (e::es) X.env=(false,eval e X.env)::starEach es X.env:=by rfl) (hpl:(backTo pos (starEach es X.env)).any (·.1)=false:=by rfl):PE X (.Call (.Name x p) (e::es) [] pos) (tCB r t):=by
 intro pins s σ H Q I h
 refine wpAny_Call_Name_kw (Vf I hg hm hv ?_ hn hdb)
 exact PyProof.Rows.callWith_builtin1 (thn (ha pos pins s σ H _ I h) fun us s1 ⟨vs,H1,I1,r1,q1⟩=>hc pins s1 σ H1 vs us Q I1 r1 q1) he hpl
theorem Ztz (hc:Wh X (.type T) r) (hg:Gl X x) (hm:X.mg x=none) (hv:bootBuiltins x=some (.type T)) (ha:PA X (e::es) t) (hn:x ≠ "__name__" := by decide) (hdb:(x == ("__debug__" : Str))=false:=by decide)
  (he:starEach (e::es) X.env=(false,eval e X.env)::starEach es X.env:=by rfl) (hpl:(backTo pos (starEach es X.env)).any (·.1)=false:=by rfl):PE X (.Call (.Name x p) (e::es) [] pos) (tCB r t):=by
 intro pins s σ H Q I h
 refine wpAny_Call_Name_kw (Vf I hg hm hv ?_ hn hdb)
 exact PyProof.Rows.callWith_type1 (thn (ha pos pins s σ H _ I h) fun us s1 ⟨vs,H1,I1,r1,q1⟩=>hc pins s1 σ H1 vs us Q I1 r1 q1) he hpl
end
end L2
namespace HT
open PySem PyProof.Rows
section
open PySem.SeqAt
open PySem.AutoSeq1 (wpAny_loadPart')
open PySem.MeetsSeq PySem.MeetsSeq2 PySem.MeetsSeq3
end
section
variable {prog:Program}{w:World}{A:Around}{E:Value->Shared->Prop}{s:Shared}
def sIx (n d:Nat):Option Int->Nat
 | none=>d
 | some v=>if v < 0 then (v+(n:Int)).toNat else min v.toNat n
end
end HT
namespace L2
open PySem PySem.Spec PyProof.Rows
abbrev TO:=St->Hp->(Option Int->Hp->Prop)->Prop
def PO (X:Cx) (e:Option Expr) (t:TO):Prop :=
 ∀ (pins:List (Addr×Obj)) (s:Shared) (σ:St) (H:Hp) (Q:Option Int->Hp->Prop),Inv X pins σ H s->t σ H Q ->
  wpAny (model X.prog X.w) X.A (evalPart e X.env) (fun u s'=>∃ o H',Inv X pins σ H' s'/\IsPart u o/\Q o H') X.xe s
def Zmr:TO:=fun _ H Q=>Q none H
def Zon (t:TE):TO:=fun σ H Q=>t σ H fun x H1=>∃ i,x = .int i/\Q (some i) H1
theorem Zsz {ns:List Int}:∀ {us:List Value},Vals (ns.map V.int) us->IntsAre us ns:=by
 induction ns with
 | nil=>intro us r; rw [List.map_nil] at r; cases r; exact .nil
 | cons n ns ih =>
  intro us r
  rw [List.map_cons] at r
  cases r with
  | cons r1 r2 =>
   obtain ⟨t,e⟩:=r1
   subst e
   exact .cons n t (ih r2)
section
variable {X:Cx}{e:Expr}{te:TE}{lo hi:Option Expr}{tl th:TO}{pos p2:Pos}
theorem Zxp:PO X none Zmr:=by
 intro pins s σ H Q I h
 rw [evalPart_none]
 exact wpAny_pure ⟨none,H,I,.none,h⟩
theorem Zxq (h:PE X e te):PO X (some e) (Zon te):=by
 intro pins s σ H Q I hw
 rw [evalPart_some]
 refine thn (h pins s σ H _ I hw) fun u s1 ⟨x,H1,I1,r1,q1⟩=>?_
 obtain ⟨i,rfl,q⟩:=q1
 obtain ⟨t,rfl⟩:=r1
 exact ⟨some i,H1,I1,.int i t,q⟩
def SlR (X:Cx) (r:V->Option Int->Option Int->Hp->VK->Prop):Prop :=
 ∀ (pins:List (Addr×Obj)) (s:Shared) (σ:St) (H:Hp) (x:V) (v vl vu:Value) (lo hi:Option Int) (sl:Addr) (Q:VK),Inv X pins σ H s->RelV x v->s.heap.IsSliceOf sl vl vu .none->IsPart vl lo->IsPart vu hi->r x lo hi H Q ->
  ∃ T id,typeLookup (.type T) "__getitem__" = pure (some (.builtin id))/\s.TypeIs v T/\wpAny (model X.prog X.w) X.A (getItem v (.ref sl)) (EP X pins σ Q) X.xe s
def tSl (r:V->Option Int->Option Int->Hp->VK->Prop) (te:TE) (tl th:TO):TE:=fun σ H Q=>te σ H fun x H1=>tl σ H1 fun l H2=>th σ H2 fun u H3=>r x l u H3 Q
theorem Zvh {r:V->Option Int->Option Int->Hp->VK->Prop}(hr:SlR X r) (he:PE X e te) (hl:PO X lo tl) (hu:PO X hi th):PE X (.Subscript e (.Slice lo hi none p2) pos) (tSl r te tl th):=by
 intro pins s σ H Q I h
 refine Subscript_ (thn (he pins s σ H _ I h) fun v s1 ⟨x,H1,I1,r1,q1⟩=>?_)
 refine wpAny_Slice (thn (hl pins s1 σ H1 _ I1 q1) fun vl s2 ⟨l,H2,I2,pl,q2⟩=>thn (hu pins s2 σ H2 _ I2 q2) fun vu s3 ⟨u,H3,I3,pu,q3⟩=>?_)
 rw [evalPart_none]
 refine wpAny_pure ?_
 have I4:Inv X pins σ H3 {s3 with heap:=s3.heap.push {cls:=.type "slice", data:=.fields #[vl,vu,.none] } }:=I3.kept (t':=s3.toks) fun b ob q=>Heap.get?_push_of_some _ q
 obtain ⟨T,id,hT,ht,hg⟩:=hr pins {s3 with heap:=s3.heap.push {cls:=.type "slice", data:=.fields #[vl,vu,.none] } } σ H3 x v vl vu l u s3.heap.objs.size Q I4 r1 (Heap.IsSliceOf.new ..) pl pu q3
 show wpAny (model X.prog X.w) X.A (subscriptTail e (.Slice lo hi none p2) v (.ref s3.heap.objs.size)) (EP X pins σ Q) X.xe {s3 with heap:=s3.heap.push {cls:=.type "slice", data:=.fields #[vl,vu,.none] } }
 exact tail_any (ops:=[.ref s3.heap.objs.size,v]) ht hT hg (by with_unfolding_all rfl)
def Uz (xs:List V) (lo hi:Option Int):List V:=(xs.drop (HT.sIx xs.length 0 lo)).take (HT.sIx xs.length xs.length hi - HT.sIx xs.length 0 lo)
theorem Zsf (xs:List V) (lo hi:Option Int):(Uz xs lo hi).length<=xs.length:=by
 unfold Uz
 rw [List.length_take,List.length_drop]
 lia
end
end L2
namespace L2
open PySem PySem.Spec PyProof.Rows
def ixN (n:Nat) (i:Int):Option Nat:=if 0<=i then (if i < n then some i.toNat else none) else if -(n:Int)<=i then some (i+n).toNat else none
def atI {α:Type}(xs:List α) (i:Int):Option α:=(ixN xs.length i).bind fun j=>xs[j]?
theorem Zms {n:Nat}{i:Int}{j:Nat}(h:ixN n i=some j):seqIndex? i n=some j/\j < n /\ -(n:Int)<=i/\i < n:=by
 unfold ixN at h
 by_cases h0 : 0<=i
 ·rw [if_pos h0] at h
  by_cases h1:i < n
  ·rw [if_pos h1] at h
   have e:i.toNat=j:=Option.some.inj h
   exact ⟨by rw [seqIndex_of h0 h1,e],by lia,by lia,h1⟩
  ·rw [if_neg h1] at h; cases h
 ·rw [if_neg h0] at h
  by_cases h1 : -(n:Int)<=i
  ·rw [if_pos h1] at h
   have e:(i+n).toNat=j:=Option.some.inj h
   exact ⟨by rw [seqIndex_neg (by lia) h1,e],by lia,h1,by lia⟩
  ·rw [if_neg h1] at h; cases h
theorem Zf5 {α:Type}{xs:List α}{i:Int}{v : α}(h:atI xs i=some v):∃ j,seqIndex? i xs.length=some j/\xs[j]? = some v/\j < xs.length /\ -(xs.length:Int)<=i/\i < xs.length:=by
 unfold atI at h
 cases e:ixN xs.length i with
 | none=>rw [e] at h; cases h
 | some j =>
  rw [e] at h
  obtain ⟨h1,h2,h3,h4⟩:=Zms e
  exact ⟨j,h1,h,h2,h3,h4⟩
theorem Y3 {α:Type}{xs:List α}{j:Nat}{v : α}(h:xs[j]? = some v):atI xs (j:Int)=some v:=by
 have hj:j < xs.length:=(List.getElem?_eq_some_iff.mp h).1
 have e:ixN xs.length (j:Int)=some j:=by
  unfold ixN
  rw [if_pos (by lia),if_pos (by lia)]; simp
 unfold atI; rw [e]; exact h
def Zmt (b:Expr):Prop:=∀ o i,subscripted b false o i=operate [o,i] (getItem o i)
def IxR (X:Cx) (r:R2):Prop :=
 ∀ (value slice:Expr) (pins:List (Addr×Obj)) (s:Shared) (σ:St) (H:Hp) (x y:V) (v u:Value) (Q:VK),Inv X pins σ H s->RelV x v->RelV y u->r x y H Q ->
  subscripted slice false v u=operate [v,u] (getItem v u)->wpAny (model X.prog X.w) X.A (subscriptTail value slice v u) (EP X pins σ Q) X.xe s
def MtR (X:Cx) (id:String) (r:V->List V->Hp->VK->Prop):Prop :=
 ∀ (pins:List (Addr×Obj)) (s:Shared) (σ:St) (H:Hp) (x:V) (xs:List V) (v:Value) (us:List Value) (Q:VK),Inv X pins σ H s->RelV x v->Vals xs us->r x xs H Q ->
  wpAny (model X.prog X.w) X.A (call (.builtin id) (v::us)) (EP X pins σ Q) X.xe s
section
variable {X:Cx}{a b:Expr}{ta tb:TE}{pos:Pos}
theorem Z0t {r:R2}(hr:IxR X r) (ha:PE X a ta) (hb:PE X b tb) (hs:Zmt b):PE X (.Subscript a b pos) (tOp r ta tb):=by
 intro pins s σ H Q I h
 exact Subscript_ (Zi0 ha hb I h fun v u s2 x y H2 I2 rx ry q=>hr a b pins s2 σ H2 x y v u Q I2 rx ry q (hs _ _))
def Zi5 (K:PySem.W.Frag):R2:=fun x y H Q=>∃ p xs i v,x = .ref p/\y = .int i/\SqL K H p xs/\atI xs i=some v/\Q v H
def Zem (K:PySem.W.Frag):R2:=fun x y H Q=>∃ p xs i v,x = .ref p/\y = .int i/\SqT K H p xs/\atI xs i=some v/\Q v H
def Zrc:R2:=fun x y H Q=>∃ z i c,x = .str z/\y = .int i/\z.length<=sizeLine/\atI z.cps.toList i=some c/\Q (.str ⟨#[c]⟩) H
theorem Zmu:IxR X (Zi5 X.K):=by
 intro value slice pins s σ H x y v u Q I rx ry h hs
 obtain ⟨p,xs,i,z,rfl,rfl,hq,he,q⟩:=h
 cases rx
 obtain ⟨t,rfl⟩:=ry
 obtain ⟨its,r,pl,hz⟩:=I.list hq
 obtain ⟨j,h1,h2,h3,h4,h5⟩:=Zf5 he
 obtain ⟨w,ew,rw'⟩:=r.get h2
 have hl:=r.length
 have hn:=U9
 have fin:EP X pins σ Q w s:=⟨z,H,I,rw',q⟩
 by_cases h0 : 0<=i
 ·have hj:i.toNat=j:=by
   rw [seqIndex_of h0 h5] at h1
   exact Option.some.inj h1
  exact item_listR pl.isList h0 (by lia) (by rw [hj]; simpa using ew) fin hs
 ·have hj:(i+(its.toArray.size:Int)).toNat=j:=by
   rw [seqIndex_neg (by lia) h4] at h1
   rw [List.size_toArray,← hl]
   exact Option.some.inj h1
  exact subscriptTail_builtinR (x:=w) pl.isList.typeIs slot_list_getitem.lookup
   (wpAny_getItem_list_neg (Q:=fun r s'=>r=w/\EP X pins σ Q r s') pl.isList (by lia) (by rw [List.size_toArray] <;> lia) (by lia) (by rw [hj]; simpa using ew) ⟨rfl,fin⟩) hs
theorem Zgv:IxR X (Zem X.K):=by
 intro value slice pins s σ H x y v u Q I rx ry h hs
 obtain ⟨p,xs,i,z,rfl,rfl,hq,he,q⟩:=h
 cases rx
 obtain ⟨t,rfl⟩:=ry
 obtain ⟨its,r,pl,hz⟩:=I.tuple hq
 obtain ⟨j,h1,h2,h3,h4,h5⟩:=Zf5 he
 obtain ⟨w,ew,rw'⟩:=r.get h2
 have hl:=r.length
 have hn:=U9
 have fin:EP X pins σ Q w s:=⟨z,H,I,rw',q⟩
 exact subscriptTail_builtinR (x:=w) pl.typeIs slot_tuple_getitem.lookup
  (getItem_tuple (j:=j) (Q:=fun r s'=>r=w/\EP X pins σ Q r s') pl (by lia) (by lia) (by rw [List.size_toArray,← hl]; exact h1) (by simpa using ew) ⟨rfl,fin⟩) hs
theorem Zzq:IxR X Zrc:=by
 intro value slice pins s σ H x y v u Q I rx ry h hs
 obtain ⟨z,i,c,rfl,rfl,hz,he,q⟩:=h
 obtain ⟨t,rfl⟩:=rx
 obtain ⟨t',rfl⟩:=ry
 obtain ⟨j,h1,h2,h3,h4,h5⟩:=Zf5 he
 have hl:z.cps.toList.length=z.length:=by simp [Str.length]
 rw [hl] at h1 h4 h5
 have hn:=U9
 exact tail_any (typeIs_str s z t) slot_str_getitem.lookup (getItem_str (c:=c) (by
  have e1:decide (i < -(2 ^ 63:Int))=false:=decide_eq_false (by lia)
  have e2:decide (i>=2 ^ 63)=false:=decide_eq_false (by lia)
  rw [e1,e2,Bool.or_false]) (by rw [h1]; simpa using h2) ⟨.str ⟨#[c]⟩,H,I.tok _,⟨_,rfl⟩,q⟩) hs
theorem Zs0 (its:List Value) (n j:Nat) (u:Value):Obj.mapSeq (·.setIfInBounds j u) {cls:=.type "list", data:=.seq its.toArray n }={cls:=.type "list", data:=.seq (its.set j u).toArray n }:=by
 simp [Obj.mapSeq]
theorem Inv.lst {pins:List (Addr×Obj)}{σ:St}{H:Hp}{s:Shared}{p:Addr}{xs:List V}(I:Inv X pins σ H s) (h:H p=some (.lst xs)) :
  ∃ (its:List Value) (n:Nat),Vals xs its/\s.heap.get? p=some {cls:=.type "list", data:=.seq its.toArray n }/\xs.length<=sizeLine:=by
 obtain ⟨z,its,n,r,e⟩:=I.hok p _ h
 exact ⟨its,n,r,e,z⟩
theorem Inv.lstUpd {pins:List (Addr×Obj)}{σ:St}{H:Hp}{s:Shared}{p:Addr}{xs ys:List V}{its its':List Value}{n n':Nat}{f:Obj->Obj}(I:Inv X pins σ H s) (h:H p=some (.lst xs))
  (ho:s.heap.get? p=some {cls:=.type "list", data:=.seq its.toArray n }) (hf:f {cls:=.type "list", data:=.seq its.toArray n }={cls:=.type "list", data:=.seq its'.toArray n' }) (r:Vals ys its') (hz:ys.length<=sizeLine) (t:Nat) :
  Inv X pins σ (upd H p (.lst ys)) {s with heap:=s.heap.update p f,toks:=t }:=by
 have e:(s.heap.update p f).get? p=some {cls:=.type "list", data:=.seq its'.toArray n' }:=by
  rw [Heap.get?_update_self f ho (by rw [hf] <;> rfl),hf]
 refine I.write (x:=p) (e:=p) (by rw [h]; trivial) (.inl rfl) (fun b u hb q=>(Heap.get?_update_other _ _ (Ne.symm hb)).trans q) ⟨_,e⟩ ?_
 exact ⟨hz,its',n',r,e⟩
def Zoo:V->V->V->Hp->(Hp->Prop)->Prop:=fun o i v H Q=>∃ p xs k j,o = .ref p/\i = .int k/\H p=some (.lst xs)/\ixN xs.length k=some j/\Q (upd H p (.lst (xs.set j v)))
theorem Zvi:Ziy X Zoo:=by
 intro pins s σ H o i v ov iv u Q I ro ri rv h
 obtain ⟨p,xs,k,j,rfl,rfl,hp,hj,q⟩:=h
 cases ro
 obtain ⟨t,rfl⟩:=ri
 obtain ⟨its,n,r,ho,hz⟩:=I.lst hp
 obtain ⟨h1,h2,h3,h4⟩:=Zms hj
 have hl:=r.length
 have hn:=U9
 have I':Inv X pins σ (upd H p (.lst (xs.set j v))) {s with heap:=s.heap.update p (Obj.mapSeq (·.setIfInBounds j u)) } :=
  I.lstUpd hp ho (Zs0 its n j u) (r.set rv j) (by rw [List.length_set]; exact hz) s.toks
 by_cases h0 : 0<=k
 ·have hk:k.toNat=j:=by
   rw [seqIndex_of h0 h4] at h1
   exact Option.some.inj h1
  exact PySem.W.ki_setAt ho h0 (by lia) (by rw [List.size_toArray,← hl]; exact h4) (by rw [hk]; exact ⟨_,I',q⟩)
 ·have hk:(k+(its.toArray.size:Int)).toNat=j:=by
   rw [seqIndex_neg (by lia) h3] at h1
   rw [List.size_toArray,← hl]
   exact Option.some.inj h1
  exact PySem.W.ki_setBack ho (by lia) (by rw [List.size_toArray,← hl]; exact h3) (by lia) (by rw [hk]; exact ⟨_,I',q⟩)
theorem Zr3 (lo hi:Option Int) (n:Nat):(sliceBounds lo hi none n).1=((HT.sIx n 0 lo:Nat):Int)/\(sliceBounds lo hi none n).2.1=((HT.sIx n n hi:Nat):Int)/\(sliceBounds lo hi none n).2.2=1:=by
 refine ⟨?_,?_,rfl⟩
 ·cases lo with
  | none=>simp [sliceBounds,HT.sIx]
  | some i =>
   simp only [sliceBounds,HT.sIx,Option.getD_none,show (1:Int) > 0 by decide,if_true]
   by_cases h:i < 0
   ·simp only [h,if_true] <;> lia
   ·simp only [h,if_false] <;> lia
 ·cases hi with
  | none=>simp [sliceBounds,HT.sIx]
  | some i =>
   simp only [sliceBounds,HT.sIx,Option.getD_none,show (1:Int) > 0 by decide,if_true]
   by_cases h:i < 0
   ·simp only [h,if_true] <;> lia
   ·simp only [h,if_false] <;> lia
theorem Zrv (its:List Value) (lo hi:Option Int):slicePick its.toArray lo hi none=((its.drop (HT.sIx its.length 0 lo)).take (HT.sIx its.length its.length hi - HT.sIx its.length 0 lo)).toArray:=by
 obtain ⟨h1,h2,h3⟩:=Zr3 lo hi its.toArray.size
 unfold slicePick
 rw [h1,h2,h3]
 simp only [sliceRange_one,pick_run,List.size_toArray] <;> rfl
def Zrd (K:PySem.W.Frag):V->Option Int->Option Int->Hp->VK->Prop:=fun x lo hi H Q=>∃ a xs,x = .ref a/\SqL K H a xs/\∀ p,H p=none->Q (.ref p) (upd H p (.lst (Uz xs lo hi)))
theorem Zxr:SlR X (Zrd X.K):=by
 intro pins s σ H x v vl vu lo hi sl Q I rx hs pl pu h
 obtain ⟨a,xs,rfl,hx,q⟩:=h
 cases rx
 obtain ⟨its,r,ht,hz⟩:=I.list hx
 have hlen:=r.length
 refine ⟨"list", _,slot_list_getitem.lookup,ht.isList.typeIs,?_⟩
 refine wpAny_getItem_list_slice ht.isList hs pl pu .none (by simp) ?_ (by rw [List.size_toArray] <;> lia)
 rw [Zrv,← hlen]
 refine ⟨.ref s.heap.objs.size,_,I.laid (t':=s.toks) (o:=.lst (Uz xs lo hi)) (fun b ob q=>Heap.get?_push_of_some _ q) (Nat.le_refl _) ?_,rfl,q _ (I.hok.fresh (Nat.le_refl _))⟩
 exact ⟨Nat.le_trans (Zsf xs lo hi) hz,_,0,(r.drop (HT.sIx xs.length 0 lo)).take (HT.sIx xs.length xs.length hi - HT.sIx xs.length 0 lo),Heap.get?_push_size _ rfl⟩
def Ub:V->Bool
 | .non=>true
 | .bl _=>true
 | .int _=>true
 | .str _=>true
 | _=>false
def eqV:V->V->Bool
 | .non,.non=>true
 | .bl a,.bl b=>a == b
 | .bl a,.int b=>(if a then 1 else 0) == b
 | .int a,.bl b=>a == (if b then 1 else 0)
 | .int a,.int b=>a == b
 | .str a,.str b=>a == b
 | _,_=>false
theorem Zzr {A:Around}{s:Shared}{y x:V}{u v:Value}(ry:RelV y u) (rx:RelV x v) (fy:Ub y=true) (fx:Ub x=true):SeqAt.EqAt A s u v (eqV y x):=by
 cases y with
 | non =>
  cases ry
  cases x with
  | non=>cases rx; exact SeqAt.EqAt.same _
  | bl b=>cases rx; exact SeqAt.EqAt.none_bool b
  | int b=>obtain ⟨t,rfl⟩:=rx; exact SeqAt.EqAt.none_int b t
  | str b=>obtain ⟨t,rfl⟩:=rx; exact SeqAt.EqAt.none_str b t
  | _=>exact absurd (show false=true from fx) Bool.false_ne_true
 | bl a =>
  cases ry
  cases x with
  | non=>cases rx; exact SeqAt.EqAt.bool_none a
  | bl b=>cases rx; exact SeqAt.EqAt.bool_bool a b
  | int b=>obtain ⟨t,rfl⟩:=rx; exact SeqAt.EqAt.bool_int a b t
  | str b=>obtain ⟨t,rfl⟩:=rx; exact SeqAt.EqAt.bool_str a b t
  | _=>exact absurd (show false=true from fx) Bool.false_ne_true
 | int a =>
  obtain ⟨t',rfl⟩:=ry
  cases x with
  | non=>cases rx; exact SeqAt.EqAt.int_none a t'
  | bl b=>cases rx; exact SeqAt.EqAt.int_bool a t' b
  | int b=>obtain ⟨t,rfl⟩:=rx; exact SeqAt.EqAt.int_int a t' b t
  | str b=>obtain ⟨t,rfl⟩:=rx; exact SeqAt.EqAt.int_str a t' b t
  | _=>exact absurd (show false=true from fx) Bool.false_ne_true
 | str a =>
  obtain ⟨t',rfl⟩:=ry
  cases x with
  | non=>cases rx; exact SeqAt.EqAt.str_none a t'
  | bl b=>cases rx; exact SeqAt.EqAt.str_bool a t' b
  | int b=>obtain ⟨t,rfl⟩:=rx; exact SeqAt.EqAt.str_int a t' b t
  | str b=>obtain ⟨t,rfl⟩:=rx; exact SeqAt.EqAt.str_str a t' b t
  | _=>exact absurd (show false=true from fx) Bool.false_ne_true
 | _=>exact absurd (show false=true from fy) Bool.false_ne_true
def eqU (x:V) (u:Value):Bool:=match u with
 | .none=>eqV .non x
 | .bool b=>eqV (.bl b) x
 | .int i _=>eqV (.int i) x
 | .str z _=>eqV (.str z) x
 | _=>false
theorem Znv {x y:V}{u:Value}(r:RelV y u) (f:Ub y=true):eqU x u=eqV y x:=by
 cases y with
 | non=>cases r; rfl
 | bl b=>cases r; rfl
 | int i=>obtain ⟨t,rfl⟩:=r; rfl
 | str z=>obtain ⟨t,rfl⟩:=r; rfl
 | _=>exact absurd (show false=true from f) Bool.false_ne_true
theorem Zf6 {x:V}:∀ {xs:List V}{us:List Value},Vals xs us->xs.all Ub=true->us.any (eqU x)=xs.any fun y=>eqV y x
 | _,_,.nil,_=>rfl
 | y::xs,u::us,.cons r t,f=>by
  rw [List.all_cons,Bool.and_eq_true] at f
  rw [List.any_cons,List.any_cons,Znv r f.1,Zf6 t f.2]
theorem Zft {A:Around}{s:Shared}{x:V}{v:Value}(rx:RelV x v) (fx:Ub x=true):∀ {xs:List V}{us:List Value},Vals xs us->xs.all Ub=true->∀ u∈us,SeqAt.EqAt A s u v (eqU x u)
 | _,_,.nil,_=>fun u hu=>by cases hu
 | y::xs,u::us,.cons r t,f=>fun u' hu=>by
  rw [List.all_cons,Bool.and_eq_true] at f
  rcases List.mem_cons.mp hu with rfl | hu
  ·rw [Znv r f.1]; exact Zzr r rx f.1 fx
  ·exact Zft rx fx t f.2 u' hu
def inV (x:V) (xs:List V):Bool:=xs.any fun y=>eqV y x
def rIn (K:PySem.W.Frag) (neg:Bool):R2:=fun x y H Q=>∃ p xs,y = .ref p/\(SqL K H p xs\/SqT K H p xs)/\Ub x=true/\xs.all Ub=true/\Q (.bl (if neg then !inV x xs else inV x xs)) H
theorem Zr4:OpR X (compareOp .NotIn) (rIn X.K true):=by
 intro pins s σ H x y v u Q I rx ry h
 obtain ⟨p,xs,rfl,hq,fx,fs,q⟩:=h
 cases ry
 rcases hq with hq | hq
 ·obtain ⟨its,r,pl,hz⟩:=I.list hq
  refine SeqAt.notIn_listAt (eqU x) pl.isList (fun w hw=>Zft rx fx r fs w (by simpa using hw)) ⟨.bl _,H,I,rfl,?_⟩
  rw [show its.toArray.any (eqU x)=its.any (eqU x) by simp,Zf6 r fs]
  exact q
 ·obtain ⟨its,r,pl,hz⟩:=I.tuple hq
  refine SeqAt.notIn_tupleAt (eqU x) pl (fun w hw=>Zft rx fx r fs w (by simpa using hw)) ⟨.bl _,H,I,rfl,?_⟩
  rw [show its.toArray.any (eqU x)=its.any (eqU x) by simp,Zf6 r fs]
  exact q
theorem Zr5:Wh X (.builtin "len") (fun xs H Q=>∃ p ys,xs = [.ref p]/\(SqL X.K H p ys\/SqT X.K H p ys)/\Q (.int ys.length) H):=by
 intro pins s σ H xs us Q I r h
 obtain ⟨p,ys,rfl,hq,q⟩:=h
 obtain ⟨u,rfl,rx⟩:=Vt r
 cases rx
 have hn:=U9
 rcases hq with hq | hq
 ·obtain ⟨its,r',pl,hz⟩:=I.list hq
  have hlen:=r'.length
  exact Calls.call_len_list pl.isList (by simp only [List.size_toArray] <;> lia) ⟨.int ys.length,H,I.tok _,⟨s.toks+1,by rw [List.size_toArray,hlen]⟩,q⟩
 ·obtain ⟨its,r',pl,hz⟩:=I.tuple hq
  have hlen:=r'.length
  exact len_tuple pl (by simp only [List.size_toArray] <;> lia) ⟨.int ys.length,H,I.tok _,⟨s.toks+1,by rw [List.size_toArray,hlen]⟩,q⟩
theorem Zr6:Wh X (.builtin "len") (fun xs H Q=>∃ z,xs = [.str z]/\z.length<=sizeLine/\Q (.int z.length) H):=by
 intro pins s σ H xs us Q I r h
 obtain ⟨z,rfl,hz,q⟩:=h
 obtain ⟨u,rfl,t,rfl⟩:=Vt r
 have hn:=U9
 exact len_str (by lia) ⟨.int z.length,H,I.tok _,⟨_,rfl⟩,q⟩
theorem Zr7:Wh X (.type "list") (fun xs H Q=>∃ p ys,xs = [.ref p]/\(SqL X.K H p ys\/SqT X.K H p ys)/\∀ l,H l=none->Q (.ref l) (upd H l (.lst ys))):=by
 intro pins s σ H xs us Q I r h
 obtain ⟨p,ys,rfl,hq,q⟩:=h
 obtain ⟨u,rfl,rx⟩:=Vt r
 cases rx
 have fin:∀ (its:List Value),Vals ys its->ys.length<=sizeLine->∀ (h':Heap) (c':Nat),(∀ b o',s.heap.get? b=some o'->h'.get? b=some o') ->
   h'.get? s.heap.objs.size=some {cls:=.type "list", dict:=none,data:=.seq its.toArray c',slots:=#[] }->EP X pins σ Q (.ref s.heap.objs.size) {s with heap:=h' }:=fun its r' hz h' c' kp e =>
  ⟨.ref s.heap.objs.size,_,I.laid (t':=s.toks) kp (Nat.le_refl _) (show ObjOk X.prog X.w _ h' _ (.lst ys) from ⟨hz,its,c',r',e⟩),rfl,q _ (I.hok.fresh (Nat.le_refl _))⟩
 rcases hq with hq | hq
 ·obtain ⟨its,r',pl,hz⟩:=I.list hq
  have hlen:=r'.length
  obtain ⟨o,ho,hc,n,hd⟩:=pl.isList
  exact call_list_seq p (.inl rfl) ho hc hd (fun h' c' kp e=>fin its r' hz h' c' kp e) (by simp only [List.size_toArray] <;> lia)
 ·obtain ⟨its,r',pl,hz⟩:=I.tuple hq
  have hlen:=r'.length
  obtain ⟨o,ho,hc,n,hd⟩:=pl
  exact call_list_seq p (.inr rfl) ho hc hd (fun h' c' kp e=>fin its r' hz h' c' kp e) (by simp only [List.size_toArray] <;> lia)
def tyV (K:PySem.W.Frag) (T:String) (x:V) (H:Hp):Prop:=match x with
 | .str _=>T = "str"
 | .int _=>T = "int"
 | .ref p=>(T = "list" /\ ∃ xs,SqL K H p xs)\/(T = "tuple" /\ ∃ o,K.lookup p=some o/\o.cls = .type "tuple" /\ o.dict=none) \/
   (T = "dict" /\ ((∃ kvs,H p=some (.dK kvs))\/∃ kvs,H p=some (.dT kvs)))\/(T = "set" /\ ∃ S n,H p=some (.set S n))
 | _=>False
theorem Zzs {pins:List (Addr×Obj)}{σ:St}{H:Hp}{s:Shared}{T:String}{x:V}{v:Value}(I:Inv X pins σ H s) (r:RelV x v) (ty:tyV X.K T x H) :
  s.TypeIs v T/\∀ a,v = .ref a->∃ ob,s.heap.get? a=some ob/\ob.dict=none:=by
 cases x with
 | str z =>
  obtain ⟨t,rfl⟩:=r
  cases (show T = "str" from ty)
  exact ⟨typeIs_str s z t,fun _ e=>nomatch e⟩
 | int i =>
  obtain ⟨t,rfl⟩:=r
  cases (show T = "int" from ty)
  exact ⟨typeIs_int s i t,fun _ e=>nomatch e⟩
 | ref p =>
  cases r
  rcases ty with ⟨rfl,xs,hq⟩ | ⟨rfl,o,hk,hc,hd⟩ | ⟨rfl,hk⟩ | ⟨rfl,S,n,hk⟩
  ·obtain ⟨its,_,pl,_⟩:=I.list hq
   refine ⟨pl.isList.typeIs,fun a e=>?_⟩
   cases e
   obtain ⟨o,n,e,c,hd,_⟩:=pl
   exact ⟨o,e,hd⟩
  ·refine ⟨⟨o,I.kIn p o hk,hc⟩,fun a e=>?_⟩
   cases e
   exact ⟨o,I.kIn _ o hk,hd⟩
  ·have z:∃ o,s.heap.get? p=some o/\o.ExactDict:=by
    rcases hk with ⟨kvs,hk⟩ | ⟨kvs,hk⟩
    ·obtain ⟨_,_,_,_,o,_,_,e,ex,_⟩:=I.hok p _ hk
     exact ⟨o,e,ex⟩
    ·obtain ⟨_,_,_,_,o,_,_,e,ex,_⟩:=I.hok p _ hk
     exact ⟨o,e,ex⟩
   obtain ⟨o,e,ex⟩:=z
   refine ⟨⟨o,e,ex.1⟩,fun a e2=>?_⟩
   cases e2
   exact ⟨o,e,ex.2.1⟩
  ·obtain ⟨o,_,_,_,e,ex,_⟩:=I.hok p _ hk
   refine ⟨⟨o,e,ex.1⟩,fun a e2=>?_⟩
   cases e2
   exact ⟨o,e,ex.2.1⟩
 | _=>exact False.elim ty
def tBM (K:PySem.W.Frag) (T:String) (r:V->List V->Hp->VK->Prop) (to:TE) (t:TA):TE:=fun σ H Q=>to σ H fun x H1=>tyV K T x H1/\t σ H1 fun xs H2=>r x xs H2 Q
variable {o e:Expr}{es:List Expr}{to:TE}{t:TA}{name:Str}{apos cpos:Pos}{T id:String}{r:V->List V->Hp->VK->Prop}
theorem Z0u (pa:PlainAttrs T) (slot:Slot T name id) (hty:typeOf (.builtin id)=pure (.type "method_descriptor")) (hm:MtR X id r) (ho:PE X o to) (ha:PA X (e::es) t)
  (hbase:attributeBase o name X.env (eval o X.env)=eval o X.env:=by rfl)
  (hfew:((backTo cpos (starEach (e::es) X.env)).all (fun x=>!x.1) && (backToKw cpos (keywordEach [] X.env)).all (fun x=>x.1.isSome)
   && decide ((e::es).length+([]:List Keyword).length+(if ([]:List Keyword).isEmpty then 0 else 1) < 30))=true:=by rfl)
  (hline:(apos.endLine == cpos.line)=true:=by rfl) (hs:starEach (e::es) X.env=(false,eval e X.env)::starEach es X.env:=by rfl) (hplain:(backTo cpos (starEach es X.env)).any (·.1)=false:=by rfl) :
  PE X (.Call (.Attribute o name apos) (e::es) [] cpos) (tBM X.K T r to t):=by
 intro pins s σ H Q I h
 refine wpAny_Call_method_late hbase hfew hline rfl (thn (ho pins s σ H _ I h) fun v s1 ⟨x,H1,I1,r1,ty,q1⟩=>?_)
 obtain ⟨h1,h2⟩:=Zzs I1 r1 ty
 refine ⟨T,id,pa,slot,hty,h1,h2,?_⟩
 have hA:=ha cpos pins s1 σ H1 _ I1 q1
 rw [hs] at hA ⊢
 refine Calls.callWith_builtin (by show (false || (backTo cpos (starEach es X.env)).any (·.1))=false; rw [hplain] <;> rfl) (Calls.evalArgs_plain ?_)
 exact thn hA fun us s2 ⟨vs,H2,I2,r2,q2⟩=>hm pins s2 σ H2 x vs v us Q I2 r1 r2 q2
/- xs.append(e),list.index on a module's tuple .. are MtR facts of 06m -/
end
end L2
namespace L2
open PySem PySem.Spec PyProof.Rows
def MtM (X:Cx) (id:String) (r:V->List V->Hp->VK->Prop):Prop :=
 ∀ (pins:List (Addr×Obj)) (s:Shared) (σ:St) (H:Hp) (x:V) (xs:List V) (v:Value) (us:List Value) (Q:VK),Inv X pins σ H s->RelV x v->Vals xs us->r x xs H Q ->
  wpAny (model X.prog X.w) X.A (call (.builtin id) (v::us)) (EP X pins σ Q) X.xe s
theorem Vals.one:∀ {x:V}{us:List Value},Vals [x] us->∃ u,us = [u]/\RelV x u
 | _,_,.cons r .nil=>⟨_,rfl,r⟩
section
variable {X:Cx}{pins:List (Addr×Obj)}{σ:St}{H:Hp}{s:Shared}{l b:Addr}{xs ys zs:List V}
theorem Inv.lset {its its':List Value}{n:Nat}{f:Array Value->Array Value}{t':Nat}(I:Inv X pins σ H s) (hH:H l=some (.lst xs))
  (e:s.heap.get? l=some {cls:=.type "list", data:=.seq its.toArray n }) (hf:f its.toArray=its'.toArray) (hv:Vals ys its') (hz:ys.length<=sizeLine) :
  Inv X pins σ (upd H l (.lst ys)) {s with heap:=s.heap.update l (Obj.mapSeq f),toks:=t' }:=by
 have q:=PySem.IsL.update e f
 rw [hf] at q
 refine I.write (x:=l) (e:=l) (by rw [hH]; exact trivial) (.inl rfl) (fun b' u hb hu=>(Heap.get?_update_other s.heap (Obj.mapSeq f) (Ne.symm hb)).trans hu) ⟨_,q⟩ ?_
 exact ⟨hz,its',_,hv,q⟩
theorem Inv.lstM (I:Inv X pins σ H s) (hH:H l=some (.lst xs)):xs.length<=sizeLine/\∃ (its:List Value) (n:Nat),Vals xs its/\xs.length=its.length/\s.heap.get? l=some {cls:=.type "list", data:=.seq its.toArray n }:=by
 obtain ⟨z,its,n,r,e⟩:=I.hok l _ hH
 exact ⟨z,its,n,r,r.length,e⟩
end
section
variable {X:Cx}
def Zdo:V->List V->Hp->VK->Prop:=fun x vs H Q=>∃ l xs y,x = .ref l/\vs = [y]/\H l=some (.lst xs)/\xs.length < sizeLine/\Q .non (upd H l (.lst (xs ++ [y])))
theorem Zt0:MtM X "list.append" Zdo:=by
 intro pins s σ H x vs v us Q I rx rv h
 obtain ⟨l,xs,y,rfl,rfl,hH,hz,q⟩:=h
 cases rx
 obtain ⟨u,rfl,ru⟩:=rv.one
 obtain ⟨z,its,n,r,hl,e⟩:=I.lstM hH
 refine call_meets F.slot_list_append ⟨_,e,rfl⟩ F.entry_list_append (F.args_list_append_2 _ _) (PySem.list_append l its.toArray n u (by rw [List.size_toArray]; lia)) ⟨e,?_⟩
 refine ⟨.non,_,I.lset (its':=its ++ [u]) hH e (by simp) (r.append (.cons ru .nil)) ?_,rfl,q⟩
 rw [List.length_append,List.length_singleton]
 lia
end
section
variable {prog:Program}{w:World}{A:Around}{E:Value->Shared->Prop}{s:Shared}
set_option maxRecDepth 100000 in
end
section
variable {X:Cx}
end
end L2
namespace L2
open PySem PySem.Spec PyProof.Rows
section
variable {κ:Type} [DecidableEq κ]
def Z1 (kvs:List (κ×V)) (k : κ):Option V:=(kvs.find? fun kv=>decide (kv.1=k)).map (·.2)
def Zr (kvs:List (κ×V)) (k : κ) (v:V):List (κ×V) :=
 if (kvs.any fun kv=>decide (kv.1=k))=true then kvs.map (fun kv=>if kv.1=k then (kv.1,v) else kv) else kvs ++ [(k,v)]
theorem Wz {p : κ×V}{r:List (κ×V)}{k : κ}(e:p.1=k):Z1 (p::r) k=some p.2:=by simp [Z1,List.find?_cons,e]
theorem Va {p : κ×V}{r:List (κ×V)}{k : κ}(e:¬ p.1=k):Z1 (p::r) k=Z1 r k:=by simp [Z1,List.find?_cons,e]
theorem Zab (k : κ):∀ kvs:List (κ×V),(kvs.any fun kv=>decide (kv.1=k))=(Z1 kvs k).isSome
 | []=>rfl
 | p::r=>by
  rw [List.any_cons]
  by_cases e:p.1=k
  ·simp only [Wz e,decide_eq_true e,Bool.true_or,Option.isSome_some]
  ·rw [Va e,decide_eq_false e,Bool.false_or]; exact Zab k r
theorem Zlx (k j : κ) (y:V):∀ kvs:List (κ×V),Z1 (kvs.map fun kv=>if kv.1=k then (kv.1,y) else kv) j=(Z1 kvs j).map fun x=>if j=k then y else x
 | []=>rfl
 | p::r=>by
  have ih:=Zlx k j y r
  rw [List.map_cons]
  by_cases h:p.1=k
  ·rw [if_pos h]
   by_cases e:p.1=j
   ·rw [Wz (p:=(p.1,y)) e,Wz e,Option.map_some,if_pos (e.symm.trans h)]
   ·rw [Va (p:=(p.1,y)) e,Va e,ih]
  ·rw [if_neg h]
   by_cases e:p.1=j
   ·rw [Wz (p:=p) e,Wz e,Option.map_some,if_neg (fun z=>h (e.trans z))]
   ·rw [Va (p:=p) e,Va e,ih]
theorem Zld (k j : κ) (y:V):∀ kvs:List (κ×V),Z1 kvs k=none->Z1 (kvs ++ [(k,y)]) j=if j=k then some y else Z1 kvs j
 | [],_=>by
  by_cases e:k=j
  ·rw [if_pos e.symm]; exact Wz (p:=(k,y)) e
  ·rw [if_neg (fun z=>e z.symm)]; exact Va (p:=(k,y)) e
 | p::r,hn=>by
  rw [List.cons_append]
  have hk:¬ p.1=k:=fun z=>by rw [Wz z] at hn; cases hn
  rw [Va hk] at hn
  have ih:=Zld k j y r hn
  by_cases e:p.1=j
  ·rw [Wz e,Wz e,if_neg (fun z=>hk (e.trans z))]
  ·rw [Va e,Va e,ih]
theorem Zay (kvs:List (κ×V)) (k j : κ) (y:V):Z1 (Zr kvs k y) j=if j=k then some y else Z1 kvs j:=by
 unfold Zr
 by_cases a:(kvs.any fun kv=>decide (kv.1=k))=true
 ·rw [if_pos a,Zlx]
  rw [Zab] at a
  by_cases e:j=k
  ·obtain ⟨x,hx⟩:=Option.isSome_iff_exists.mp a
   rw [if_pos e,e,hx,Option.map_some,if_pos rfl]
  ·rw [if_neg e]
   cases Z1 kvs j with
   | none=>rfl
   | some x=>rw [Option.map_some,if_neg e]
 ·rw [if_neg a]
  refine Zld k j y kvs ?_
  rw [Zab] at a
  cases q:Z1 kvs k with
  | none=>rfl
  | some x=>rw [q] at a; exact (a rfl).elim
theorem U0 (kvs:List (κ×V)) (k : κ) (v:V):(Zr kvs k v).length<=kvs.length+1:=by
 unfold Zr
 split
 ·rw [List.length_map]; lia
 ·rw [List.length_append,List.length_cons,List.length_nil]; lia
theorem Zly {kvs:List (κ×V)}{k : κ}(v:V) (h:Z1 kvs k=none):Zr kvs k v=kvs ++ [(k,v)]:=by
 unfold Zr
 rw [Zab,h]
 exact if_neg (by decide)
theorem RelO.isSome_eq {o:Option V}{u:Option Value}(r:RelO o u):o.isSome=u.isSome:=by
 cases o with
 | none=>cases u with
  | none=>rfl
  | some _=>exact (show False from r).elim
 | some _=>cases u with
  | none=>exact (show False from r).elim
  | some _=>rfl
theorem RelO.getD {o:Option V}{u:Option Value}{d:V}{d':Value}(r:RelO o u) (rd:RelV d d'):RelV (o.getD d) (u.getD d'):=by
 cases o with
 | none=>cases u with
  | none=>exact rd
  | some _=>exact (show False from r).elim
 | some _=>cases u with
  | none=>exact (show False from r).elim
  | some _=>exact r
theorem KV.val {kvs:List (κ×V)}{vs:List (κ×Value)}(r:KV kvs vs) (k : κ):RelO (Z1 kvs k) (valueAt vs k):=by
 unfold KV at r
 induction r with
 | nil=>exact True.intro
 | @cons p q ps qs h t ih =>
  obtain ⟨h1,h2⟩:=h
  by_cases e:p.1=k
  ·have e':q.1=k:=h1.symm.trans e
   have b:valueAt (q::qs) k=some q.2:=by simp [valueAt,List.find?_cons,e']
   rw [Wz e,b]; exact h2
  ·have e':¬ q.1=k:=fun z=>e (h1.trans z)
   have b:valueAt (q::qs) k=valueAt qs k:=by simp [valueAt,List.find?_cons,e']
   rw [Va e,b]; exact ih
theorem KV.any {kvs:List (κ×V)}{vs:List (κ×Value)}(r:KV kvs vs) (k : κ):(kvs.any fun kv=>decide (kv.1=k))=vs.any fun kv=>decide (kv.1=k):=by
 unfold KV at r
 induction r with
 | nil=>rfl
 | cons h t ih=>rw [List.any_cons,List.any_cons,ih,h.1]
theorem KV.repl {kvs:List (κ×V)}{vs:List (κ×Value)}(r:KV kvs vs) (k : κ) {y:V}{u:Value}(ry:RelV y u) :
  KV (kvs.map fun kv=>if kv.1=k then (kv.1,y) else kv) (vs.map fun kv=>if kv.1=k then (kv.1,u) else kv):=by
 unfold KV at r ⊢
 induction r with
 | nil=>exact .nil
 | @cons p q ps qs h t ih =>
  rw [List.map_cons,List.map_cons]
  refine .cons ?_ ih
  obtain ⟨h1,h2⟩:=h
  by_cases e:p.1=k
  ·rw [if_pos e,if_pos (h1.symm.trans e)]; exact ⟨h1,ry⟩
  ·rw [if_neg e,if_neg (fun z=>e (h1.trans z))]; exact ⟨h1,h2⟩
theorem KV.put {kvs:List (κ×V)}{vs:List (κ×Value)}(r:KV kvs vs) (k : κ) {y:V}{u:Value}(ry:RelV y u):KV (Zr kvs k y) (stored vs k u):=by
 unfold Zr stored
 rw [r.any k]
 by_cases e:(vs.any fun kv=>decide (kv.1=k))=true
 ·rw [if_pos e,if_pos e]; exact r.repl k ry
 ·rw [if_neg e,if_neg e]; exact Paired.snoc r ⟨rfl,ry⟩
theorem KV.length {kvs:List (κ×V)}{vs:List (κ×Value)}(r:KV kvs vs):kvs.length=vs.length:=Paired.length r
end
theorem Zac {P:Program}{w:World}{k:Key}{u:Value}(r:RelV (kV k) u):(Ym P w).is k u=true:=by
 cases k with
 | inl i=>obtain ⟨t,e⟩:=(show ∃ t,u=Value.int i t from r); subst e; exact Zsd P w i t
 | inr x=>obtain ⟨t,e⟩:=(show ∃ t,u=Value.str x t from r); subst e; exact Zse P w x t
theorem Zle {P:Program}{w:World}:∀ {ks:List Key}{us:List Value},Vals (ks.map kV) us->ItemsAre (Ym P w) ks us
 | [],_,r=>by rw [List.map_nil] at r; cases r; exact .nil
 | k::ks,_,r=>by
  rw [List.map_cons] at r
  cases r with
  | cons h t=>exact .cons (Zac h) (Zle t)
abbrev KT (H:Hp):List (List Key×V)->List (List Key×Addr×Value)->Prop:=Paired fun p q=>p.1=q.1/\H q.2.1=some (.tup (p.1.map kV))/\RelV p.2 q.2.2
theorem KT.val {H:Hp}{kvs:List (List Key×V)}{xs:List (List Key×Addr×Value)}(r:KT H kvs xs) (k:List Key):RelO (Z1 kvs k) ((atKey xs k).map (·.2)):=by
 induction r with
 | nil=>exact True.intro
 | @cons p q ps qs h t ih =>
  obtain ⟨h1,_,h2⟩:=h
  by_cases e:p.1=k
  ·have e':q.1=k:=h1.symm.trans e
   have b:atKey (q::qs) k=some q.2:=by simp [atKey,List.find?_cons,e']
   rw [Wz e,b]; exact h2
  ·have e':¬ q.1=k:=fun z=>e (h1.trans z)
   have b:atKey (q::qs) k=atKey qs k:=by simp [atKey,List.find?_cons,e']
   rw [Va e,b]; exact ih
theorem KT.repl {H:Hp}{kvs:List (List Key×V)}{xs:List (List Key×Addr×Value)}(r:KT H kvs xs) (k:List Key) {y:V}{u:Value}(ry:RelV y u) :
  KT H (kvs.map fun kv=>if kv.1=k then (kv.1,y) else kv) (xs.map (putAt k u)):=by
 induction r with
 | nil=>exact .nil
 | @cons p q ps qs h t ih =>
  rw [List.map_cons,List.map_cons]
  refine .cons ?_ ih
  obtain ⟨h1,h2,h3⟩:=h
  unfold putAt
  by_cases e:p.1=k
  ·rw [if_pos e,if_pos (h1.symm.trans e)]; exact ⟨h1,h2,ry⟩
  ·rw [if_neg e,if_neg (fun z=>e (h1.trans z))]; exact ⟨h1,h2,h3⟩
theorem KT.put {H:Hp}{kvs:List (List Key×V)}{xs:List (List Key×Addr×Value)}(r:KT H kvs xs) (k:List Key) {b:Addr}{y:V}{u:Value}(hb:H b=some (.tup (k.map kV))) (ry:RelV y u) :
  KT H (Zr kvs k y) (storedH xs k b u):=by
 have e:(kvs.any fun kv=>decide (kv.1=k))=(atKey xs k).isSome:=by
  rw [Zab,(r.val k).isSome_eq,Option.isSome_map]
 unfold Zr storedH
 rw [e]
 by_cases q:(atKey xs k).isSome=true
 ·rw [if_pos q,if_pos q]; exact r.repl k ry
 ·rw [if_neg q,if_neg q]; exact Paired.snoc r ⟨rfl,hb,ry⟩
theorem KT.keeps {H H':Hp}{kvs:List (List Key×V)}{xs:List (List Key×Addr×Value)}(r:KT H kvs xs) (ht:∀ b ys,H b=some (.tup ys)->H' b=some (.tup ys)):KT H' kvs xs :=
 Paired.mapP r fun _ _ z=>⟨z.1,ht _ _ z.2.1,z.2.2⟩
section
variable {P:Program}{w:World}{H:Hp}{h:Heap}{a:Addr}
theorem Zop {u:HO}(ok:HOk P w H h) (e:Rd H a u):ObjOk P w H h a u:=e.ok ok
theorem Us {kvs:List (Key×V)}(ok:HOk P w H h) (e:Rd H a (.dK kvs)):kvs.length<=sizeLine/\(a == sysModules)=false/\∃ vs,KV kvs vs/\h.DictOf (Ym P w) a vs :=
 show ObjOk P w H h a (.dK kvs) from Zop ok e
theorem Zoq {kvs:List (Key×V)}(ok:HOk P w H h) (e:H a=some (.dK kvs)):kvs.length<=sizeLine/\(a == sysModules)=false/\∃ vs,KV kvs vs/\h.DictOf (Ym P w) a vs:=Us ok (.inl e)
theorem Za5 {ks:List Key}(ok:HOk P w H h) (e:H a=some (.tup (ks.map kV))):(tupleKind (Ym P w)).is h ks a:=by
 obtain ⟨_,its,r,o,h1,h2,n,h3⟩:=(show ObjOk P w H h a (.tup (ks.map kV)) from ok a _ e)
 exact ⟨o,its.toArray,n,h1,h2,h3,by simpa using Zle r⟩
theorem Zad {kvs:List (List Key×V)}(ok:HOk P w H h) (e:Rd H a (.dT kvs)):kvs.length<=sizeLine/\(a == sysModules)=false /\
  ∃ xs,KT H kvs xs/\h.DictOfH (tupleKind (Ym P w)) a xs:=by
 obtain ⟨z,y,xs,r,o,es,ep,h1,h2,h3,h4,h5⟩:=(show ObjOk P w H h a (.dT kvs) from Zop ok e)
 refine ⟨z,y,xs,r,o,es,ep,h1,h2,h3,h4,fun x hx=>?_,h5⟩
 have all:∀ {l:List (List Key×V)}{m:List (List Key×Addr×Value)},KT H l m->∀ x∈m,(tupleKind (Ym P w)).is h x.1 x.2.1:=by
  intro l m q
  induction q with
  | nil=>intro x hx; exact nomatch hx
  | @cons p q ps qs hq t ih =>
   intro x hx
   rcases List.mem_cons.mp hx with e | hx
   ·subst e
    exact Za5 ok (by rw [← hq.1]; exact hq.2.1)
   ·exact ih x hx
 exact all r x hx
theorem Z0v {kvs:List (List Key×V)}(ok:HOk P w H h) (e:H a=some (.dT kvs)):kvs.length<=sizeLine/\(a == sysModules)=false /\
  ∃ xs,KT H kvs xs/\h.DictOfH (tupleKind (Ym P w)) a xs:=Zad ok (.inl e)
end
def DGet (H:Hp) (a:Addr) (y:V) (r:Option V):Prop :=
 (∃ kvs k,Rd H a (.dK kvs)/\y=kV k/\r=Z1 kvs k)\/∃ kvs k b,Rd H a (.dT kvs)/\y = .ref b/\H b=some (.tup (k.map kV))/\r=Z1 kvs k
def DPut (H:Hp) (a:Addr) (y v:V) (H':Hp):Prop :=
 (∃ kvs k,H a=some (.dK kvs)/\y=kV k/\kvs.length < sizeLine/\H'=upd H a (.dK (Zr kvs k v))) \/
 ∃ kvs k b,H a=some (.dT kvs)/\y = .ref b/\H b=some (.tup (k.map kV))/\kvs.length < sizeLine/\H'=upd H a (.dT (Zr kvs k v))
theorem DGet.k {H:Hp}{a:Addr}{kvs:List (Key×V)}{k:Key}(e:H a=some (.dK kvs)):DGet H a (kV k) (Z1 kvs k):=.inl ⟨kvs,k,.inl e,rfl,rfl⟩
theorem DGet.t {H:Hp}{a b:Addr}{kvs:List (List Key×V)}{k:List Key}(e:H a=some (.dT kvs)) (eb:H b=some (.tup (k.map kV))):DGet H a (.ref b) (Z1 kvs k):=.inr ⟨kvs,k,b,.inl e,rfl,eb,rfl⟩
theorem DPut.k {H:Hp}{a:Addr}{kvs:List (Key×V)}{k:Key}{v:V}(e:H a=some (.dK kvs)) (hl:kvs.length < sizeLine):DPut H a (kV k) v (upd H a (.dK (Zr kvs k v))):=.inl ⟨kvs,k,e,rfl,hl,rfl⟩
theorem DPut.t {H:Hp}{a b:Addr}{kvs:List (List Key×V)}{k:List Key}{v:V}(e:H a=some (.dT kvs)) (eb:H b=some (.tup (k.map kV))) (hl:kvs.length < sizeLine) :
  DPut H a (.ref b) v (upd H a (.dT (Zr kvs k v))):=.inr ⟨kvs,k,b,e,rfl,eb,hl,rfl⟩
section
variable {X:Cx}{pins:List (Addr×Obj)}{σ:St}{H:Hp}{s:Shared}{a:Addr}{y v:V}{u r:Value}{o:Option V}{A:Around}{E:Value->Shared->Prop}
theorem Inv.big (I:Inv X pins σ H s):sysModules < s.heap.objs.size:=by
 have h:mainGlobals < s.heap.objs.size:=(I.mod.glob.keeps I.bk).lt
 exact Nat.lt_trans (by decide) h
theorem Zt1 {Q:Value->Shared->Prop}(hu:A.units+1 < cLine) (I:Inv X pins σ H s) (g:DGet H a y (some v)) (ry:RelV y u) (h:∀ w' s',Inv X pins σ H s'->RelV v w'->Q w' s') :
  wpAny (model X.prog X.w) A (getItem (.ref a) u) Q E s:=by
 rcases g with ⟨kvs,k,e,ey,l⟩ | ⟨kvs,k,b,e,ey,eb,l⟩
 ·subst ey
  obtain ⟨z,hd,vs,rel,dd⟩:=Us I.hok e
  obtain ⟨w',hw,rw'⟩:=RelO.some_of (v:=v) (o:=valueAt vs k) (by rw [l]; exact rel.val k)
  exact wpAny_getItem_of (Zac ry) dd.mapOf hw (h w' _ (I.tok _) rw')
 ·subst ey
  cases (show u=Value.ref b from ry)
  obtain ⟨z,hd,xs,rel,dd⟩:=Zad I.hok e
  obtain ⟨w',hw,rw'⟩:=RelO.some_of (v:=v) (o:=(atKey xs k).map (·.2)) (by rw [l]; exact rel.val k)
  obtain ⟨p,hp,hp2⟩:=Option.map_eq_some_iff.mp hw
  refine wpAny_getItem_heap (tupleKind_room_in1 hu) (Za5 I.hok eb) dd hp ?_
  rw [hp2]
  exact h w' _ (I.tok _) rw'
theorem Z66 {Q:Value->Shared->Prop}(hu:A.units+1 < cLine) (I:Inv X pins σ H s) (g:DGet H a y o) (ry:RelV y u) (h:∀ s',Inv X pins σ H s'->Q (.bool o.isSome) s') :
  wpAny (model X.prog X.w) A (compareOp .In u (.ref a)) Q E s:=by
 rcases g with ⟨kvs,k,e,ey,l⟩ | ⟨kvs,k,b,e,ey,eb,l⟩
 ·subst ey
  obtain ⟨z,hd,vs,rel,dd⟩:=Us I.hok e
  refine wpAny_in_of (Zac ry) hd dd.mapOf ?_
  rw [← (rel.val k).isSome_eq,← l]
  exact h _ (I.tok _)
 ·subst ey
  cases (show u=Value.ref b from ry)
  obtain ⟨z,hd,xs,rel,dd⟩:=Zad I.hok e
  refine wpAny_in_heap (tupleKind_room_in1 hu) (Za5 I.hok eb) hd dd ?_
  have q:=(rel.val k).isSome_eq
  rw [Option.isSome_map] at q
  rw [← q,← l]
  exact h _ (I.tok _)
theorem Zxs {Q:Value->Shared->Prop}(hu:A.units+1 < cLine) (I:Inv X pins σ H s) (g:DGet H a y o) (ry:RelV y u) (h:∀ s',Inv X pins σ H s'->Q (.bool (!o.isSome)) s') :
  wpAny (model X.prog X.w) A (compareOp .NotIn u (.ref a)) Q E s:=by
 rcases g with ⟨kvs,k,e,ey,l⟩ | ⟨kvs,k,b,e,ey,eb,l⟩
 ·subst ey
  obtain ⟨z,hd,vs,rel,dd⟩:=Us I.hok e
  refine wpAny_notIn_of (Zac ry) hd dd.mapOf ?_
  rw [← (rel.val k).isSome_eq,← l]
  exact h _ (I.tok _)
 ·subst ey
  cases (show u=Value.ref b from ry)
  obtain ⟨z,hd,xs,rel,dd⟩:=Zad I.hok e
  refine wpAny_notIn_heap (tupleKind_room_in1 hu) (Za5 I.hok eb) hd dd ?_
  have q:=(rel.val k).isSome_eq
  rw [Option.isSome_map] at q
  rw [← q,← l]
  exact h _ (I.tok _)
theorem Zf7 {h':Heap}{t':Nat}{ob:HO}(I:Inv X pins σ H s) (mu:Mut (H a)) (hs:Heap.SameBut a s.heap h') (he:∃ q,h'.get? a=some q) (new:ObjOk X.prog X.w (upd H a ob) h' a ob) :
  Inv X pins σ (upd H a ob) {s with heap:=h',toks:=t' } :=
 I.write (x:=a) (e:=a) mu (.inl rfl) (fun b q hb z=>(hs.2 b hb).trans z) he new
theorem Znw {P:Program}{w:World}{H':Hp}{h':Heap}{kvs:List (Key×V)}{vs:List (Key×Value)}(z:kvs.length<=sizeLine) (hd:(a == sysModules)=false) (rel:KV kvs vs) (dd:h'.DictOf (Ym P w) a vs) :
  ObjOk P w H' h' a (.dK kvs):=⟨z,hd,vs,rel,dd⟩
theorem Zt2 {H':Hp}{Q:Unit->Shared->Prop}(hu:A.units+1 < cLine) (I:Inv X pins σ H s) (g:DPut H a y v H') (ry:RelV y u) (rv:RelV v r) (h:∀ s',Inv X pins σ H' s'->Q () s') :
  wpAny (model X.prog X.w) A (setItem (.ref a) u r) Q E s:=by
 rcases g with ⟨kvs,k,e,ey,l,eH⟩ | ⟨kvs,k,b,e,ey,eb,l,eH⟩
 ·subst ey eH
  obtain ⟨z,hd,vs,rel,dd⟩:=Zoq I.hok e
  have hz:vs.length<=sizeLine:=by rw [← rel.length]; exact z
  have hl:(Zr kvs k v).length<=sizeLine:=by have:=U0 kvs k v; lia
  refine wpAny_setItem_pairs (hsz:=hz) (Zac ry) dd fun h' dd' hs=>h _ ?_
  have he:∃ q,h'.get? a=some q:=let ⟨q,_,_,hq,_⟩:=dd'; ⟨q,hq⟩
  exact Zf7 I (by rw [e]; exact True.intro) hs he (Znw hl hd (rel.put k rv) dd')
 ·subst ey eH
  cases (show u=Value.ref b from ry)
  obtain ⟨z,hd,xs,rel,dd⟩:=Z0v I.hok e
  have hz:xs.length<=sizeLine:=by rw [← Paired.length rel]; exact z
  have hl:(Zr kvs k v).length<=sizeLine:=by have:=U0 kvs k v; lia
  refine wpAny_setItem_heap (hsz:=hz) (tupleKind_room_in1 hu) (Za5 I.hok eb) dd fun h' dd' hs=>h _ ?_
  obtain ⟨q,es,ep,hq,h2,h3,h4,_,h5⟩:=dd'
  refine Zf7 I (by rw [e]; exact True.intro) hs ⟨q,hq⟩ ⟨hl,hd,_,(rel.put k eb rv).keeps fun c ys ec=>?_,q,es,ep,hq,h2,h3,h4,h5⟩
  rw [Zc (Z0h ec e (fun z=>nomatch z))]
  exact ec
end
section
variable {X:Cx}{pins:List (Addr×Obj)}{σ:St}{H:Hp}{s:Shared}{a:Addr}{kvs:List (Key×V)}{k:Key}{u:Value}{A:Around}{E:Value->Shared->Prop}
theorem Z0w {Q:Value->Shared->Prop}(I:Inv X pins σ H s) (e:Rd H a (.dK kvs)) (h:∀ t s',Inv X pins σ H s'->Q (.int kvs.length t) s'):wpAny (model X.prog X.w) A (call (.builtin "len") [.ref a]) Q E s:=by
 obtain ⟨z,hd,vs,rel,dd⟩:=Us I.hok e
 refine call_len_dict hd dd (by rw [← rel.length]; rw [sizeLine_eq] at z; lia) ?_
 rw [← rel.length]
 exact h _ _ (I.tok _)
end
def Zi6 (i:Expr):Prop:=∀ ov iv,subscripted i false ov iv=operate [ov,iv] (getItem ov iv)
theorem Zxt {prog:Program}{w:World}{A:Around}{E:Value->Shared->Prop}{s:Shared}{env:Env}{value slice:Expr}{pos:Pos}{T id:String}{Q:Value->Shared->Prop}
  (hl:typeLookup (.type T) "__getitem__" = pure (some (.builtin id))) (hs:Zi6 slice)
  (h:wpAny (model prog w) A (eval value env) (fun o s₁=>wpAny (model prog w) A (eval slice env) (fun i s₂=>s₂.TypeIs o T/\wpAny (model prog w) A (getItem o i) Q E s₂) E s₁) E s) :
  wpAny (model prog w) A (eval (.Subscript value slice pos) env) Q E s:=by
 refine Subscript_ (wpAny_mono h (fun o s₁ h₁=>wpAny_mono h₁ (fun i s₂ h₂=>?_) fun _ _ x=>x) fun _ _ x=>x)
 obtain ⟨hT,h₂⟩:=h₂
 unfold subscriptTail
 refine wpAny_bind ?_
 rw [getitemInPython_of_ne hT.not_modules]
 refine wpAny_bind (wpAny_specialOf hT hl ?_)
 have fin:wpAny (model prog w) A (subscripted slice false o i) (fun r s₃=>wpAny (model prog w) A (letTemporaryGo value o r >>= fun _=>pure r) Q E s₃) E s₂:=by
  rw [hs o i]
  exact wpAny_operating (wpAny_mono h₂ (fun r s₃ h₃=>wpAny_bind (wpAny_letTemporaryGo (wpAny_pure h₃))) fun _ _ x=>x)
 first
  | exact wpAny_pure (wpAny_bind fin)
  | exact wpAny_bind (wpAny_pure (wpAny_bind fin))
  | exact wpAny_bind fin
theorem Zsg {X:Cx}{pins:List (Addr×Obj)}{σ:St}{H:Hp}{s:Shared}{a:Addr}{y:V}{o:Option V}(I:Inv X pins σ H s) (g:DGet H a y o):s.TypeIs (.ref a) "dict" := by
 rcases g with ⟨kvs,k,e,_,_⟩ | ⟨kvs,k,b,e,_,_,_⟩
 ·obtain ⟨_,_,vs,_,dd⟩:=Us I.hok e
  exact dd.typeIs
 ·obtain ⟨_,_,xs,_,dd⟩:=Zad I.hok e
  exact dd.typeIs
def Zor (td ty:TE):TE:=fun σ H Q=>td σ H fun x H1=>ty σ H1 fun y H2=>∃ a v,x = .ref a/\DGet H2 a y (some v)/\Q v H2
def Zos (td ty tv:TE):TS:=fun D σ H=>tv σ H fun v H1=>td σ H1 fun x H2=>ty σ H2 fun y H3=>∃ a H4,x = .ref a/\DPut H3 a y v H4/\D.nx σ H4
section
variable {X:Cx}{o i e value:Expr}{pos pos' tpos:Pos}{td ty tv:TE}
theorem Zxu (hu:X.A.units+1 < cLine) (ho:PE X o td) (hi:PE X i ty) (hs:Zi6 i):PE X (.Subscript o i pos) (Zor td ty):=by
 intro pins s σ H Q I h
 refine Zxt PySem.F.slot_dict_getitem.lookup hs (thn (ho pins s σ H _ I h) fun u s1 ⟨x,H1,I1,rx,q1⟩=>thn (hi pins s1 σ H1 _ I1 q1) fun iv s2 ⟨y,H2,I2,ry,a,v,ex,g,q2⟩=>?_)
 subst ex
 obtain rfl:u=Value.ref a:=rx
 exact ⟨Zsg I2 g,Zt1 hu I2 g ry fun w' s3 I3 rw'=>⟨v,H2,I3,rw',q2⟩⟩
theorem Zxv (hu:X.A.units+1 < cLine) (ho:PE X o td) (hi:PE X i ty) (hv:PE X value tv) (hs:swapsWith value (some (.Subscript o i pos')) pos.line X.env=pure false) :
  PS X (.Assign [.Subscript o i pos'] value pos) (Zos td ty tv):=by
 intro pins s σ H D I h
 refine wpAny_Assign_Subscript (thn (hv pins s σ H _ I h) fun r s1 ⟨v,H1,I1,rv,q1⟩=>thn (ho pins s1 σ H1 _ I1 q1) fun u s2 ⟨x,H2,I2,rx,q2⟩=>thn (hi pins s2 σ H2 _ I2 q2) fun iv s3 ⟨y,H3,I3,ry,a,H4,ex,g,q3⟩=>?_) hs
 subst ex
 obtain rfl:u=Value.ref a:=rx
 exact Zt2 hu I3 g ry rv fun s4 I4=>⟨σ,H4,I4,q3⟩
end
theorem Zlz {P:Program}{w:World}{H:Hp}(h:Heap) (hb:sysModules < h.objs.size):ObjOk P w H (h.push {cls:=.type "dict", data:=.dict #[] }) h.objs.size (.dK []) :=
 ⟨Nat.zero_le _,beq_eq_false_iff_ne.mpr (Ne.symm (Nat.ne_of_lt hb)),[],.nil,Heap.DictOf.new h⟩
theorem Zvj {P:Program}{w:World}{H:Hp}(h:Heap) (hb:sysModules < h.objs.size):ObjOk P w H (h.push {cls:=.type "dict", data:=.dict #[] }) h.objs.size (.dT []) :=
 ⟨Nat.zero_le _,beq_eq_false_iff_ne.mpr (Ne.symm (Nat.ne_of_lt hb)),[],.nil,_,#[],0,Heap.get?_push_size _ rfl,⟨rfl,rfl,rfl⟩,rfl,rfl,List.nodup_nil⟩
def Znx:TE:=fun _ H Q=>∀ p,H p=none->Q (.ref p) (upd H p (.dK []))
def Zny:TE:=fun _ H Q=>∀ p,H p=none->Q (.ref p) (upd H p (.dT []))
section
variable {X:Cx}{pos:Pos}
theorem Zvk:PE X (.Dict [] [] pos) Znx:=fun pins s σ H Q I h =>
 wpAny_Dict_empty ⟨.ref s.heap.objs.size,_,I.laid (a:=s.heap.objs.size) (o:=.dK []) (t':=s.toks) (fun _ _ q=>Heap.get?_push_of_some _ q) (Nat.le_refl _) (Zlz s.heap I.big),rfl,h _ (I.hok.fresh (Nat.le_refl _))⟩
theorem Zvl:PE X (.Dict [] [] pos) Zny:=fun pins s σ H Q I h =>
 wpAny_Dict_empty ⟨.ref s.heap.objs.size,_,I.laid (a:=s.heap.objs.size) (o:=.dT []) (t':=s.toks) (fun _ _ q=>Heap.get?_push_of_some _ q) (Nat.le_refl _) (Zvj s.heap I.big),rfl,h _ (I.hok.fresh (Nat.le_refl _))⟩
end
def Zgw:List (TE×TE)->St->Hp->(List (V×V)->Hp->Prop)->Prop
 | [],_,H,Q=>Q [] H
 | (tk,tv)::r,σ,H,Q=>tk σ H fun x H1=>tv σ H1 fun y H2=>Zgw r σ H2 fun ps H3=>Q ((x,y)::ps) H3
abbrev VV:List (V×V)->List (Value×Value)->Prop:=Paired fun p q=>RelV p.1 q.1/\RelV p.2 q.2
def PPs (X:Cx) (pos:Pos) (keys:List (Option Expr)) (values:List Expr) (trs:List (TE×TE)):Prop :=
 ∀ (pins:List (Addr×Obj)) (s:Shared) (σ:St) (H:Hp) (Q:List (V×V)->Hp->Prop),Inv X pins σ H s->Zgw trs σ H Q ->
  wpAny (model X.prog X.w) X.A (evalPairs (pairTrees keys values X.env pos)) (fun vs s'=>∃ ps H',Inv X pins σ H' s'/\VV ps vs/\Q ps H') X.xe s
theorem Zxw {X:Cx}{pos:Pos}:PPs X pos [] [] []:=fun pins s σ H Q I h=>pairTrees_nil_walk ⟨[],H,I,.nil,h⟩
theorem Zvm {X:Cx}{pos:Pos}{k v:Expr}{ks:List (Option Expr)}{vs:List Expr}{tk tv:TE}{trs:List (TE×TE)}(hk:PE X k tk) (hv:PE X v tv) (hr:PPs X pos ks vs trs) :
  PPs X pos (some k::ks) (v::vs) ((tk,tv)::trs):=fun pins s σ H Q I h =>
 pairTrees_cons_walk (thn (hk pins s σ H _ I h) fun u s1 ⟨x,H1,I1,rx,q1⟩=>thn (hv pins s1 σ H1 _ I1 q1) fun w2 s2 ⟨y,H2,I2,ry,q2⟩ =>
  thn (hr pins s2 σ H2 _ I2 q2) fun ws s3 ⟨ps,H3,I3,rel,q3⟩=>⟨(x,y)::ps,H3,I3,.cons ⟨rx,ry⟩ rel,q3⟩)
def Ut (kvs more:List (Key×V)):List (Key×V):=more.foldl (fun acc kv=>Zr acc kv.1 kv.2) kvs
theorem KV.merge:∀ {more:List (Key×V)}{rs:List (Key×Value)}{kvs:List (Key×V)}{vs:List (Key×Value)},KV more rs->KV kvs vs->KV (Ut kvs more) (merged vs rs):=by
 intro more rs kvs vs r
 unfold KV at r
 induction r generalizing kvs vs with
 | nil=>intro q; exact q
 | @cons p q ps qs h t ih =>
  intro r0
  have e:KV (Zr kvs p.1 p.2) (stored vs q.1 q.2):=by
   have:=r0.put p.1 h.2
   rw [← h.1]; exact this
  exact ih e
theorem Zkm:∀ (more kvs:List (Key×V)),(Ut kvs more).length<=kvs.length+more.length
 | [],kvs=>by show kvs.length<=kvs.length+0; lia
 | p::r,kvs=>by
  have h1:=Zkm r (Zr kvs p.1 p.2)
  have h2:=U0 kvs p.1 p.2
  show (Ut (Zr kvs p.1 p.2) r).length<=_
  rw [List.length_cons]; lia
theorem Zku {P:Program}{w:World}:∀ {kvs:List (Key×V)}{ws:List (Value×Value)},VV (kvs.map fun kv=>(kV kv.1,kv.2)) ws->∃ rs,Carries (Ym P w) ws rs/\KV kvs rs
 | [],_,r=>by rw [List.map_nil] at r; cases r; exact ⟨[],True.intro,.nil⟩
 | p::kvs,_,r=>by
  rw [List.map_cons] at r
  cases r with
  | @cons a b as bs h t =>
   obtain ⟨rs,c,q⟩:=Zku (P:=P) (w:=w) t
   obtain ⟨b1,b2⟩:=b
   exact ⟨(p.1,b2)::rs,⟨Zac h.1,rfl,c⟩,.cons ⟨rfl,h.2⟩ q⟩
def Zot (trs:List (TE×TE)):TE:=fun σ H Q=>∀ p,H p=none->Zgw trs σ (upd H p (.dK [])) fun ps H2=>H2 p=some (.dK [])/\∃ kvs:List (Key×V),ps=kvs.map (fun kv=>(kV kv.1,kv.2))/\kvs.length<=15/\Q (.ref p) (upd H2 p (.dK (Ut [] kvs)))
theorem Zxx {X:Cx}{pos:Pos}{keys:List (Option Expr)}{values:List Expr}{trs:List (TE×TE)}(h:PPs X pos keys values trs) (hall:keys.all (·.isSome)=true) (hl:keys.length=values.length) (h0:keys ≠ [])
  (h15:keys.length<=15):PE X (.Dict keys values pos) (Zot trs):=by
 intro pins s σ H Q I q
 have hn:=I.hok.fresh (Nat.le_refl s.heap.objs.size)
 have I1:=I.laid (a:=s.heap.objs.size) (o:=.dK []) (h':=s.heap.push {cls:=.type "dict", data:=.dict #[] }) (t':=s.toks) (fun _ _ q=>Heap.get?_push_of_some _ q) (Nat.le_refl _) (Zlz s.heap I.big)
 refine wpAny_Dict_walk (knd:=Ym X.prog X.w) hall hl h0 h15 (thn (h pins _ σ _ _ I1 (q _ hn)) fun ws s2 ⟨ps,H2,I2,rel,e,kvs,ep,lk,q2⟩=>?_)
 subst ep
 obtain ⟨rs,c,rk⟩:=Zku (P:=X.prog) (w:=X.w) rel
 obtain ⟨z,hd,vs0,r0,dd⟩:=Zoq I2.hok e
 cases r0
 refine ⟨rs,c,dd,fun h' dd' hs=>⟨.ref s.heap.objs.size,_,?_,rfl,q2⟩⟩
 have hz:(Ut [] kvs).length<=sizeLine:=by
  have h1:=Zkm kvs []
  rw [List.length_nil] at h1
  rw [sizeLine_eq]; lia
 have he:∃ q,h'.get? s.heap.objs.size=some q:=let ⟨q,_,_,hq,_⟩:=dd'; ⟨q,hq⟩
 exact Zf7 I2 (by rw [e]; exact True.intro) hs he (Znw hz hd (rk.merge .nil) dd')
structure M1 (X:Cx) (o:Expr) (m:Str) (apos:Pos) (e:Expr) (cpos:Pos):Prop where
 base:attributeBase o m X.env (eval o X.env)=eval o X.env
 few:((backTo cpos (starEach [e] X.env)).all (fun x=>!x.1) && (backToKw cpos (keywordEach [] X.env)).all (fun x=>x.1.isSome)
  && decide (([e]:List Expr).length+([]:List Keyword).length+(if ([]:List Keyword).isEmpty then 0 else 1) < 30))=true
 line:(apos.endLine == cpos.line)=true
 trees:backTo cpos (starEach [e] X.env) = [(false,eval e X.env)]
structure M2 (X:Cx) (o:Expr) (m:Str) (apos:Pos) (e f:Expr) (cpos:Pos):Prop where
 base:attributeBase o m X.env (eval o X.env)=eval o X.env
 few:((backTo cpos (starEach [e,f] X.env)).all (fun x=>!x.1) && (backToKw cpos (keywordEach [] X.env)).all (fun x=>x.1.isSome)
  && decide (([e,f]:List Expr).length+([]:List Keyword).length+(if ([]:List Keyword).isEmpty then 0 else 1) < 30))=true
 line:(apos.endLine == cpos.line)=true
 trees:backTo cpos (starEach [e,f] X.env) = [(false,eval e X.env),(false,eval f X.env)]
def IsD (H:Hp) (a:Addr):Prop:=(∃ kvs,Rd H a (.dK kvs))\/∃ kvs,Rd H a (.dT kvs)
theorem Zzt {X:Cx}{pins:List (Addr×Obj)}{σ:St}{H:Hp}{s:Shared}{a:Addr}(I:Inv X pins σ H s) (d:IsD H a) :
  s.TypeIs (.ref a) "dict" /\ (∀ b,Value.ref a = .ref b->∃ ob,s.heap.get? b=some ob/\ob.dict=none)/\(a == sysModules)=false:=by
 rcases d with ⟨kvs,e⟩ | ⟨kvs,e⟩
 ·obtain ⟨_,hd,vs,_,dd⟩:=Us I.hok e
  refine ⟨dd.typeIs,fun b q=>?_,hd⟩
  cases q
  obtain ⟨ob,_,_,h1,h2,_⟩:=dd
  exact ⟨ob,h1,h2.2.1⟩
 ·obtain ⟨_,hd,xs,_,dd⟩:=Zad I.hok e
  refine ⟨dd.typeIs,fun b q=>?_,hd⟩
  cases q
  obtain ⟨ob,_,_,h1,h2,_⟩:=dd
  exact ⟨ob,h1,h2.2.1⟩
section
variable {X:Cx}{pins:List (Addr×Obj)}{σ:St}{H:Hp}{s:Shared}{a:Addr}{y d:V}{u r:Value}{o:Option V}{A:Around}{E:Value->Shared->Prop}
theorem Zzu {Q:Value->Shared->Prop}(hu:A.units+1 < cLine) (I:Inv X pins σ H s) (g:DGet H a y o) (ry:RelV y u) (rd:RelV d r) (h:∀ w' s',Inv X pins σ H s'->RelV (o.getD d) w'->Q w' s') :
  wpAny (model X.prog X.w) A (call (.builtin "dict.get") [.ref a,u,r]) Q E s:=by
 rcases g with ⟨kvs,k,e,ey,l⟩ | ⟨kvs,k,b,e,ey,eb,l⟩
 ·subst ey
  obtain ⟨z,hd,vs,rel,dd⟩:=Us I.hok e
  refine call_meetsIn PySem.F.slot_dict_get dd.typeIs PySem.F.entry_dict_get (PySem.F.args_dict_get_3 _ _ _) (meets_dict_get_default (Ym X.prog X.w) a (Zac ry) hd r) ⟨_,dd.mapOf,h _ _ (I.tok _) ?_⟩
  rw [l]
  exact (rel.val k).getD rd
 ·subst ey
  cases (show u=Value.ref b from ry)
  obtain ⟨z,hd,xs,rel,dd⟩:=Zad I.hok e
  refine call_meetsIn PySem.F.slot_dict_get dd.typeIs PySem.F.entry_dict_get (PySem.F.args_dict_get_3 _ _ _) (meetsH_dict_get_default (tupleKind (Ym X.prog X.w)) a b hd r) ⟨tupleKind_room_in1 hu,k,xs,Za5 I.hok eb,dd,h _ _ (I.tok _) ?_⟩
  rw [l]
  exact (rel.val k).getD rd
end
def Znz (td ty tx:TE):TE:=fun σ H Q=>td σ H fun x H1=>∃ a,x = .ref a/\IsD H1 a/\ty σ H1 fun y H2=>tx σ H2 fun z H3=>∃ o,DGet H3 a y o/\Q (o.getD z) H3
section
variable {X:Cx}{o e f:Expr}{apos cpos:Pos}{td ty tx:TE}
theorem Zvn (hu:X.A.units+1 < cLine) (ho:PE X o td) (he:PE X e ty) (hf:PE X f tx) (m:M2 X o "get" apos e f cpos):PE X (.Call (.Attribute o "get" apos) [e,f] [] cpos) (Znz td ty tx):=by
 intro pins s σ H Q I h
 refine wpAny_Call_method m.base m.few m.line PySem.F.plainAttrs_dict PySem.F.slot_dict_get PySem.F.type_dict_get (thn (ho pins s σ H _ I h) fun u s1 ⟨x,H1,I1,rx,a,ex,d,q1⟩=>?_)
 subst ex
 obtain rfl:u=Value.ref a:=rx
 obtain ⟨t1,t2,_⟩:=Zzt I1 d
 refine ⟨t1,t2,?_⟩
 rw [m.trees]
 refine Calls.callWith_builtin rfl (Calls.evalArgs_plain (Calls.spliced_cons (thn (he pins s1 σ H1 _ I1 q1) fun iv s2 ⟨y,H2,I2,ry,q2⟩ =>
  Calls.spliced_cons (thn (hf pins s2 σ H2 _ I2 q2) fun fv s3 ⟨z,H3,I3,rz,ov,g,q3⟩=>Calls.spliced_nil ?_))))
 exact Zzu hu I3 g ry rz fun w' s4 I4 rw'=>⟨_,H3,I4,rw',q3⟩
end
section
variable {X:Cx}{pins:List (Addr×Obj)}{σ:St}{H:Hp}{s:Shared}{a:Addr}{kvs:List (Key×V)}{A:Around}{E:Value->Shared->Prop}
end
section
variable {X:Cx}{pins:List (Addr×Obj)}{σ:St}{H:Hp}{s:Shared}{a:Addr}{y:V}{u:Value}{A:Around}{E:Value->Shared->Prop}
end
end L2
namespace Att
open PySem PySem.W PySem.Calls PyProof.Rows
theorem Zrs {P:Params}{h:Heap}:∀ (ns:List Int) (vs:List Value),WellAll P h vs (ns.map WData.int)->IntsAre vs ns:=by
 intro ns
 induction ns with
 | nil =>
  intro vs w
  rw [List.map_nil] at w
  cases w
  exact .nil
 | cons n ns ih =>
  intro vs w
  rw [List.map_cons] at w
  cases w with
  | cons a b =>
   cases a
   exact .cons _ _ (ih _ b)
theorem Zt3 {l:OpenLaw}{n:Nat}(hn:l.most=some n) {P:Params}{h:Heap}{args:List WData}{vals:List Value}
  (hpre:l.row.toRowW.claim.pre args=true) (hwl:WellAll P h vals args) :
  ∃ a vs ns,vals = [Value.ref a]/\args = [WData.list (ns.map WData.int)]/\h.get? a=some {cls:=.type "list", data:=.seq vs.toArray }/\IntsAre vs ns/\ns.length<=n:=by
 have hsh:WShape.hasAll [] args [.list .int]=true:=(pre_splitW hpre).1
 have hc:l.pre.holds [] {args:=args }=true:=(pre_splitW hpre).2
 obtain ⟨d,r,rfl,h1,h2⟩:=hasAllW_cons hsh
 obtain rfl:=hasAllW_nil h2
 obtain ⟨xs,rfl,h3⟩:=hasW_list h1
 obtain ⟨ns,rfl⟩:=items_int h3
 have hlen:ns.length<=n:=by
  unfold OpenLaw.pre at hc
  have h4:(WTm.not (.lt (.lit (.int (n:Int))) (.len (.arg 0)))).holds [] {args:=[.list (ns.map .int)] }=true:=by
   have h4:=(holds_andW hc).1
   rw [hn] at h4
   exact h4
  have h5:=condW_of h4 (w_not (w_lt w_lit (w_len_list (w_arg rfl))))
  rw [List.length_map] at h5
  refine Nat.le_of_not_lt fun q=>?_
  have q':(n:Int) < ((ns.length:Nat):Int):=by lia
  first
   | (rw [decide_eq_true q'] at h5; exact absurd h5 (by decide))
   | (simp at h5; lia)
 cases hwl with
 | cons w1 w2 =>
  cases w2
  cases w1 with
  | list ho hall=>exact ⟨_,_,ns,rfl,rfl,ho,Zrs ns _ hall,hlen⟩
theorem Zt4 (l:OpenLaw) (args:List WData):l.row.toRowW.claim.post args (.bool true) args=true :=
 postW_of (r:=l.row.toRowW) (X:=(true == true))
  (show WShape.has [] (.bool true) .bool=true by first | rfl | decide | simp [WShape.has,WShape.arms,WShape.armsAll])
  (show (WTm.eq .res (.lit (.bool true))).value [] {args:=args,res:=some (.bool true),after:=args }=some (.bool (true == true)) from w_eq_bool (w_res rfl) w_lit) rfl
theorem attach_call {l:OpenLaw}{n:Nat}{q:Program}{loose:List Str}{XP:(Str->Option Value)->Heap->Prop}{YP:World->Heap->Prop}{d:DefRec}
  (hn:l.most=some n) (hdf:d.params.defaults = [])
  (call:∀ (w:World) (s₀ s₁:Shared) (mg mb:Str->Option Value) (fa:Addr) (o:Obj) (pm cd doc:Value) (a:Addr) (vs:List Value) (ns:List Int),
   Ground q loose [] XP w s₀ mg mb s₁.heap->YP w s₁.heap ->
   s₁.heap.get? fa=some o->o.data = .func (docDef d.name d.params d.body d.scope pm cd doc)->s₁.heap.CodeRec cd d.name->mg d.name=some (.ref fa) ->
   s₁.heap.get? a=some {cls:=.type "list", data:=.seq vs.toArray }->IntsAre vs ns->ns.length<=n->s₁.gens = #[] ->
   codeAny (model l.prog w) callerA (.call (.ref fa) ⟨[.ref a],[]⟩) (fun r s'=>r = .ok (.ret (.bool true))/\OldK s₁.heap s'.heap/\s'.os=s₁.os/\AllBare s'.gens) s₁) :
  WalkO q loose XP YP l.row.toRowW d [] (fun f vs=>PySem.call f vs):=by
 intro w s₀ s₁ mg mb G Y fa o pm cd doc dV kV ho hd hcd hD hmg hg args vals as hpre hlay hrd hwl hlo
 obtain rfl:dV = .none:=Dflts.none hD hdf
 obtain rfl:kV = .none:=Dflts.noKw hD
 obtain ⟨a,vs,ns,rfl,rfl,hobj,hints,hlen⟩:=Zt3 hn hpre hwl
 refine enter_call (codeAny_mono (call w s₀ s₁ mg mb fa o pm cd doc a vs ns G Y ho (fd_plain hd) hcd hmg hobj hints hlen hg) fun r s' hq=>?_)
 obtain ⟨rfl,h2,h3,h4⟩:=hq
 exact ⟨.inl ⟨.bool true,.bool true,[],rfl,fun _=>rfl,.bool true,Zt4 l _,fun _=>⟨List.Pairwise.nil,fun _ hm=>(nomatch hm)⟩⟩,h2,h3,h4⟩
section
variable {prog:Program}{w:World}{A:Around}{E:Value->Shared->Prop}{s:Shared}{K:Frag}
end
end Att
namespace L2
open PySem PySem.Spec PyProof.Rows
theorem Zlf:∀ {vs:List Value}{ns:List Int},IntsAre vs ns->Vals (ns.map V.int) vs
 | _,_,.nil=>.nil
 | _,_,.cons n t h=>.cons ⟨t,rfl⟩ (Zlf h)
end L2
namespace L2
open PySem PySem.Spec PyProof.Rows
end L2
/- THE LAST THEOREM (shape; LID,My.* are yours):
   My.Adr: a structure of the addresses that your layer names (classes,functions); My.Txt K t: a structure (Prop) of the equations over K;
   My.txt_mk:{K} {implicit addresses ..} (e1:nsIn K mainGlobals "law" = some (some (.ref f))) (e2:K.lookup f=some ⟨oc,od,.func (fnOf "law" "law" params body scope dV kV doc pm an cdv ct),sl⟩) (e3:codeIn K cdv "law" = true) .. : ∃ t,My.Txt K t
set_option maxRecDepth 100000 in
set_option maxHeartbeats 0 in
theorem PySem.Challenge.cw_LID_holds : PySem.Challenge.rw_LID.Holds := by
 w_on; o_law; k_head; (case hw=>w_witness2)
 k_fill
 refine L2.walk_of (l:=PySem.Challenge.rw_LID) (n:=63) (k:=40) (x := "script") (CX:=fun w=>..) (sp:=fun _=>My.sp_law) rfl (by decide) rfl ⟨rfl,by decide,by decide⟩ (fun w h Y=>PySem.W.kIn_of Y) ?F ?S ?C
 case F =>
  intro w mg fa h KX G hmg
  have T:∃ t,My.Txt (L2.KOf KX) t:=by
   dsimp only [L2.KOf]                          -- K must stand as «<heap const> w.params» for k_is
   refine' My.txt_mk ?e1 ?e2 ?e3 ..
   (case e1=>PySem.W.k_is)                    -- in the order: a name->its address->its object->its parts
   (case e2=>PySem.W.k_is)
   ..
  obtain ⟨t,T⟩:=T
  have e0:=hmg.symm.trans (PySem.W.mg_of KX G T.law)
  cases e0                                       -- fa is the law's own address
  exact ⟨_,fun s u=>.of_eq rfl,fun base kb nb=>My.law_fn T kb nb⟩     -- if «.of_eq rfl» comes too early: refine' ⟨_,?b,fun base kb nb=>My.law_fn T kb nb⟩; exact fun s u=>.of_eq rfl
 case S=>exact fun w H a ns hl hO hS=>..
 case C=>exact ..
(the tactic k_is has no namespace: write k_is) -/
namespace L2
open PySem PySem.Spec PyProof.Rows
def Z9 (s:Stmt) (j:Nat):Stmt:=match s with
 | .ClassDef _ _ _ body _ _ _ _ _ _ _=>body.getD j (.Pass ⟨0,0,0,0⟩)
 | _=>.Pass ⟨0,0,0,0⟩
def Wt (s:Stmt):Arguments:=match s with
 | .FunctionDef _ a _ _ _ _ _ _ _ _=>a
 | _=>{posonlyargs:=[],args:=[],vararg:=none,kwonlyargs:=[],kw_defaults:=[],kwarg:=none,defaults:=[] }
def Yt (s:Stmt):List Stmt:=match s with
 | .FunctionDef _ _ b _ _ _ _ _ _ _=>b
 | _=>[]
def Za (s:Stmt):Scope:=match s with
 | .FunctionDef _ _ _ _ _ _ sc _ _ _=>sc
 | _=>{kind:=.function,names:=[],isGenerator:=false,isCoroutine:=false }
abbrev CX0:CXT:=fun _ _ _ _ _ _=>False
abbrev E0:XK:=fun _ _ _=>False
theorem Zee {X:Cx}:Zaa CX0 X E0:=fun _ _ _ _ _ _ _ h=>h.elim
structure Fun (K:PySem.W.Frag) (x qual:Str) (st:Stmt) (f:Addr) (fd:FuncData):Prop where
 ex:∃ (oc:Value) (od:Option Addr) (kV doc pm:Value) (an:Option Addr) (cdv ct:Value) (osl:Array (Option Value)),
  fd=PySem.W.fnOf x qual (Wt st) (Yt st) (Za st) .none kV doc pm an cdv ct/\K.lookup f=some ⟨oc,od,.func fd,osl⟩/\PySem.W.codeIn K cdv qual=true
 kp:PySem.W.keepIn K (.ref f)=true
section
variable {P:Program}{w:World}{K:PySem.W.Frag}{mg:Str->Option Value}{base:Heap}
theorem Fun.ok {x qual:Str}{st:Stmt}{f:Addr}{fd:FuncData}{N ps:List Str}{k:Nat}{sp:Sp}(F:Fun K x qual st f fd) (S:FnScope N ps (Za st)) (len:∀ vs H Q E,sp vs H Q E->vs.length=ps.length)
  (hbody:∀ (cdv:Value) (A:Around) (outer:List Env) (s:Shared) (H:Hp) (vs:List V) (Q:VK) (E:XK),Room k (A.deeper (envOfC qual (Za st) s.heap.objs.size f cdv))->sp vs H Q E ->
   ∃ t,PSs (Yi CX0 P w K mg base N qual (Za st) f cdv A outer s H E).nox (Yt st) t/\t {nx:=fun _ H'=>Q .non H',rt:=Q } (start N vs) H):FnOk P w K mg base CX0 (k+1) f fd ps sp:=by
 obtain ⟨oc,od,kV,doc,pm,an,cdv,ct,osl,rfl,lk,hcd⟩:=F.ex
 refine Zom lk hcd S len fun A outer s H vs Q E hr hsp=>?_
 obtain ⟨t,h,q⟩:=hbody cdv A outer s H vs Q E hr hsp
 exact ⟨t,h.nox,q⟩
theorem Fun.binds {x qual:Str}{st:Stmt}{f:Addr}{fd:FuncData}{ps:List Str}(F:Fun K x qual st f fd)
  (h:∀ (kV doc pm:Value) (an:Option Addr) (cdv ct:Value) (us:List Value),us.length=ps.length->bindArgs (PySem.W.fnOf x qual (Wt st) (Yt st) (Za st) .none kV doc pm an cdv ct) ⟨us,[]⟩=pure (ps.zip us)):Binds K fd ps []:=by
 obtain ⟨oc,od,kV,doc,pm,an,cdv,ct,osl,rfl,lk,hcd⟩:=F.ex
 exact .all (h kV doc pm an cdv ct)
theorem Zgx {x qual:Str}{st:Stmt}{f:Addr}{oc:Value}{od an:Option Addr}{osl:Array (Option Value)}{kV doc pm cdv ct:Value}(l:K.lookup f=some ⟨oc,od,.func (PySem.W.fnOf x qual (Wt st) (Yt st) (Za st) .none kV doc pm an cdv ct),osl⟩)
  (c:PySem.W.codeIn K cdv qual=true) (k:PySem.W.keepIn K (.ref f)=true):Fun K x qual st f (PySem.W.fnOf x qual (Wt st) (Yt st) (Za st) .none kV doc pm an cdv ct):=⟨⟨oc,od,kV,doc,pm,an,cdv,ct,osl,rfl,l,c⟩,k⟩
end
section
variable {X:Cx}
end
theorem Zm {A B:Prop}(h:B):if false=true then A else B:=by
 rw [if_neg Bool.false_ne_true]
 exact h
theorem Yc {A B:Prop}(h:A):if true=true then A else B:=by
 rw [if_pos rfl]
 exact h
def Same (H H':Hp):Prop:=∀ b o,H b=some o->H' b=some o
theorem Same.refl (H:Hp):Same H H:=fun _ _ h=>h
theorem Same.trans {H H1 H2:Hp}(a:Same H H1) (b:Same H1 H2):Same H H2:=fun c o h=>b c o (a c o h)
theorem Same.free {H H':Hp}(e:Same H H') {l:Addr}(h:H' l=Option.none):H l=Option.none:=by
 cases q:H l with
 | none=>rfl
 | some o =>
  rw [e l o q] at h
  cases h
end L2
namespace L2
open PySem PySem.Spec PyProof.Rows
section
variable {X:Cx}
theorem Zt5:Wh X (.builtin "len") (fun xs H Q=>∃ a kvs,xs = [V.ref a]/\H a=some (.dK kvs)/\Q (.int kvs.length) H):=by
 intro pins s σ H xs us Q I r h
 obtain ⟨a,kvs,rfl,ha,q⟩:=h
 obtain ⟨u,rfl,ru⟩:=Vt r
 cases ru
 exact Z0w I (.inl ha) fun t s' I'=>⟨.int kvs.length,H,I',⟨t,rfl⟩,q⟩
end
section
variable {κ:Type} [DecidableEq κ]
theorem Zvo {kvs:List (κ×V)}{k : κ}(h:Z1 kvs k=none):¬ k∈kvs.map (·.1):=by
 intro m
 obtain ⟨p,hp,e⟩:=List.mem_map.mp m
 have q:(kvs.any fun kv=>decide (kv.1=k))=true:=List.any_eq_true.mpr ⟨p,hp,decide_eq_true e⟩
 rw [Zab,h] at q
 exact absurd q (by simp)
theorem Zf8:∀ {l:List κ}{k : κ},l.Nodup->¬ k∈l->(l ++ [k]).Nodup
 | [],k,_,_=>by simp
 | a::r,k,h,hk=>by
  obtain ⟨h1,h2⟩:=List.nodup_cons.mp h
  show (a::(r ++ [k])).Nodup
  refine List.nodup_cons.mpr ⟨fun m=>?_,Zf8 h2 fun m=>hk (List.mem_cons.mpr (Or.inr m))⟩
  rcases List.mem_append.mp m with q | q
  ·exact h1 q
  ·exact hk (List.mem_cons.mpr (Or.inl (List.mem_singleton.mp q).symm))
theorem Zxy {kvs:List (κ×V)}{k : κ}(v:V) (hn:(kvs.map (·.1)).Nodup) (h:Z1 kvs k=none):((Zr kvs k v).map (·.1)).Nodup:=by
 rw [Zly v h,List.map_append]
 exact Zf8 hn (Zvo h)
end
end L2
end
section
set_option Elab.async false
set_option linter.all false
set_option maxRecDepth 100000
set_option maxHeartbeats 4000000
namespace L2
open PySem PySem.Spec PyProof.Rows
abbrev ccx (X:Cx) (scope:Scope) (cl:List (Str×Addr)) (C:Addr) (N':List Str) (s2:Shared) (H2:Hp) (ex:List Addr) (pn:List (Addr×Obj)):Cx where
 prog:=X.prog
 w:=X.w
 K:=X.K
 mg:=X.mg
 base:=X.base
 A:=X.A
 N:=N'
 s₀:=s2
 H₀:=H2
 env:=compEnvC scope cl C X.env
 outer:=X.stack
 stack:=X.stack
 ex:=ex
 fn:=fun _=>false
 calm:=X.calm
 pn:=pn
 xe:=fun _ _=>False
theorem Zfe (env:Env):∀ (l:List (Str×NameKind)) (cs:List (Str×Addr)),(∀ p∈l,p.2 = .free->∃ c,env.cells.lookup p.1=some c) ->
  ∃ cl,(forIn l cs (fun (x:Str×NameKind) (r:List (Str×Addr))=>if (x.2 == NameKind.free)=true then (do let a ← cellOf env x.1; pure (ForInStep.yield ((x.1,a)::r)):Sem (ForInStep (List (Str×Addr)))) else pure (ForInStep.yield r)):Sem _)=pure cl /\
   (∀ x c,cl.lookup x=some c->env.cells.lookup x=some c\/cs.lookup x=some c)/\(∀ x,((x,NameKind.free)∈l\/∃ c,cs.lookup x=some c)->∃ c,cl.lookup x=some c)
 | [],cs,_=>⟨cs,rfl,fun x c h=>.inr h,fun x h=>h.elim (fun z=>nomatch z) id⟩
 | (n,k)::r,cs,h=>by
  have hr:∀ p∈r,p.2 = .free->∃ c,env.cells.lookup p.1=some c:=fun p hp=>h p (List.mem_cons_of_mem _ hp)
  by_cases hk:k = .free
  ·subst hk
   obtain ⟨c,hc⟩:=h (n,.free) List.mem_cons_self rfl
   obtain ⟨cl,e,h1,h2⟩:=Zfe env r ((n,c)::cs) hr
   refine ⟨cl,?_,fun x d hx=>?_,fun x hx=>?_⟩
   ·rw [List.forIn_cons]
    have e2:cellOf env n=pure c:=by unfold cellOf; rw [hc]
    simp only [beq_self_eq_true,if_true,e2,pure_bind]
    exact e
   ·rcases h1 x d hx with z | z
    ·exact .inl z
    ·rw [List.lookup_cons] at z
     cases q:x == n with
     | true =>
      rw [q] at z
      cases z
      have:x=n:=by simpa using q
      subst this
      exact .inl hc
     | false =>
      rw [q] at z
      exact .inr z
   ·apply h2
    rcases hx with hx | ⟨d,hx⟩
    ·rcases List.mem_cons.mp hx with z | z
     ·cases z
      exact .inr ⟨c,by rw [List.lookup_cons]; simp⟩
     ·exact .inl z
    ·right
     rw [List.lookup_cons]
     cases q:x == n with
     | true=>exact ⟨c,rfl⟩
     | false=>exact ⟨d,hx⟩
  ·obtain ⟨cl,e,h1,h2⟩:=Zfe env r cs hr
   refine ⟨cl,?_,h1,fun x hx=>h2 x ?_⟩
   ·rw [List.forIn_cons]
    have e2:(k == NameKind.free)=false:=by simpa using hk
    simp only [e2,Bool.false_eq_true,if_false,pure_bind]
    exact e
   ·rcases hx with hx | hx
    ·rcases List.mem_cons.mp hx with z | z
     ·cases z
      exact absurd rfl hk
     ·exact .inl z
    ·exact .inr hx
theorem Zs1 {scope:Scope}{env:Env}(h:∀ p∈scope.names,p.2 = .free->∃ c,env.cells.lookup p.1=some c) :
  ∃ cl,closureFor scope env=pure cl/\(∀ x c,cl.lookup x=some c->env.cells.lookup x=some c)/\(∀ x,(x,NameKind.free)∈scope.names->∃ c,cl.lookup x=some c):=by
 obtain ⟨cl,e,h1,h2⟩:=Zfe env scope.names [] h
 refine ⟨cl,?_,fun x c hx=>(h1 x c hx).elim id (fun z=>nomatch z),fun x hx=>h2 x (.inl hx)⟩
 unfold closureFor
 have e':=congrArg (fun m:Sem (List (Str×Addr))=>m >>= fun r=>pure r) e
 simp only [pure_bind] at e'
 exact e'
theorem Zkk {env:Env}{kk:NameKind}(hkk:kk ≠ .free):∀ {names:List (Str×NameKind)}{x:Str},names.lookup x=some kk ->
  (names.map fun (n,k)=>if (k == NameKind.free && env.scope.kind == .function && env.kindOf n == some .cell) then (n,NameKind.cell) else (n,k)).lookup x=some kk
 | [],_,h=>by simp at h
 | (n,k)::r,x,h=>by
  have ih:=@Zkk env kk hkk r x
  show List.lookup x ((if (k == NameKind.free && env.scope.kind == .function && env.kindOf n == some .cell)=true then (n,NameKind.cell) else (n,k))::_)=_
  cases hx:x == n with
  | true =>
   simp only [List.lookup_cons,hx] at h
   have h:some k=some kk:=h
   have h':k=kk:=Option.some.inj h
   subst h'
   have e:(k == NameKind.free)=false:=by simpa using hkk
   rw [e,Bool.false_and,Bool.false_and,if_neg Bool.false_ne_true,List.lookup_cons,hx]
  | false =>
   simp only [List.lookup_cons,hx] at h
   by_cases hc:(k == NameKind.free && env.scope.kind == .function && env.kindOf n == some .cell)=true
   ·rw [if_pos hc]; simp only [List.lookup_cons,hx]; exact ih h
   ·rw [if_neg hc]; simp only [List.lookup_cons,hx]; exact ih h
theorem Zfa {env:Env}:∀ {names:List (Str×NameKind)}{x:Str},names.lookup x=some .free ->
  ((names.map fun (n,k)=>if (k == NameKind.free && env.scope.kind == .function && env.kindOf n == some .cell) then (n,NameKind.cell) else (n,k)).lookup x=some .cell) \/
  ((names.map fun (n,k)=>if (k == NameKind.free && env.scope.kind == .function && env.kindOf n == some .cell) then (n,NameKind.cell) else (n,k)).lookup x=some .free)
 | [],_,h=>by simp at h
 | (n,k)::r,x,h=>by
  have ih:=@Zfa env r x
  show (List.lookup x ((if (k == NameKind.free && env.scope.kind == .function && env.kindOf n == some .cell)=true then (n,NameKind.cell) else (n,k))::_)=_)\/(List.lookup x ((if (k == NameKind.free && env.scope.kind == .function && env.kindOf n == some .cell)=true then (n,NameKind.cell) else (n,k))::_)=_)
  cases hx:x == n with
  | true =>
   simp only [List.lookup_cons,hx] at h
   cases h
   by_cases hc:(NameKind.free == NameKind.free && env.scope.kind == .function && env.kindOf n == some .cell)=true
   ·rw [if_pos hc]; simp [List.lookup_cons,hx]
   ·rw [if_neg hc]; simp [List.lookup_cons,hx]
  | false =>
   simp only [List.lookup_cons,hx] at h
   by_cases hc:(k == NameKind.free && env.scope.kind == .function && env.kindOf n == some .cell)=true
   ·rw [if_pos hc]; simp only [List.lookup_cons,hx]; exact ih h
   ·rw [if_neg hc]; simp only [List.lookup_cons,hx]; exact ih h
theorem Zkq {env:Env}{scope:Scope}{x:Str}(hcell:∀ y∈scope.names,y.2 ≠ .cell) (h:(relabel scope env).names.lookup x=some .cell\/(relabel scope env).names.lookup x=some .free):(x,NameKind.free)∈scope.names:=by
 have m:∃ k',(k'=NameKind.cell\/k'=NameKind.free)/\(x,k')∈(relabel scope env).names:=by
  rcases h with h | h
  ·exact ⟨_,.inl rfl,PySem.mem_of_lookup h⟩
  ·exact ⟨_,.inr rfl,PySem.mem_of_lookup h⟩
 obtain ⟨k',hk,m⟩:=m
 obtain ⟨⟨n,k⟩,hm,e⟩:=List.mem_map.mp m
 have e:(if (k == NameKind.free && env.scope.kind == .function && env.kindOf n == some .cell)=true then (n,NameKind.cell) else (n,k))=(x,k'):=e
 by_cases hc:(k == NameKind.free && env.scope.kind == .function && env.kindOf n == some .cell)=true
 ·rw [if_pos hc] at e
  cases e
  have:k = .free:=by
   cases k <;> simp at hc ⊢
  rw [← this]; exact hm
 ·rw [if_neg hc] at e
  cases e
  rcases hk with z | z
  ·exact absurd z (hcell _ hm)
  ·rw [← z]; exact hm
section
variable {prog:Program}{w:World}{A:Around}{E:Value->Shared->Prop}{R:Result->Shared->Prop}{s:Shared}
theorem Zro {elt target iter:Expr}{ifs:List Expr}{scope:Scope}{pos:Pos}{it acc:Value}{env:Env}(I:Nat->Shared->Prop)
  (turn:∀ n s,I n s->wpAny (model prog w) A (pyNext it) (fun r s₁=>match r with
   | none=>R (.ok .next) s₁
   | some v=>wpAny (model prog w) A (letOwnedTupleGo target it v) (fun _ s1=>wpAny (model prog w) A (assign target env v) (fun _ s₂ =>
     wpAny (model prog w) A (forIn ifs true fun c r=>if r=true then do let ok ← isTrue c env (eval c env); pure (ForInStep.yield ok) else pure (ForInStep.yield r)) (fun ok s₃ =>
      if ok=true then wpAny (model prog w) A (eval elt env) (fun x s₄ =>
       wpAny (model prog w) A (call (.builtin "list.append") [acc,x]) (fun _ s₅=>∃ m,m < n/\I m s₅) (fun _ _=>False) s₄) (fun _ _=>False) s₃
      else ∃ m,m < n/\I m s₃) (fun _ _=>False) s₂) (fun _ _=>False) s1) (fun _ _=>False) s₁) (fun _ _=>False) s)
  (n:Nat) (h:I n s) :
  codeAny (model prog w) A (.compLoop (.ListComp elt [⟨target,iter,ifs,0⟩] scope pos) 0 it acc env) R s:=by
 refine codeAny_loop rfl I (fun n s hI=>?_) n h
 show wpAny _ A ((compTurn (.ListComp elt [⟨target,iter,ifs,0⟩] scope pos) 0 it acc env).onRaise (fun x=>do noteFrame x env; theTreesLotGoes x)) _ _ s
 refine wpAny_noted ?_
 rw [compTurn_list]
 refine wpAny_bind (wpAny_standAt (wpAny_bind (wpAny_mono (turn n s hI) (fun r s₁ h₁=>?_) fun _ _ h'=>h'.elim)))
 cases r with
 | none=>exact wpAny_pure h₁
 | some v =>
  refine wpAny_bind (wpAny_mono h₁ (fun _ s1 h1=>?_) fun _ _ h'=>h'.elim)
  refine wpAny_bind (wpAny_mono h1 (fun _ s₂ h₂=>wpAny_bind (wpAny_mono h₂ (fun ok s₃ h₃=>?_) fun _ _ h'=>h'.elim)) fun _ _ h'=>h'.elim)
  cases ok with
  | false=>exact wpAny_pure ⟨rfl,h₃⟩
  | true =>
   exact wpAny_bind (wpAny_bind (wpAny_mono h₃ (fun x s₄ h₄=>wpAny_bind (wpAny_mono h₄ (fun _ s₅ h₅=>wpAny_pure (wpAny_pure ⟨rfl,h₅⟩)) fun _ _ h'=>h'.elim)) fun _ _ h'=>h'.elim))
end
abbrev TTs:=St->Hp->(Bool->Hp->Prop)->Prop
def PTs (X:Cx) (ifs:List Expr) (t:TTs):Prop :=
 ∀ (pins:List (Addr×Obj)) (s:Shared) (σ:St) (H:Hp) (Q:Bool->Hp->Prop),Inv X pins σ H s->t σ H Q ->
  wpAny (model X.prog X.w) X.A (forIn ifs true fun c r=>if r=true then do let ok ← isTrue c X.env (eval c X.env); pure (ForInStep.yield ok) else pure (ForInStep.yield r)) (TP X pins σ Q) X.xe s
theorem Zxz {X:Cx}:PTs X [] (fun _ H Q=>Q true H):=fun _ _ _ H _ I h=>wpAny_tests_nil ⟨H,I,h⟩
theorem Zx0 {X:Cx}{c:Expr}{t:TT}(h:PT X c t):PTs X [c] t:=fun pins s σ H Q I hw=>wpAny_tests_one (h pins s σ H Q I hw)
structure FrOk (X:Cx) (scope:Scope) (fr:List (Str×Nat)):Prop where
 slots:∀ p∈fr,X.N[p.2]? = some p.1/\(X.env.kindOf p.1=some .cell\/X.env.kindOf p.1=some .free)
 kind:∀ p∈fr,scope.names.lookup p.1=some .free
def inN (locs:List Str) (fr:List (Str×Nat)):List Str:=locs++fr.map (·.1)
def inS (locs:List Str) (fr:List (Str×Nat)) (σ:St):St:=List.replicate locs.length none++fr.map fun p=>(σ[p.2]?).join
def inF (fr:List (Str×Nat)) (σ:St):St:=fr.map fun p=>(σ[p.2]?).join
def Vg (n:Nat) (fv:St) (g:TG) (tt:TTs) (te:TE) (x:V) (H:Hp) (Y:V->Hp->Prop) (N:Hp->Prop):Prop :=
 ∀ ls:St,ls.length=n->g x (ls++fv) H fun σ2 H2=>(∃ l2:St,l2.length=n /\ σ2=l2++fv)/\tt σ2 H2 fun b H3=>if b=true then te σ2 H3 Y else N H3
def Za6 (J:It) (n:Nat) (fv:St) (g:TG) (tt:TTs) (te:TE) (Q:VK) (H1:Hp):Prop:=∃ W:Nat->Nat->List V->Hp->Prop,(∃ m,W 0 m [] H1)/\∀ i m ys H,W i m ys H ->
 (J.stop i H/\ys.length<=sizeLine/\∀ l,H l=none->Q (.ref l) (upd H l (.lst ys))) \/
 (J.go i H/\ys.length < sizeLine/\∃ m',m' < m/\∀ x H',J.yld i H x H'->Vg n fv g tt te x H' (fun y H4=>W (i+1) m' (ys ++ [y]) H4) fun H3=>W (i+1) m' ys H3)
def Zef (n:Nat) (fr:List (Str×Nat)) (wi:TI) (g:TG) (tt:TTs) (te:TE):TE:=fun σ H Q=>wi σ H fun J H1=>Za6 J n (inF fr σ) g tt te Q H1
theorem Zmv {P:Program}{w:World}{H:Hp}{h:Heap}{D:Addr}{o:HO}(ok:HOk P w H h) (hn:H D=none) (new:ObjOk P w (upd H D o) h D o):HOk P w (upd H D o) h:=fun b u e=>by
 by_cases hb:b=D
 ·subst hb; rw [Zi] at e; cases e; exact new
 ·rw [Zc hb] at e
  exact (ok b u e).stay (fun _ _ _ q=>q) (fun c q=>by rw [Zc (Zh q hn)]; exact q) fun c xs q=>by rw [Zc (Zh q hn)]; exact q
section
variable {X:Cx}{tg elt iter:Expr}{ifs:List Expr}{scope:Scope}{pos:Pos}{locs:List Str}{fr:List (Str×Nat)}{g:TG}{tt:TTs}{te:TE}
theorem Zlg {pins:List (Addr×Obj)}{σ:St}{H1:Hp}{s2:Shared}{it:Addr}{fp:List Addr}{tn:Nat->Heap->Prop}{J:It}{cl:List (Str×Addr)}{E:Value->Shared->Prop}
  {RR:Value->Addr->Result->Shared->Prop}{QQ:List V->Hp->Prop}
  (hc:X.calm=true) (hkind:scope.kind = .function) (hcell:∀ y∈scope.names,y.2 ≠ .cell) (hlo:∀ x∈locs,scope.names.lookup x=some .local) (F:FrOk X scope fr) (hnd:(inN locs fr).Nodup)
  (cl1:∀ x c,cl.lookup x=some c->X.env.cells.lookup x=some c) (cl2:∀ x,(x,NameKind.free)∈scope.names->∃ c,cl.lookup x=some c)
  (inner:∀ (C:Addr) (s0:Shared) (H0:Hp) (ex:List Addr) (pn:List (Addr×Obj)),PG (ccx X scope cl C (inN locs fr) s0 H0 ex pn) tg g/\PTs (ccx X scope cl C (inN locs fr) s0 H0 ex pn) ifs tt/\PE (ccx X scope cl C (inN locs fr) s0 H0 ex pn) elt te)
  (I:Inv X pins σ H1 s2) (T:Turn X.prog X.w X.K tg J fp it tn) (st0:tn 0 s2.heap) (hf:∀ b∈fp,Z7 X pins H1 b)
  {W:Nat->Nat->List V->Hp->Prop}(w0:∃ m,W 0 m [] H1) (turn:∀ i m ys H,W i m ys H ->
   (J.stop i H/\ys.length<=sizeLine/\QQ ys H) \/
   (J.go i H/\ys.length < sizeLine/\∃ m',m' < m/\∀ x H',J.yld i H x H'->Vg locs.length (inF fr σ) g tt te x H' (fun y H4=>W (i+1) m' (ys ++ [y]) H4) fun H3=>W (i+1) m' ys H3))
  (hRR:∀ (D C:Addr) (ys:List V) (H':Hp) (s':Shared) (m:Str->Option Value),H' D=none->D≠C->Inv X pins σ (upd H' D (.lst ys)) s'->Z7 X pins (upd H' D (.lst ys)) C->s'.heap.Ns C m->QQ ys H'->RR (.ref D) C (.ok .next) s') :
  wpAny (model X.prog X.w) X.A (newList []) (fun acc s₃=>wpAny (model X.prog X.w) X.A (newFunctionEnv scope X.env.globals cl [] X.env.qual none .none (some X.env)) (fun cenv s₄ =>
   codeAny (model X.prog X.w) X.A (.compStart (.ListComp elt [⟨tg,iter,ifs,0⟩] scope pos) 0 (.ref it) acc {cenv with scope:=relabel scope X.env }) (RR acc cenv.locals) s₄) E s₃) E s2:=by
 refine wpAny_newObj_type (wpAny_newFunctionEnv hcell (by intro y hy; simp at hy) (fun h₁ hns₁ hsb₁=>?_) hkind)
 dsimp only at hns₁ hsb₁ ⊢
 generalize hH2:s2.heap.push {cls:=.type "list", dict:=none,data:=.seq ([]:List Value).toArray }=Hq at hns₁ hsb₁ ⊢
 have hC:Hq.objs.size=s2.heap.objs.size+1:=by rw [← hH2,Heap.size_push]
 generalize hDe:s2.heap.objs.size=D at hC ⊢
 generalize hCe:Hq.objs.size=C at hC hns₁ hsb₁ ⊢
 have hDC:D≠C:=by lia
 have below:∀ b,b < D->b≠C/\b≠D:=fun b hb=>⟨by lia,by lia⟩
 have ltD:∀ {b:Addr}{o:Obj},s2.heap.get? b=some o->b < D:=fun e=>hDe▸Heap.lt_size e
 have old:∀ b o,s2.heap.get? b=some o->h₁.get? b=some o:=fun b o e=>hsb₁.extBut b o (below b (ltD e)).1 (Heap.get?_push_of_some _ (hH2▸Heap.get?_push_of_some _ e))
 have hacc:h₁.PlainList D #[]:=⟨_,hsb₁.extBut _ _ hDC (Heap.get?_push_of_some _ (by subst hDe; exact hH2▸Heap.get?_push_size _ rfl))⟩
 let X':Cx:=ccx X scope cl C (inN locs fr) s2 H1 fp (X.pn++pins)
 have ltC:s2.heap.objs.size<=C:=by rw [hDe,hC]; exact Nat.le_succ _
 have fpC:Z7 X pins H1 C:=I.fpOk ltC (I.hok.fresh ltC)
 have fpD:Z7 X pins H1 D:=I.fpOk (Nat.le_of_eq hDe) (I.hok.fresh (Nat.le_of_eq hDe))
 have stkN:∀ b,b≠X.env.locals->b∉X.fs->b∉frs X.stack:=fun b h1 h2 z=>(List.mem_cons.mp (I.stkSub b z)).elim h1 h2
 have ok':X'.Ok:=by
  refine ⟨I.ok.mod,hkind,I.ok.glob,I.ok.blt,ltC,fun x y c h1 h2=>I.ok.inj x y c (cl1 x c h1) (cl1 y c h2),fun x hx=>?_,fun x c h=>?_,I.ok.hd,I.ok.frames,.inl rfl,fun b hb=>?_,fun b o e=>I.bs b o e,Nat.le_trans I.ok.bsz I.sz,fun b o e hb=>?_,fun b hb=>?_,I.stack,I.stkFree⟩
  ·obtain ⟨c,hcc⟩:=cl2 x (Zkq hcell hx)
   exact ⟨c,hcc⟩
  ·cases h
  ·refine ⟨fun z=>?_,fun x c e=>(hf b hb).2.2.2.2.1 x c (cl1 x c e)⟩
   obtain ⟨o,ho,_⟩:=T.obj _ _ st0 b hb
   have z':b=C:=z
   exact (below b (ltD ho)).1 z'
  ·have hb':=hf b hb
   rcases hb'.2.2.2.1 with z | z
   ·exact I.ok.noex b o e z
   ·exact absurd (Nat.lt_of_lt_of_le (Heap.lt_size e) (Nat.le_trans I.ok.bsz z)) (Nat.lt_irrefl _)
  ·exact stkN b (hf b hb).2.1 (hf b hb).2.2.1
 have I1:Inv X' [] (inS locs fr σ) H1 {s2 with heap:=h₁,toks:=s2.toks+([]:List (Str×Value)).length }:=by
  refine ⟨ok',I.os.symm▸rfl,I.bare,Un.kept old,⟨_,hns₁,fun i x v h1 h2 h3=>?_⟩,fun x c e=>?_,I.hok.fresh ltC,fun x c e=>I.freeC x c (cl1 x c e),fun p hp=>?_,I.hok.kept old,?_⟩
  ·-- a slot of the block that has a value is a free name's
   have hge:locs.length<=i:=by
    by_cases hi:i < locs.length
    ·unfold inS at h2
     rw [List.getElem?_append_left (by simpa using hi),List.getElem?_replicate,if_pos hi] at h2
     cases h2
    ·lia
   have h1':(fr.map (·.1))[i - locs.length]? = some x:=by
    have h1:(inN locs fr)[i]? = some x:=h1
    unfold inN at h1
    rw [List.getElem?_append_right hge] at h1
    exact h1
   have h2':(fr.map fun p=>(σ[p.2]?).join)[i - locs.length]? = some (some v):=by
    unfold inS at h2
    rw [List.getElem?_append_right (by simpa using hge),List.length_replicate] at h2
    exact h2
   rw [List.getElem?_map] at h1' h2'
   cases e:fr[i - locs.length]? with
   | none=>rw [e] at h1'; cases h1'
   | some p =>
    rw [e] at h1' h2'
    have ex:p.1=x:=Option.some.inj h1'
    have ev:(σ[p.2]?).join=some v:=Option.some.inj h2'
    obtain ⟨f1,f2⟩:=F.slots p (List.mem_of_getElem? e)
    have ev' : σ[p.2]? = some (some v):=by
     cases q : σ[p.2]? with
     | none=>rw [q] at ev; cases ev
     | some o=>rw [q] at ev; cases o with
      | none=>cases ev
      | some v'=>cases ev; rfl
    obtain ⟨m0,hn0,hl0⟩:=I.loc
    have vis0:Vis X.env.scope p.1:=by
     rcases f2 with z | z
     ·exact .inr (.inl z)
     ·exact .inr (.inr z)
    obtain ⟨u,ru,lk⟩:=hl0 p.2 p.1 v f1 ev' vis0
    have hxm:x∉locs:=fun z=>by
     have hnd':=hnd
     unfold inN at hnd'
     exact (List.nodup_append.mp hnd').2.2 x z x (List.mem_map.mpr ⟨p,List.mem_of_getElem? e,ex⟩) rfl
    refine ⟨u,ru,?_⟩
    rcases lk with ⟨hk,_⟩ | ⟨hk,c,hcc,hce⟩
    ·rcases f2 with z | z
     ·rw [z] at hk; cases hk
     ·rw [z] at hk; cases hk
    ·-- in the block it is a cell or free name
     have h3:Vis (relabel scope X.env) x:=h3
     have hk':(compEnvC scope cl C X.env).kindOf x=some .cell\/(compEnvC scope cl C X.env).kindOf x=some .free:=by
      rcases h3 with z | z | z
      ·exfalso
       have q:=Zfa (env:=X.env) (F.kind p (List.mem_of_getElem? e))
       rw [ex] at q
       rcases q with q | q
       ·have z':some NameKind.local=some NameKind.cell:=z.symm.trans q
        cases z'
       ·have z':some NameKind.local=some NameKind.free:=z.symm.trans q
        cases z'
      ·exact .inl z
      ·exact .inr z
     obtain ⟨c',hc'⟩:=cl2 x (Zkq hcell hk')
     have:=cl1 x c' hc'
     rw [← ex,hcc] at this
     cases this
     refine .inr ⟨hk',c,hc',?_⟩
     obtain ⟨o,ho,hd⟩:=hce
     exact ⟨o,old _ _ ho,hd⟩
  ·obtain ⟨v,o,ho,hd⟩:=I.cell x c (cl1 x c e)
   exact ⟨v,o,old _ _ ho,hd⟩
  ·have hp':p∈X.pn++pins:=(List.mem_append.mp hp).elim id fun z=>nomatch z
   obtain ⟨e,n,ne,nf,d⟩:=I.pin p hp'
   exact ⟨old _ _ e,n,(below _ (ltD e)).1,stkN _ ne nf,d⟩
  ·show (inS locs fr σ).length=(inN locs fr).length
   unfold inS inN
   simp
 have fpLt:∀ b∈fp,b < D:=fun b hb=>by
  obtain ⟨o,ho,_⟩:=T.obj _ _ st0 b hb
  exact ltD ho
 obtain ⟨m0,w0⟩:=w0
 let oD:List Value->Nat->Obj:=fun its k=>{cls:=.type "list", data:=.seq its.toArray k }
 have stat:∀ {H':Hp}{ob:Obj},(∀ b∈fp,H' b=none)->∀ b∈fp,Z7 X' [(D,ob)] H' b:=fun {H' ob} hn b hb=>by
  obtain ⟨f0,f1,f2,f3,f4,f5⟩:=hf b hb
  refine ⟨hn b hb,(below b (fpLt b hb)).1,stkN b f1 f2,.inl hb,fun x c e=>f4 x c (cl1 x c e),fun p hp z=>?_⟩
  rcases List.mem_append.mp hp with q | q
  ·exact f5 p q z
  ·have e:p=(D,ob):=by simpa using q
   subst e
   exact (below b (fpLt b hb)).2 z.symm
 have loop:∀ s₃:Shared,s₃={s2 with heap:=h₁,toks:=s2.toks+([]:List (Str×Value)).length } ->
   codeAny (model X.prog X.w) X.A (.compLoop (.ListComp elt [⟨tg,iter,ifs,0⟩] scope pos) 0 (.ref it) (.ref D) (compEnvC scope cl C X.env)) (RR (.ref D) C) s₃:=by
  rintro s₃ rfl
  refine Zro (fun n s'=>∃ (i:Nat) (ls:St) (H':Hp) (ys:List V) (its:List Value) (k:Nat),ls.length=locs.length/\Inv X' [(D,oD its k)] (ls++inF fr σ) H' s'/\tn i s'.heap/\(∀ b∈fp,H' b=none)/\Vals ys its/\W i n ys H') ?_ m0 ?_
  ·rintro n s3 ⟨i,ls,H3,ys,its,k,hls,I3,st3,fr3,rv,w3⟩
   rcases turn i n ys H3 w3 with ⟨stop,hz,q⟩ | ⟨go,hz,m',hm,step⟩
   ·refine thn (T.done X' rfl rfl rfl hc i _ s3 _ H3 (fun _ _=>False) I3 (stat fr3) st3 stop) fun r s4 ⟨hr,I4⟩=>?_
    subst hr
    obtain ⟨pD,nD,_,_,_⟩:=I4.pin (D,oD its k) (List.mem_append_right _ List.mem_cons_self)
    have nD:H3 D=none:=nD
    obtain ⟨mC,hnC,_⟩:=I4.loc
    have hnC:s4.heap.Ns C mC:=hnC
    have nC:H3 C=none:=I4.free
    have new:ObjOk X.prog X.w (upd H3 D (.lst ys)) s4.heap D (.lst ys):=⟨hz,its,k,rv,pD⟩
    have hok4:HOk X.prog X.w (upd H3 D (.lst ys)) s4.heap:=Zmv I4.hok nD new
    have u4:Un (frs X.stack) fp H1 H3 s2.heap s4.heap:=I4.base
    have u5:Un (frs X.stack) fp H1 (upd H3 D (.lst ys)) s2.heap s4.heap:=by
     refine ⟨u4.keep,u4.slot,fun b o e n hx=>?_,u4.there,fun b xs e=>?_,fun b o u e=>?_,fun b ps e=>?_⟩
     ·rw [Zc (below b (ltD e)).2]; exact u4.free b o e n hx
     ·rw [Zc (Zh e fpD.1)]; exact u4.tups b xs e
     ·rw [Zc (Zh e fpD.1)]; exact u4.frzs b o u e
     ·rw [Zc (Zh e fpD.1)]; exact u4.tbls b ps e
    have I5:Inv X pins σ (upd H3 D (.lst ys)) s4:=by
     refine I.call' (ch:=fp) ?_ u5 hok4 I4.bare fun b hb=>?_
     ·have:s4.os=s2.os:=I4.os
      exact this
     ·obtain ⟨f0,f1,f2,f3,f4,f5⟩:=hf b hb
      exact ⟨f3,f1,f4,f5⟩
    have fpC':Z7 X pins (upd H3 D (.lst ys)) C:=I.fpOk ltC (by rw [Zc hDC.symm]; exact nC)
    exact hRR D C ys H3 s4 mC nD hDC I5 fpC' hnC q
   ·refine thn (T.item X' rfl rfl rfl hc i _ s3 _ H3 (fun _ _=>False) I3 (stat fr3) st3 go) fun r s4 ⟨u,hr,h4⟩=>?_
    subst hr
    refine thn h4 fun _ s5 ⟨x,H5,I5,r5,y5,st5,fr5⟩=>?_
    obtain ⟨hg,htt,hte⟩:=inner C s2 H1 fp (X.pn++pins)
    have I5':=I5.pinned (stat fr5) (T.obj _ _ st5)
    refine thn (hg _ s5 _ H5 x u _ I5' r5 (step x H5 y5 ls hls)) fun _ s6 ⟨σ6,H6,I6,⟨l6,hl6,e6⟩,q6⟩=>?_
    subst e6
    refine thn (htt _ s6 _ H6 _ I6 q6) fun ok s7 ⟨H7,I7,q7⟩=>?_
    have again:∀ {H8:Hp}{s8:Shared},Inv X' ([(D,oD its k)]++U8 fp s5.heap) (l6++inF fr σ) H8 s8->tn (i+1) s8.heap/\∀ b∈fp,H8 b=none:=fun {H8 s8} I8=>by
     refine ⟨T.keep _ _ _ st5 fun b hb o e=>(I8.pin (b,o) (List.mem_append_right _ (List.mem_append_right _ (Zdf hb e)))).1,fun b hb=>?_⟩
     obtain ⟨o,e,d⟩:=T.obj _ _ st5 b hb
     exact (I8.pin (b,o) (List.mem_append_right _ (List.mem_append_right _ (Zdf hb e)))).2.1
    cases ok with
    | false =>
     rw [if_neg Bool.false_ne_true] at q7 ⊢
     obtain ⟨a1,a2⟩:=again I7
     exact ⟨m',hm,i+1,l6,H7,ys,its,k,hl6,I7.unpinned,a1,a2,rv,q7⟩
    | true =>
     rw [if_pos rfl] at q7 ⊢
     refine thn (hte _ s7 _ H7 _ I7 q7) fun yv s8 ⟨y,H8,I8,r8,q8⟩=>?_
     obtain ⟨a1,a2⟩:=again I8
     obtain ⟨pD,nD,_,nfD,_⟩:=I8.pin (D,oD its k) (List.mem_append_right _ (List.mem_append_left _ List.mem_cons_self))
     have nD:H8 D=none:=nD
     have hl8:s8.heap.PlainList D its.toArray:=⟨k,pD⟩
     have hlen:its.toArray.size<=sizeLine:=by
      rw [List.size_toArray,← rv.length]; lia
     refine wpAny_list_append_plain (hsz:=hlen) hl8 fun h9 hl9 hs9=>?_
     obtain ⟨k9,e9⟩:=hl9
     have I9:Inv X' (U8 fp s5.heap) (l6++inF fr σ) H8 s8:=I8.pins_of fun p hp=>I8.pin p (List.mem_append_right _ (List.mem_append_right _ hp))
     have I10:Inv X' (U8 fp s5.heap) (l6++inF fr σ) H8 {s8 with heap:=h9 }:=by
      refine I9.turned (it:=D) (t':=s8.toks) (fun b o hb e=>(hs9.2 b hb).trans e) nD ?_ ?_ ?_ ?_
      ·exact hDC
      ·exact .inr (Nat.le_of_eq hDe)
      ·exact fun x c e=>fpD.2.2.2.2.1 x c (cl1 x c e)
      ·intro p hp z
       rcases List.mem_append.mp hp with q | q
       ·exact fpD.2.2.2.2.2 p q z
       ·have:=fpLt p.1 (Zk7 q).1
        exact (below p.1 this).2 z
     have e9':h9.get? D=some (oD (its ++ [yv]) k9):=by
      rw [e9]; simp [oD]
     have I11:Inv X' [(D,oD (its ++ [yv]) k9)] (l6++inF fr σ) H8 {s8 with heap:=h9 }:=I10.pins_of fun p hp=>by
      have e:p=(D,oD (its ++ [yv]) k9):=by simpa using hp
      subst e
      exact ⟨e9',nD,hDC,nfD,fun v z=>by cases z⟩
     refine ⟨m',hm,i+1,l6,H8,ys ++ [y],its ++ [yv],k9,hl6,I11,?_,a2,Vals.append rv (.cons r8 .nil),q8⟩
     exact T.keep _ _ _ a1 fun b hb o e=>(hs9.2 b (below b (fpLt b hb)).2).trans e
  ·have e0:List.replicate locs.length none++inF fr σ=inS locs fr σ:=rfl
   obtain ⟨k0,eD⟩:=hacc
   refine ⟨0,List.replicate locs.length none,H1,[],[],k0,by simp,?_,T.keep _ _ _ st0 fun b _ o e=>old b o e,fun b hb=>(hf b hb).1,.nil,w0⟩
   rw [e0]
   refine I1.pins_of fun p hp=>?_
   have e:p=(D,oD [] k0):=by simpa using hp
   subst e
   exact ⟨eD,fpD.1,hDC,stkN D fpD.2.1 fpD.2.2.1,fun v z=>by cases z⟩
 exact codeAny_compStart_list (loop _ rfl) (T.self _ 0 _ _ _ (T.keep _ _ _ st0 fun b _ o e=>old b o e) (loop _ rfl))
structure CompOk (X:Cx) (scope:Scope) (locs:List Str) (fr:List (Str×Nat)):Prop where
 kind:scope.kind = .function
 nocell:∀ y∈scope.names,y.2 ≠ .cell
 names:∀ y∈scope.names,y.2 = .local->scope.names.lookup y.1=some .local
 own:∀ x∈locs,scope.names.lookup x=some .local
 free:∀ y∈scope.names,y.2 = .free->y.1∈fr.map (·.1)
 nd:(inN locs fr).Nodup
theorem FrOk.nil:FrOk X scope []:=⟨(fun _ h=>nomatch h),(fun _ h=>nomatch h)⟩
theorem FrOk.cons {x:Str}{j:Nat}{fr:List (Str×Nat)}(h1:X.N[j]? = some x) (h2:X.env.kindOf x=some .cell\/X.env.kindOf x=some .free) (h3:scope.names.lookup x=some .free) (t:FrOk X scope fr):FrOk X scope ((x,j)::fr) :=
 ⟨fun p hp=>(List.mem_cons.mp hp).elim (fun e=>by subst e; exact ⟨h1,h2⟩) (t.slots p),fun p hp=>(List.mem_cons.mp hp).elim (fun e=>by subst e; exact h3) (t.kind p)⟩
theorem CompOk.clos {pins:List (Addr×Obj)}{σ:St}{H:Hp}{s:Shared}(S:CompOk X scope locs fr) (F:FrOk X scope fr) (I:Inv X pins σ H s) :
  ∃ cl,closureFor scope X.env=pure cl/\(∀ x c,cl.lookup x=some c->X.env.cells.lookup x=some c)/\(∀ x,(x,NameKind.free)∈scope.names->∃ c,cl.lookup x=some c):=by
 refine Zs1 fun p hp hk=>?_
 obtain ⟨q,hq,e⟩:=List.mem_map.mp (S.free p hp hk)
 obtain ⟨c,hc⟩:=I.ok.has q.1 (F.slots q hq).2
 exact ⟨c,e▸hc⟩
theorem Zvp {wi:TI}(S:CompOk X scope locs fr) (F:FrOk X scope fr) (hc:X.calm=true) (hi:PI X tg iter wi)
  (inner:∀ (cl:List (Str×Addr)) (C:Addr) (s0:Shared) (H0:Hp) (ex:List Addr) (pn:List (Addr×Obj)),PG (ccx X scope cl C (inN locs fr) s0 H0 ex pn) tg g/\PTs (ccx X scope cl C (inN locs fr) s0 H0 ex pn) ifs tt/\PE (ccx X scope cl C (inN locs fr) s0 H0 ex pn) elt te)
  (hs:∀ x,foldedSetIterable iter X.env x=pure x:=by intro _; rfl):PE X (.ListComp elt [⟨tg,iter,ifs,0⟩] scope pos) (Zef locs.length fr wi g tt te):=by
 intro pins s σ H Q I h
 obtain ⟨cl,hcl,cl1,cl2⟩:=S.clos F I
 rw [eval_ListComp]
 refine wpAny_comprehension_free (use:=none) rfl hs hcl S.kind S.names (thn (hi pins s σ H _ I h) fun v s1 h1=>thn h1 fun itv s2 h2=>?_)
 obtain ⟨it,fp,tn,J,H1,e,I2,T,st2,f2,W,w0,turn⟩:=h2
 subst e
 refine Zlg (QQ:=fun ys H'=>∀ l,H' l=none->Q (.ref l) (upd H' l (.lst ys))) hc S.kind S.nocell S.own F S.nd cl1 cl2 (inner cl) I2 T st2 f2 w0 turn fun D C ys H' s' m nD hDC I' fC hn q=>?_
 refine ⟨m,hn,fun h' hs'=>?_⟩
 obtain ⟨f0,f1,f2,f3,f4,f5⟩:=fC
 exact ⟨.ref D,_,I'.turned (it:=C) (t':=s'.toks) (fun b o hb e=>(hs'.2 b hb).trans e) f0 f1 f3 f4 f5,rfl,q D nD⟩
theorem Zx1 {wi:TI}{i:Nat}{x:Str}{pos' spos:Pos}(S:CompOk X scope locs fr) (F:FrOk X scope fr) (hc:X.calm=true) (hi:PI X tg iter wi)
  (inner:∀ (cl:List (Str×Addr)) (C:Addr) (s0:Shared) (H0:Hp) (ex:List Addr) (pn:List (Addr×Obj)),PG (ccx X scope cl C (inN locs fr) s0 H0 ex pn) tg g/\PTs (ccx X scope cl C (inN locs fr) s0 H0 ex pn) ifs tt/\PE (ccx X scope cl C (inN locs fr) s0 H0 ex pn) elt te)
  (hN:X.N.Nodup) (hi0:X.N[i]? = some x) (hx:X.env.scope.names.lookup x=some .local) (hsw:swapsWith (.ListComp elt [⟨tg,iter,ifs,0⟩] scope pos) (some (.Name x pos')) spos.line X.env=pure true)
  (hs:∀ x,foldedSetIterable iter X.env x=pure x:=by intro _; rfl):PS X (.Assign [.Name x pos'] (.ListComp elt [⟨tg,iter,ifs,0⟩] scope pos) spos) (V2 (Zef locs.length fr wi g tt te) (Yx i)):=by
 intro pins s σ H D0 I h
 obtain ⟨cl,hcl,cl1,cl2⟩:=S.clos F I
 rw [exec_Assign_Name_used _ _ _ _ hsw]
 refine wpAny_bind (wpAny_standAt (wpAny_bind ?_))
 show wpAny _ X.A (do let _ ← comprehension (.ListComp elt [⟨tg,iter,ifs,0⟩] scope pos) scope X.env _ (newList []) false (eval iter X.env) (some (assign (.Name x pos') X.env))) _ _ s
 refine wpAny_bind (wpAny_mono (wpAny_comprehension_free (use:=some (assign (.Name x pos') X.env)) (Q:=fun _ s'=>SP X pins D0 .next s') rfl hs hcl S.kind S.names (thn (hi pins s σ H _ I h) fun v s1 h1=>thn h1 fun itv s2 h2=>?_)) (fun _ s' hq=>wpAny_pure (wpAny_pure hq)) fun _ _ e=>e)
 obtain ⟨it,fp,tn,J,H1,e,I2,T,st2,f2,W,w0,turn⟩:=h2
 subst e
 refine Zlg (QQ:=fun ys H'=>∀ l,H' l=none->Yx i (.ref l) σ (upd H' l (.lst ys)) D0.nx) hc S.kind S.nocell S.own F S.nd cl1 cl2 (inner cl) I2 T st2 f2 w0 turn fun D C ys H' s' m nD hDC I' fC hn q=>?_
 obtain ⟨f0,f1,f2,f3,f4,f5⟩:=fC
 obtain ⟨oC,es,ep,hoC,hdC,hrC⟩:=id hn
 have I6:Inv X (pins ++ [(C,oC)]) σ (upd H' D (.lst ys)) s':=I'.pins_of fun p hp=>(List.mem_append.mp hp).elim (fun z=>I'.pin p (List.mem_append_right _ z)) fun z=>by
  have e:p=(C,oC):=by simpa using z
  subst e
  exact ⟨hoC,f0,f1,f2,fun v z=>by rw [hdC] at z; cases z⟩
 refine wpAny_assign_Name (Zfs (v:=.ref D) I6 hN hi0 (.inl hx) rfl (fun s'' I''=>?_) (.inr hx))
 obtain ⟨p1,p2,p3,p4,p5⟩:=I''.pin (C,oC) (List.mem_append_right _ (List.mem_append_right _ List.mem_cons_self))
 refine ⟨m,⟨oC,es,ep,p1,hdC,hrC⟩,fun h' hs'=>?_⟩
 have I7:Inv X pins (σ.set i (some (.ref D))) (upd H' D (.lst ys)) s'':=I''.unpinned
 exact ⟨_,_,I7.turned (it:=C) (t':=s''.toks) (fun b o hb e=>(hs'.2 b hb).trans e) p2 p3 f3 f4 f5,q D nD⟩
end
section
variable {X:Cx}{scope:Scope}{cl:List (Str×Addr)}{C:Addr}{N':List Str}{s0:Shared}{H0:Hp}{ex:List Addr}{pn:List (Addr×Obj)}
theorem pvL (i:Nat) {x:Str}{pos:Pos}(hN:N'[i]? = some x:=by rfl) (h:scope.names.lookup x=some .local:=by rfl) (hd:(x == ("__debug__" : Str))=false:=by decide) (hcd:(x == ("__classdict__" : Str))=false:=by decide) :
  PE (ccx X scope cl C N' s0 H0 ex pn) (.Name x pos) (Yh i):=Zdz hN (.inl (lookup_relabel_local h)) hd hcd
theorem pvF (i:Nat) {x:Str}{pos:Pos}(hN:N'[i]? = some x:=by rfl) (h:scope.names.lookup x=some .free:=by rfl) (hd:(x == ("__debug__" : Str))=false:=by decide) (hcd:(x == ("__classdict__" : Str))=false:=by decide) :
  PE (ccx X scope cl C N' s0 H0 ex pn) (.Name x pos) (Yh i):=Zdz hN ((Zfa h).elim (fun z=>.inr (.inl z)) fun z=>.inr (.inr z)) hd hcd
theorem pgL (i:Nat) {x:Str}{pos:Pos}(hnd:N'.Nodup) (hN:N'[i]? = some x:=by rfl) (h:scope.names.lookup x=some .local:=by rfl):PG (ccx X scope cl C N' s0 H0 ex pn) (.Name x pos) (Yx i) :=
 Zf2 (X:=ccx X scope cl C N' s0 H0 ex pn) hnd hN (.inl (lookup_relabel_local h)) (.inr (lookup_relabel_local h))
end
end L2
end
section
set_option Elab.async false
set_option linter.all false
set_option maxRecDepth 100000
set_option maxHeartbeats 4000000
namespace L2
open PySem PySem.Spec PyProof.Rows
def sgn (x:Str) (i:Nat):V:=.str ⟨#[x.cps.getD i 0]⟩
def Its (x:Str):It:=⟨fun i _=>i < x.length,fun i H v H'=>H'=H/\v=sgn x i,fun i _=>i=x.length⟩
theorem Zko {P:Program}{w:World}{A:Around}(hh:A.handled=none) (I:Addr) (x:Str) (t:Tok) :
  Walks P w A I [I] [I] x.cps.size (SignAt x) (fun i h=>h.IsStrIter I (strIterType x) x t i):=by
 unfold strIterType
 cases ha:x.cps.all (· < 128)
 ·exact Walks.strWide hh I x t
 ·exact Walks.strAscii hh I x t
theorem Zvq {P:Program}{w:World}{K:PySem.W.Frag}{tg:Expr}(it:Addr) (x:Str) (t:Tok):Turn P w K tg (Its x) [it] it (fun i h=>h.IsStrIter it (strIterType x) x t i) where
 mem:=by simp
 obj:=fun i h st b hb=>by
  have e:b=it:=by simpa using hb
  subst e
  obtain ⟨o,e,c,d⟩:=st
  exact ⟨o,e,fun v z=>by rw [d] at z; cases z⟩
 keep:=fun i h h' st k=>let ⟨o,ho,r⟩:=st; ⟨o,k it (by simp) o ho,r⟩
 item:=by
  intro X hP hw hK hc i pins s σ H E I hf st hg
  subst hP hw hK
  obtain ⟨f0,f1,f2,f3,f4,f5⟩:=hf it (by simp)
  refine (Zko (I.ok.hd hc) it x t).item i s _ _ hg st fun v h' tk hv st' kk=>?_
  obtain ⟨c,u,hcx,rfl⟩:=hv
  have I1:Inv X pins σ H {s with heap:=h',toks:=tk }:=I.turned (fun b o hb e=>kk b o (by simpa using hb) e) f0 f1 f3 f4 f5
  obtain ⟨o,e,cc,d⟩:=id st'
  have hn : ["enumerate", "zip", "dict_itemiterator", "dict_reverseitemiterator", "odict_iterator", "itertools.zip_longest", "itertools.pairwise"].contains (strIterType x)=false:=by
   unfold strIterType
   split <;> decide
  refine ⟨_,rfl,Zec (s:={s with heap:=h',toks:=tk }) e cc d hn ⟨sgn x i,H,I1,⟨u,?_⟩,⟨rfl,rfl⟩,st',fun b hb=>(hf b hb).1⟩⟩
  rw [Array.getD_eq_getD_getElem?,hcx]
  all_goals rfl
 done:=by
  intro X hP hw hK hc i pins s σ H E I hf st hg
  subst hP hw hK
  obtain ⟨f0,f1,f2,f3,f4,f5⟩:=hf it (by simp)
  have e:i=x.cps.size:=hg
  subst e
  exact (Zko (I.ok.hd hc) it x t).done s _ _ st fun h' tk kk=>⟨rfl,I.turned (fun b o hb e=>kk b o (by simpa using hb) e) f0 f1 f3 f4 f5⟩
 self:=fun A i s Q E st h=>by
  have st:s.heap.IsStrIter it (strIterType x) x t i:=st
  unfold strIterType at st
  split at st
  ·exact wpAny_pyIter_striter_ascii st h
  ·exact wpAny_pyIter_striter_wide st h
def Zre (te:TE):TI:=fun σ H R=>te σ H fun v H1=>∃ x,v = .str x/\R (Its x) H1
theorem Zzv {X:Cx}{tg l:Expr}{tl:TE}(hl:PE X l tl):PI X tg l (Zre tl):=by
 intro pins s σ H R I h
 refine thn (hl pins s σ H _ I h) fun v s1 ⟨y,H1,I1,r1,q1⟩=>?_
 obtain ⟨x,e,q⟩:=q1
 subst e
 obtain ⟨t,rfl⟩:=r1
 refine wpAny_pyIter_strU ?_
 refine ⟨s1.heap.objs.size,[s1.heap.objs.size],_,_,H1,rfl,I1.kept (t':=s1.toks) fun b o e=>Heap.get?_push_of_some _ e,Zvq _ x t,⟨_,Heap.get?_push_size _ rfl,rfl,rfl⟩,fun b hb=>?_,q⟩
 have e:b=s1.heap.objs.size:=by simpa using hb
 subst e
 exact I1.fpOk (Nat.le_refl _) (I1.hok.fresh (Nat.le_refl _))
section
variable {X:Cx}
theorem Zt6:OpR X (compareOp .LtE) (fun x y H Q=>∃ i j,x = .str i/\y = .str j/\Q (.bl (!decide (j.cps.toList < i.cps.toList))) H):=by
 intro pins s σ H x y v u Q I rx ry h
 obtain ⟨i,j,rfl,rfl,q⟩:=h
 obtain ⟨t,rfl⟩:=rx
 obtain ⟨t',rfl⟩:=ry
 exact P.le_str ⟨.bl _,H,I,rfl,q⟩
end
theorem Zkv {v:Value}{o:Option Int}(h:IsPart v o):∃ l:Option (Int×Tok),v=partValue l/\l.map (·.1)=o:=by
 cases h with
 | none=>exact ⟨none,rfl,rfl⟩
 | int i t=>exact ⟨some (i,t),rfl,rfl⟩
section
variable {X:Cx}
theorem Zzw:SlR X (fun x lo hi H Q=>∃ z,x = .str z/\z.length<=sizeLine/\Q (.str (Txt.slice z lo hi)) H):=by
 intro pins s σ H x v vl vu lo hi sl Q I rx hs pl pu h
 obtain ⟨z,rfl,hz,q⟩:=h
 obtain ⟨t,rfl⟩:=rx
 obtain ⟨l,rfl,rfl⟩:=Zkv pl
 obtain ⟨u,rfl,rfl⟩:=Zkv pu
 refine ⟨"str", _,F.slot_str_getitem.lookup,typeIs_str _ _ _,?_⟩
 refine wpAny_getItem_str_slice (l:=l) (u:=u) (st:=none) hs rfl (post_val_or_str ⟨Nat.le_trans (Txt.slice_le z _ _) hz,fun t' k=>?_⟩)
 exact ⟨.str _,H,I.tok _,⟨t',rfl⟩,q⟩
end
theorem Zs2 {ys:List Str}:∀ {us:List Value},Vals (ys.map V.str) us->StrsAre us ys:=by
 induction ys with
 | nil=>intro us r; rw [List.map_nil] at r; cases r; exact .nil
 | cons n ns ih =>
  intro us r
  rw [List.map_cons] at r
  cases r with
  | cons r1 r2 =>
   obtain ⟨t,e⟩:=r1
   subst e
   exact .cons n t (ih r2)
section
variable {X:Cx}
theorem Zx2:MtR X "str.join" (fun x xs H Q=>∃ sep a ys,x = .str sep/\xs = [.ref a]/\SqL X.K H a (ys.map V.str)/\(ys.map (·.length)).sum+ys.length * sep.length<=16777216/\Q (.str (Txt.join sep ys)) H):=by
 intro pins s σ H x xs v us Q I rx rs h
 obtain ⟨sep,a,ys,rfl,rfl,ha,hz,q⟩:=h
 obtain ⟨t,rfl⟩:=rx
 obtain ⟨u,rfl,ru⟩:=Vt rs
 cases ru
 obtain ⟨its,r,p,_⟩:=I.list ha
 exact join_list p.isList (Zs2 r) hz fun t' k=>⟨.str _,H,I.tok _,⟨t',rfl⟩,q⟩
theorem Zvr (hc:X.calm=true):Wh X (.builtin "all") (fun xs H Q=>∃ (a:Addr) (bs:List Bool),xs = [.ref a]/\SqL X.K H a (bs.map V.bl)/\Q (.bl (bs.all id)) H):=by
 intro pins s σ H xs us Q I r h
 obtain ⟨a,bs,rfl,ha,q⟩:=h
 obtain ⟨u,rfl,ru⟩:=Vt r
 cases ru
 obtain ⟨its,rv,p,_⟩:=I.list ha
 have hlt:a < s.heap.objs.size:=by obtain ⟨o,n,e,_⟩:=p; exact Heap.lt_size e
 refine call_all_walk (wpAny_pyIter_list p.isList ?_)
 refine ⟨s.heap.objs.size,_,_,_,_,_,fun i=>bs.getD i true,rfl,Walks.list (A:=X.A.in1) (I.ok.hd hc) _ a (Nat.ne_of_lt hlt) its.toArray,⟨⟨_,Heap.get?_push_size _ rfl,rfl,rfl⟩,p.isList.push _⟩,?_,fun h' tk hk=>?_⟩
 ·intro i v s' Q' E' hv hq
  have hv:its.toArray[i]? = some v:=hv
  have hv':its[i]? = some v:=by simpa using hv
  have hlen:bs.length=its.length:=by have:=rv.length; simpa using this
  have hi:i < its.length:=(List.getElem?_eq_some_iff.mp hv').1
  have hb:(bs.map V.bl)[i]? = some (V.bl (bs.getD i true)):=by
   rw [List.getElem?_map,List.getD_eq_getElem?_getD,List.getElem?_eq_getElem (by lia)]
   rfl
  obtain ⟨u,hu,ru⟩:=rv.get hb
  rw [hv'] at hu
  cases hu
  cases ru
  exact wpAny_truthy_bool hq
 ·have hlen:its.toArray.size=bs.length:=by have:=rv.length; simp at this ⊢; lia
  have e:(List.range its.toArray.size).all (fun i=>bs.getD i true)=bs.all id:=by
   rw [hlen,Bool.eq_iff_iff,List.all_eq_true,List.all_eq_true]
   constructor
   ·intro h b hb
    obtain ⟨i,hi,e⟩:=List.mem_iff_getElem.mp hb
    have:=h i (List.mem_range.mpr hi)
    rw [List.getD_eq_getElem?_getD,List.getElem?_eq_getElem hi,e] at this
    exact this
   ·intro h i hi
    have hi:=List.mem_range.mp hi
    rw [List.getD_eq_getElem?_getD,List.getElem?_eq_getElem hi]
    exact h _ (List.getElem_mem hi)
  refine ⟨.bl (bs.all id),H,I.kept (h':=h') (t':=tk) (fun b o eb=>hk b o ?_ (Heap.get?_push_of_some _ eb)),by rw [e]; rfl,q⟩
  intro z
  have:b=s.heap.objs.size:=by simpa using z
  exact absurd (Heap.lt_size eb) (by rw [this]; exact Nat.lt_irrefl _)
theorem Zsh:Wh X (.builtin "isinstance") (fun xs H Q=>∃ x n t b,xs = [x,.ty n]/\TyOf X.K H x t/\PySem.W.kitOne X.K t (.type n)=some b/\Q (.bl b) H):=by
 intro pins s σ H xs us Q I r h
 obtain ⟨x,n,t,b,rfl,ty,e,q⟩:=h
 obtain ⟨u,w',rfl,ru,rw'⟩:=Zha r
 cases rw'
 exact Zty I ru ty e fun tk=>⟨.bl b,H,I.tok _,rfl,q⟩
theorem Zou:∀ {us:List Value}{ns:List Int},IntsAre us ns->Vals (ns.map V.int) us
 | _,_,.nil=>.nil
 | _,_,.cons n t h=>.cons ⟨t,rfl⟩ (Zou h)
theorem Zsi:Wh X (.builtin "sorted") (fun xs H Q=>∃ (a:Addr) (ns:List Int),xs = [.ref a]/\SqL X.K H a (ns.map V.int)/\ns.length < 64 /\
  ∀ (l:Addr) (ms:List Int),H l=none->ms.Perm ns->ms.Pairwise (· <= ·)->Q (.ref l) (upd H l (.lst (ms.map V.int)))):=by
 intro pins s σ H xs us Q I r h
 obtain ⟨a,ns,rfl,ha,hl,q⟩:=h
 obtain ⟨u,rfl,ru⟩:=Vt r
 cases ru
 obtain ⟨its,rv,p,_⟩:=I.list ha
 have hlen:ns.length=its.length:=by have:=rv.length; simpa using this
 refine sorted_ints p.isList (Zsz rv) (by lia) fun out ms h1 h2 h3=>?_
 obtain ⟨e,he⟩:=sortedAll_at s.heap its out
 have hz:ms.length=ns.length:=h2.length_eq
 refine ⟨.ref (s.heap.objs.size+1),_,I.laid (t':=s.toks) (o:=.lst (ms.map V.int)) (fun b o=>sortedAll_old) (Nat.le_succ _) ?_,rfl,q _ ms (I.hok.fresh (Nat.le_succ _)) h2 h3⟩
 exact ⟨by rw [List.length_map,hz]; exact Nat.le_trans (Nat.le_of_lt hl) (by decide),out.toList,e,Zou h1,by simpa using he⟩
def Z0x (X:Cx) (f:Value) (kw:Str) (r:List V->V->Hp->VK->Prop):Prop :=
 ∀ (pins:List (Addr×Obj)) (s:Shared) (σ:St) (H:Hp) (xs:List V) (us:List Value) (k:V) (ku:Value) (Q:VK),Inv X pins σ H s->Vals xs us->RelV k ku->r xs k H Q ->
  wpAny (model X.prog X.w) X.A (call f us [(kw,ku)]) (EP X pins σ Q) X.xe s
end
section
variable {K:PySem.W.Frag}
end
end L2
end
section
set_option Elab.async false
set_option linter.all false
set_option maxRecDepth 100000
set_option maxHeartbeats 4000000
namespace L2
open PySem PySem.Spec PyProof.Rows
def Has (K:PySem.W.Frag) (mg:Str->Option Value) (x:Str) (st:Stmt):Prop:=∃ f fd,Fun K x x st f fd/\mg x=some (.ref f)
def Fn (P:Program) (w:World) (K:PySem.W.Frag) (mg:Str->Option Value) (base:Heap) (x:Str) (ps:List Str) (k:Nat) (sp:Sp):Prop :=
 ∃ f fd,mg x=some (.ref f)/\PySem.W.keepIn K (.ref f)=true/\Binds K fd ps []/\FnOk P w K mg base CX0 k f fd ps sp
theorem Fn.imp {P:Program}{w:World}{K:PySem.W.Frag}{mg:Str->Option Value}{base:Heap}{x:Str}{ps:List Str}{k:Nat}{sp sp':Sp}(F:Fn P w K mg base x ps k sp) (h:∀ vs H Q E,sp' vs H Q E->sp vs H Q E):Fn P w K mg base x ps k sp' :=
 let ⟨f,fd,a,b,c,d⟩:=F; ⟨f,fd,a,b,c,d.imp h⟩
section
variable {P:Program}{w:World}{K:PySem.W.Frag}{mg:Str->Option Value}{base:Heap}
theorem Has.fn {x:Str}{st:Stmt}{N ps:List Str}{k:Nat}{sp:Sp}(h:Has K mg x st) (S:FnScope N ps (Za st))
  (hb:∀ (kV doc pm:Value) (an:Option Addr) (cdv ct:Value) (us:List Value),us.length=ps.length->bindArgs (PySem.W.fnOf x x (Wt st) (Yt st) (Za st) .none kV doc pm an cdv ct) ⟨us,[]⟩=pure (ps.zip us))
  (len:∀ vs H Q E,sp vs H Q E->vs.length=ps.length)
  (hbody:∀ (f:Addr) (cdv:Value) (A:Around) (outer:List Env) (s:Shared) (H:Hp) (vs:List V) (Q:VK) (E:XK),Room k (A.deeper (envOfC x (Za st) s.heap.objs.size f cdv))->sp vs H Q E ->
   ∃ t,PSs (Yi CX0 P w K mg base N x (Za st) f cdv A outer s H E).nox (Yt st) t/\t {nx:=fun _ H'=>Q .non H',rt:=Q } (start N vs) H):Fn P w K mg base x ps (k+1) sp:=by
 obtain ⟨f,fd,F,hm⟩:=h
 exact ⟨f,fd,hm,F.kp,F.binds hb,F.ok S len fun cdv A outer s H vs Q E hr q=>hbody f cdv A outer s H vs Q E hr q⟩
theorem Yj {h:Heap}{x:Str}{st:Stmt}{f:Addr}{oc:Value}{od an:Option Addr}{osl:Array (Option Value)}{kV doc pm cdv ct:Value}(KX:K.In h) (G:h.Ns mainGlobals mg)
  (a:PySem.W.nsIn K mainGlobals x=some (some (.ref f))) (l:K.lookup f=some ⟨oc,od,.func (PySem.W.fnOf x x (Wt st) (Yt st) (Za st) .none kV doc pm an cdv ct),osl⟩)
  (c:PySem.W.codeIn K cdv x=true) (k:PySem.W.keepIn K (.ref f)=true):Has K mg x st:=⟨f,_,Zgx l c k,PySem.W.mg_of KX G a⟩
end
def tFn (sp:Sp) (t:TA):TE:=fun σ H Q=>t σ H fun vs H1=>sp vs H1 Q E0
section
variable {X:Cx}
theorem Z0y {k:Nat}{ps:List Str}{sp:Sp}{x:Str}{p pos:Pos}{e:Expr}{es:List Expr}{t:TA}(F:Fn X.prog X.w X.K X.mg X.base x ps k sp) (hr:Room k X.A) (hg:Gl X x) (ha:PA X (e::es) t)
  (hdb:(x == ("__debug__" : Str))=false:=by decide) (he:starEach (e::es) X.env=(false,eval e X.env)::starEach es X.env:=by rfl) (hpl:(backTo pos (starEach es X.env)).any (·.1)=false:=by rfl) :
  PE X (.Call (.Name x p) (e::es) [] pos) (tFn sp t):=by
 obtain ⟨f,fd,hm,hk,hb,G⟩:=F
 intro pins s σ H Q I h
 refine Zxn G hr hg hm hk hb .nil Zee ha hdb he hpl pins s σ H Q I ?_
 have e:Zhb sp [] E0 t=tFn sp t:=by
  unfold Zhb tFn
  simp only [List.append_nil]
 rw [e]
 exact h
theorem Zzx:UnR X (unaryOp .USub) (rU fun i=>.int (-i)):=by
 intro pins s σ H x v Q I rx h
 obtain ⟨i,rfl,q⟩:=h
 obtain ⟨t,rfl⟩:=rx
 exact neg_int ⟨.int (-i),H,I.tok _,⟨_,rfl⟩,q⟩
end
theorem Wc:bootBuiltins "len" = some (.builtin "len"):=by decide +kernel
theorem Zov:bootBuiltins "max" = some (.builtin "max"):=by decide +kernel
theorem Z0z:bootBuiltins "all" = some (.builtin "all"):=by decide +kernel
theorem Zdh:bootBuiltins "sorted" = some (.builtin "sorted"):=by decide +kernel
theorem Vk:bootBuiltins "isinstance" = some (.builtin "isinstance"):=by decide +kernel
theorem Zgy:bootBuiltins "list" = some (.type "list"):=by decide +kernel
theorem Zgz:bootBuiltins "bool" = some (.type "bool"):=by decide +kernel
theorem Zow:bootBuiltins "int" = some (.type "int"):=by decide +kernel
theorem Zox:bootBuiltins "str" = some (.type "str"):=by decide +kernel
theorem Zmw:bootBuiltins "tuple" = some (.type "tuple"):=by decide +kernel
def SameX (s:Addr) (H H':Hp):Prop:=∀ b o,b≠s->H b=some o->H' b=some o
theorem SameX.refl {s:Addr}{H:Hp}:SameX s H H:=fun _ _ _ e=>e
theorem SameX.trans {s:Addr}{H H1 H2:Hp}(a:SameX s H H1) (b:SameX s H1 H2):SameX s H H2:=fun c o n e=>b c o n (a c o n e)
theorem SameX.upd {s:Addr}{H:Hp}{o:HO}:SameX s H (upd H s o):=fun b _ n e=>by rw [Zc n]; exact e
theorem SameX.new {s l:Addr}{H:Hp}{o:HO}(h:H l=none):SameX s H (L2.upd H l o):=fun b _ _ e=>by rw [Zc (Zh e h)]; exact e
theorem Same.new {l:Addr}{H:Hp}{o:HO}(h:H l=none):Same H (L2.upd H l o):=fun b _ e=>by rw [Zc (Zh e h)]; exact e
theorem Same.x {s:Addr}{H H':Hp}(h:Same H H'):SameX s H H':=fun b o _ e=>h b o e
def SrcAt (H:Hp) (s la:Addr):Prop:=∃ (ns:List Int) (i big st cnt:Int),H s=some (.lst [.ref la,.int i,.int big,.int st,.int cnt])/\H la=some (.lst (ns.map V.int))/\0<=i/\la≠s
theorem SrcAt.keep {H H':Hp}{s la:Addr}(h:SrcAt H s la) (k:Same H H'):SrcAt H' s la:=by
 obtain ⟨ns,i,big,st,cnt,h1,h2,h3,h4⟩:=h
 exact ⟨ns,i,big,st,cnt,k _ _ h1,k _ _ h2,h3,h4⟩
theorem SrcAt.keepX {H H':Hp}{s la l:Addr}(h:SrcAt H s la) (k:SameX l H H') (n1:l≠s) (n2:l≠la):SrcAt H' s la:=by
 obtain ⟨ns,i,big,st,cnt,h1,h2,h3,h4⟩:=h
 exact ⟨ns,i,big,st,cnt,k _ _ n1.symm h1,k _ _ n2.symm h2,h3,h4⟩
theorem SrcAt.ne {H:Hp}{s la l:Addr}(h:SrcAt H s la) (hl:H l=none):l≠s/\l≠la:=by
 obtain ⟨ns,i,big,st,cnt,h1,h2,h3,h4⟩:=h
 exact ⟨(Zh h1 hl).symm,(Zh h2 hl).symm⟩
end L2
namespace L2
open PySem PySem.Spec PyProof.Rows
theorem Z6 {c A B:Prop} [Decidable c] (h1:c->A) (h2:¬ c->B):if decide c=true then A else B:=by
 by_cases h:c
 ·rw [if_pos (decide_eq_true h)]; exact h1 h
 ·rw [if_neg (by rw [decide_eq_false h]; exact Bool.false_ne_true)]; exact h2 h
theorem Y4 {c A B:Prop} [Decidable c] (h1:¬ c->A) (h2:c->B):if (!decide c)=true then A else B:=by
 by_cases h:c
 ·rw [if_neg (by rw [decide_eq_true h]; exact Bool.false_ne_true)]; exact h2 h
 ·rw [if_pos (by rw [decide_eq_false h]; rfl)]; exact h1 h
theorem Zrf {b:Bool}{A B:Prop}(h1:b=true->A) (h2:b=false->B):if b=true then A else B:=by
 cases b
 ·rw [if_neg Bool.false_ne_true]; exact h2 rfl
 ·rw [if_pos rfl]; exact h1 rfl
theorem Zoy {b:Bool}{A B:Prop}(h1:b=false->A) (h2:b=true->B):if (!b)=true then A else B:=by
 cases b
 ·exact h1 rfl
 ·exact h2 rfl
theorem Zx3 {ns:List Int}{i:Int}(h0 : 0<=i) (h1:i < (ns.map V.int).length):atI (ns.map V.int) i=some (.int (ns.getD i.toNat 0)):=by
 obtain ⟨j,rfl⟩:=Int.eq_ofNat_of_zero_le h0
 rw [List.length_map] at h1
 refine Y3 ?_
 rw [List.getElem?_map,Int.toNat_natCast,List.getD_eq_getElem?_getD,List.getElem?_eq_getElem (by lia)]
 rfl
end L2
namespace L2
open PySem PySem.Spec PyProof.Rows
def Nm (sc:Scope) (x:Str) (k:NameKind):Prop:=sc.names.lookup x=some k/\(x == ("__debug__" : Str))=false/\(x == ("__classdict__" : Str))=false/\x ≠ "__name__"
instance (sc:Scope) (x:Str) (k:NameKind):Decidable (Nm sc x k):=by unfold Nm; exact inferInstance
section
variable {X:Cx}{x:Str}{pos:Pos}
theorem pvN (i:Nat) (n:Nm X.env.scope x .local) (hN:X.N[i]? = some x:=by rfl):PE X (.Name x pos) (Yh i):=Zdz hN (.inl n.1) n.2.1 n.2.2.1
theorem pvC (i:Nat) (n:Nm X.env.scope x .cell) (hN:X.N[i]? = some x:=by rfl):PE X (.Name x pos) (Yh i):=Zdz hN (.inr (.inl n.1)) n.2.1 n.2.2.1
theorem Zvs {v:V}{u:Value}(n:Nm X.env.scope x .globalImplicit) (hm:X.mg x=some u) (r:RelV v u):PE X (.Name x pos) (tC v):=Zw7 n.1 hm r n.2.1
theorem Zvt {v:V}{u:Value}(n:Nm X.env.scope x .globalImplicit) (hm:X.mg x=none) (hv:bootBuiltins x=some u) (r:RelV v u):PE X (.Name x pos) (tC v):=Zw8 n.1 hm hv r n.2.2.2 n.2.1
theorem Zzy {k:Nat}{ps:List Str}{sp:Sp}{p:Pos}{e:Expr}{es:List Expr}{t:TA}(F:Fn X.prog X.w X.K X.mg X.base x ps k sp) (hr:Room k X.A) (n:Nm X.env.scope x .globalImplicit) (ha:PA X (e::es) t)
  (he:starEach (e::es) X.env=(false,eval e X.env)::starEach es X.env:=by rfl) (hpl:(backTo pos (starEach es X.env)).any (·.1)=false:=by rfl) :
  PE X (.Call (.Name x p) (e::es) [] pos) (tFn sp t):=Z0y F hr n.1 ha n.2.1 he hpl
theorem Zt7 {p:Pos}{e:Expr}{es:List Expr}{t:TA}{id:String}{r:List V->Hp->VK->Prop}(hc:Wh X (.builtin id) r) (n:Nm X.env.scope x .globalImplicit) (hm:X.mg x=none) (hv:bootBuiltins x=some (.builtin id)) (ha:PA X (e::es) t)
  (he:starEach (e::es) X.env=(false,eval e X.env)::starEach es X.env:=by rfl) (hpl:(backTo pos (starEach es X.env)).any (·.1)=false:=by rfl):PE X (.Call (.Name x p) (e::es) [] pos) (tCB r t):=Zvg hc n.1 hm hv ha n.2.2.2 n.2.1 he hpl
theorem Zs3 {p:Pos}{e:Expr}{es:List Expr}{t:TA}{T:String}{r:List V->Hp->VK->Prop}(hc:Wh X (.type T) r) (n:Nm X.env.scope x .globalImplicit) (hm:X.mg x=none) (hv:bootBuiltins x=some (.type T)) (ha:PA X (e::es) t)
  (he:starEach (e::es) X.env=(false,eval e X.env)::starEach es X.env:=by rfl) (hpl:(backTo pos (starEach es X.env)).any (·.1)=false:=by rfl):PE X (.Call (.Name x p) (e::es) [] pos) (tCB r t):=Ztz hc n.1 hm hv ha n.2.2.2 n.2.1 he hpl
theorem Zx4 {i:Nat}{e:Expr}{te:TE}{pos':Pos}(hN:X.N.Nodup) (n:Nm X.env.scope x .local) (he:PE X e te) (hi:X.N[i]? = some x:=by rfl) (hs:swapsWith e (some (.Name x pos')) pos.line X.env=pure false:=by rfl) :
  PS X (.Assign [.Name x pos'] e pos) (V2 te (Yx i)):=Zns hN hi (.inl n.1) he hs (.inr n.1)
theorem Zvu {i:Nat}{e:Expr}{te:TE}{pos':Pos}(hN:X.N.Nodup) (n:Nm X.env.scope x .cell) (he:PE X e te) (hf:X.fn x=true:=by rfl) (hi:X.N[i]? = some x:=by rfl) (hs:swapsWith e (some (.Name x pos')) pos.line X.env=pure false:=by rfl) :
  PS X (.Assign [.Name x pos'] e pos) (V2 te (Yx i)):=Zns hN hi (.inr n.1) he hs (.inl hf)
theorem Zvv {i:Nat}(hN:X.N.Nodup) (n:Nm X.env.scope x .local) (hi:X.N[i]? = some x:=by rfl):PG X (.Name x pos) (Yx i):=Zf2 hN hi (.inl n.1) (.inr n.1)
theorem Zt8 {i:Nat}(hN:X.N.Nodup) (n:Nm X.env.scope x .cell) (hf:X.fn x=true:=by rfl) (hi:X.N[i]? = some x:=by rfl):PG X (.Name x pos) (Yx i):=Zf2 hN hi (.inr n.1) (.inl hf)
end
section
variable {X:Cx}{scope:Scope}{cl:List (Str×Addr)}{C:Addr}{N':List Str}{s0:Shared}{H0:Hp}{ex:List Addr}{pn:List (Addr×Obj)}{x:Str}{pos:Pos}
theorem Z67 (i:Nat) (n:Nm scope x .local:=by decide +kernel) (hN:N'[i]? = some x:=by rfl):PE (ccx X scope cl C N' s0 H0 ex pn) (.Name x pos) (Yh i):=pvL i hN n.1 n.2.1 n.2.2.1
theorem Z68 (i:Nat) (n:Nm scope x .free:=by decide +kernel) (hN:N'[i]? = some x:=by rfl):PE (ccx X scope cl C N' s0 H0 ex pn) (.Name x pos) (Yh i):=pvF i hN n.1 n.2.1 n.2.2.1
theorem Z69 (i:Nat) (hnd:N'.Nodup) (n:Nm scope x .local:=by decide +kernel) (hN:N'[i]? = some x:=by rfl):PG (ccx X scope cl C N' s0 H0 ex pn) (.Name x pos) (Yx i):=pgL i hnd hN n.1
theorem nmC (n:Nm scope x .globalImplicit:=by decide +kernel):Nm (ccx X scope cl C N' s0 H0 ex pn).env.scope x .globalImplicit:=⟨Zkk (by decide) n.1,n.2⟩
theorem FrOk.consN {j:Nat}{fr:List (Str×Nat)}(n:Nm X.env.scope x .cell) (t:FrOk X scope fr) (m:Nm scope x .free:=by decide +kernel) (h1:X.N[j]? = some x:=by rfl):FrOk X scope ((x,j)::fr):=.cons h1 (.inl n.1) m.1 t
end
end L2
end
section
set_option Elab.async false
set_option linter.all false
set_option maxRecDepth 100000
set_option maxHeartbeats 4000000
namespace L2
open PySem PySem.Spec PyProof.Rows
def cs (x:Str):List Nat:=x.cps.toList
theorem Y5 (x:Str):(cs x).length=x.length:=by unfold cs; exact Array.length_toList
theorem Zd1 (x y:Str):cs (x++y)=cs x++cs y:=by unfold cs; rw [PySem.Str.cps_append,Array.toList_append]
theorem Zoz (l:List Nat):cs ⟨l.toArray⟩=l:=by unfold cs; simp
theorem Zkw (xs:List Nat) (lo:Nat):∀ m,lo+m<=xs.length->((List.range m).map (lo + ·)).filterMap (xs[·]?)=(xs.drop lo).take m:=by
 intro m
 induction m with
 | zero=>intro _; simp
 | succ m ih =>
  intro h
  rw [List.range_succ,List.map_append,List.filterMap_append,ih (by lia),List.take_add_one,List.getElem?_drop]
  have:lo+m < xs.length:=by lia
  simp [List.getElem?_eq_getElem this]
theorem Zf9 (x:Str) {i:Int}(h : 0<=i):cs (Txt.slice x none (some i))=(cs x).take i.toNat:=by
 have hl:=Y5 x
 have e:Builtin.Str.strSliceIndices none (some i) 1 x.length=(List.range (min i.toNat x.length)).map (0 + ·):=by
  unfold Builtin.Str.strSliceIndices sliceRange
  simp only [show (1:Int) > 0 by decide,if_true]
  have e1:(if i < 0 then i+(x.length:Int) else i)=i:=if_neg (by lia)
  rw [e1]
  have e2:(if (0:Int) < max 0 (min i (x.length:Int)) then (max 0 (min i (x.length:Int)) - 0+1 - 1) / 1 else 0).toNat=min i.toNat x.length:=by
   split <;> (try simp only [Int.ediv_one]) <;> lia
  rw [e2]
  apply List.map_congr_left
  intro k _
  lia
 unfold Txt.slice
 rw [e]
 split
 ·rename_i hc
  have hc:((List.range (min i.toNat x.length)).map (0 + ·)).length=x.length:=by simpa using hc
  rw [List.length_map,List.length_range] at hc
  rw [List.take_of_length_le (by lia)]
 ·rw [Zoz]
  have:=Zkw (cs x) 0 (min i.toNat x.length) (by lia)
  rw [List.drop_zero] at this
  have e3:(cs x).take (min i.toNat x.length)=(cs x).take i.toNat:=by
   rw [← hl]
   by_cases h1:i.toNat<=(cs x).length
   ·rw [Nat.min_eq_left h1]
   ·rw [Nat.min_eq_right (by lia),List.take_of_length_le (by lia),List.take_of_length_le (by lia)]
  rw [← e3,← this]
  congr 1
  funext k
  unfold cs
  simp
theorem Zx5 (x:Str) {i:Int}(h : 0<=i):cs (Txt.slice x (some i) none)=(cs x).drop i.toNat:=by
 have hl:=Y5 x
 have e:Builtin.Str.strSliceIndices (some i) none 1 x.length=(List.range (x.length - min i.toNat x.length)).map (min i.toNat x.length + ·):=by
  unfold Builtin.Str.strSliceIndices sliceRange
  simp only [show (1:Int) > 0 by decide,if_true]
  have e1:(if i < 0 then i+(x.length:Int) else i)=i:=if_neg (by lia)
  rw [e1]
  have e2:(if max 0 (min i (x.length:Int)) < (x.length:Int) then ((x.length:Int) - max 0 (min i (x.length:Int))+1 - 1) / 1 else 0).toNat=x.length - min i.toNat x.length:=by
   split <;> (try simp only [Int.ediv_one]) <;> lia
  rw [e2]
  apply List.map_congr_left
  intro k _
  lia
 unfold Txt.slice
 rw [e]
 split
 ·rename_i hc
  have hc:((List.range (x.length - min i.toNat x.length)).map (min i.toNat x.length + ·)).length=x.length:=by simpa using hc
  rw [List.length_map,List.length_range] at hc
  by_cases h0:i.toNat=0
  ·rw [h0,List.drop_zero]
  ·have:x.length=0:=by lia
   rw [List.drop_of_length_le (by lia)]
   exact List.length_eq_zero_iff.mp (by lia)
 ·rw [Zoz]
  have:=Zkw (cs x) (min i.toNat x.length) (x.length - min i.toNat x.length) (by lia)
  have e3:((cs x).drop (min i.toNat x.length)).take (x.length - min i.toNat x.length)=(cs x).drop i.toNat:=by
   rw [List.take_of_length_le (by rw [List.length_drop]; lia)]
   by_cases h1:i.toNat<=x.length
   ·rw [Nat.min_eq_left h1]
   ·rw [Nat.min_eq_right (by lia),List.drop_of_length_le (by lia),List.drop_of_length_le (by lia)]
  rw [← e3,← this]
  congr 1
  funext k
  unfold cs
  simp
theorem Zvw:∀ ys:List Str,cs (Txt.join "" ys)=(ys.map cs).flatten:=by
 have go:∀ (ys:List Str) (a:Array Nat),(ys.foldl (fun acc p=>acc++(("" : Str)).cps++p.cps) a).toList=a.toList++(ys.map cs).flatten:=by
  intro ys
  induction ys with
  | nil=>intro a; simp
  | cons y r ih =>
   intro a
   rw [List.foldl_cons,ih]
   have:(("" : Str)).cps = #[]:=by decide +kernel
   rw [this]
   simp [cs]
 intro ys
 show (cs (Builtin.Str.glued "" ys))=_
 unfold Builtin.Str.glued
 cases ys with
 | nil=>decide +kernel
 | cons y r =>
  show (List.foldl _ y.cps r).toList=_
  rw [go]
  rfl
def Low (x:Str):Prop:=∀ c∈cs x,97<=c/\c<=122
def letters:Str := "abcdefghijklmnopqrstuvwxyz"
theorem Zs4:cs letters=(List.range 26).map (97 + ·):=by decide +kernel
theorem Zff {d:Int}(h0 : 0<=d) (h1:d < 26):atI letters.cps.toList d=some (97+d.toNat):=by
 obtain ⟨j,rfl⟩:=Int.eq_ofNat_of_zero_le h0
 refine Y3 ?_
 show (cs letters)[j]? = _
 rw [Zs4,List.getElem?_map,List.getElem?_range (by lia)]
 rfl
theorem Zga {J:It}{nl:Nat}{fv:St}{g:TG}{tt:TTs}{te:TE}{Q:VK}{H:Hp}{xs:List V}(Pv:Nat->List V->Hp->Prop) (h0:Pv 0 [] H) (hn:xs.length<=1000000)
  (hgo:∀ i H ys,i < xs.length->Pv i ys H->J.go i H) (hy:∀ i H x H' ys,i < xs.length->Pv i ys H->J.yld i H x H'->H'=H/\xs[i]? = some x) (hst:∀ H ys,Pv xs.length ys H->J.stop xs.length H)
  (hlen:∀ i ys H,Pv i ys H->ys.length<=i)
  (step:∀ i x ys H,xs[i]? = some x->Pv i ys H->Vg nl fv g tt te x H (fun y H'=>Pv (i+1) (ys ++ [y]) H') fun H'=>Pv (i+1) ys H')
  (hd:∀ ys H,Pv xs.length ys H->∀ l,H l=none->Q (.ref l) (upd H l (.lst ys))) :
  Za6 J nl fv g tt te Q H:=by
 have mono:∀ {x:V}{H:Hp}{Y Y':V->Hp->Prop}{N N':Hp->Prop},Vg nl fv g tt te x H Y N->Y=Y'->N=N'->Vg nl fv g tt te x H Y' N':=fun h e1 e2=>by subst e1; subst e2; exact h
 refine ⟨fun i m ys H=>m=xs.length - i/\i<=xs.length/\Pv i ys H,⟨xs.length,by simp,Nat.zero_le _,h0⟩,?_⟩
 rintro i m ys H ⟨rfl,hi,p⟩
 have hl:=hlen i ys H p
 have hz:(1000000:Nat) < sizeLine:=by decide
 by_cases hlt:i < xs.length
 ·refine .inr ⟨hgo i H ys hlt p,by lia,xs.length - (i+1),by lia,fun x H' y=>?_⟩
  obtain ⟨e,ex⟩:=hy i H x H' ys hlt p y
  subst e
  refine mono (step i x ys _ ex p) ?_ ?_
  ·funext y H4
   apply propext
   exact ⟨fun q=>⟨rfl,hlt,q⟩,fun q=>q.2.2⟩
  ·funext H3
   apply propext
   exact ⟨fun q=>⟨rfl,hlt,q⟩,fun q=>q.2.2⟩
 ·have e:i=xs.length:=by lia
  subst e
  exact .inl ⟨hst H ys p,by lia,hd ys H p⟩
def Zbi (lo:Int) (n:Nat):List V:=(List.range n).map fun k=>V.int (lo+(k:Nat))
theorem Zaz (lo:Int) (n:Nat):(Zbi lo n).length=n:=by simp [Zbi]
theorem Zvx {lo:Int}{n i:Nat}{x:V}(h:(Zbi lo n)[i]? = some x):i < n/\x = .int (lo+(i:Nat)):=by
 have hi:i < n:=by have:=(List.getElem?_eq_some_iff.mp h).1; rwa [Zaz] at this
 refine ⟨hi,?_⟩
 unfold Zbi at h
 rw [List.getElem?_map,List.getElem?_range hi] at h
 exact (Option.some.inj h).symm
theorem Zkx {lo:Int}{n:Nat}{nl:Nat}{fv:St}{g:TG}{tt:TTs}{te:TE}{Q:VK}{H:Hp}(Pv:Nat->List V->Hp->Prop) (h0:Pv 0 [] H) (hn:n<=1000000)
  (hlen:∀ i ys H,Pv i ys H->ys.length<=i)
  (step:∀ i ys H,i < n->Pv i ys H->Vg nl fv g tt te (.int (lo+(i:Nat))) H (fun y H'=>Pv (i+1) (ys ++ [y]) H') fun H'=>Pv (i+1) ys H')
  (hd:∀ ys H,Pv n ys H->∀ l,H l=none->Q (.ref l) (upd H l (.lst ys))) :
  Za6 (Itr lo n) nl fv g tt te Q H:=by
 refine Zga (xs:=Zbi lo n) Pv h0 (by rw [Zaz]; exact hn) ?_ ?_ ?_ hlen ?_ ?_
 ·intro i H ys hi _
  rw [Zaz] at hi
  exact hi
 ·rintro i H x H' ys hi _ ⟨rfl,rfl⟩
  rw [Zaz] at hi
  refine ⟨rfl,?_⟩
  unfold Zbi
  rw [List.getElem?_map,List.getElem?_range hi]
  rfl
 ·intro H ys _
  rw [Zaz]
  exact Nat.le_refl _
 ·intro i x ys H hx p
  obtain ⟨hi,rfl⟩:=Zvx hx
  exact step i ys H hi p
 ·intro ys H p
  rw [Zaz] at p
  exact hd ys H p
theorem Zfm {K:PySem.W.Frag}{a:Addr}{xs:List V}{nl:Nat}{fv:St}{g:TG}{tt:TTs}{te:TE}{Q:VK}{H:Hp}(Pv:Nat->List V->Hp->Prop) (h0:Pv 0 [] H) (hn:xs.length<=1000000)
  (hl:∀ i ys H,i<=xs.length->Pv i ys H->SqL K H a xs)
  (hlen:∀ i ys H,Pv i ys H->ys.length<=i)
  (step:∀ i x ys H,xs[i]? = some x->Pv i ys H->Vg nl fv g tt te x H (fun y H'=>Pv (i+1) (ys ++ [y]) H') fun H'=>Pv (i+1) ys H')
  (hd:∀ ys H,Pv xs.length ys H->∀ l,H l=none->Q (.ref l) (upd H l (.lst ys))) :
  Za6 (Itl K a) nl fv g tt te Q H:=by
 refine Zga (xs:=xs) Pv h0 hn ?_ ?_ ?_ hlen step hd
 ·intro i H ys hi p
  exact ⟨xs,xs[i],hl i ys H (Nat.le_of_lt hi) p,by simp [hi]⟩
 ·rintro i H x H' ys hi p ⟨rfl,y⟩
  exact ⟨rfl,y xs (hl i ys _ (Nat.le_of_lt hi) p)⟩
 ·intro H ys p
  exact ⟨xs,hl _ ys H (Nat.le_refl _) p,Nat.le_refl _⟩
theorem Zvy {x:Str}{nl:Nat}{fv:St}{g:TG}{tt:TTs}{te:TE}{Q:VK}{H:Hp}(Pv:Nat->List V->Hp->Prop) (h0:Pv 0 [] H) (hn:x.length<=1000000)
  (hlen:∀ i ys H,Pv i ys H->ys.length<=i)
  (step:∀ i ys H,i < x.length->Pv i ys H->Vg nl fv g tt te (sgn x i) H (fun y H'=>Pv (i+1) (ys ++ [y]) H') fun H'=>Pv (i+1) ys H')
  (hd:∀ ys H,Pv x.length ys H->∀ l,H l=none->Q (.ref l) (upd H l (.lst ys))) :
  Za6 (Its x) nl fv g tt te Q H:=by
 have ln:((List.range x.length).map fun i=>sgn x i).length=x.length:=by simp
 refine Zga (xs:=(List.range x.length).map fun i=>sgn x i) Pv h0 (by rw [ln]; exact hn) ?_ ?_ ?_ hlen ?_ ?_
 ·intro i H ys hi _
  rw [ln] at hi
  exact hi
 ·rintro i H v H' ys hi _ ⟨rfl,rfl⟩
  rw [ln] at hi
  refine ⟨rfl,?_⟩
  rw [List.getElem?_map,List.getElem?_range hi]
  rfl
 ·intro H ys _
  rw [ln]
  exact rfl
 ·intro i v ys H hx p
  have hi:i < x.length:=by have:=(List.getElem?_eq_some_iff.mp hx).1; rwa [ln] at this
  rw [List.getElem?_map,List.getElem?_range hi] at hx
  cases hx
  exact step i ys H hi p
 ·intro ys H p
  rw [ln] at p
  exact hd ys H p
theorem Zcu {ls:St}(h:ls.length=1):∃ a,ls = [a]:=by
 match ls,h with
 | [a],_=>exact ⟨a,rfl⟩
theorem Zrg {ls:St}(h:ls.length=2):∃ a b,ls = [a,b]:=by
 match ls,h with
 | [a,b],_=>exact ⟨a,b,rfl⟩
end L2
end
section
set_option Elab.async false
set_option linter.all false
set_option maxRecDepth 100000
set_option maxHeartbeats 4000000
namespace L2
open PySem PySem.Spec PyProof.Rows
structure QE (X:Cx) (e:Expr) (t:TE):Prop where
 h:PE X e t
structure QT (X:Cx) (e:Expr) (t:TT):Prop where
 h:PT X e t
structure QW (X:Cx) (e:Expr) (t:TT):Prop where
 h:PW X e t
structure QS (X:Cx) (s:Stmt) (t:TS):Prop where
 h:PS X s t
structure QSs (X:Cx) (s:List Stmt) (t:TS):Prop where
 h:PSs X s t
structure QA (X:Cx) (es:List Expr) (t:TA):Prop where
 h:PA X es t
structure QG (X:Cx) (e:Expr) (t:TG):Prop where
 h:PG X e t
structure QGs (X:Cx) (es:List Expr) (t:TGs):Prop where
 h:PGs X es t
structure QI (X:Cx) (tg iter:Expr) (t:TI):Prop where
 h:PI X tg iter t
structure QO (X:Cx) (e:Option Expr) (t:TO):Prop where
 h:PO X e t
structure QTs (X:Cx) (es:List Expr) (t:TTs):Prop where
 h:PTs X es t
structure QOp (X:Cx) (f:Value->Value->Sem Value) (r:R2):Prop where
 h:OpR X f r
structure QUn (X:Cx) (f:Value->Sem Value) (r:V->Hp->VK->Prop):Prop where
 h:UnR X f r
structure QC (X:Cx) (f:Value) (r:List V->Hp->VK->Prop):Prop where
 h:Wh X f r
structure QCk (X:Cx) (f:Value) (kw:Str) (r:List V->V->Hp->VK->Prop):Prop where
 h:Z0x X f kw r
structure QIx (X:Cx) (r:R2):Prop where
 h:IxR X r
structure QSl (X:Cx) (r:V->Option Int->Option Int->Hp->VK->Prop):Prop where
 h:SlR X r
structure QM (X:Cx) (id:String) (r:V->List V->Hp->VK->Prop):Prop where
 h:MtR X id r
structure QSet (X:Cx) (t:Zct):Prop where
 h:Ziy X t
structure QIp (X:Cx) (op:Operator) (t:TIp):Prop where
 h:PIp X op t
section
variable {X:Cx}{a b c:Expr}{ta tb tc te:TE}{tA tB':TT}{pos p p2 pos':Pos}{st:Stmt}{rest:List Stmt}{t u:TS}{x:Str}{es:List Expr}{e:Expr}
theorem Zt:QSs X [] Ur:=⟨Zxa⟩
theorem Ze (h1:QS X st t) (h2:QSs X rest u):QSs X (st::rest) (Zbh t u):=⟨Zu3 h1.h h2.h⟩
theorem Zg (h1:QS X st t):QSs X [st] t:=⟨Zxb h1.h⟩
theorem Zu (h:QE X e te):QS X (.Return (some e) pos) (Zqu te):=⟨Zzb h.h⟩
theorem Zs {c:Expr}{a b:List Stmt}{tc:TT}(hc:QT X c tc) (ha:QSs X a t) (hb:QSs X b u):QS X (.If c a b pos) (Zix tc t u):=⟨Z0k hc.h ha.h hb.h⟩
theorem Zn (he:QE X e te) (hs:swapsWith e none pos.line X.env=pure false:=by rfl):QS X (.Expr e pos) (Zeb te):=⟨Zxc he.h hs⟩
theorem Z2 {i:Nat}(hN:X.N.Nodup) (n:Nm X.env.scope x .local) (he:QE X e te) (hi:X.N[i]? = some x:=by rfl) (hs:swapsWith e (some (.Name x pos')) pos.line X.env=pure false:=by rfl) :
  QS X (.Assign [.Name x pos'] e pos) (V2 te (Yx i)):=⟨Zx4 hN n he.h hi hs⟩
theorem Zl0 {i:Nat}(hN:X.N.Nodup) (n:Nm X.env.scope x .cell) (he:QE X e te) (hf:X.fn x=true:=by rfl) (hi:X.N[i]? = some x:=by rfl) (hs:swapsWith e (some (.Name x pos')) pos.line X.env=pure false:=by rfl) :
  QS X (.Assign [.Name x pos'] e pos) (V2 te (Yx i)):=⟨Zvu hN n he.h hf hi hs⟩
theorem Zb9 {tg:Expr}{g:TG}(he:QE X e te) (hg:QG X tg g) (hs:swapsWithSole [tg] e pos.line X.env=pure false:=by rfl) (hw:swappedStores [tg] e X.env=pure none:=by rfl)
  (h1:(assignEach [tg] X.env).map (·.2) = [assign tg X.env]:=by rfl):QS X (.Assign [tg] e pos) (V2 te g):=⟨Zzd he.h hg.h hs hw h1⟩
def Zae (J:It) (g:TG) (tb:TS) (D:Ends) (σ:St) (H1:Hp):Prop:=∃ W:Nat->Nat->St->Hp->Prop,(∃ m,W 0 m σ H1)/\∀ i m σ H,W i m σ H ->
 (J.stop i H/\D.nx σ H)\/(J.go i H/\∃ N:St->Hp->Prop,(∀ σ' H',N σ' H'->∃ m',m' < m/\W (i+1) m' σ' H')/\∀ x H',J.yld i H x H'->g x σ H' fun σ2 H2=>tb {D with nx:=N,ct:=N,bk:=D.nx } σ2 H2)
def Z00 (wi:TI) (g:TG) (tb:TS):TS:=fun D σ H=>wi σ H fun J H1=>Zae J g tb D σ H1
theorem Wo {tg iter:Expr}{body:List Stmt}{wi:TI}{g:TG}(hp:PassesOwn (model X.prog X.w) X.A X.env X.xe) (hc:X.calm=true) (hi:QI X tg iter wi) (hg:QG X tg g) (hb:QSs X body t)
  (hs:∀ x,foldedSetIterable iter X.env x=pure x:=by intro _; rfl):QS X (.For tg iter body [] pos) (Z00 wi g t):=⟨Zze hp hc hi.h hg.h hb.h hs⟩
theorem Zl1 {c:Expr}{body:List Stmt}{tc:TT}(hp:PassesOwn (model X.prog X.w) X.A X.env X.xe) (hc:QT X c tc) (hb:QSs X body t):QS X (.While c body [] pos) (Znt tc t):=⟨Zu5 hp hc.h hb.h⟩
theorem Y8 {i:Nat}(hN:X.N.Nodup) (n:Nm X.env.scope x .local) (hi:X.N[i]? = some x:=by rfl):QG X (.Name x pos) (Yx i):=⟨Zvv hN n hi⟩
theorem Zlh {i:Nat}(hN:X.N.Nodup) (n:Nm X.env.scope x .cell) (hf:X.fn x=true:=by rfl) (hi:X.N[i]? = some x:=by rfl):QG X (.Name x pos) (Yx i):=⟨Zt8 hN n hf hi⟩
theorem Zb4:QGs X [] Zqv:=⟨Zxd⟩
theorem Vb {t:TG}{u:TGs}(h1:QG X e t) (h2:QGs X es u) (hs:(assignEach (e::es) X.env).map (·.2)=assign e X.env::(assignEach es X.env).map (·.2):=by rfl):QGs X (e::es) (Zoi t u):=⟨Zu4 h1.h h2.h hs⟩
theorem Zg0 {k:Nat}{t:TGs}{n:Nat}(hc:X.calm=true) (h:QGs X es t) (hn:(assignEach es X.env).length=n:=by rfl) (hst:(assignEach es X.env).findIdx? (·.1)=none:=by rfl):QG X (.Tuple es k pos) (Ziz X.K n t):=⟨Znr hc h.h hn hst⟩
theorem Zca {o i:Expr}{to ti:TE}{t:Zct}(ho:QE X o to) (hi:QE X i ti) (hs:QSet X t)
  (ha:∀ v,assign (.Subscript o i pos) X.env v=(do
   let ov ← holding [v] (eval o X.env)
   let iv ← holding [v,ov] (eval i X.env)
   standAt pos
   holding [v,ov,iv] (setItem ov iv v)
   release [v,ov,iv] []):=by intro _; rfl):QG X (.Subscript o i pos) (Zqw to ti t):=⟨Zzc ho.h hi.h hs.h ha⟩
theorem Zbx:QSet X Zoo:=⟨Zvi⟩
variable {tg:Expr}
theorem Vu {l:Expr}(hl:QE X l te):QI X tg l (Zoj X.K te):=⟨Zxe hl.h⟩
theorem Zzz {l:Expr}(hl:QE X l te):QI X tg l (Zre te):=⟨Zzv hl.h⟩
theorem Zby {a:Expr}{ta:TA}(hg:Gl X "range") (hm:X.mg "range" = none) (ha:QA X [a] ta) (hs:starEach [a] X.env = [(false,eval a X.env)]:=by rfl):QI X tg (.Call (.Name "range" p) [a] [] pos) (Zok ta):=⟨Zts hg hm ha.h hs⟩
theorem Zd:QA X [] Wy:=⟨Zzn⟩
theorem Zb {t:TA}(ha:QE X e te) (hr:QA X es t) (hs:starEach (e::es) X.env=(false,eval e X.env)::starEach es X.env:=by rfl):QA X (e::es) (Wv te t):=⟨Zxm ha.h hr.h hs⟩
theorem Yn {x1} {t:TA}(h:QA X es t):QE X (.Tuple es x1 pos) (Zra t):=⟨Zzo h.h⟩
theorem Yk {t:TA}(h:QA X es t):QE X (.List es pos) (Zrb t):=⟨Zzp h.h⟩
theorem Vv (ha:QT X a tA):QT X (.UnaryOp .Not a pos) (Zqt tA):=⟨Zy7 ha.h⟩
theorem QW.pt (h:QW X e tA):QT X e tA:=⟨PW.pt h.h⟩
theorem Zdp (ha:QT X a tA):QW X (.BoolOp .And [a] pos) tA:=⟨Zw9 ha.h⟩
theorem Zcb (ha:QT X a tA):QW X (.BoolOp .Or [a] pos) tA:=⟨Zy5 ha.h⟩
theorem Zd2 {rest:List Expr}(ha:QT X a tA) (hb:QW X (.BoolOp .And (b::rest) pos) tB'):QW X (.BoolOp .And (a::b::rest) pos) (Zqs tA tB'):=⟨Zy6 ha.h hb.h⟩
theorem Zce {rest:List Expr}(ha:QT X a tA) (hb:QW X (.BoolOp .Or (b::rest) pos) tB'):QW X (.BoolOp .Or (a::b::rest) pos) (tOr tA tB'):=⟨Z0j ha.h hb.h⟩
theorem Zx {op:CmpOp}{r:R2}(ho:QOp X (compareOp op) r) (ha:QE X a ta) (hb:QE X b tb) (hm:behindInMarks op b=false):QT X (.Compare a [op] [b] pos) (Zcd (tOp r ta tb)):=⟨Zxi ho.h ha.h hb.h hm⟩
theorem Za2 {op:CmpOp}{r:R2}(ho:QOp X (compareOp op) r) (ha:QE X a ta) (hb:QE X b tb) (hm:behindInMarks op b=false):QE X (.Compare a [op] [b] pos) (tOp r ta tb):=⟨Zxh ho.h ha.h hb.h hm⟩
theorem Zl2 {op op':CmpOp}{r r':R2}(ho:QOp X (compareOp op) r) (ho':QOp X (compareOp op') r') (ha:QE X a ta) (hb:QE X b tb) (hc:QE X c tc)
  (hm:lastMarks [op,op'] [b,c]=false:=by with_unfolding_all rfl):QE X (.Compare a [op,op'] [b,c] pos) (Zd0 r r' ta tb tc):=⟨Zu8 ho.h ho'.h ha.h hb.h hc.h hm⟩
theorem Zdi {op op':CmpOp}{r r':R2}(ho:QOp X (compareOp op) r) (ho':QOp X (compareOp op') r') (ha:QE X a ta) (hb:QE X b tb) (hc:QE X c tc)
  (hm:lastMarks [op,op'] [b,c]=false:=by with_unfolding_all rfl):QT X (.Compare a [op,op'] [b,c] pos) (Zcd (Zd0 r r' ta tb tc)):=⟨Zu9 ho.h ho'.h ha.h hb.h hc.h hm⟩
theorem Wp (h:QE X e te) (he:∀ whole,isTrue e X.env whole=(do let v ← whole; standAt e.pos; holding [v] (truthy v)):=by intro _; rfl):QT X e (tB te):=⟨Zy4 h.h he⟩
theorem Zf {i j pos}:QE X (.Constant (.int i) j pos) (tC (.int i)):=⟨Zy1⟩
theorem Uu {b j pos}:QE X (.Constant (.bool b) j pos) (tC (.bl b)):=⟨Z0i⟩
theorem Wd {j pos}:QE X (.Constant .none j pos) (tC .non):=⟨Zy2⟩
theorem Wm {x j pos}:QE X (.Constant (.str x) j pos) (tC (.str x)):=⟨Zy3⟩
theorem qvN (i:Nat) (n:Nm X.env.scope x .local) (hN:X.N[i]? = some x:=by rfl):QE X (.Name x pos) (Yh i):=⟨pvN i n hN⟩
theorem qvC (i:Nat) (n:Nm X.env.scope x .cell) (hN:X.N[i]? = some x:=by rfl):QE X (.Name x pos) (Yh i):=⟨pvC i n hN⟩
theorem Yo {v:V}{u:Value}(n:Nm X.env.scope x .globalImplicit) (hm:X.mg x=some u) (r:RelV v u):QE X (.Name x pos) (tC v):=⟨Zvs n hm r⟩
theorem Vl {v:V}{u:Value}(n:Nm X.env.scope x .globalImplicit) (hm:X.mg x=none) (hv:bootBuiltins x=some u) (r:RelV v u):QE X (.Name x pos) (tC v):=⟨Zvt n hm hv r⟩
theorem Z0 {op:Operator}{r:R2}(ho:QOp X (binaryOp op) r) (ha:QE X a ta) (hb:QE X b tb):QE X (.BinOp a op b pos) (tOp r ta tb):=⟨Z0l ho.h ha.h hb.h⟩
theorem Vh {op:UnaryOp}{r:V->Hp->VK->Prop}(ho:QUn X (unaryOp op) r) (ha:QE X a ta):QE X (.UnaryOp op a pos) (tUn r ta):=⟨Z0m ho.h ha.h⟩
theorem Zz0 (ha:QE X a ta):QE X (.UnaryOp .Not a pos) (Zoh ta):=⟨Zza ha.h⟩
theorem Za7 {op} (h:QE X a ta):QE X (.BoolOp op [a] pos) ta:=⟨Zy8 h.h⟩
theorem Za8 {rest:List Expr}(ha:QE X a ta) (hb:QE X (.BoolOp .And (b::rest) pos) tb):QE X (.BoolOp .And (a::b::rest) pos) (Zog ta tb):=⟨Zy9 ha.h hb.h⟩
theorem Zvz (hc:QT X c tA) (ha:QE X a ta) (hb:QE X b tb):QE X (.IfExp c a b pos) (tIf tA ta tb):=⟨Zu2 hc.h ha.h hb.h⟩
theorem Zb5:QO X none Zmr:=⟨Zxp⟩
theorem Zb6 (h:QE X e te):QO X (some e) (Zon te):=⟨Zxq h.h⟩
theorem Zb0 {lo hi:Option Expr}{tl th:TO}{r:V->Option Int->Option Int->Hp->VK->Prop}(hr:QSl X r) (he:QE X e te) (hl:QO X lo tl) (hu:QO X hi th):QE X (.Subscript e (.Slice lo hi none p2) pos) (tSl r te tl th):=⟨Zvh hr.h he.h hl.h hu.h⟩
theorem Zk {r:R2}(hr:QIx X r) (ha:QE X a ta) (hb:QE X b tb) (hs:Zmt b):QE X (.Subscript a b pos) (tOp r ta tb):=⟨Z0t hr.h ha.h hb.h hs⟩
theorem Zq {k:Nat}{ps:List Str}{sp:Sp}{t:TA}(F:Fn X.prog X.w X.K X.mg X.base x ps k sp) (hr:Room k X.A) (n:Nm X.env.scope x .globalImplicit) (ha:QA X (e::es) t)
  (he:starEach (e::es) X.env=(false,eval e X.env)::starEach es X.env:=by rfl) (hpl:(backTo pos (starEach es X.env)).any (·.1)=false:=by rfl) :
  QE X (.Call (.Name x p) (e::es) [] pos) (tFn sp t):=⟨Zzy F hr n ha.h he hpl⟩
theorem Z4 {t:TA}{id:String}{r:List V->Hp->VK->Prop}(hc:QC X (.builtin id) r) (n:Nm X.env.scope x .globalImplicit) (hm:X.mg x=none) (hv:bootBuiltins x=some (.builtin id)) (ha:QA X (e::es) t)
  (he:starEach (e::es) X.env=(false,eval e X.env)::starEach es X.env:=by rfl) (hpl:(backTo pos (starEach es X.env)).any (·.1)=false:=by rfl):QE X (.Call (.Name x p) (e::es) [] pos) (tCB r t):=⟨Zt7 hc.h n hm hv ha.h he hpl⟩
theorem Zs5 {t:TA}{T:String}{r:List V->Hp->VK->Prop}(hc:QC X (.type T) r) (n:Nm X.env.scope x .globalImplicit) (hm:X.mg x=none) (hv:bootBuiltins x=some (.type T)) (ha:QA X (e::es) t)
  (he:starEach (e::es) X.env=(false,eval e X.env)::starEach es X.env:=by rfl) (hpl:(backTo pos (starEach es X.env)).any (·.1)=false:=by rfl):QE X (.Call (.Name x p) (e::es) [] pos) (tCB r t):=⟨Zs3 hc.h n hm hv ha.h he hpl⟩
theorem Wi {o:Expr}{to:TE}{t:TA}{name:Str}{apos cpos:Pos}{T id:String}{r:V->List V->Hp->VK->Prop}(pa:PlainAttrs T) (slot:Slot T name id) (hty:typeOf (.builtin id)=pure (.type "method_descriptor")) (hm:QM X id r) (ho:QE X o to) (ha:QA X (e::es) t)
  (hbase:attributeBase o name X.env (eval o X.env)=eval o X.env:=by rfl)
  (hfew:((backTo cpos (starEach (e::es) X.env)).all (fun x=>!x.1) && (backToKw cpos (keywordEach [] X.env)).all (fun x=>x.1.isSome)
   && decide ((e::es).length+([]:List Keyword).length+(if ([]:List Keyword).isEmpty then 0 else 1) < 30))=true:=by rfl)
  (hline:(apos.endLine == cpos.line)=true:=by rfl) (hs:starEach (e::es) X.env=(false,eval e X.env)::starEach es X.env:=by rfl) (hplain:(backTo cpos (starEach es X.env)).any (·.1)=false:=by rfl) :
  QE X (.Call (.Attribute o name apos) (e::es) [] cpos) (tBM X.K T r to t):=⟨Z0u pa slot hty hm.h ho.h ha.h hbase hfew hline hs hplain⟩
theorem Yy:QOp X (binaryOp .Add) (rI0 fun i j=>.int (i+j)):=⟨Zzf⟩
theorem Zb7:QOp X (binaryOp .Sub) (rI0 fun i j=>.int (i - j)):=⟨Zzg⟩
theorem Zmx:QOp X (binaryOp .Mult) (rI CMul fun i j=>.int (i * j)):=⟨Zzh⟩
theorem Zfu:QOp X (binaryOp .FloorDiv) (rI Zi1 fun i j=>.int (i / j)):=⟨Zxf⟩
theorem Za3:QOp X (binaryOp .Mod) (rI (fun _ j=>0 < j) fun i j=>.int (i % j)):=⟨Zzi⟩
theorem Zx6:QOp X (binaryOp .Pow) (rI Zi2 fun i j=>.int (i ^ j.toNat)):=⟨Zzj⟩
theorem Vi:QUn X (unaryOp .USub) (rU fun i=>.int (-i)):=⟨Zzx⟩
def Zo0 (g:Str->Str->V):R2:=fun x y H Q=>∃ i j,x = .str i/\y = .str j/\Q (g i j) H
theorem Zky:QOp X (compareOp .LtE) (Zo0 fun i j=>.bl (!decide (j.cps.toList < i.cps.toList))):=⟨Zt6⟩
theorem Zkz:QOp X (compareOp .Lt) (Zo0 fun i j=>.bl (decide (i.cps.toList < j.cps.toList))):=⟨Ztu⟩
def Z01:R2:=fun x y H Q=>∃ i j,x = .str i/\y = .str j/\i.length+j.length<=sizeLine/\Q (.str (i++j)) H
theorem Zde:QOp X (binaryOp .Add) Z01:=⟨Zsu⟩
theorem Vw:QOp X (compareOp .Eq) rEq:=⟨Z0n⟩
theorem Za9:QOp X (compareOp .NotEq) rNe:=⟨Z0o⟩
theorem Zaf:QOp X (compareOp .Lt) (rI0 fun i j=>.bl (decide (i < j))):=⟨Z0p⟩
theorem Wn:QOp X (compareOp .LtE) (rI0 fun i j=>.bl (decide (i<=j))):=⟨Z0q⟩
theorem Zd3:QOp X (compareOp .Gt) (rI0 fun i j=>.bl (decide (j < i))):=⟨Z0r⟩
theorem Zd4:QOp X (compareOp .GtE) (rI0 fun i j=>.bl (decide (j<=i))):=⟨Z0s⟩
def Z7a:R2:=fun x y H Q=>y = .non/\Q (.bl (decide (x = .non))) H
def Z02:R2:=fun x y H Q=>y = .non/\Q (.bl (!decide (x = .non))) H
theorem Zgb:QOp X (compareOp .Is) Z7a:=⟨Zzk⟩
theorem Zdj:QOp X (compareOp .IsNot) Z02:=⟨Zxg⟩
theorem Zrw:QOp X (compareOp .NotIn) (rIn X.K true):=⟨Zr4⟩
theorem Zv:QIx X (Zi5 X.K):=⟨Zmu⟩
theorem Yl:QIx X (Zem X.K):=⟨Zgv⟩
theorem Zgc:QIx X Zrc:=⟨Zzq⟩
theorem Zv0:QSl X (Zrd X.K):=⟨Zxr⟩
def Z7b:V->Option Int->Option Int->Hp->VK->Prop:=fun x lo hi H Q=>∃ z,x = .str z/\z.length<=sizeLine/\Q (.str (Txt.slice z lo hi)) H
theorem Zdq:QSl X Z7b:=⟨Zzw⟩
def Zx7 (K:PySem.W.Frag):List V->Hp->VK->Prop:=fun xs H Q=>∃ p ys,xs = [.ref p]/\(SqL K H p ys\/SqT K H p ys)/\Q (.int ys.length) H
theorem Vm:QC X (.builtin "len") (Zx7 X.K):=⟨Zr5⟩
def Z03:List V->Hp->VK->Prop:=fun xs H Q=>∃ z,xs = [.str z]/\z.length<=sizeLine/\Q (.int z.length) H
theorem Zfb:QC X (.builtin "len") Z03:=⟨Zr6⟩
def Z04:List V->Hp->VK->Prop:=fun xs H Q=>∃ i j,xs = [.int i,.int j]/\Q (.int (if j > i then j else i)) H
theorem Zk0 (hc:X.calm=true):QC X (.builtin "max") Z04:=⟨Ztv hc⟩
def Z7c (K:PySem.W.Frag):List V->Hp->VK->Prop:=fun xs H Q=>∃ (a:Addr) (bs:List Bool),xs = [.ref a]/\SqL K H a (bs.map V.bl)/\Q (.bl (bs.all id)) H
theorem Zt9 (hc:X.calm=true):QC X (.builtin "all") (Z7c X.K):=⟨Zvr hc⟩
def Zx8 (K:PySem.W.Frag):List V->Hp->VK->Prop:=fun xs H Q=>∃ (a:Addr) (ns:List Int),xs = [.ref a]/\SqL K H a (ns.map V.int)/\ns.length < 64 /\
  ∀ (l:Addr) (ms:List Int),H l=none->ms.Perm ns->ms.Pairwise (· <= ·)->Q (.ref l) (upd H l (.lst (ms.map V.int)))
theorem Zkp:QC X (.builtin "sorted") (Zx8 X.K):=⟨Zsi⟩
def Zx9 (K:PySem.W.Frag):List V->Hp->VK->Prop:=fun xs H Q=>∃ x n t b,xs = [x,.ty n]/\TyOf K H x t/\PySem.W.kitOne K t (.type n)=some b/\Q (.bl b) H
theorem Vn:QC X (.builtin "isinstance") (Zx9 X.K):=⟨Zsh⟩
def Zya (K:PySem.W.Frag):List V->Hp->VK->Prop:=fun xs H Q=>∃ p ys,xs = [.ref p]/\(SqL K H p ys\/SqT K H p ys)/\∀ l,H l=none->Q (.ref l) (upd H l (.lst ys))
theorem Zrx:QC X (.type "list") (Zya X.K):=⟨Zr7⟩
def Z05 (K:PySem.W.Frag):V->List V->Hp->VK->Prop:=fun x xs H Q=>∃ sep a ys,x = .str sep/\xs = [.ref a]/\SqL K H a (ys.map V.str)/\(ys.map (·.length)).sum+ys.length * sep.length<=16777216/\Q (.str (Txt.join sep ys)) H
theorem Zv1:QM X "str.join" (Z05 X.K):=⟨Zx2⟩
theorem Wu:QM X "list.append" Zdo:=⟨Zt0⟩
end
section
variable {g:TG}{tb:TS}{D:Ends}{σ:St}{H:Hp}
theorem Zfg {lo:Int}{n:Nat}(m:Nat) (hm:n=m) (Pv:Nat->St->Hp->Prop) (h0:Pv 0 σ H)
  (hs:∀ i σ H,i < m->Pv i σ H->g (.int (lo+i)) σ H fun σ2 H2=>tb {D with nx:=Pv (i+1),ct:=Pv (i+1),bk:=D.nx } σ2 H2) (hd:∀ σ H,Pv m σ H->D.nx σ H):Zae (Itr lo n) g tb D σ H:=by
 subst hm
 exact Ztt Pv h0 hs hd
theorem Zag {K:PySem.W.Frag}{a:Addr}(xs:List V) (Pv:Nat->St->Hp->Prop) (h0:Pv 0 σ H) (hl:∀ i σ H,i<=xs.length->Pv i σ H->SqL K H a xs)
  (hs:∀ i x σ H,xs[i]? = some x->Pv i σ H->g x σ H fun σ2 H2=>tb {D with nx:=Pv (i+1),ct:=Pv (i+1),bk:=D.nx } σ2 H2) (hd:∀ σ H,Pv xs.length σ H->D.nx σ H):Zae (Itl K a) g tb D σ H:=Zu7 Pv h0 hl hs hd
end
section
variable {X:Cx}{tg elt iter:Expr}{ifs:List Expr}{scope:Scope}{pos:Pos}{locs:List Str}{fr:List (Str×Nat)}{g:TG}{tt:TTs}{te:TE}
theorem Zdr:QTs X [] (fun _ H Q=>Q true H):=⟨Zxz⟩
theorem Zgd {c:Expr}{t:TT}(h:QT X c t):QTs X [c] t:=⟨Zx0 h.h⟩
structure Inn (X:Cx) (scope:Scope) (N':List Str) (tg:Expr) (ifs:List Expr) (elt:Expr) (g:TG) (tt:TTs) (te:TE):Prop where
 h:∀ (cl:List (Str×Addr)) (C:Addr) (s0:Shared) (H0:Hp) (ex:List Addr) (pn:List (Addr×Obj)),QG (ccx X scope cl C N' s0 H0 ex pn) tg g/\QTs (ccx X scope cl C N' s0 H0 ex pn) ifs tt/\QE (ccx X scope cl C N' s0 H0 ex pn) elt te
theorem Za0 {wi:TI}(S:CompOk X scope locs fr) (F:FrOk X scope fr) (hc:X.calm=true) (hi:QI X tg iter wi) (inner:Inn X scope (inN locs fr) tg ifs elt g tt te)
  (hs:∀ x,foldedSetIterable iter X.env x=pure x:=by intro _; rfl):QE X (.ListComp elt [⟨tg,iter,ifs,0⟩] scope pos) (Zef locs.length fr wi g tt te) :=
 ⟨Zvp S F hc hi.h (fun cl C s0 H0 ex pn=>let ⟨a,b,c⟩:=inner.h cl C s0 H0 ex pn; ⟨a.h,b.h,c.h⟩) hs⟩
theorem Zyb {wi:TI}{i:Nat}{x:Str}{pos' spos:Pos}(S:CompOk X scope locs fr) (F:FrOk X scope fr) (hc:X.calm=true) (hi:QI X tg iter wi) (inner:Inn X scope (inN locs fr) tg ifs elt g tt te)
  (hN:X.N.Nodup) (n:Nm X.env.scope x .local) (hsw:swapsWith (.ListComp elt [⟨tg,iter,ifs,0⟩] scope pos) (some (.Name x pos')) spos.line X.env=pure true) (hi0:X.N[i]? = some x:=by rfl)
  (hs:∀ x,foldedSetIterable iter X.env x=pure x:=by intro _; rfl):QS X (.Assign [.Name x pos'] (.ListComp elt [⟨tg,iter,ifs,0⟩] scope pos) spos) (V2 (Zef locs.length fr wi g tt te) (Yx i)) :=
 ⟨Zx1 S F hc hi.h (fun cl C s0 H0 ex pn=>let ⟨a,b,c⟩:=inner.h cl C s0 H0 ex pn; ⟨a.h,b.h,c.h⟩) hN hi0 n.1 hsw hs⟩
end
section
variable {X:Cx}{scope:Scope}{cl:List (Str×Addr)}{C:Addr}{N':List Str}{s0:Shared}{H0:Hp}{ex:List Addr}{pn:List (Addr×Obj)}{x:Str}{pos:Pos}
theorem V3 (i:Nat) (n:Nm scope x .local:=by decide +kernel) (hN:N'[i]? = some x:=by rfl):QE (ccx X scope cl C N' s0 H0 ex pn) (.Name x pos) (Yh i):=⟨Z67 i n hN⟩
theorem Zas (i:Nat) (n:Nm scope x .free:=by decide +kernel) (hN:N'[i]? = some x:=by rfl):QE (ccx X scope cl C N' s0 H0 ex pn) (.Name x pos) (Yh i):=⟨Z68 i n hN⟩
theorem Uj (i:Nat) (hnd:N'.Nodup) (n:Nm scope x .local:=by decide +kernel) (hN:N'[i]? = some x:=by rfl):QG (ccx X scope cl C N' s0 H0 ex pn) (.Name x pos) (Yx i):=⟨Z69 i hnd n hN⟩
end
section
variable {P:Program}{w:World}{K:PySem.W.Frag}{mg:Str->Option Value}{base:Heap}
theorem Has.fnQ {x:Str}{st:Stmt}{N ps:List Str}{k:Nat}{sp:Sp}(h:Has K mg x st) (S:FnScope N ps (Za st))
  (hb:∀ (kV doc pm:Value) (an:Option Addr) (cdv ct:Value) (us:List Value),us.length=ps.length->bindArgs (PySem.W.fnOf x x (Wt st) (Yt st) (Za st) .none kV doc pm an cdv ct) ⟨us,[]⟩=pure (ps.zip us))
  (len:∀ vs H Q E,sp vs H Q E->vs.length=ps.length)
  (hbody:∀ (f:Addr) (cdv:Value) (A:Around) (outer:List Env) (s:Shared) (H:Hp) (vs:List V) (Q:VK) (E:XK),Room k (A.deeper (envOfC x (Za st) s.heap.objs.size f cdv))->sp vs H Q E ->
   ∃ t,QSs (Yi CX0 P w K mg base N x (Za st) f cdv A outer s H E).nox (Yt st) t/\t {nx:=fun _ H'=>Q .non H',rt:=Q } (start N vs) H):Fn P w K mg base x ps (k+1) sp :=
 h.fn S hb len fun f cdv A outer s H vs Q E hr q=>let ⟨t,a,b⟩:=hbody f cdv A outer s H vs Q E hr q; ⟨t,a.h,b⟩
end
end L2
namespace L2
open PySem PySem.Spec PyProof.Rows
theorem Zmy {t u:TS}{D:Ends}{σ:St}{H:Hp}(R:St->Hp->Prop) (hu:∀ σ' H',R σ' H'->u D σ' H')
  (ht:∀ D':Ends,(∀ σ' H',R σ' H'->D'.nx σ' H')->(∀ v H',D.rt v H'->D'.rt v H')->(∀ σ' H',D.bk σ' H'->D'.bk σ' H')->(∀ σ' H',D.ct σ' H'->D'.ct σ' H')->t D' σ H):Zbh t u D σ H :=
 ht {D with nx:=u D } hu (fun _ _ h=>h) (fun _ _ h=>h) (fun _ _ h=>h)
theorem Zk1 {a b:Nat}:(([a]:List Nat) < [b])↔a < b:=by
 constructor
 ·intro h
  rcases List.cons_lt_cons_iff.mp h with z | ⟨_,z⟩
  ·exact z
  ·exact absurd z (by simp)
 ·intro h
  exact List.cons_lt_cons_iff.mpr (.inl h)
end L2
namespace L2
theorem Ye {i:Nat}{v:V}{σ:St}{H:Hp}{Q:St->Hp->Prop}(h:Q (σ.set i (some v)) H):Yx i v σ H Q:=h
end L2
namespace L2
open PySem PySem.Spec PyProof.Rows
theorem Fun.okQ {P:Program}{w:World}{K:PySem.W.Frag}{mg:Str->Option Value}{base:Heap}{x qual:Str}{st:Stmt}{f:Addr}{fd:FuncData}{N ps:List Str}{k:Nat}{sp:Sp}(F:Fun K x qual st f fd) (S:FnScope N ps (Za st)) (len:∀ vs H Q E,sp vs H Q E->vs.length=ps.length)
  (hbody:∀ (cdv:Value) (A:Around) (outer:List Env) (s:Shared) (H:Hp) (vs:List V) (Q:VK) (E:XK),Room k (A.deeper (envOfC qual (Za st) s.heap.objs.size f cdv))->sp vs H Q E ->
   ∃ t,QSs (Yi CX0 P w K mg base N qual (Za st) f cdv A outer s H E).nox (Yt st) t/\t {nx:=fun _ H'=>Q .non H',rt:=Q } (start N vs) H):FnOk P w K mg base CX0 (k+1) f fd ps sp :=
 F.ok S len fun cdv A outer s H vs Q E hr q=>let ⟨t,a,b⟩:=hbody cdv A outer s H vs Q E hr q; ⟨t,a.h,b⟩
end L2
namespace L2
open PySem PySem.Spec PyProof.Rows
section
variable {X:Cx}{scope:Scope}{cl:List (Str×Addr)}{C:Addr}{N':List Str}{s0:Shared}{H0:Hp}{ex:List Addr}{pn:List (Addr×Obj)}{x:Str}{pos:Pos}{es:List Expr}{k:Nat}{t:TGs}
theorem Zmz (n:Nat) (hc:X.calm=true) (h:QGs (ccx X scope cl C N' s0 H0 ex pn) es t) (hn:(assignEach es (ccx X scope cl C N' s0 H0 ex pn).env).length=n:=by rfl) (hst:(assignEach es (ccx X scope cl C N' s0 H0 ex pn).env).findIdx? (·.1)=none:=by rfl) :
  QG (ccx X scope cl C N' s0 H0 ex pn) (.Tuple es k pos) (Ziz X.K n t):=⟨Znr (X:=ccx X scope cl C N' s0 H0 ex pn) hc h.h hn hst⟩
theorem Zua:QIx (ccx X scope cl C N' s0 H0 ex pn) (Zi5 X.K):=⟨Zmu (X:=ccx X scope cl C N' s0 H0 ex pn)⟩
theorem Zv2:QIx (ccx X scope cl C N' s0 H0 ex pn) (Zem X.K):=⟨Zgv (X:=ccx X scope cl C N' s0 H0 ex pn)⟩
end
end L2
end
section
set_option Elab.async false
set_option linter.all false
set_option maxRecDepth 100000
set_option maxHeartbeats 4000000
namespace L2
open PySem PySem.Spec PyProof.Rows
structure Drw (P:Program) (w:World) (it l:Addr) (St:Nat->Heap->Prop) (Hs:Heap->List Value->Prop):Prop where
 obj:∀ k h,St k h->∃ o,h.get? it=some o/\∀ v,o.data ≠ .cell v
 keep:∀ k h h',St k h->(∀ o,h.get? it=some o->h'.get? it=some o)->St k h'
 src:∀ h h' its,Hs h its->(∀ o,h.get? l=some o->h'.get? l=some o)->Hs h' its
 item:∀ (A:Around) (k:Nat) (s:Shared) (its:List Value) (x:Value) (Q:Value->Shared->Prop) (E:Value->Shared->Prop),St k s.heap->Hs s.heap its->its[k]? = some x ->
  (∀ h',St (k+1) h'->Heap.SameBut it s.heap h'->Q x {s with heap:=h' })->wpAny (model P w) A (Builtin.SmallTypes.nextOf (.ref it)) Q E s
 done:∀ (A:Around) (k:Nat) (s:Shared) (its:List Value) (Q:Value->Shared->Prop) (E:Value->Shared->Prop),A.handled=none->St k s.heap->Hs s.heap its->its[k]? = none ->
  (∀ h' e,Heap.ExtBut it s.heap h'->(∃ o,h'.get? e=some o/\o.cls = .type "StopIteration")->E (.ref e) {s with heap:=h' })->wpAny (model P w) A (Builtin.SmallTypes.nextOf (.ref it)) Q E s
theorem Zl3 {P:Program}{w:World}(it l:Addr):Drw P w it l (fun k h=>h.IsListIter it l k) (fun h its=>h.IsList l its.toArray) where
 obj:=fun k h st=>by
  obtain ⟨o,e,c,d⟩:=st
  exact ⟨o,e,fun v z=>by rw [d] at z; cases z⟩
 keep:=fun k h h' st kk=>st.at kk
 src:=fun h h' its hl kk=>hl.at kk
 item:=fun A k s its x Q E st hl hx hQ=>wpAny_nextOf_list_item st hl (by simpa using hx) hQ
 done:=fun A k s its Q E hh st hl hx hE=>wpAny_nextOf_list_end hh st hl (by simpa using hx) hE
section
variable {P:Program}{w:World}{A:Around}{E:Value->Shared->Prop}{s:Shared}
theorem Zs6 {it t:Addr}{k:Nat}{its:List Value}{x:Value}{Q:Value->Shared->Prop}(st:s.heap.IsTupleIter it t k) (ht:s.heap.IsTuple t its.toArray) (hx:its[k]? = some x)
  (hQ:∀ h',h'.IsTupleIter it t (k+1)->Heap.SameBut it s.heap h'->Q x {s with heap:=h' }):wpAny (model P w) A (Builtin.SmallTypes.nextOf (.ref it)) Q E s:=by
 obtain ⟨o,ho,hc,hd⟩:=id st
 obtain ⟨ot,hot,_,nt,hdt⟩:=id ht
 unfold Builtin.SmallTypes.nextOf
 refine wpAny_bind (wpAny_callSpecial?_slot (name:=Str.ofString "__next__") st.typeIs F.slot_tuple_iterator_next (wpAny_call_entry F.slot_tuple_iterator_next st.typeIs F.entry_tuple_iterator_next ?_ (F.args_tuple_iterator_next_1 _)))
 show wpAny _ _ (field (.ref it) 0 >>= _) _ _ s
 refine wpAny_bind (wpAny_field ho hd (x:=.ref t) rfl ?_)
 show wpAny _ _ (if (Value.ref t == Value.none)=true then _ else _) _ _ s
 rw [if_neg (show ¬ ((Value.ref t == Value.none)=true) from Bool.false_ne_true)]
 show wpAny _ _ (field (.ref it) 1 >>= _) _ _ s
 refine wpAny_bind (wpAny_field ho hd (x:=.int k 0) rfl ?_)
 show wpAny _ _ (seqItems? (.ref t) >>= _) _ _ s
 refine wpAny_bind (wpAny_seqItems hot hdt ?_)
 have hx':its.toArray[k]? = some x:=by simpa using hx
 simp only [Int.toNat_natCast,hx']
 refine wpAny_bind (wpAny_setField ho hd (by simp) ?_)
 refine wpAny_pure ⟨_,rfl,wpAny_pure (hQ _ ?_ (Heap.SameBut.update ..))⟩
 refine ⟨_,Heap.get?_update_self _ ho ?_,?_,?_⟩
 ·obtain ⟨c,d,dt,sl⟩:=o; subst hd; rfl
 ·obtain ⟨c,d,dt,sl⟩:=o; subst hd; exact hc
 ·obtain ⟨c,d,dt,sl⟩:=o; subst hd; rfl
theorem Zub {it t:Addr}{k:Nat}{its:List Value}{Q:Value->Shared->Prop}(hh:A.handled=none) (st:s.heap.IsTupleIter it t k) (ht:s.heap.IsTuple t its.toArray) (hx:its[k]? = none)
  (hE:∀ h' e,Heap.ExtBut it s.heap h'->(∃ o,h'.get? e=some o/\o.cls = .type "StopIteration")->E (.ref e) {s with heap:=h' }):wpAny (model P w) A (Builtin.SmallTypes.nextOf (.ref it)) Q E s:=by
 obtain ⟨o,ho,hc,hd⟩:=id st
 obtain ⟨ot,hot,_,nt,hdt⟩:=id ht
 unfold Builtin.SmallTypes.nextOf
 refine wpAny_bind (wpAny_callSpecial?_slot (name:=Str.ofString "__next__") st.typeIs F.slot_tuple_iterator_next (wpAny_call_entry F.slot_tuple_iterator_next st.typeIs F.entry_tuple_iterator_next ?_ (F.args_tuple_iterator_next_1 _)))
 show wpAny _ _ (field (.ref it) 0 >>= _) _ _ s
 refine wpAny_bind (wpAny_field ho hd (x:=.ref t) rfl ?_)
 show wpAny _ _ (if (Value.ref t == Value.none)=true then _ else _) _ _ s
 rw [if_neg (show ¬ ((Value.ref t == Value.none)=true) from Bool.false_ne_true)]
 show wpAny _ _ (field (.ref it) 1 >>= _) _ _ s
 refine wpAny_bind (wpAny_field ho hd (x:=.int k 0) rfl ?_)
 show wpAny _ _ (seqItems? (.ref t) >>= _) _ _ s
 refine wpAny_bind (wpAny_seqItems hot hdt ?_)
 have hx':its.toArray[k]? = none:=by simpa using hx
 simp only [Int.toNat_natCast,hx']
 refine wpAny_bind (wpAny_rule (wpAny_bind (wpAny_setField ho hd (by simp) ?_)))
 show wpAny _ _ (newExc (.type "StopIteration") [] >>= _) _ _ _
 refine wpAny_bind ?_
 simp only [newExc,newTuple]
 refine wpAny_bind (wpAny_newObj_type ?_ (by size_fits))
 refine wpAny_bind (m:=firstArgMember _ _) (wpAny_of_eq (a:=Value.none) (by first | rfl | (simp only [firstArgMember]; rfl)) ?_)
 refine wpAny_newObj_type ?_ (by size_fits)
 simp only [raiseNew]
 refine wpAny_bind (wpAny_handled ?_)
 first | rw [show A.in1.handled=none from hh] | rw [hh]
 refine wpAny_bind (wpAny_pure (wpAny_throw ?_))
 exact hE _ _ (((Heap.SameBut.update ..).extBut.push _).push _) ⟨_,Heap.get?_push_size _ rfl,rfl⟩
end
theorem Zli {P:Program}{w:World}(it l:Addr):Drw P w it l (fun k h=>h.IsTupleIter it l k) (fun h its=>h.IsTuple l its.toArray) where
 obj:=fun k h st=>by
  obtain ⟨o,e,c,d⟩:=st
  exact ⟨o,e,fun v z=>by rw [d] at z; cases z⟩
 keep:=fun k h h' st kk=>st.at kk
 src:=fun h h' its hl kk=>let ⟨o,e,r⟩:=hl; ⟨o,kk o e,r⟩
 item:=fun A k s its x Q E st hl hx hQ=>Zs6 st hl hx hQ
 done:=fun A k s its Q E hh st hl hx hE=>Zub hh st hl hx hE
structure ZA (z TI TO i1 i2 l1 l2:Addr):Prop where
 a1:TI≠z
 a2:TO≠z
 a3:i1≠z
 a4:i2≠z
 a5:TI≠TO
 a6:TI≠i1
 a7:TI≠i2
 a8:TO≠i1
 a9:TO≠i2
 a10:i1≠i2
 b1:l1≠z
 b2:l1≠TO
 b3:l1≠i1
 b4:l1≠i2
 b5:l2≠z
 b6:l2≠TO
 b7:l2≠i1
 b8:l2≠i2
section
variable {P:Program}{w:World}{A:Around}{E:Value->Shared->Prop}{s:Shared}{z TI TO i1 i2 l1 l2:Addr}{S1 S2:Nat->Heap->Prop}{H1 H2:Heap->List Value->Prop}{k:Nat}{xs ys:List Value}{x y a b:Value}
theorem Zuc {Q:Value->Shared->Prop}(Z:ZA z TI TO i1 i2 l1 l2) (D1:Drw P w i1 l1 S1 H1) (D2:Drw P w i2 l2 S2 H2) (hz:IsZip s.heap z TI TO .none) (hTI:IsPair s.heap TI (.ref i1) (.ref i2)) (hTO:IsPair s.heap TO a b)
  (st1:S1 k s.heap) (st2:S2 k s.heap) (h1:H1 s.heap xs) (h2:H2 s.heap ys) (hx:xs[k]? = some x) (hy:ys[k]? = some y)
  (hQ:∀ h',IsZip h' z TI TO (rawInt s.heap.objs.size)->IsPair h' TO x y->S1 (k+1) h'->S2 (k+1) h'->IsPair h' s.heap.objs.size x y ->
   (∀ c o,c≠z->c≠TO->c≠i1->c≠i2->s.heap.get? c=some o->h'.get? c=some o)->Q (.ref s.heap.objs.size) {s with heap:=h' }) :
  wpAny (model P w) A (Builtin.«zip.__next__» ⟨[.ref z],[]⟩) (fun fin s'=>∃ v,fin = .done (.ret v)/\Q v s') E s:=by
 show wpAny _ _ (field (.ref z) 2 >>= _) _ _ _
 refine wpAny_bind (wpAny_field hz rfl (x:=.bool false) rfl ?_)
 show wpAny _ _ (field (.ref z) 3 >>= _) _ _ _
 refine wpAny_bind (wpAny_field hz rfl (x:=.ref TI) rfl (wpAny_bind (wpAny_seqItems hTI rfl ?_)))
 show wpAny _ _ (Builtin.SmallTypes.ownedTupleIsFree (.ref z) >>= _) _ _ _
 refine wpAny_bind ?_
 unfold Builtin.SmallTypes.ownedTupleIsFree
 refine wpAny_bind (wpAny_field hz rfl (x:=.none) rfl (wpAny_pure ?_))
 simp only [if_true]
 refine wpAny_bind (wpAny_rule (wpAny_bind (wpAny_field hz rfl (x:=.ref TO) rfl (wpAny_bind (wpAny_setField_rec hz (by simp) fun g1 z1 e1=>?_)))))
 replace z1:IsZip g1 z TI TO .ellipsis:=z1
 refine wpAny_bind ?_
 simp only [List.zipIdx_cons,List.zipIdx_nil,List.forIn_cons,List.forIn_nil]
 refine wpAny_bind (wpAny_bind (wpAny_onRaise ?_))
 show wpAny _ _ (Builtin.SmallTypes.nextOf (.ref i1) >>= _) _ _ _
 refine wpAny_bind (D1.item _ k _ xs x _ _ (D1.keep _ _ _ st1 fun o e=>e1.extBut _ _ Z.a3 e) (D1.src _ _ _ h1 fun o e=>e1.extBut _ _ Z.b1 e) hx fun g2 s12 e2=>wpAny_pure ?_)
 have t2:IsPair g2 TO a b:=e2.extBut _ _ Z.a8 (e1.extBut _ _ Z.a2 hTO)
 refine wpAny_bind (wpAny_seqItems t2 rfl (wpAny_bind (wpAny_updateSeq_pair t2 fun g3 t3 e3=>?_)))
 replace t3:IsPair g3 TO x b:=t3
 refine wpAny_bind (wpAny_letGo (wpAny_pure (wpAny_bind (wpAny_bind (wpAny_onRaise ?_)))))
 show wpAny _ _ (Builtin.SmallTypes.nextOf (.ref i2) >>= _) _ _ _
 have up3:∀ c o,c≠z->c≠TO->c≠i1->s.heap.get? c=some o->g3.get? c=some o:=fun c o c1 c2 c3 e=>e3.extBut _ _ c2 (e2.extBut _ _ c3 (e1.extBut _ _ c1 e))
 refine wpAny_bind (D2.item _ k _ ys y _ _ (D2.keep _ _ _ st2 fun o e=>up3 _ _ Z.a4 Z.a9.symm Z.a10.symm e) (D2.src _ _ _ h2 fun o e=>up3 _ _ Z.b5 Z.b6 Z.b7 e) hy fun g4 s24 e4=>wpAny_pure ?_)
 have t4:IsPair g4 TO x b:=e4.extBut _ _ Z.a9 t3
 refine wpAny_bind (wpAny_seqItems t4 rfl (wpAny_bind (wpAny_updateSeq_pair t4 fun g5 t5 e5=>?_)))
 replace t5:IsPair g5 TO x y:=t5
 refine wpAny_bind (wpAny_letGo (wpAny_pure (wpAny_pure (wpAny_bind (wpAny_seqItems t5 rfl (wpAny_bind (wpAny_newTuple ?_)))))))
 have size5:g5.objs.size=s.heap.objs.size:=by rw [e5.1,e4.1,e3.1,e2.1,e1.1]
 have z5:IsZip g5 z TI TO .ellipsis:=e5.extBut _ _ Z.a2.symm (e4.extBut _ _ Z.a4.symm (e3.extBut _ _ Z.a2.symm (e2.extBut _ _ Z.a3.symm z1)))
 have up5:∀ c o,c≠z->c≠TO->c≠i1->c≠i2->s.heap.get? c=some o->g5.get? c=some o:=fun c o c1 c2 c3 c4 e=>e5.extBut _ _ c2 (e4.extBut _ _ c4 (up3 c o c1 c2 c3 e))
 have s15:S1 (k+1) g5:=D1.keep _ _ _ s12 fun o e=>e5.extBut _ _ Z.a8.symm (e4.extBut _ _ Z.a10 (e3.extBut _ _ Z.a8.symm e))
 have s25:S2 (k+1) g5:=D2.keep _ _ _ s24 fun o e=>e5.extBut _ _ Z.a9.symm e
 have zlt:z < g5.objs.size:=Heap.lt_size z5
 show wpAny _ _ (Builtin.SmallTypes.ownedTupleHandOut (.ref z) (.ref g5.objs.size) >>= _) _ _ _
 refine wpAny_bind ?_
 unfold Builtin.SmallTypes.ownedTupleHandOut
 have z6:IsZip (g5.push {cls:=.type "tuple", data:=.seq #[x,y] }) z TI TO .ellipsis:=Heap.get?_push_of_some _ z5
 refine wpAny_bind (wpAny_setField_rec z6 (by simp) fun g7 z7 e7=>?_)
 replace z7:IsZip g7 z TI TO (rawInt g5.objs.size):=z7
 refine wpAny_setField_rec z7 (by simp) fun g8 z8 e8=>?_
 replace z8:IsZip g8 z TI TO (rawInt g5.objs.size):=z8
 have up8:∀ c o,c≠z->g5.get? c=some o->g8.get? c=some o:=fun c o c1 e=>e8.extBut _ _ c1 (e7.extBut _ _ c1 (Heap.get?_push_of_some _ e))
 have p8:IsPair g8 g5.objs.size x y:=e8.extBut _ _ (Nat.ne_of_gt zlt) (e7.extBut _ _ (Nat.ne_of_gt zlt) (Heap.get?_push_size _ rfl))
 rw [size5] at z8 p8
 refine wpAny_pure ⟨_,rfl,?_⟩
 show Q (.ref g5.objs.size) _
 rw [size5]
 exact hQ g8 z8 (up8 _ _ Z.a2 t5) (D1.keep _ _ _ s15 fun o e=>up8 _ _ Z.a3 e) (D2.keep _ _ _ s25 fun o e=>up8 _ _ Z.a4 e) p8 fun c o c1 c2 c3 c4 e=>up8 c o c1 (up5 c o c1 c2 c3 c4 e)
theorem Zv3 {Q:PySem.Fin->Shared->Prop}(hh:A.handled=none) (Z:ZA z TI TO i1 i2 l1 l2) (D1:Drw P w i1 l1 S1 H1) (D2:Drw P w i2 l2 S2 H2) (hz:IsZip s.heap z TI TO .none) (hTI:IsPair s.heap TI (.ref i1) (.ref i2)) (hTO:IsPair s.heap TO a b)
  (st1:S1 k s.heap) (st2:S2 k s.heap) (h1:H1 s.heap xs) (h2:H2 s.heap ys) (hend:xs[k]? = none\/ys[k]? = none)
  (hE:∀ h' e,(∀ c o,c≠z->c≠TO->c≠i1->c≠i2->s.heap.get? c=some o->h'.get? c=some o)->(∃ o,h'.get? e=some o/\o.cls = .type "StopIteration")->E (.ref e) {s with heap:=h' }) :
  wpAny (model P w) A (Builtin.«zip.__next__» ⟨[.ref z],[]⟩) Q E s:=by
 show wpAny _ _ (field (.ref z) 2 >>= _) _ _ _
 refine wpAny_bind (wpAny_field hz rfl (x:=.bool false) rfl ?_)
 show wpAny _ _ (field (.ref z) 3 >>= _) _ _ _
 refine wpAny_bind (wpAny_field hz rfl (x:=.ref TI) rfl (wpAny_bind (wpAny_seqItems hTI rfl ?_)))
 show wpAny _ _ (Builtin.SmallTypes.ownedTupleIsFree (.ref z) >>= _) _ _ _
 refine wpAny_bind ?_
 unfold Builtin.SmallTypes.ownedTupleIsFree
 refine wpAny_bind (wpAny_field hz rfl (x:=.none) rfl (wpAny_pure ?_))
 simp only [if_true]
 refine wpAny_bind (wpAny_rule (wpAny_bind (wpAny_field hz rfl (x:=.ref TO) rfl (wpAny_bind (wpAny_setField_rec hz (by simp) fun g1 z1 e1=>?_)))))
 replace z1:IsZip g1 z TI TO .ellipsis:=z1
 refine wpAny_bind ?_
 simp only [List.zipIdx_cons,List.zipIdx_nil,List.forIn_cons,List.forIn_nil]
 refine wpAny_bind (wpAny_bind (wpAny_onRaise ?_))
 show wpAny _ _ (Builtin.SmallTypes.nextOf (.ref i1) >>= _) _ _ _
 have st1':=D1.keep _ _ _ st1 fun o e=>e1.extBut _ _ Z.a3 e
 have h1':=D1.src _ _ _ h1 fun o e=>e1.extBut _ _ Z.b1 e
 cases hx:xs[k]? with
 | none =>
  refine wpAny_bind (D1.done _ k _ xs _ _ hh st1' h1' hx fun g2 e e2 ⟨oe,hoe,hce⟩=>?_)
  have z2:IsZip g2 z TI TO .ellipsis:=e2 _ _ Z.a3.symm z1
  have ne:e≠z:=fun q=>by subst q; rw [z2] at hoe; cases hoe; simp at hce
  exact wpAny_setField_rec z2 (by simp) fun g3 _ e3=>hE g3 e (fun c o c1 _ c3 _ q=>e3.extBut _ _ c1 (e2 _ _ c3 (e1.extBut _ _ c1 q))) ⟨oe,e3.extBut _ _ ne hoe,hce⟩
 | some x =>
  have hy:ys[k]? = none:=hend.elim (fun q=>by rw [hx] at q; cases q) id
  refine wpAny_bind (D1.item _ k _ xs x _ _ st1' h1' hx fun g2 s12 e2=>wpAny_pure ?_)
  have t2:IsPair g2 TO a b:=e2.extBut _ _ Z.a8 (e1.extBut _ _ Z.a2 hTO)
  refine wpAny_bind (wpAny_seqItems t2 rfl (wpAny_bind (wpAny_updateSeq_pair t2 fun g3 t3 e3=>?_)))
  refine wpAny_bind (wpAny_letGo (wpAny_pure (wpAny_bind (wpAny_bind (wpAny_onRaise ?_)))))
  show wpAny _ _ (Builtin.SmallTypes.nextOf (.ref i2) >>= _) _ _ _
  have up3:∀ c o,c≠z->c≠TO->c≠i1->s.heap.get? c=some o->g3.get? c=some o:=fun c o c1 c2 c3 e=>e3.extBut _ _ c2 (e2.extBut _ _ c3 (e1.extBut _ _ c1 e))
  refine wpAny_bind (D2.done _ k _ ys _ _ hh (D2.keep _ _ _ st2 fun o e=>up3 _ _ Z.a4 Z.a9.symm Z.a10.symm e) (D2.src _ _ _ h2 fun o e=>up3 _ _ Z.b5 Z.b6 Z.b7 e) hy fun g4 e e4 ⟨oe,hoe,hce⟩=>?_)
  have z4:IsZip g4 z TI TO .ellipsis:=e4 _ _ Z.a4.symm (e3.extBut _ _ Z.a2.symm (e2.extBut _ _ Z.a3.symm z1))
  have ne:e≠z:=fun q=>by subst q; rw [z4] at hoe; cases hoe; simp at hce
  exact wpAny_setField_rec z4 (by simp) fun g5 _ e5=>hE g5 e (fun c o c1 c2 c3 c4 q=>e5.extBut _ _ c1 (e4 _ _ c4 (up3 c o c1 c2 c3 q))) ⟨oe,e5.extBut _ _ ne hoe,hce⟩
end
structure SqK (sq:PySem.W.Frag->Hp->Addr->List V->Prop) (Hs:Addr->Heap->List Value->Prop):Prop where
 get:∀ {X:Cx}{pins:List (Addr×Obj)}{σ:St}{H:Hp}{s:Shared}{l:Addr}{xs:List V},Inv X pins σ H s->sq X.K H l xs->∃ its,Vals xs its/\Hs l s.heap its
 inj:∀ {X:Cx}{pins:List (Addr×Obj)}{σ:St}{H:Hp}{s:Shared}{l:Addr}{xs ys:List V},Inv X pins σ H s->sq X.K H l xs->sq X.K H l ys->xs=ys
theorem Zv4:SqK SqL (fun l h its=>h.IsList l its.toArray):=⟨fun I h=>let ⟨its,r,p,_⟩:=I.list h; ⟨its,r,p.isList⟩,fun I h h'=>I.list_inj h h'⟩
theorem Zyc:SqK SqT (fun l h its=>h.IsTuple l its.toArray):=⟨fun I h=>let ⟨its,r,p,_⟩:=I.tuple h; ⟨its,r,p⟩,fun I h h'=>I.tuple_inj h h'⟩
def Itz (sq:PySem.W.Frag->Hp->Addr->List V->Prop) (K:PySem.W.Frag) (l1 l2:Addr):It :=
 ⟨fun i H=>∃ xs ys,sq K H l1 xs/\sq K H l2 ys/\i < xs.length/\i < ys.length,fun i H v H'=>∃ p a b,v = .ref p/\H p=none/\H'=upd H p (.tup [a,b])/\∀ xs ys,sq K H l1 xs->sq K H l2 ys->xs[i]? = some a/\ys[i]? = some b,
  fun i H=>∃ xs ys,sq K H l1 xs/\sq K H l2 ys/\(xs.length<=i\/ys.length<=i)⟩
theorem Zv5 {P:Program}{w:World}{K:PySem.W.Frag}{elts:List Expr}{ek:Nat}{epos:Pos}{sq:PySem.W.Frag->Hp->Addr->List V->Prop}{Hs:Addr->Heap->List Value->Prop}{z TI TO i1 i2 l1 l2:Addr}{S1 S2:Nat->Heap->Prop}
  (SK:SqK sq Hs) (Z:ZA z TI TO i1 i2 l1 l2) (D1:Drw P w i1 l1 S1 (Hs l1)) (D2:Drw P w i2 l2 S2 (Hs l2)) :
  Turn P w K (.Tuple elts ek epos) (Itz sq K l1 l2) [z,TI,TO,i1,i2] z (fun i h=>IsZip h z TI TO .none/\IsPair h TI (.ref i1) (.ref i2)/\(∃ a b,IsPair h TO a b)/\S1 i h/\S2 i h) where
 mem:=by simp
 obj:=fun i h st b hb=>by
  obtain ⟨hz,hTI,⟨a,c,hTO⟩,s1,s2⟩:=st
  simp only [List.mem_cons,List.not_mem_nil,or_false] at hb
  rcases hb with rfl | rfl | rfl | rfl | rfl
  ·exact ⟨_,hz,fun v q=>by cases q⟩
  ·exact ⟨_,hTI,fun v q=>by cases q⟩
  ·exact ⟨_,hTO,fun v q=>by cases q⟩
  ·exact D1.obj _ _ s1
  ·exact D2.obj _ _ s2
 keep:=fun i h h' st k=>by
  obtain ⟨hz,hTI,⟨a,c,hTO⟩,s1,s2⟩:=st
  exact ⟨k z (by simp) _ hz,k TI (by simp) _ hTI,⟨a,c,k TO (by simp) _ hTO⟩,D1.keep _ _ _ s1 fun o e=>k i1 (by simp) o e,D2.keep _ _ _ s2 fun o e=>k i2 (by simp) o e⟩
 item:=by
  intro X hP hw hK hc i pins s σ H E I hf st hg
  subst hP hw hK
  obtain ⟨hz,hTI,⟨a,b,hTO⟩,s1,s2⟩:=st
  obtain ⟨xs,ys,q1,q2,hx,hy⟩:=hg
  obtain ⟨its1,r1,w1⟩:=SK.get I q1
  obtain ⟨its2,r2,w2⟩:=SK.get I q2
  have gx:xs[i]? = some xs[i]:=List.getElem?_eq_getElem hx
  have gy:ys[i]? = some ys[i]:=List.getElem?_eq_getElem hy
  obtain ⟨u1,hu1,ru1⟩:=r1.get gx
  obtain ⟨u2,hu2,ru2⟩:=r2.get gy
  have hT:s.TypeIs (.ref z) "zip" := ⟨_,hz,rfl⟩
  unfold pyNext
  refine wpAny_bind (wpAny_attempt (wpAny_callSpecial?_slot (name:=Str.ofString "__next__") hT F.slot_zip_next (wpAny_call_entry F.slot_zip_next hT F.entry_zip_next
   (Zuc Z D1 D2 hz hTI hTO s1 s2 w1 w2 hu1 hu2 fun h' z1 t1 n1 n2 p1 kp=>wpAny_pure ?_) (F.args_zip_next_1 _))))
  refine ⟨_,rfl,?_⟩
  have nfp:∀ c,c ∈ [z,TO,i1,i2]->c ∈ [z,TI,TO,i1,i2]:=fun c hc=>by
   simp only [List.mem_cons,List.not_mem_nil,or_false] at hc ⊢
   rcases hc with q | q | q | q
   ·exact .inl q
   ·exact .inr (.inr (.inl q))
   ·exact .inr (.inr (.inr (.inl q)))
   ·exact .inr (.inr (.inr (.inr q)))
  have kp':∀ c o,c ∉ [z,TO,i1,i2]->s.heap.get? c=some o->h'.get? c=some o:=fun c o hc e=>kp c o (fun q=>hc (by simp [q])) (fun q=>hc (by simp [q])) (fun q=>hc (by simp [q])) (fun q=>hc (by simp [q])) e
  have hp:H s.heap.objs.size=none:=I.hok.fresh (Nat.le_refl _)
  have ltp:∀ c o,s.heap.get? c=some o->c≠s.heap.objs.size:=fun c o e=>Nat.ne_of_lt (Heap.lt_size e)
  have ntr:∀ c u,H c=some u->c ∉ [z,TO,i1,i2]:=fun c u e hc=>by
   have:=(hf c (nfp c hc)).1
   rw [this] at e; cases e
  have there4:∀ c,c ∈ [z,TO,i1,i2]->∃ o',h'.get? c=some o':=fun c hc=>by
   simp only [List.mem_cons,List.not_mem_nil,or_false] at hc
   rcases hc with rfl | rfl | rfl | rfl
   ·exact ⟨_,z1⟩
   ·exact ⟨_,t1⟩
   ·obtain ⟨o,e,_⟩:=D1.obj _ _ n1; exact ⟨o,e⟩
   ·obtain ⟨o,e,_⟩:=D2.obj _ _ n2; exact ⟨o,e⟩
  have I1:Inv X pins σ (upd H s.heap.objs.size (.tup [xs[i],ys[i]])) {s with heap:=h' }:=by
   refine I.step (g':=s.gens) (d':=s.drawn) (t':=s.toks) (ch:=[z,TO,i1,i2]) (fun c hc=>?_) (fun c o _ _ hc e _=>kp' c o hc e) (fun c o _ _ hc e _=>⟨o.slots,kp' c o hc e⟩) (fun c o hc e n=>by rw [Zc (ltp c o e)]; exact n)
    (fun c o hc e=>⟨o,kp' c o hc e⟩) (fun c us e=>by rw [Zc (Zh e hp)]; exact e) (fun c o u e=>by rw [Zc (Zh e hp)]; exact e) (fun c ps e=>⟨#[],by rw [Zc (Zh e hp),e]; simp⟩) (fun m hm=>?_) ?_ I.bare
   ·obtain ⟨f0,f1,f2,f3,f4,f5⟩:=hf c (nfp c hc)
    exact ⟨f3,f1,f4,f5⟩
   ·refine hm.at fun o e=>kp' _ o (fun hc=>?_) e
    exact (hf _ (nfp _ hc)).2.1 rfl
   ·intro c u e
    by_cases hcp:c=s.heap.objs.size
    ·subst hcp
     rw [Zi] at e
     cases e
     exact ⟨by show 2<=sizeLine; decide,[u1,u2],.cons ru1 (.cons ru2 .nil),⟨_,p1,rfl,_,rfl⟩⟩
    ·rw [Zc hcp] at e
     refine (I.hok c u e).stay (fun d v hd q=>kp' d v ?_ q) (fun d q=>by rw [Zc (Zh q hp)]; exact q) fun d us q=>by rw [Zc (Zh q hp)]; exact q
     rcases hd with rfl | hd
     ·exact ntr _ u e
     ·exact ntr _ _ hd
  refine wpAny_letOwnedTupleGo_zip (s:={s with heap:=h' }) z1 fun h2 z2 e2=>?_
  obtain ⟨f0,f1,f2,f3,f4,f5⟩:=hf z (by simp)
  have nz:z≠s.heap.objs.size:=ltp z _ hz
  have I2:Inv X pins σ (upd H s.heap.objs.size (.tup [xs[i],ys[i]])) {s with heap:=h2 }:=I1.turned (s:={s with heap:=h' }) (it:=z) (t':=s.toks) (fun c o hc e=>(e2.2 c hc).trans e) (by rw [Zc nz]; exact f0) f1 f3 f4 f5
  refine ⟨.ref s.heap.objs.size,_,I2,rfl,⟨s.heap.objs.size,xs[i],ys[i],rfl,hp,rfl,fun xs' ys' q1' q2'=>?_⟩,⟨z2,(e2.2 _ Z.a1).trans (kp' TI _ (fun hc=>?_) hTI),⟨_,_,(e2.2 _ Z.a2).trans t1⟩,D1.keep _ _ _ n1 fun o e=>(e2.2 _ Z.a3).trans e,D2.keep _ _ _ n2 fun o e=>(e2.2 _ Z.a4).trans e⟩,fun c hc=>?_⟩
  ·rw [SK.inj I q1' q1,SK.inj I q2' q2]
   exact ⟨gx,gy⟩
  ·simp only [List.mem_cons,List.not_mem_nil,or_false] at hc
   rcases hc with q | q | q | q
   ·exact Z.a1 q
   ·exact Z.a5 q
   ·exact Z.a6 q
   ·exact Z.a7 q
  ·obtain ⟨o,ho⟩:∃ o,s.heap.get? c=some o:=by
    simp only [List.mem_cons,List.not_mem_nil,or_false] at hc
    rcases hc with rfl | rfl | rfl | rfl | rfl
    ·exact ⟨_,hz⟩
    ·exact ⟨_,hTI⟩
    ·exact ⟨_,hTO⟩
    ·obtain ⟨o,e,_⟩:=D1.obj _ _ s1; exact ⟨o,e⟩
    ·obtain ⟨o,e,_⟩:=D2.obj _ _ s2; exact ⟨o,e⟩
   rw [Zc (ltp c o ho)]
   exact (hf c hc).1
 done:=by
  intro X hP hw hK hc i pins s σ H E I hf st hg
  subst hP hw hK
  obtain ⟨hz,hTI,⟨a,b,hTO⟩,s1,s2⟩:=st
  obtain ⟨xs,ys,q1,q2,hend⟩:=hg
  obtain ⟨its1,r1,w1⟩:=SK.get I q1
  obtain ⟨its2,r2,w2⟩:=SK.get I q2
  have hT:s.TypeIs (.ref z) "zip" := ⟨_,hz,rfl⟩
  have hend':its1[i]? = none\/its2[i]? = none:=by
   have e1:=r1.length
   have e2:=r2.length
   rcases hend with q | q
   ·exact .inl (List.getElem?_eq_none (by lia))
   ·exact .inr (List.getElem?_eq_none (by lia))
  unfold pyNext
  refine wpAny_bind (wpAny_attempt (wpAny_callSpecial?_slot (name:=Str.ofString "__next__") hT F.slot_zip_next (wpAny_call_entry F.slot_zip_next hT F.entry_zip_next (Zv3 (I.ok.hd hc) Z D1 D2 hz hTI hTO s1 s2 w1 w2 hend' fun h' e kp ⟨o,ho,hcl⟩=>?_) (F.args_zip_next_1 _))))
  refine wpAny_bind (wpAny_isInstance (T := "StopIteration") (b:=true) ⟨o,ho,hcl⟩ isSubtype_stop (wpAny_pure ⟨rfl,?_⟩))
  have nfp:∀ c,c ∈ [z,TO,i1,i2]->c ∈ [z,TI,TO,i1,i2]:=fun c hc=>by
   simp only [List.mem_cons,List.not_mem_nil,or_false] at hc ⊢
   rcases hc with q | q | q | q
   ·exact .inl q
   ·exact .inr (.inr (.inl q))
   ·exact .inr (.inr (.inr (.inl q)))
   ·exact .inr (.inr (.inr (.inr q)))
  have kp':∀ c o,c ∉ [z,TO,i1,i2]->s.heap.get? c=some o->h'.get? c=some o:=fun c o hc e=>kp c o (fun q=>hc (by simp [q])) (fun q=>hc (by simp [q])) (fun q=>hc (by simp [q])) (fun q=>hc (by simp [q])) e
  have ntr:∀ c u,H c=some u->c ∉ [z,TO,i1,i2]:=fun c u e hc=>by
   have:=(hf c (nfp c hc)).1
   rw [this] at e; cases e
  refine I.step (g':=s.gens) (d':=s.drawn) (t':=s.toks) (ch:=[z,TO,i1,i2]) (fun c hc=>?_) (fun c o _ _ hc e _=>kp' c o hc e) (fun c o _ _ hc e _=>⟨o.slots,kp' c o hc e⟩) (fun c o hc e n=>n)
   (fun c o hc e=>⟨o,kp' c o hc e⟩) (fun c us e=>e) (fun c o u e=>e) (fun c ps e=>⟨#[],by rw [e]; simp⟩) (fun m hm=>?_) ?_ I.bare
  ·obtain ⟨f0,f1,f2,f3,f4,f5⟩:=hf c (nfp c hc)
   exact ⟨f3,f1,f4,f5⟩
  ·refine hm.at fun o e=>kp' _ o (fun hc=>?_) e
   exact (hf _ (nfp _ hc)).2.1 rfl
  ·intro c u e
   refine (I.hok c u e).stay (fun d v hd q=>kp' d v ?_ q) (fun d q=>q) fun d us q=>q
   rcases hd with rfl | hd
   ·exact ntr _ u e
   ·exact ntr _ _ hd
 self:=fun A i s Q E st h=>wpAny_pyIter_zip st.1 h
abbrev tzA (h:Heap) (t1:Addr):Heap:=h.push {cls:=.type "tuple_iterator", data:=.fields #[.ref t1,.int 0 0] }
abbrev tzB (h:Heap) (t1 t2:Addr):Heap:=(tzA h t1).push {cls:=.type "tuple_iterator", data:=.fields #[.ref t2,.int 0 0] }
abbrev tzC (h:Heap) (t1 t2:Addr):Heap:=(tzB h t1 t2).push {cls:=.type "tuple", data:=.seq #[.ref h.objs.size,.ref (tzA h t1).objs.size] }
abbrev tzD (h:Heap) (t1 t2:Addr):Heap:=(tzC h t1 t2).push {cls:=.type "tuple", data:=.seq #[.none,.none] }
abbrev tzE (h:Heap) (t1 t2:Addr):Heap:=(tzD h t1 t2).push {cls:=.type "zip", data:=.fields #[.none,.bool false,.bool false,.ref (tzB h t1 t2).objs.size,.ref (tzC h t1 t2).objs.size] }
theorem Zs7 (l1 l2:Addr) (xs ys:Array Value):Meets (Builtin.«zip.__new__» ⟨[.type "zip", .ref l1,.ref l2],[]⟩) (fun _ R s=>s.heap.IsTuple l1 xs/\s.heap.IsTuple l2 ys/\R (.ok (.ret (.ref (tzD s.heap l1 l2).objs.size))) {s with heap:=tzE s.heap l1 l2 }) :=
 .of_wp fun prog w A R s h=>by
  obtain ⟨hp,g,d,tk,os⟩:=s; obtain ⟨hl1,hl2,h⟩:=h
  have hsub:=sub_zip
  have hL1:Heap.IsTuple (Shared.heap ⟨hp,g,d,tk,os⟩) l1 xs:=hl1
  have hL2:Heap.IsTuple (Shared.heap ⟨tzA hp l1,g,d,tk,os⟩) l2 ys:=let ⟨o,e,r⟩:=hl2; ⟨o,Heap.get?_push_of_some _ e,r⟩
  wp_walk using wpAny_pyIter_tuple hL1,wpAny_pyIter_tuple hL2
  exact ⟨_,rfl,h⟩
section
variable {P:Program}{w:World}{A:Around}{E:Value->Shared->Prop}{s:Shared}
theorem Zud {l1 l2:Addr}{xs ys:Array Value}{Q:Value->Shared->Prop}(hl1:s.heap.IsTuple l1 xs) (hl2:s.heap.IsTuple l2 ys)
  (h:∀ h',IsZip h' (s.heap.objs.size+4) (s.heap.objs.size+2) (s.heap.objs.size+3) .none->IsPair h' (s.heap.objs.size+2) (.ref s.heap.objs.size) (.ref (s.heap.objs.size+1)) ->
   IsPair h' (s.heap.objs.size+3) .none .none->h'.IsTupleIter s.heap.objs.size l1 0->h'.IsTupleIter (s.heap.objs.size+1) l2 0 ->
   (∀ c o,s.heap.get? c=some o->h'.get? c=some o)->Q (.ref (s.heap.objs.size+4)) {s with heap:=h' }):wpAny (model P w) A (call (.type "zip") [.ref l1,.ref l2]) Q E s:=by
 refine callType_new F.called_zip (by decide) (F.typeCall_zip_2 _ _) (F.newCall_zip_2 _ _) (fun obj=>F.args_object_init_3 obj _ _) F.entry_zip_new (Zs7 l1 l2 xs ys) ⟨hl1,hl2,?_⟩
 have n1:(tzA s.heap l1).objs.size=s.heap.objs.size+1:=Heap.size_push ..
 have n2:(tzB s.heap l1 l2).objs.size=s.heap.objs.size+2:=by rw [Heap.size_push,n1]
 have n3:(tzC s.heap l1 l2).objs.size=s.heap.objs.size+3:=by rw [Heap.size_push,n2]
 have n4:(tzD s.heap l1 l2).objs.size=s.heap.objs.size+4:=by rw [Heap.size_push,n3]
 have q5:(tzE s.heap l1 l2).get? (tzD s.heap l1 l2).objs.size=some _:=Heap.get?_push_size _ rfl
 have q4:(tzE s.heap l1 l2).get? (tzC s.heap l1 l2).objs.size=some _:=Heap.get?_push_of_some _ (Heap.get?_push_size _ rfl)
 have q3:(tzE s.heap l1 l2).get? (tzB s.heap l1 l2).objs.size=some _:=Heap.get?_push_of_some _ (Heap.get?_push_of_some _ (Heap.get?_push_size _ rfl))
 have q2:(tzE s.heap l1 l2).get? (tzA s.heap l1).objs.size=some _:=Heap.get?_push_of_some _ (Heap.get?_push_of_some _ (Heap.get?_push_of_some _ (Heap.get?_push_size _ rfl)))
 have q1:(tzE s.heap l1 l2).get? s.heap.objs.size=some _:=Heap.get?_push_of_some _ (Heap.get?_push_of_some _ (Heap.get?_push_of_some _ (Heap.get?_push_of_some _ (Heap.get?_push_size _ rfl))))
 show _/\_
 rw [n2,n3,n4] at q5
 rw [n1,n2] at q3
 rw [n3] at q4
 rw [n1] at q2
 rw [n4]
 exact ⟨⟨_,q5,rfl⟩,h _ q5 q3 q4 ⟨_,q1,rfl,rfl⟩ ⟨_,q2,rfl,rfl⟩ fun c o x=>Heap.get?_push_of_some _ (Heap.get?_push_of_some _ (Heap.get?_push_of_some _ (Heap.get?_push_of_some _ (Heap.get?_push_of_some _ x))))⟩
end
theorem Z06 {n l1 l2:Addr}(h1:l1 < n) (h2:l2 < n):ZA (n+4) (n+2) (n+3) n (n+1) l1 l2:=by
 have h1 : @LT.lt Nat _ l1 n:=h1
 have h2 : @LT.lt Nat _ l2 n:=h2
 have key:∀ (a b:Nat),(a < b\/b < a)->¬ (@Eq Nat a b):=fun a b h q=>by lia
 exact ⟨key _ _ (by lia),key _ _ (by lia),key _ _ (by lia),key _ _ (by lia),key _ _ (by lia),key _ _ (by lia),key _ _ (by lia),key _ _ (by lia),key _ _ (by lia),key _ _ (by lia),
  key _ _ (by lia),key _ _ (by lia),key _ _ (by lia),key _ _ (by lia),key _ _ (by lia),key _ _ (by lia),key _ _ (by lia),key _ _ (by lia)⟩
def Zrh (K:PySem.W.Frag) (ta:TA):TI:=fun σ H R=>ta σ H fun vs H1=>∃ l1 l2,vs = [.ref l1,.ref l2] /\
 ((∃ xs ys,SqL K H1 l1 xs/\SqL K H1 l2 ys/\R (Itz SqL K l1 l2) H1)\/(∃ xs ys,SqT K H1 l1 xs/\SqT K H1 l2 ys/\R (Itz SqT K l1 l2) H1))
theorem Zz1 {X:Cx}{a b:Expr}{ta:TA}{p pos:Pos}{elts:List Expr}{ek:Nat}{epos:Pos}(hg:Gl X "zip") (hm:X.mg "zip" = none) (ha:PA X [a,b] ta) (hs:starEach [a,b] X.env = [(false,eval a X.env),(false,eval b X.env)]:=by rfl) (hs2:starEach [b] X.env = [(false,eval b X.env)]:=by rfl) :
  PI X (.Tuple elts ek epos) (.Call (.Name "zip" p) [a,b] [] pos) (Zrh X.K ta):=by
 intro pins s σ H R I h
 refine Call_ (Vf I hg hm boot_zip (PyProof.Rows.callWith_type1 (thn (ha pos pins s σ H _ I h) fun us s1 ⟨vs,H1,I1,r1,q1⟩=>?_) (by rw [hs,hs2]) (by rw [hs2]; rfl)))
 obtain ⟨l1,l2,e,q1⟩:=q1
 subst e
 obtain ⟨u1,u2,rfl,ru1,ru2⟩:=Zha r1
 cases ru1
 cases ru2
 have fin:∀ {sq:PySem.W.Frag->Hp->Addr->List V->Prop}{Hs:Addr->Heap->List Value->Prop}{S1 S2:Nat->Heap->Prop}{h':Heap},SqK sq Hs->l1 < s1.heap.objs.size->l2 < s1.heap.objs.size->Drw X.prog X.w s1.heap.objs.size l1 S1 (Hs l1)->Drw X.prog X.w (s1.heap.objs.size+1) l2 S2 (Hs l2) ->
   IsZip h' (s1.heap.objs.size+4) (s1.heap.objs.size+2) (s1.heap.objs.size+3) .none->IsPair h' (s1.heap.objs.size+2) (.ref s1.heap.objs.size) (.ref (s1.heap.objs.size+1))->IsPair h' (s1.heap.objs.size+3) .none .none->S1 0 h'->S2 0 h'->(∀ c o,s1.heap.get? c=some o->h'.get? c=some o)->R (Itz sq X.K l1 l2) H1 ->
   wpAny (model X.prog X.w) X.A (pyIter (.ref (s1.heap.objs.size+4))) (PIE X pins σ (.Tuple elts ek epos) R) X.xe {s1 with heap:=h' }:=by
  intro sq Hs S1 S2 h' SK b1 b2 D1 D2 z0 t1 t0 st1 st2 kp q
  refine wpAny_pyIter_zip z0 ?_
  refine ⟨s1.heap.objs.size+4,_,_,_,H1,rfl,I1.kept (h':=h') (t':=s1.toks) kp,Zv5 SK (Z06 b1 b2) D1 D2,⟨z0,t1,⟨_,_,t0⟩,st1,st2⟩,fun c hc=>?_,q⟩
  have hle:s1.heap.objs.size<=c:=by
   simp only [List.mem_cons,List.not_mem_nil,or_false] at hc
   have:(s1.heap.objs.size:Nat)<=(c:Nat):=by rcases hc with rfl | rfl | rfl | rfl | rfl <;> lia
   exact this
  exact I1.fpOk hle (I1.hok.fresh hle)
 rcases q1 with ⟨xs,ys,h1,h2,q⟩ | ⟨xs,ys,h1,h2,q⟩
 ·obtain ⟨its1,r1,p1,_⟩:=I1.list h1
  obtain ⟨its2,r2,p2,_⟩:=I1.list h2
  have b1:l1 < s1.heap.objs.size:=by obtain ⟨o,n,e,_⟩:=p1; exact Heap.lt_size e
  have b2:l2 < s1.heap.objs.size:=by obtain ⟨o,n,e,_⟩:=p2; exact Heap.lt_size e
  exact call_zip_2 p1.isList p2.isList fun h' z0 t1 t0 st1 st2 _ kp=>fin Zv4 b1 b2 (Zl3 _ _) (Zl3 _ _) z0 t1 t0 st1 st2 kp q
 ·obtain ⟨its1,r1,p1,_⟩:=I1.tuple h1
  obtain ⟨its2,r2,p2,_⟩:=I1.tuple h2
  have b1:l1 < s1.heap.objs.size:=by obtain ⟨o,e,_⟩:=p1; exact Heap.lt_size e
  have b2:l2 < s1.heap.objs.size:=by obtain ⟨o,e,_⟩:=p2; exact Heap.lt_size e
  exact Zud p1 p2 fun h' z0 t1 t0 st1 st2 kp=>fin Zyc b1 b2 (Zli _ _) (Zli _ _) z0 t1 t0 st1 st2 kp q
theorem Zz2 {X:Cx}{a b:Expr}{ta:TA}{p pos:Pos}{elts:List Expr}{ek:Nat}{epos:Pos}(hg:Gl X "zip") (hm:X.mg "zip" = none) (ha:QA X [a,b] ta) (hs:starEach [a,b] X.env = [(false,eval a X.env),(false,eval b X.env)]:=by rfl) (hs2:starEach [b] X.env = [(false,eval b X.env)]:=by rfl) :
  QI X (.Tuple elts ek epos) (.Call (.Name "zip" p) [a,b] [] pos) (Zrh X.K ta):=⟨Zz1 hg hm ha.h hs hs2⟩
theorem Zl4 {sq:PySem.W.Frag->Hp->Addr->List V->Prop}{K:PySem.W.Frag}{l1 l2:Addr}{g:TG}{tb:TS}{D:Ends}{σ:St}{H:Hp}(xs ys:List V) (hxy:xs.length=ys.length) (Pv:Nat->St->Hp->Prop) (h0:Pv 0 σ H) (hl:∀ i σ H,i<=xs.length->Pv i σ H->sq K H l1 xs/\sq K H l2 ys)
  (hs:∀ i x y p σ H,xs[i]? = some x->ys[i]? = some y->Pv i σ H->H p=none->g (.ref p) σ (upd H p (.tup [x,y])) fun σ2 H2=>tb {D with nx:=Pv (i+1),ct:=Pv (i+1),bk:=D.nx } σ2 H2) (hd:∀ σ H,Pv xs.length σ H->D.nx σ H):Zae (Itz sq K l1 l2) g tb D σ H:=by
 refine ⟨fun i m σ H=>m=xs.length - i/\i<=xs.length/\Pv i σ H,⟨xs.length,by simp,Nat.zero_le _,h0⟩,?_⟩
 rintro i m σ H ⟨rfl,hi,p⟩
 obtain ⟨q1,q2⟩:=hl i σ H hi p
 by_cases hlt:i < xs.length
 ·refine .inr ⟨⟨xs,ys,q1,q2,hlt,by lia⟩,Pv (i+1),fun σ' H' p'=>⟨xs.length - (i+1),by lia,rfl,hlt,p'⟩,fun v H' y=>?_⟩
  obtain ⟨pp,a,b,rfl,hp,rfl,hv⟩:=y
  obtain ⟨e1,e2⟩:=hv xs ys q1 q2
  exact hs i a b pp σ H e1 e2 p hp
 ·have e:i=xs.length:=by lia
  subst e
  exact .inl ⟨⟨xs,ys,q1,q2,.inl (Nat.le_refl _)⟩,hd σ H p⟩
end L2
end
section
set_option Elab.async false
set_option linter.all false
set_option maxRecDepth 100000
set_option maxHeartbeats 4000000
namespace L2
open PySem PySem.Spec PyProof.Rows
inductive D where
 | non | bl (b:Bool) | int (i:Int) | str (x:Str) | tup (xs:List D) | lst (xs:List D)
mutual
def Rep (H:Hp):D->V->Prop
 | .non,v=>v = .non
 | .bl b,v=>v = .bl b
 | .int i,v=>v = .int i
 | .str x,v=>v = .str x
 | .tup ds,v=>∃ a vs,v = .ref a/\H a=some (.tup vs)/\RepL H ds vs
 | .lst ds,v=>∃ a vs,v = .ref a/\H a=some (.lst vs)/\RepL H ds vs
def RepL (H:Hp):List D->List V->Prop
 | [],vs=>vs = []
 | d::ds,vs=>∃ v r,vs=v::r/\Rep H d v/\RepL H ds r
end
mutual
theorem Rep.mono {H H':Hp}(k:Same H H'):∀ (d:D) (v:V),Rep H d v->Rep H' d v
 | .non,v,h=>h
 | .bl b,v,h=>h
 | .int i,v,h=>h
 | .str x,v,h=>h
 | .tup ds,v,h=>by
  obtain ⟨a,vs,e,h1,h2⟩:=h
  exact ⟨a,vs,e,k _ _ h1,RepL.mono k ds vs h2⟩
 | .lst ds,v,h=>by
  obtain ⟨a,vs,e,h1,h2⟩:=h
  exact ⟨a,vs,e,k _ _ h1,RepL.mono k ds vs h2⟩
theorem RepL.mono {H H':Hp}(k:Same H H'):∀ (ds:List D) (vs:List V),RepL H ds vs->RepL H' ds vs
 | [],vs,h=>h
 | d::ds,vs,h=>by
  obtain ⟨v,r,e,h1,h2⟩:=h
  exact ⟨v,r,e,Rep.mono k d v h1,RepL.mono k ds r h2⟩
end
theorem RepL.length {H:Hp}:∀ {ds:List D}{vs:List V},RepL H ds vs->vs.length=ds.length
 | [],vs,h=>by cases h; rfl
 | d::ds,vs,h=>by
  obtain ⟨v,r,rfl,h1,h2⟩:=h
  rw [List.length_cons,List.length_cons,RepL.length h2]
theorem RepL.get {H:Hp}:∀ {ds:List D}{vs:List V}{i:Nat}{v:V},RepL H ds vs->vs[i]? = some v->∃ d,ds[i]? = some d/\Rep H d v
 | [],vs,i,v,h,e=>by cases h; simp at e
 | d::ds,vs,i,v,h,e=>by
  obtain ⟨w,r,rfl,h1,h2⟩:=h
  cases i with
  | zero=>simp at e; subst e; exact ⟨d,rfl,h1⟩
  | succ i=>simp at e; exact RepL.get (i:=i) h2 e
theorem RepL.snoc {H:Hp}{d:D}{v:V}(hd:Rep H d v):∀ {ds:List D}{vs:List V},RepL H ds vs->RepL H (ds ++ [d]) (vs ++ [v])
 | [],vs,h=>by cases h; exact ⟨v,[],rfl,hd,rfl⟩
 | e::ds,vs,h=>by
  obtain ⟨w,r,rfl,h1,h2⟩:=h
  exact ⟨w,r ++ [v],rfl,h1,RepL.snoc hd h2⟩
mutual
def Yd:D->D->Bool
 | .non,.non=>true
 | .bl a,.bl b=>a == b
 | .int a,.int b=>a == b
 | .str a,.str b=>a == b
 | .tup a,.tup b=>Y1 a b
 | .lst a,.lst b=>Y1 a b
 | _,_=>false
def Y1:List D->List D->Bool
 | [],[]=>true
 | a::r,b::s=>Yd a b && Y1 r s
 | _,_=>false
end
mutual
theorem Zbw:∀ d:D,Yd d d=true
 | .non=>rfl
 | .bl _=>by simp [Yd]
 | .int _=>by simp [Yd]
 | .str _=>by simp [Yd]
 | .tup ds=>by rw [Yd]; exact Zfh ds
 | .lst ds=>by rw [Yd]; exact Zfh ds
theorem Zfh:∀ ds:List D,Y1 ds ds=true
 | []=>rfl
 | d::ds=>by rw [Y1,Zbw d,Zfh ds]; rfl
end
mutual
def D.deep:D->Nat
 | .tup ds=>Y2 ds+1
 | .lst ds=>Y2 ds+1
 | _=>0
def Y2:List D->Nat
 | []=>0
 | d::ds=>max d.deep (Y2 ds)
end
theorem Zfv:∀ {ds:List D}{i:Nat}{d:D},ds[i]? = some d->d.deep<=Y2 ds
 | [],i,d,h=>by simp at h
 | e::ds,0,d,h=>by simp at h; subst h; rw [Y2]; lia
 | e::ds,i+1,d,h=>by
  simp at h
  have:=Zfv h
  rw [Y2]; lia
def isI:D->String->Bool
 | .non,_=>false
 | .bl _,c=>c == "bool" || c == "int"
 | .int _,c=>c == "int"
 | .str _,c=>c == "str"
 | .tup _,c=>c == "tuple"
 | .lst _,c=>c == "list"
def Zo1:List String:=["bool", "int", "str", "list", "tuple"]
theorem isi {K:PySem.W.Frag}{H:Hp}{d:D}{v:V}(r:Rep H d v) (c:String) (hc:c∈Zo1):∃ t,TyOf K H v t/\PySem.W.kitOne K t (.type c)=some (isI d c):=by
 unfold Zo1 at hc
 simp only [List.mem_cons,List.not_mem_nil,or_false] at hc
 cases d with
 | non=>cases r; refine ⟨_,.non,?_⟩; rcases hc with rfl | rfl | rfl | rfl | rfl <;> rfl
 | bl b=>cases r; refine ⟨_,.bl b,?_⟩; rcases hc with rfl | rfl | rfl | rfl | rfl <;> rfl
 | int i=>cases r; refine ⟨_,.int i,?_⟩; rcases hc with rfl | rfl | rfl | rfl | rfl <;> rfl
 | str x=>cases r; refine ⟨_,.str x,?_⟩; rcases hc with rfl | rfl | rfl | rfl | rfl <;> rfl
 | tup ds=>obtain ⟨a,vs,rfl,h1,h2⟩:=r; refine ⟨_,.tup h1,?_⟩; rcases hc with rfl | rfl | rfl | rfl | rfl <;> rfl
 | lst ds=>obtain ⟨a,vs,rfl,h1,h2⟩:=r; refine ⟨_,.lst h1,?_⟩; rcases hc with rfl | rfl | rfl | rfl | rfl <;> rfl
theorem Rep.none_iff {H:Hp}{d:D}{v:V}(r:Rep H d v):decide (v = .non)=(match d with | .non=>true | _=>false):=by
 cases d with
 | non=>cases r; rfl
 | bl b=>cases r; rfl
 | int i=>cases r; rfl
 | str x=>cases r; rfl
 | tup ds=>obtain ⟨a,vs,rfl,h1,h2⟩:=r; rfl
 | lst ds=>obtain ⟨a,vs,rfl,h1,h2⟩:=r; rfl
theorem Zk2 {as bs:List D}:∀ {i:Nat}{a b:D},as[i]? = some a->bs[i]? = some b->Y1 (as.take (i+1)) (bs.take (i+1))=(Y1 (as.take i) (bs.take i) && Yd a b):=by
 induction as generalizing bs with
 | nil=>intro i a b h; simp at h
 | cons x as ih =>
  intro i a b h1 h2
  cases bs with
  | nil=>simp at h2
  | cons y bs =>
   cases i with
   | zero=>simp at h1 h2; subst h1; subst h2; simp [Y1]
   | succ i =>
    simp at h1 h2
    have:=ih h1 h2
    rw [List.take_succ_cons,List.take_succ_cons,Y1,this,List.take_succ_cons,List.take_succ_cons,Y1,Bool.and_assoc]
theorem Zkj {as bs:List D}(h:as.length≠bs.length):Y1 as bs=false:=by
 induction as generalizing bs with
 | nil=>cases bs with
  | nil=>exact absurd rfl h
  | cons y bs=>rfl
 | cons x as ih=>cases bs with
  | nil=>rfl
  | cons y bs=>rw [Y1,ih (fun e=>h (by rw [List.length_cons,List.length_cons,e])),Bool.and_false]
theorem Zkl {as bs:List D}{i:Nat}{a b:D}(h1:as[i]? = some a) (h2:bs[i]? = some b) (h:Yd a b=false):Y1 as bs=false:=by
 induction as generalizing bs i with
 | nil=>simp at h1
 | cons x as ih =>
  cases bs with
  | nil=>simp at h2
  | cons y bs =>
   cases i with
   | zero=>simp at h1 h2; subst h1; subst h2; rw [Y1,h,Bool.false_and]
   | succ i=>simp at h1 h2; rw [Y1,ih h1 h2,Bool.and_false]
end L2
namespace L2
theorem Rep.mono' {H H':Hp}{d:D}{v:V}(h:Rep H d v) (k:Same H H'):Rep H' d v:=Rep.mono k d v h
theorem RepL.mono' {H H':Hp}{ds:List D}{vs:List V}(h:RepL H ds vs) (k:Same H H'):RepL H' ds vs:=RepL.mono k ds vs h
end L2
end
section
set_option Elab.async false
set_option linter.all false
set_option maxRecDepth 100000
set_option maxHeartbeats 4000000
namespace L2
open PySem PySem.Spec PyProof.Rows
def Itd (lo:Int) (n:Nat):It:=⟨fun i _=>i < n,fun i H x H'=>H'=H/\x = .int (lo - i),fun i _=>n<=i⟩
theorem Zue {P:Program}{w:World}{K:PySem.W.Frag}{tg:Expr}(it:Addr) (lo:Int) (n:Nat):Turn P w K tg (Itd lo n) [it] it (fun i h=>IsRangeIter h it (lo+(i:Nat) * (-1)) ((n:Int) - (i:Nat)) (-1)) where
 mem:=by simp
 obj:=fun i h st b hb=>by
  have e:b=it:=by simpa using hb
  subst e
  exact ⟨_,st,fun v z=>by
   have z':Data.fields _=Data.cell v:=z
   cases z'⟩
 keep:=fun i h h' st k=>k it (by simp) _ st
 item:=by
  intro X hP hw hK hc i pins s σ H E I hf st hg
  subst hP hw hK
  obtain ⟨f0,f1,f2,f3,f4,f5⟩:=hf it (by simp)
  have W:=Walks.range (prog:=X.prog) (w:=X.w) (I.ok.hd hc) it lo (-1) n
  refine W.item i s _ _ hg st fun v h' tk hv st' kk=>?_
  obtain ⟨t,rfl⟩:=hv
  have I1:Inv X pins σ H {s with heap:=h',toks:=tk }:=I.turned (fun b o hb e=>kk b o (by simpa using hb) e) f0 f1 f3 f4 f5
  refine ⟨_,rfl,Zec (s:={s with heap:=h',toks:=tk }) (n := "range_iterator") st' rfl rfl (by decide) ⟨.int (lo - i),H,I1,⟨t,?_⟩,⟨rfl,rfl⟩,st',fun b hb=>(hf b hb).1⟩⟩
  have e:lo+(i:Int) * (-1)=lo - i:=by lia
  rw [e]
 done:=by
  intro X hP hw hK hc i pins s σ H E I hf st hg
  subst hP hw hK
  obtain ⟨f0,f1,f2,f3,f4,f5⟩:=hf it (by simp)
  exact wpAny_pyNext_range_end (I.ok.hd hc) st (by have:n<=i:=hg; lia) fun h' eb=>⟨rfl,I.turned (t':=s.toks) (fun b o hb e=>eb b o hb e) f0 f1 f3 f4 f5⟩
 self:=fun _ _ _ _ _ st h=>wpAny_pyIter_rangeiter st h
section
variable {X:Cx}{tg:Expr}
end
section
variable {g:TG}{tb:TS}{D:Ends}{σ:St}{H:Hp}
theorem Zuf {lo:Int}{n:Nat}(m:Nat) (hm:n=m) (Pv:Nat->St->Hp->Prop) (h0:Pv 0 σ H)
  (hs:∀ i σ H,i < m->Pv i σ H->g (.int (lo - i)) σ H fun σ2 H2=>tb {D with nx:=Pv (i+1),ct:=Pv (i+1),bk:=D.nx } σ2 H2) (hd:∀ σ H,Pv m σ H->D.nx σ H):Zae (Itd lo n) g tb D σ H:=by
 subst hm
 refine ⟨fun i k σ H=>k=n - i/\i<=n/\Pv i σ H,⟨n,rfl,Nat.zero_le _,h0⟩,?_⟩
 rintro i k σ H ⟨rfl,hi,p⟩
 by_cases e:i < n
 ·refine .inr ⟨e,Pv (i+1),fun σ' H' p'=>⟨n - (i+1),by lia,rfl,by lia,p'⟩,?_⟩
  rintro x H' ⟨rfl,rfl⟩
  exact hs i σ H' e p
 ·have:i=n:=by lia
  subst this
  exact .inl ⟨Nat.le_refl _,hd σ H p⟩
end
section
variable {X:Cx}{o i value:Expr}{pos pos':Pos}{td ty tv:TE}
def Zm0:R2:=fun y x H Q=>∃ a o,x = .ref a/\DGet H a y o/\Q (.bl (!o.isSome)) H
def Zri:R2:=fun y x H Q=>∃ a o,x = .ref a/\DGet H a y o/\Q (.bl o.isSome) H
theorem Zug (hu:X.A.units+1 < cLine):OpR X (compareOp .NotIn) Zm0:=by
 intro pins s σ H y x iv u Q I ry rx ⟨a,ov,ex,g,q⟩
 subst ex
 obtain rfl:u=Value.ref a:=rx
 exact Zxs hu I g ry fun s3 I3=>⟨.bl (!ov.isSome),H,I3,rfl,q⟩
theorem Zz3 (hu:X.A.units+1 < cLine):OpR X (compareOp .In) Zri:=by
 intro pins s σ H y x iv u Q I ry rx ⟨a,ov,ex,g,q⟩
 subst ex
 obtain rfl:u=Value.ref a:=rx
 exact Z66 hu I g ry fun s3 I3=>⟨.bl ov.isSome,H,I3,rfl,q⟩
theorem Zs8 {k:Nat}(hr:Room k X.A):QOp X (compareOp .NotIn) Zm0:=⟨Zug (by have:=hr.units; lia)⟩
theorem Zds {k:Nat}(hr:Room k X.A):QOp X (compareOp .In) Zri:=⟨Zz3 (by have:=hr.units; lia)⟩
theorem Zv6:QE X (.Dict [] [] pos) Zny:=⟨Zvl⟩
theorem Za4 {k:Nat}(hr:Room k X.A) (ho:QE X o td) (hi:QE X i ty) (hv:QE X value tv) (hs:swapsWith value (some (.Subscript o i pos')) pos.line X.env=pure false:=by rfl) :
  QS X (.Assign [.Subscript o i pos'] value pos) (Zos td ty tv):=⟨Zxv (by have:=hr.units; lia) ho.h hi.h hv.h hs⟩
end
end L2
end
section
set_option Elab.async false
set_option linter.all false
set_option maxRecDepth 100000
set_option maxHeartbeats 4000000
namespace L2
open PySem PySem.Spec PyProof.Rows
section
variable {X:Cx}
end
end L2
end
section
set_option Elab.async false
set_option linter.all false
set_option maxRecDepth 100000
set_option maxHeartbeats 4000000
namespace L2
open PySem PySem.Spec PyProof.Rows
section
variable {X:Cx}
end
end L2
end
section
set_option Elab.async false
set_option linter.all false
set_option maxRecDepth 100000
set_option maxHeartbeats 4000000
namespace L2
open PySem PySem.Spec PyProof.Rows PySem.W
def Yu (cmp:Nat->Nat->(Bool->Shared->Prop)->Shared->Prop) (r:Nat->Nat) (N:Nat) (s:Shared):Prop:=∀ (i j:Nat) (C:Bool->Shared->Prop),i < N->j < N->C (decide (r i < r j)) s->cmp i j C s
def kp (r:Nat->Nat) (p:Array Nat) (i:Nat):Nat:=r (p.getD i 0)
def Pm (N:Nat) (p:Array Nat):Prop:=p.toList.Perm (List.range N)
def UpTo (r:Nat->Nat) (p:Array Nat) (m:Nat):Prop:=∀ i,i+1 < m->kp r p i<=kp r p (i+1)
def Zba (r:Nat->Nat) (p:Array Nat) (m:Nat):Prop:=∀ i,i+1 < m->kp r p (i+1)<=kp r p i
section
variable {s:Shared}{cmp:Nat->Nat->(Bool->Shared->Prop)->Shared->Prop}{r:Nat->Nat}{N:Nat}{p:Array Nat}
theorem Pm.size (h:Pm N p):p.size=N:=by
 have:=h.length_eq
 rw [List.length_range] at this
 simpa using this
theorem Pm.lt (h:Pm N p) {i:Nat}(hi:i < N):p.getD i 0 < N:=by
 have hs:i < p.size:=by rw [h.size]; exact hi
 have e:p.getD i 0=p[i]:=by simp [Array.getD,hs]
 have m:p[i]∈p.toList:=by simp
 rw [e]
 exact List.mem_range.mp (h.mem_iff.mp m)
theorem Pm.rev (h:Pm N p) (i j:Nat):Pm N (kas_rev p i j):=(Array.perm_iff_toList_perm.mp (mirror_perm p i j _)).trans h
theorem Pm.bub (h:Pm N p) (i d:Nat):Pm N (bubble p i d):=(Array.perm_iff_toList_perm.mp (bubble_perm p i d)).trans h
theorem Zcf {p q:Array Nat}{i j:Nat}(h:p[i]? = q[j]?):kp r p i=kp r q j:=by
 unfold kp
 rw [Array.getD_eq_getD_getElem?,Array.getD_eq_getD_getElem?,h]
theorem Zd5 (h:Pm N p) {i j k:Nat}(hj:j<=N):kp r (kas_rev p i j) k=if i<=k/\k < j then kp r p (i+j - 1 - k) else kp r p k:=by
 have e:=getElem?_mirror_all (xs:=p) (i:=i) (j:=j) (by rw [h.size]; exact hj) k
 by_cases c:i<=k/\k < j
 ·rw [if_pos c] at e ⊢; exact Zcf e
 ·rw [if_neg c] at e ⊢; exact Zcf e
theorem Zg1 (h:Pm N p) {k l i:Nat}(hk:k < N) (hl:l<=k):kp r (bubble p k (k - l)) i=if i=l then kp r p k else if l < i/\i<=k then kp r p (i - 1) else kp r p i:=by
 have e:=getElem?_bubble (xs:=p) (src:=k) (by rw [h.size]; exact hk) (k - l) (by lia) i
 have x:k - (k - l)=l:=by lia
 rw [x] at e
 by_cases c:i=l
 ·rw [if_pos c] at e ⊢; exact Zcf e
 ·rw [if_neg c] at e ⊢
  by_cases d:l < i/\i<=k
  ·rw [if_pos d] at e ⊢; exact Zcf e
  ·rw [if_neg d] at e ⊢; exact Zcf e
theorem Zg2 (hR:Yu cmp r N s) (hp:Pm N p) {Q:Nat->Shared->Prop}:∀ (f n:Nat),1<=n->n+f<=N->UpTo r p n->(∀ m,n<=m->m<=n+f->UpTo r p m->(m < n+f->kp r p m < kp r p (m - 1))->Q m s)->(kas_asc p f n).kasWp cmp Q s
 | 0,n,h1,h2,hu,k=>k n (Nat.le_refl _) (Nat.le_refl _) hu (fun z=>by lia)
 | f+1,n,h1,h2,hu,k=>by
  refine hR _ _ _ (hp.lt (by lia)) (hp.lt (by lia)) ?_
  by_cases c:r (p.getD n 0) < r (p.getD (n - 1) 0)
  ·rw [decide_eq_true c]
   exact k n (Nat.le_refl _) (by lia) hu fun _=>c
  ·rw [decide_eq_false c]
   refine Zg2 hR hp f (n+1) (by lia) (by lia) (fun i hi=>?_) fun m a b u d=>k m (by lia) (by lia) u (fun z=>d (by lia))
   by_cases e:i+1 < n
   ·exact hu i e
   ·have:i=n - 1:=by lia
    subst this
    rw [show n - 1+1=n by lia]
    unfold kp
    lia
theorem Zfc (h:Pm N p) {a n k:Nat}(hn:n<=N) (he:∀ i,a<=i->i < n->kp r p i=kp r p (n - 1)):kp r (kas_rev p a n) k=kp r p k:=by
 rw [Zd5 h hn]
 by_cases c:a<=k/\k < n
 ·rw [if_pos c,he (a+n - 1 - k) (by lia) (by lia),he k c.1 c.2]
 ·rw [if_neg c]
theorem Zdt (hR:Yu cmp r N s) {Q:Array Nat×Nat×Nat->Shared->Prop}:∀ (f:Nat) (p:Array Nat) (n q:Nat),Pm N p->1<=n->n+f<=N->q+1<=n->Zba r p n->(∀ k,n - (q+1)<=k->k < n->kp r p k=kp r p (n - 1)) ->
  (∀ (p':Array Nat) (m q':Nat),Pm N p'->n<=m->m<=n+f->q'+1<=m->Zba r p' m->(∀ k,m - (q'+1)<=k->k < m->kp r p' k=kp r p' (m - 1))->Q (p',m,q') s)->(kas_desc f p n q).kasWp cmp Q s
 | 0,p,n,q,hp,h1,h2,hq,hd,he,k=>k p n q hp (Nat.le_refl _) (Nat.le_refl _) hq hd he
 | f+1,p,n,q,hp,h1,h2,hq,hd,he,k=>by
  refine hR _ _ _ (hp.lt (by lia)) (hp.lt (by lia)) ?_
  by_cases c:r (p.getD n 0) < r (p.getD (n - 1) 0)
  ·rw [decide_eq_true c]
   have step:Zba r p (n+1):=fun i hi=>by
    by_cases e:i+1 < n
    ·exact hd i e
    ·have:i=n - 1:=by lia
     subst this
     rw [show n - 1+1=n by lia]
     unfold kp
     lia
   show (if true=true then (if q > 0 then kas_desc f (kas_rev p (n - (q+1)) n) (n+1) 0 else kas_desc f p (n+1) 0) else _).kasWp cmp Q s
   rw [if_pos rfl]
   by_cases z:q > 0
   ·rw [if_pos z]
    have same:∀ k,kp r (kas_rev p (n - (q+1)) n) k=kp r p k:=fun k=>Zfc hp (by lia) he
    refine Zdt hR f _ (n+1) 0 (hp.rev _ _) (by lia) (by lia) (by lia) (fun i hi=>?_) (fun k a b=>?_) fun p' m q' a b c' d e g=>k p' m q' a (by lia) (by lia) d e g
    ·rw [same,same]; exact step i hi
    ·have:k=n+1 - 1:=by lia
     rw [this]
   ·rw [if_neg z]
    refine Zdt hR f p (n+1) 0 hp (by lia) (by lia) (by lia) step (fun k a b=>?_) fun p' m q' a b c' d e g=>k p' m q' a (by lia) (by lia) d e g
    have:k=n+1 - 1:=by lia
    rw [this]
  ·rw [decide_eq_false c]
   show (if false=true then _ else KasT.ask (p.getD (n - 1) 0) (p.getD n 0) fun d=>if d=true then .ret (p,n,q) else kas_desc f p (n+1) (q+1)).kasWp cmp Q s
   rw [if_neg Bool.false_ne_true]
   refine hR _ _ _ (hp.lt (by lia)) (hp.lt (by lia)) ?_
   by_cases d:r (p.getD (n - 1) 0) < r (p.getD n 0)
   ·rw [decide_eq_true d]
    exact k p n q hp (Nat.le_refl _) (by lia) hq hd he
   ·rw [decide_eq_false d]
    have eq:kp r p n=kp r p (n - 1):=by unfold kp; lia
    refine Zdt hR f p (n+1) (q+1) hp (by lia) (by lia) (by lia) (fun i hi=>?_) (fun k a b=>?_) fun p' m q' a b c' d e g=>k p' m q' a (by lia) (by lia) d e g
    ·by_cases e:i+1 < n
     ·exact hd i e
     ·have:i=n - 1:=by lia
      subst this
      rw [show n - 1+1=n by lia,eq]
      exact Nat.le_refl _
    ·rw [show n+1 - 1=n by lia,eq]
     by_cases e:k < n
     ·exact he k (by lia) e
     ·rw [show k=n by lia,eq]
theorem Vx (h:UpTo r p m):∀ (d i:Nat),i+d < m->kp r p i<=kp r p (i+d)
 | 0,i,_=>Nat.le_refl _
 | d+1,i,hi=>Nat.le_trans (Vx h d i (by lia)) (h (i+d) (by lia))
theorem Zz4 (h:Pm N p) {n:Nat}(hn:n<=N) (hd:Zba r p n):UpTo r (kas_rev p 0 n) n:=fun i hi=>by
 rw [Zd5 h hn,Zd5 h hn,if_pos (by lia),if_pos (by lia)]
 have:=hd (0+n - 1 - (i+1)) (by lia)
 rw [show 0+n - 1 - (i+1)+1=0+n - 1 - i by lia] at this
 exact this
def Zi7 (r:Nat->Nat) (N:Nat) (Q:Nat×Array Nat->Shared->Prop) (s:Shared):Prop:=∀ (m:Nat) (p:Array Nat),1<=m->m<=N->Pm N p->UpTo r p m->Q (m,p) s
theorem Zm1 (hR:Yu cmp r N s) (h:Pm N p) {Q:Nat×Array Nat->Shared->Prop}(k:Zi7 r N Q s) {n:Nat}(h1 : 1<=n) (hn:n<=N) (hd:Zba r p n):(kas_tail3 n N p).kasWp cmp Q s:=by
 unfold kas_tail3
 rw [KasT.kasWp_bind]
 exact Zg2 hR (h.rev 0 n) (N - n) n h1 (by lia) (Zz4 h hn hd) fun m a b u _=>k m _ (by lia) (by lia) (h.rev 0 n) u
theorem Zm2 (hR:Yu cmp r N s) (h:Pm N p) {Q:Nat×Array Nat->Shared->Prop}(k:Zi7 r N Q s) {n:Nat}(hn:n+1<=N) (hd:Zba r p (n+1)):(kas_descPart n N p).kasWp cmp Q s:=by
 unfold kas_descPart
 rw [KasT.kasWp_bind]
 refine Zdt hR (N - (n+1)) p (n+1) 0 h (by lia) (by lia) (by lia) hd (fun k a b=>by rw [show k=n+1 - 1 by lia]) fun p' m q' a b c d e g=>?_
 dsimp only
 by_cases z:q' > 0
 ·rw [if_pos z]
  have same:∀ k,kp r (kas_rev p' (m - (q'+1)) m) k=kp r p' k:=fun k=>Zfc a (by lia) g
  exact Zm1 hR (a.rev _ _) k (by lia) (by lia) fun i hi=>by rw [same,same]; exact e i hi
 ·rw [if_neg z]
  exact Zm1 hR a k (by lia) (by lia) e
theorem Zv7 (hR:Yu cmp r N s) (h:Pm N p) (h1 : 1<=N) {Q:Nat×Array Nat->Shared->Prop}(k:Zi7 r N Q s):(kas_count N p).kasWp cmp Q s:=by
 unfold kas_count
 rw [KasT.kasWp_bind]
 refine Zg2 hR h (N - 1) 1 (Nat.le_refl _) (by lia) (fun i hi=>by lia) fun m a b u d=>?_
 by_cases z:m=N
 ·rw [if_pos (by rw [z]; exact beq_self_eq_true N)]
  exact k m p a (by lia) h u
 ·rw [if_neg (fun e=>z (eq_of_beq e))]
  have dm:=d (by lia)
  by_cases y:m > 1
  ·rw [if_pos y]
   refine hR _ _ _ (h.lt (by lia)) (h.lt (by lia)) ?_
   by_cases c:r (p.getD 0 0) < r (p.getD (m - 1) 0)
   ·rw [decide_eq_true c]
    exact k m p a (by lia) h u
   ·rw [decide_eq_false c]
    have all:∀ i,0<=i->i < m->kp r p i=kp r p (m - 1):=fun i _ hi=>by
     have h0:=Vx u i 0 (by lia)
     have h2:=Vx u (m - 1 - i) i (by lia)
     rw [show 0+i=i by lia] at h0
     rw [show i+(m - 1 - i)=m - 1 by lia] at h2
     have h3:kp r p (m - 1)<=kp r p 0:=by unfold kp; lia
     lia
    have same:∀ k,kp r (kas_rev p 0 m) k=kp r p k:=fun k=>Zfc h (by lia) all
    refine Zm2 hR (h.rev _ _) k (by lia) fun i hi=>?_
    rw [same,same]
    by_cases e:i+1 < m
    ·rw [all i (by lia) (by lia),all (i+1) (by lia) e]; exact Nat.le_refl _
    ·rw [show i=m - 1 by lia,show m - 1+1=m by lia]
     exact Nat.le_of_lt dm
  ·rw [if_neg y]
   refine Zm2 hR h k (by lia) fun i hi=>?_
   rw [show i=m - 1 by lia,show m - 1+1=m by lia]
   exact Nat.le_of_lt dm
theorem Zfw (hR:Yu cmp r N s) (h:Pm N p) {Q:Nat->Shared->Prop}{k:Nat}(hk:k < N) (hu:UpTo r p k) (q:∀ l,l<=k->(∀ i,i < l->kp r p i<=kp r p k)->(∀ i,l<=i->i < k->kp r p k<=kp r p i)->Q l s) :
  ∀ (f l m:Nat),l<=m->m<=k->m - l<=f->(∀ i,i < l->kp r p i<=kp r p k)->(∀ i,m<=i->i < k->kp r p k<=kp r p i)->(kas_place p k f l m).kasWp cmp Q s
 | 0,l,m,a,b,c,lo,hi=>q l (by lia) lo fun i x y=>hi i (by lia) y
 | f+1,l,m,a,b,c,lo,hi=>by
  show (if l>=m then KasT.ret l else _).kasWp cmp Q s
  by_cases z:l>=m
  ·rw [if_pos z]
   exact q l (by lia) lo fun i x y=>hi i (by lia) y
  ·rw [if_neg z]
   refine hR _ _ _ (h.lt hk) (h.lt (by lia)) ?_
   by_cases y:r (p.getD k 0) < r (p.getD ((l+m) / 2) 0)
   ·rw [decide_eq_true y]
    refine Zfw hR h hk hu q f l ((l+m) / 2) (by lia) (by lia) (by lia) lo fun i x w=>?_
    have:=Vx hu (i - (l+m) / 2) ((l+m) / 2) (by lia)
    rw [show (l+m) / 2+(i - (l+m) / 2)=i by lia] at this
    exact Nat.le_trans (Nat.le_of_lt y) this
   ·rw [decide_eq_false y]
    refine Zfw hR h hk hu q f ((l+m) / 2+1) m (by lia) b (by lia) (fun i x=>?_) hi
    have:=Vx hu ((l+m) / 2 - i) i (by lia)
    rw [show i+((l+m) / 2 - i)=(l+m) / 2 by lia] at this
    exact Nat.le_trans this (Nat.le_of_not_lt y)
theorem Zn0 (hR:Yu cmp r N s) {Q:Array Nat->Shared->Prop}:∀ (f:Nat) (p:Array Nat) (k:Nat),Pm N p->k+f<=N->UpTo r p k->(∀ p',Pm N p'->UpTo r p' (k+f)->Q p' s)->(kas_bin f p k).kasWp cmp Q s
 | 0,p,k,h,hk,hu,q=>q p h hu
 | f+1,p,k,h,hk,hu,q=>by
  show ((kas_place p k k 0 k).bind fun l=>kas_bin f (bubble p k (k - l)) (k+1)).kasWp cmp Q s
  rw [KasT.kasWp_bind]
  refine Zfw hR h (by lia) hu (fun l a lo hi=>?_) k 0 k (by lia) (by lia) (by lia) (fun i x=>by lia) fun i x y=>by lia
  refine Zn0 hR f _ (k+1) (h.bub _ _) (by lia) (fun i x=>?_) fun p' a b=>q p' a (by rw [show k+(f+1)=k+1+f by lia]; exact b)
  rw [Zg1 h (by lia) a,Zg1 h (by lia) a]
  by_cases c:i=l
  ·rw [if_pos c,if_neg (by lia),if_pos (by lia)]
   by_cases d:i+1<=k/\l < k
   ·rw [show i+1 - 1=l by lia]
    exact hi l (by lia) (by lia)
   ·lia
  ·rw [if_neg c]
   by_cases d:i+1=l
   ·rw [if_pos d,if_neg (by lia)]
    exact lo i (by lia)
   ·rw [if_neg d]
    by_cases e:l < i
    ·rw [if_pos (by lia),if_pos (by lia),show i+1 - 1=i - 1+1 by lia]
     exact hu (i - 1) (by lia)
    ·rw [if_neg (by lia),if_neg (by lia)]
     exact hu i (by lia)
theorem Zyd (hR:Yu cmp r N s) (h2 : 1<=N) {Q:Array Nat->Shared->Prop}(q:∀ p,Pm N p->UpTo r p N->Q p s):(kas_sort N).kasWp cmp Q s:=by
 unfold kas_sort
 rw [KasT.kasWp_bind]
 refine Zv7 hR (by show (List.toArray (List.range N)).toList.Perm _; exact List.Perm.refl _) h2 fun m p a b hp u=>?_
 by_cases c:m < N
 ·rw [if_pos c]
  refine Zn0 hR _ p _ hp (by lia) (by rw [Nat.max_eq_left a]; exact u) fun p' x y=>q p' x ?_
  rw [show max m 1+(N - max m 1)=N by lia] at y
  exact y
 ·rw [if_neg c]
  exact q p hp (by rw [show N=m by lia]; exact u)
end
end L2
namespace L2
structure Weak (lt:Nat->Nat->Bool):Prop where
 irr:∀ i,lt i i=false
 tr:∀ i j k,lt i j=true->lt j k=true->lt i k=true
 neg:∀ i j k,lt i j=true->lt i k=true\/lt k j=true
def rk (lt:Nat->Nat->Bool) (N i:Nat):Nat:=(List.range N).countP fun k=>lt k i
theorem Zkr {p q:Nat->Bool}(h:∀ k,p k=true->q k=true) {i:Nat}(hp:p i=false) (hq:q i=true):∀ l:List Nat,i∈l->l.countP p < l.countP q
 | [],m=>nomatch m
 | x::l,m=>by
  have le:=List.countP_mono_left (l:=l) (p:=p) (q:=q) fun k _=>h k
  rw [List.countP_cons,List.countP_cons]
  rcases List.mem_cons.mp m with rfl | m
  ·rw [hp,hq]
   simp
   lia
  ·have:=Zkr h hp hq l m
   by_cases z:p x=true
   ·rw [z,h x z]; simp; lia
   ·cases e:q x with
    | true=>simp [z]; lia
    | false=>simp [z]; lia
theorem Zg3 {lt:Nat->Nat->Bool}(W:Weak lt) {N i j:Nat}(hi:i < N):decide (rk lt N i < rk lt N j)=lt i j:=by
 unfold rk
 cases e:lt i j with
 | true=>exact decide_eq_true (Zkr (fun k h=>W.tr k i j h e) (W.irr i) e _ (List.mem_range.mpr hi))
 | false =>
  refine decide_eq_false (Nat.not_lt.mpr (List.countP_mono_left fun k _ h=>?_))
  rcases W.neg k j i h with z | z
  ·exact z
  ·rw [e] at z; cases z
theorem Pm.out {α:Type}{p:Array Nat}{vs:List α}{d : α}(h:Pm vs.length p):(p.toList.map fun i=>vs.getD i d).Perm vs:=by
 have e:(List.range vs.length).map (fun i=>vs.getD i d)=vs:=by
  apply List.ext_getElem
  ·simp
  ·intro i h1 h2
   simp [h2]
 have:=h.map fun i=>vs.getD i d
 rw [e] at this
 exact this
theorem UpTo.pair {r:Nat->Nat}{p:Array Nat}{N:Nat}(hp:Pm N p) (u:UpTo r p N):p.toList.Pairwise fun i j=>r i<=r j:=by
 rw [List.pairwise_iff_getElem]
 intro i j hi hj hij
 have hs:=hp.size
 have hi':i < p.size:=by simpa using hi
 have hj':j < p.size:=by simpa using hj
 have:=Vx u (j - i) i (by lia)
 rw [show i+(j - i)=j by lia] at this
 unfold kp at this
 simpa [Array.getD,hi',hj'] using this
theorem Zuh {α:Type}{p:Array Nat}{vs:List α}{d : α}{lt : α->α->Bool}(hp:Pm vs.length p) (W:Weak fun i j=>lt (vs.getD i d) (vs.getD j d)) (u:UpTo (rk (fun i j=>lt (vs.getD i d) (vs.getD j d)) vs.length) p vs.length) :
  (p.toList.map fun i=>vs.getD i d).Perm vs/\(p.toList.map fun i=>vs.getD i d).Pairwise fun a b=>lt b a=false:=by
 refine ⟨hp.out,?_⟩
 rw [List.pairwise_map]
 have h1:=u.pair hp
 have hm:∀ i∈p.toList,i < vs.length:=fun i hi=>List.mem_range.mp (hp.mem_iff.mp hi)
 refine List.Pairwise.imp_of_mem ?_ h1
 intro i j hi hj h
 have:=Zg3 W (i:=j) (j:=i) (hm j hj)
 rw [decide_eq_false (Nat.not_lt.mpr h)] at this
 exact this.symm
end L2
namespace L2
open PySem PySem.Spec PyProof.Rows
def ltK:List Key->List Key->Bool
 | .inl x::r,.inl y::t=>if x=y then ltK r t else decide (x < y)
 | .inr x::r,.inr y::t=>if x=y then ltK r t else decide (x.cps.toList < y.cps.toList)
 | _,_=>false
def shp (k:List Key):List Bool:=k.map Sum.isLeft
theorem Zge {x y:Str}(h:x≠y) (h2:¬ x.cps.toList < y.cps.toList):y.cps.toList < x.cps.toList:=by
 by_cases c:y.cps.toList < x.cps.toList
 ·exact c
 ·exfalso
  apply h
  have e:x.cps.toList=y.cps.toList:=List.le_antisymm (List.not_lt.mp c) (List.not_lt.mp h2)
  cases x; cases y
  simp only [Str.mk.injEq]
  exact Array.toList_inj.mp e
theorem Zn1 {x y:Str}(h:x.cps.toList < y.cps.toList):x≠y:=fun e=>by subst e; exact List.lt_irrefl _ h
theorem Zgf:∀ a:List Key,ltK a a=false
 | []=>rfl
 | .inl x::r=>by rw [ltK,if_pos rfl]; exact Zgf r
 | .inr x::r=>by rw [ltK,if_pos rfl]; exact Zgf r
theorem Zg4:∀ a b c:List Key,ltK a b=true->ltK b c=true->ltK a c=true
 | .inl x::r,.inl y::t,.inl z::u,h1,h2=>by
  rw [ltK] at h1 h2 ⊢
  by_cases e1:x=y
  ·rw [if_pos e1] at h1
   subst e1
   by_cases e2:x=z
   ·rw [if_pos e2] at h2 ⊢; exact Zg4 r t u h1 h2
   ·rw [if_neg e2] at h2 ⊢; exact h2
  ·rw [if_neg e1] at h1
   have l1:=of_decide_eq_true h1
   by_cases e2:y=z
   ·subst e2; rw [if_neg e1]; exact h1
   ·rw [if_neg e2] at h2
    have l2:=of_decide_eq_true h2
    rw [if_neg (by lia)]
    exact decide_eq_true (by lia)
 | .inr x::r,.inr y::t,.inr z::u,h1,h2=>by
  rw [ltK] at h1 h2 ⊢
  by_cases e1:x=y
  ·rw [if_pos e1] at h1
   subst e1
   by_cases e2:x=z
   ·rw [if_pos e2] at h2 ⊢; exact Zg4 r t u h1 h2
   ·rw [if_neg e2] at h2 ⊢; exact h2
  ·rw [if_neg e1] at h1
   have l1:=of_decide_eq_true h1
   by_cases e2:y=z
   ·subst e2; rw [if_neg e1]; exact h1
   ·rw [if_neg e2] at h2
    have l2:=of_decide_eq_true h2
    have l3:=List.lt_trans l1 l2
    rw [if_neg (Zn1 l3)]
    exact decide_eq_true l3
 | [],_,_,h1,_=>by cases h1
 | .inl _::_,[],_,h1,_=>by cases h1
 | .inr _::_,[],_,h1,_=>by cases h1
 | .inl _::_,.inr _::_,_,h1,_=>by cases h1
 | .inr _::_,.inl _::_,_,h1,_=>by cases h1
 | .inl _::_,.inl _::_,[],_,h2=>by cases h2
 | .inr _::_,.inr _::_,[],_,h2=>by cases h2
 | .inl _::_,.inl _::_,.inr _::_,_,h2=>by cases h2
 | .inr _::_,.inr _::_,.inl _::_,_,h2=>by cases h2
theorem Zgg:∀ a b c:List Key,shp a=shp c->ltK a b=true->ltK a c=true\/ltK c b=true
 | .inl x::r,.inl y::t,.inl z::u,hs,h=>by
  have hs':shp r=shp u:=by unfold shp at hs ⊢; simpa using hs
  rw [ltK] at h
  rw [ltK,ltK]
  by_cases e1:x=z
  ·subst e1
   rw [if_pos rfl]
   by_cases e2:x=y
   ·rw [if_pos e2] at h ⊢; exact Zgg r t u hs' h
   ·rw [if_neg e2] at h ⊢; exact .inr h
  ·rw [if_neg e1]
   by_cases l:x < z
   ·exact .inl (decide_eq_true l)
   ·by_cases e2:x=y
    ·subst e2; rw [if_neg (fun q=>e1 q.symm)]; exact .inr (decide_eq_true (by lia))
    ·rw [if_neg e2] at h
     have:=of_decide_eq_true h
     rw [if_neg (by lia)]
     exact .inr (decide_eq_true (by lia))
 | .inr x::r,.inr y::t,.inr z::u,hs,h=>by
  have hs':shp r=shp u:=by unfold shp at hs ⊢; simpa using hs
  rw [ltK] at h
  rw [ltK,ltK]
  by_cases e1:x=z
  ·subst e1
   rw [if_pos rfl]
   by_cases e2:x=y
   ·rw [if_pos e2] at h ⊢; exact Zgg r t u hs' h
   ·rw [if_neg e2] at h ⊢; exact .inr h
  ·rw [if_neg e1]
   by_cases l:x.cps.toList < z.cps.toList
   ·exact .inl (decide_eq_true l)
   ·have l2:=Zge e1 l
    by_cases e2:x=y
    ·subst e2; rw [if_neg (fun q=>e1 q.symm)]; exact .inr (decide_eq_true l2)
    ·rw [if_neg e2] at h
     have:=List.lt_trans l2 (of_decide_eq_true h)
     rw [if_neg (Zn1 this)]
     exact .inr (decide_eq_true this)
 | [],_,_,_,h1=>by cases h1
 | .inl _::_,[],_,_,h1=>by cases h1
 | .inr _::_,[],_,_,h1=>by cases h1
 | .inl _::_,.inr _::_,_,_,h1=>by cases h1
 | .inr _::_,.inl _::_,_,_,h1=>by cases h1
 | .inl _::_,.inl _::_,[],hs,_=>by simp [shp] at hs
 | .inr _::_,.inr _::_,[],hs,_=>by simp [shp] at hs
 | .inl _::_,.inl _::_,.inr _::_,hs,_=>by simp [shp] at hs
 | .inr _::_,.inr _::_,.inl _::_,hs,_=>by simp [shp] at hs
theorem Zgh:∀ a b:List Key,shp a=shp b->ltK a b=false->ltK b a=false->a=b
 | [],[],_,_,_=>rfl
 | .inl x::r,.inl y::t,hs,h1,h2=>by
  have hs':shp r=shp t:=by unfold shp at hs ⊢; simpa using hs
  rw [ltK] at h1 h2
  by_cases e:x=y
  ·subst e; rw [if_pos rfl] at h1 h2; rw [Zgh r t hs' h1 h2]
  ·rw [if_neg e] at h1; rw [if_neg (fun q=>e q.symm)] at h2
   have:=of_decide_eq_false h1; have:=of_decide_eq_false h2; lia
 | .inr x::r,.inr y::t,hs,h1,h2=>by
  have hs':shp r=shp t:=by unfold shp at hs ⊢; simpa using hs
  rw [ltK] at h1 h2
  by_cases e:x=y
  ·subst e; rw [if_pos rfl] at h1 h2; rw [Zgh r t hs' h1 h2]
  ·rw [if_neg e] at h1; rw [if_neg (fun q=>e q.symm)] at h2
   exact absurd (Zge e (of_decide_eq_false h1)) (of_decide_eq_false h2)
 | [],_::_,hs,_,_=>by simp [shp] at hs
 | .inl _::_,[],hs,_,_=>by simp [shp] at hs
 | .inr _::_,[],hs,_,_=>by simp [shp] at hs
 | .inl _::_,.inr _::_,hs,_,_=>by simp [shp] at hs
 | .inr _::_,.inl _::_,hs,_,_=>by simp [shp] at hs
end L2
namespace L2
open PySem PySem.Spec PyProof.Rows PySem.W
section
variable {prog:Program}{w:World}{A:Around}{E:Value->Shared->Prop}{s:Shared}
theorem Z07 {i:Nat}{x y:Int}{t u:Tok}{Q:Bool->Shared->Prop}(h:Q (decide (x < y)) s):wpAny (model prog w) A (oneLt' (true && i == 0) (.int x t) (.int y u)) Q E s:=by
 rw [Bool.true_and]
 cases i == 0 with
 | true=>exact oneLt_int h
 | false=>exact kat_one _ _ (lt_int (show PySem.W.BoolBack Q (.bool (decide (x < y))) s from h))
theorem Zz5 {i:Nat}{x y:Str}{t u:Tok}{Q:Bool->Shared->Prop}(h:Q (decide (x.cps.toList < y.cps.toList)) s):wpAny (model prog w) A (oneLt' (true && i == 0) (.str x t) (.str y u)) Q E s:=by
 rw [Bool.true_and]
 cases i == 0 with
 | true=>exact oneLt_str h
 | false=>exact kat_one _ _ (lt_str (show PySem.W.BoolBack Q (.bool (decide (x.cps.toList < y.cps.toList))) s from h))
theorem Zg5 {Q:Bool->Shared->Prop}:∀ (k1 k2:List Key) (us vs:List Value) (i:Nat),shp k1=shp k2->Vals (k1.map kV) us->Vals (k2.map kV) vs->Q (ltK k1 k2) s->KatLex prog w A true false Q (us.zip vs) i s
 | [],[],_,_,i,_,.nil,.nil,h=>kat_nil h
 | .inl x::r,.inl y::t,_,_,i,hs,.cons r1 rr,.cons q1 qq,h=>by
  obtain ⟨t1,rfl⟩:=r1
  obtain ⟨t2,rfl⟩:=q1
  have hs':shp r=shp t:=by unfold shp at hs ⊢; simpa using hs
  rw [ltK] at h
  refine kat_cons (wpAny_eqBool_int ?_)
  by_cases e:x=y
  ·rw [if_pos e] at h
   rw [beq_iff_eq.mpr e]
   exact kat_yes (Zg5 r t _ _ (i+1) hs' rr qq h)
  ·rw [if_neg e] at h
   rw [beq_eq_false_iff_ne.mpr e]
   exact kat_no (Z07 h)
 | .inr x::r,.inr y::t,_,_,i,hs,.cons r1 rr,.cons q1 qq,h=>by
  obtain ⟨t1,rfl⟩:=r1
  obtain ⟨t2,rfl⟩:=q1
  have hs':shp r=shp t:=by unfold shp at hs ⊢; simpa using hs
  rw [ltK] at h
  refine kat_cons (wpAny_eqBool_str ?_)
  by_cases e:x=y
  ·rw [if_pos e] at h
   rw [decide_eq_true e]
   exact kat_yes (Zg5 r t _ _ (i+1) hs' rr qq h)
  ·rw [if_neg e] at h
   rw [decide_eq_false e]
   exact kat_no (Zz5 h)
 | .inl _::_,.inr _::_,_,_,_,hs,_,_,_=>by simp [shp] at hs
 | .inr _::_,.inl _::_,_,_,_,hs,_,_,_=>by simp [shp] at hs
 | [],_::_,_,_,_,hs,_,_,_=>by simp [shp] at hs
 | _::_,[],_,_,_,hs,_,_,_=>by simp [shp] at hs
def Zo2 (prog:Program) (w:World) (A:Around) (s:Shared) (a:Addr) (vs:List Value) (r:Nat->Nat):Prop:=2<=vs.length->∀ h':Heap,(∀ b o,b≠a->s.heap.get? b=some o->h'.get? b=some o) ->
 ∀ Q:SortKind->Shared->Prop,(∀ κ,Yu (kas_ask prog w A κ vs) r vs.length {s with heap:=h' }->Q κ {s with heap:=h' })->wpAny (model prog w) A (keyKind' vs.toArray) Q (fun _ _=>False) {s with heap:=h' }
theorem Zui {a:Addr}{vs:List Value}{n:Nat}{P:PySem.Fin->Shared->Prop}{r:Nat->Nat}(ho:s.heap.get? a=some (seqObj "list" vs.toArray n)) (h64:vs.length < 64) (hk:Zo2 prog w A s a vs r)
  (q:∀ p:Array Nat,Pm vs.length p->UpTo r p vs.length->P (.done (.ret .none)) {s with heap:=sortedHeap s.heap a vs (List.toArray (p.toList.map fun i=>vs.getD i Value.none)) }):wpAny (model prog w) A (Builtin.«list.sort» ⟨[.ref a],[]⟩) P E s:=by
 have la:a < s.heap.objs.size:=Heap.lt_size ho
 obtain ⟨e1,h1⟩:∃ e1,(s.heap.update a (Obj.mapSeq fun _=>(#[]:Array Value))).get? a=some (seqObj "list" #[] e1):=⟨_,get?_update_seq ho fun _=>#[]⟩
 have old:∀ b o,b≠a->s.heap.get? b=some o->(((s.heap.update a (Obj.mapSeq fun _=>(#[]:Array Value))).push (seqObj "tuple" vs.toArray 0)).push (seqObj "list" #[] 0)).get? b=some o:=fun b o nb e =>
  Heap.get?_push_of_some _ (Heap.get?_push_of_some _ (by rw [Heap.get?_update_ne _ _ _ _ nb]; exact e))
 have h6:(((s.heap.update a (Obj.mapSeq fun _=>(#[]:Array Value))).push (seqObj "tuple" vs.toArray 0)).push (seqObj "list" #[] 0)).get? a=some (seqObj "list" #[] e1):=Heap.get?_push_of_some _ (Heap.get?_push_of_some _ h1)
 rw [list_sort_plain]; refine wpAny_bind (listItems_at ho rfl (wpAny_bind (listUpdate_at ho rfl (wpAny_bind (seqEpoch_at h1 rfl (wpAny_bind (wpAny_newTuple (wpAny_bind (wpAny_newList (wpAny_holding ?_)))))))))) <;> try (rw [sizeLine_eq]; simp; lia)
 show wpAny (model prog w) A _ P E {s with heap:=((s.heap.update a (Obj.mapSeq fun _=>(#[]:Array Value))).push (seqObj "tuple" vs.toArray 0)).push (seqObj "list" #[] 0) }
 dsimp only
 by_cases h2:vs.toArray.size < 2
 ·have l2:vs.length < 2:=by simpa using h2
  rw [if_pos h2,if_pos h2]; refine wpAny_bind (wpAny_pure ?_); rw [StateT.run_pure]; refine wpAny_bind (wpAny_pure ?_)
  dsimp only
  have em:(Array.map (fun x=>x.2) (arrOf (SortSt.mk' general' (vs.toArray.zip vs.toArray) #[] 7 none)))=List.toArray ((List.toArray (List.range vs.length)).toList.map fun i=>vs.getD i Value.none):=by
   show Array.map (fun x=>x.2) (vs.toArray.zip vs.toArray)=_
   match vs,l2 with
   | [],_=>simp
   | [v],_=>simp [List.range_succ]
  rw [em]
  have pm:Pm vs.length (List.toArray (List.range vs.length)):=List.Perm.refl _
  have sz:(List.toArray ((List.toArray (List.range vs.length)).toList.map fun i=>vs.getD i Value.none)).size<=sizeLine+1:=by rw [sizeLine_eq]; simp; lia
  refine wpAny_bind (seqEpoch_at h6 rfl (wpAny_bind (listUpdate_at h6 rfl ?_ (Nat.zero_le _) sz)))
  simp only [bne_self_eq_false,Bool.false_eq_true,if_false]; exact wpAny_pure (q _ pm fun i hi=>by lia)
 ·have l2 : 2<=vs.length:=by simp at h2; lia
  rw [if_neg h2,if_neg h2]
  refine wpAny_bind (wpAny_mono (hk l2 _ old (fun κ s'=>s'={s with heap:=((s.heap.update a (Obj.mapSeq fun _=>(#[]:Array Value))).push (seqObj "tuple" vs.toArray 0)).push (seqObj "list" #[] 0) }/\Yu (kas_ask prog w A κ vs) r vs.length s') fun κ hr=>⟨rfl,hr⟩) (fun κ s0 hq=>?_) fun _ _ x=>x.elim)
  obtain ⟨rfl,hr⟩:=hq
  refine wpAny_bind (wpAny_mono (kat_run (ks:=vs) (vs:=vs) (κ:=κ) (G:=fun p s'=>s'={s with heap:=((s.heap.update a (Obj.mapSeq fun _=>(#[]:Array Value))).push (seqObj "tuple" vs.toArray 0)).push (seqObj "list" #[] 0) }/\Pm vs.length p/\UpTo r p vs.length)
   (Q:=fun st' s'=>s'={s with heap:=((s.heap.update a (Obj.mapSeq fun _=>(#[]:Array Value))).push (seqObj "tuple" vs.toArray 0)).push (seqObj "list" #[] 0) }/\∃ p:Array Nat,(arrOf st').map (·.2)=List.toArray (p.toList.map fun i=>vs.getD i Value.none)/\failedOf st'=none/\Pm vs.length p/\UpTo r p vs.length)
   rfl l2 h64 (fun p st' s' a1 a2 a3 a4=>⟨a4.1,p,kat_snds rfl a2,a3,a4.2⟩) (Zyd hr (by lia) fun p a b=>⟨rfl,a,b⟩)) ?_ fun _ _ e=>e)
  rintro ⟨⟨⟩,st'⟩ s' ⟨rfl,p,ho',hf,hp,hu⟩
  dsimp only
  rw [ho']
  have sz:(List.toArray (p.toList.map fun i=>vs.getD i Value.none)).size<=sizeLine+1:=by rw [sizeLine_eq]; simp [hp.size]; lia
  refine wpAny_bind (seqEpoch_at h6 rfl (wpAny_bind (listUpdate_at h6 rfl ?_ (Nat.zero_le _) sz)))
  rw [hf]; simp only [bne_self_eq_false,Bool.false_eq_true,if_false]; exact wpAny_pure (q p hp hu)
theorem Zsj {l:Addr}{vs:List Value}{Q:Value->Shared->Prop}{r:Nat->Nat}(hl:s.heap.IsList l vs.toArray) (h64:vs.length < 64)
  (hk:∀ h0:Heap,(∀ b o,s.heap.get? b=some o->h0.get? b=some o)->Zo2 prog w A.in1.in1 {s with heap:=h0 } (s.heap.objs.size+1) vs r)
  (q:∀ p:Array Nat,Pm vs.length p->UpTo r p vs.length->Q (.ref (s.heap.objs.size+1)) {s with heap:=sortedAll s.heap vs (List.toArray (p.toList.map fun i=>vs.getD i Value.none)) }):wpAny (model prog w) A (call (.builtin "sorted") [.ref l]) Q E s:=by
 refine Calls.call_function_entry kind_sorted plain_sorted entry_sorted (args_sorted1 _) ?_
 have hz:vs.length<=sizeLine:=by rw [sizeLine_eq]; lia
 unfold Builtin.«sorted»; refine wpAny_bind (m:=checkCount "sorted" 1 1 _) (wpAny_pure (wpAny_bind (collect_list hl (wpAny_bind (wpAny_newList ?_ hz)) hz)))
 have zz:((s.heap.push (seqObj "list" #[] 0)).update s.heap.objs.size (Obj.mapSeq (· ++ vs.toArray))).objs.size=s.heap.objs.size+1:=by rw [Heap.size_update]; exact size_push' _ _
 have hL:(((s.heap.push (seqObj "list" #[] 0)).update s.heap.objs.size (Obj.mapSeq (· ++ vs.toArray))).push (seqObj "list" vs.toArray 0)).get? (s.heap.objs.size+1)=some (seqObj "list" vs.toArray 0):=by have:=Heap.get?_push_size ((s.heap.push (seqObj "list" #[] 0)).update s.heap.objs.size (Obj.mapSeq (· ++ vs.toArray))) (o:=seqObj "list" vs.toArray 0) rfl; rw [zz] at this; exact this
 have old:∀ b o,s.heap.get? b=some o->(((s.heap.push (seqObj "list" #[] 0)).update s.heap.objs.size (Obj.mapSeq (· ++ vs.toArray))).push (seqObj "list" vs.toArray 0)).get? b=some o:=fun b o e =>
  Heap.get?_push_of_some _ (by rw [Heap.get?_update_ne _ _ _ _ (Nat.ne_of_lt (Heap.lt_size e))]; exact Heap.get?_push_of_some _ e)
 show wpAny _ _ _ _ _ {s with heap:=((s.heap.push (seqObj "list" #[] 0)).update s.heap.objs.size (Obj.mapSeq (· ++ vs.toArray))).push (seqObj "list" vs.toArray 0) }
 rw [zz]
 exact wpAny_bind (wpAny_holding (wpAny_call_entry slot_list_sort ⟨_,hL,rfl⟩ entry_list_sort (Zui hL h64 (hk _ old) fun p hp hu=>⟨_,rfl,wpAny_pure ⟨_,rfl,q p hp hu⟩⟩) (args_list_sort _)))
end
section
variable {X:Cx}
def TupAt (H:Hp) (p:Addr×List Key):Prop:=H p.1=some (.tup (p.2.map kV))
def Zl5 (K:PySem.W.Frag):List V->Hp->VK->Prop:=fun xs H Q=>∃ (a:Addr) (ps:List (Addr×List Key)) (sh:List Bool),xs = [.ref a]/\SqL K H a (ps.map fun p=>V.ref p.1)/\ps.length < 64/\(∀ p∈ps,TupAt H p/\shp p.2=sh)/\sh ≠ [] /\
  ∀ (l:Addr) (ms:List (Addr×List Key)),H l=none->ms.Perm ps->ms.Pairwise (fun p q=>ltK q.2 p.2=false)->Q (.ref l) (upd H l (.lst (ms.map fun p=>V.ref p.1)))
theorem Zm3:∀ {ps:List (Addr×List Key)}{its:List Value},Vals (ps.map fun p=>V.ref p.1) its->its=ps.map fun p=>Value.ref p.1
 | [],_,.nil=>rfl
 | p::ps,_,.cons r rr=>by cases r; rw [List.map_cons,Zm3 rr]
theorem Zlj:∀ ps:List (Addr×List Key),Vals (ps.map fun p=>V.ref p.1) (ps.map fun p=>Value.ref p.1)
 | []=>.nil
 | p::ps=>.cons rfl (Zlj ps)
theorem Zm4 {pins:List (Addr×Obj)}{σ:St}{H:Hp}{s:Shared}(I:Inv X pins σ H s) {sh:List Bool}(hne:sh ≠ []) {h':Heap}(hk:∀ (p:Addr×List Key) (o:Obj),TupAt H p->s.heap.get? p.1=some o->h'.get? p.1=some o):∀ ps:List (Addr×List Key),(∀ p∈ps,TupAt H p/\shp p.2=sh) ->
  ∃ fs,KatTups h' (ps.map fun p=>Value.ref p.1) fs/\fs.length=ps.length/\∀ v∈fs,Looks (model X.prog X.w) h' (typeOf v) (.type (if sh.head hne then "int" else "str"))
 | [],_=>⟨[],.nil,rfl,fun v hv=>by simp at hv⟩
 | p::ps,h=>by
  obtain ⟨fs,h1,h2,h3⟩:=Zm4 I hne hk ps fun q hq=>h q (List.mem_cons_of_mem _ hq)
  obtain ⟨ht,hs⟩:=h p List.mem_cons_self
  obtain ⟨a,ks⟩:=p
  obtain ⟨its,rv,⟨o,e1,e2,n,e3⟩,_⟩:=I.tuple (SqT.of ht)
  cases ks with
  | nil=>exact absurd hs.symm hne
  | cons k r =>
   cases k with
   | inl x =>
    subst hs
    cases rv with
    | cons r1 rr =>
     obtain ⟨t,rfl⟩:=r1
     refine ⟨.int x t::fs,KatTups.cons (hk (a,.inl x::r) o ht e1) e2 e3 (by simp) h1,by rw [List.length_cons,List.length_cons,h2],fun v hv=>?_⟩
     rcases List.mem_cons.mp hv with rfl | hv
     ·exact Looks.of_pure rfl
     ·exact h3 v hv
   | inr x =>
    subst hs
    cases rv with
    | cons r1 rr =>
     obtain ⟨t,rfl⟩:=r1
     refine ⟨.str x t::fs,KatTups.cons (hk (a,.inr x::r) o ht e1) e2 e3 (by simp) h1,by rw [List.length_cons,List.length_cons,h2],fun v hv=>?_⟩
     rcases List.mem_cons.mp hv with rfl | hv
     ·exact Looks.of_pure rfl
     ·exact h3 v hv
theorem Zye {ps:List (Addr×List Key)}{sh:List Bool}{H:Hp}(ht:∀ p∈ps,TupAt H p/\shp p.2=sh):∃ sh',∀ i,shp (ps.getD i (ps.headD (0,[]))).2=sh':=by
 cases ps with
 | nil=>exact ⟨[],fun i=>by simp [shp]⟩
 | cons p ps =>
  refine ⟨sh,fun i=>?_⟩
  rw [List.getD_eq_getElem?_getD]
  cases e:(p::ps)[i]? with
  | none=>exact (ht p List.mem_cons_self).2
  | some x=>exact (ht x (List.mem_of_getElem? e)).2
theorem Zr8:Wh X (.builtin "sorted") (Zl5 X.K):=by
 intro pins s σ H xs us Q I r h
 obtain ⟨a,ps,sh,rfl,ha,hl,ht,hne,q⟩:=h
 obtain ⟨u,rfl,ru⟩:=Vt r
 cases ru
 obtain ⟨its,rv,p,_⟩:=I.list ha
 have ei:=Zm3 rv
 subst ei
 obtain ⟨sh',hsh⟩:=Zye ht
 have W:Weak fun i j=>ltK (ps.getD i (ps.headD (0,[]))).2 (ps.getD j (ps.headD (0,[]))).2:=⟨fun i=>Zgf _,fun i j k=>Zg4 _ _ _,fun i j k=>Zgg _ _ _ ((hsh i).trans (hsh k).symm)⟩
 have hlen:(ps.map fun p=>Value.ref p.1).length=ps.length:=List.length_map ..
 refine Zsj (r:=rk (fun i j=>ltK (ps.getD i (ps.headD (0,[]))).2 (ps.getD j (ps.headD (0,[]))).2) ps.length) p.isList (by rw [hlen]; exact hl) (fun h0 hk0 l2 h' hk Q' hQ=>?_) fun pa hp hu=>?_
 ·have hold:∀ (p:Addr×List Key) (o:Obj),TupAt H p->s.heap.get? p.1=some o->h'.get? p.1=some o:=fun p o _ e=>hk _ _ (Nat.ne_of_lt (Nat.lt_succ_of_lt (Heap.lt_size e))) (hk0 _ _ e)
  obtain ⟨fs,f1,f2,f3⟩:=Zm4 (h':=h') I hne hold ps ht
  have tt:(Value.type (if sh.head hne then "int" else "str") != Value.type "tuple")=true:=by cases sh.head hne <;> rfl
  have t2:(Value.type (if sh.head hne then "int" else "str") == Value.type (if sh.head hne then "int" else "str"))=true:=by cases sh.head hne <;> rfl
  refine kat_kind (s:={s with heap:=h' }) f1 (by lia) f3 t2 (hQ _ fun i j C hi hj hC=>?_)
  rw [tt]
  rw [hlen] at hi hj
  have get:∀ {i},i < ps.length->∃ p its o n,ps.getD i (ps.headD (0,[]))=p/\(ps.map fun p=>Value.ref p.1).getD i Value.none = .ref p.1/\Vals (p.2.map kV) its/\h'.get? p.1=some o/\o.data = .seq its.toArray n:=fun {i} hi=>by
   have e:ps[i]? = some ps[i]:=List.getElem?_eq_getElem hi
   have m:=List.getElem_mem hi
   obtain ⟨its,rv,⟨o,e1,e2,n,e3⟩,_⟩:=I.tuple (SqT.of (ht _ m).1)
   exact ⟨ps[i],its,o,n,by rw [List.getD_eq_getElem?_getD,e]; rfl,by rw [List.getD_eq_getElem?_getD,List.getElem?_map,e]; rfl,rv,hold _ o (ht _ m).1 e1,e3⟩
  obtain ⟨x,xs,ox,nx,ex,gx,vx,hx,dx⟩:=get hi
  obtain ⟨y,ys,oy,ny,ey,gy,vy,hy,dy⟩:=get hj
  rw [Zg3 W hi] at hC
  have s1:=hsh i
  have s2:=hsh j
  rw [ex] at hC s1
  rw [ey] at hC s2
  show wpAny (model X.prog X.w) X.A.in1.in1 (keyLt' (tuples' true) _ _) C (fun _ _=>False) {s with heap:=h' }
  rw [gx,gy]
  have sz:xs.length=ys.length:=by
   have a1:=vx.length; have a2:=vy.length
   have a3:(shp x.2).length=(shp y.2).length:=by rw [s1,s2]
   unfold shp at a3
   rw [List.length_map] at a1 a2 a3
   rw [List.length_map] at a3
   lia
  refine kat_lt hx dx hy dy ?_
  rw [decide_eq_false (by simp [sz])]
  exact Zg5 x.2 y.2 xs ys 0 (s1.trans s2.symm) vx vy hC
 ·rw [hlen] at hp hu
  obtain ⟨b1,b2⟩:=Zuh (lt:=fun a b:Addr×List Key=>ltK a.2 b.2) hp W hu
  obtain ⟨e,he⟩:=sortedAll_at s.heap (ps.map fun p=>Value.ref p.1) (List.toArray (pa.toList.map fun i=>(ps.map fun p=>Value.ref p.1).getD i Value.none))
  have eo:(pa.toList.map fun i=>(ps.map fun p=>Value.ref p.1).getD i Value.none)=(pa.toList.map fun i=>ps.getD i (ps.headD (0,[]))).map fun p=>Value.ref p.1:=by
   rw [List.map_map]
   refine List.map_congr_left fun i hi=>?_
   have li:i < ps.length:=List.mem_range.mp (hp.mem_iff.mp hi)
   show _=Value.ref (ps.getD i (ps.headD (0,[]))).1
   rw [List.getD_eq_getElem?_getD,List.getD_eq_getElem?_getD,List.getElem?_map,List.getElem?_eq_getElem li]
   rfl
  rw [eo] at he ⊢
  generalize (pa.toList.map fun i=>ps.getD i (ps.headD (0,[])))=ms at b1 b2 he ⊢
  have hz:ms.length=ps.length:=b1.length_eq
  refine ⟨.ref (s.heap.objs.size+1),_,I.laid (t':=s.toks) (o:=.lst (ms.map fun p=>V.ref p.1)) (fun b o=>sortedAll_old) (Nat.le_succ _) ?_,rfl,q _ ms (I.hok.fresh (Nat.le_succ _)) b1 b2⟩
  exact ⟨by rw [List.length_map,hz]; exact Nat.le_trans (Nat.le_of_lt hl) (by decide),ms.map fun p=>Value.ref p.1,e,Zlj ms,by simpa using he⟩
theorem Zry:QC X (.builtin "sorted") (Zl5 X.K):=⟨Zr8⟩
end
end L2
end
section
set_option Elab.async false
set_option linter.all false
set_option maxRecDepth 100000
set_option maxHeartbeats 4000000
namespace L2
open PySem PySem.Spec PyProof.Rows
section
variable {prog:Program}{w:World}{K:Type} [DecidableEq K] {knd:HeapKind prog w K}{A:Around}{E:Value->Shared->Prop}{s:Shared}
end
section
variable {X:Cx}{pins:List (Addr×Obj)}{σ:St}{H:Hp}{s:Shared}{a b:Addr}{z:V}{r:Value}{kvs:List (List Key×V)}{k:List Key}{A:Around}{E:Value->Shared->Prop}
end
section
variable {X:Cx}{o e f:Expr}{apos cpos:Pos}{td ty tx:TE}{n:Nat}
theorem Zl6 (hr:Room n X.A) (ho:QE X o td) (he:QE X e ty) (hf:QE X f tx) (m:M2 X o "get" apos e f cpos:=by exact ⟨rfl,rfl,rfl,rfl⟩):QE X (.Call (.Attribute o "get" apos) [e,f] [] cpos) (Znz td ty tx):=⟨Zvn (by have:=hr.units; lia) ho.h he.h hf.h m⟩
end
end L2
end
section
set_option Elab.async false
set_option linter.all false
namespace L2
open PySem PySem.Spec PyProof.Rows
theorem Yz {X:Cx}{st:Stmt}:QS X st (fun _ _ _=>False):=⟨fun _ _ _ _ _ _ h=>h.elim⟩
end L2
end
section
set_option Elab.async false
set_option linter.all false
set_option maxRecDepth 100000
set_option maxHeartbeats 4000000
namespace L2
open PySem PySem.Spec PyProof.Rows
def Ite (K:PySem.W.Frag) (l:Addr):It :=
 ⟨fun i H=>∃ xs,SqL K H l xs/\i < xs.length,fun i H v H'=>∃ p a,v = .ref p/\H p=none/\H'=upd H p (.tup [.int i,a])/\∀ xs,SqL K H l xs->xs[i]? = some a,
  fun i H=>∃ xs,SqL K H l xs/\xs.length<=i⟩
theorem Zuj {P:Program}{w:World}{K:PySem.W.Frag}{elts:List Expr}{ek:Nat}{epos:Pos}{e it l:Addr}(hei:e≠it) (hle:l≠e) (hli:l≠it) :
  Turn P w K (.Tuple elts ek epos) (Ite K l) [e,it] e (fun i h=>(∃ old,IsEnum h e it i old)/\h.IsListIter it l i) where
 mem:=by simp
 obj:=fun i h st b hb=>by
  obtain ⟨⟨old,he⟩,⟨o,ho,hc,hd⟩⟩:=st
  simp only [List.mem_cons,List.not_mem_nil,or_false] at hb
  rcases hb with rfl | rfl
  ·exact ⟨_,he,fun v q=>by cases q⟩
  ·exact ⟨o,ho,fun v q=>by rw [hd] at q; cases q⟩
 keep:=fun i h h' st k=>by
  obtain ⟨⟨old,he⟩,hit⟩:=st
  exact ⟨⟨old,k e (by simp) _ he⟩,hit.at fun o x=>k it (by simp) o x⟩
 item:=by
  intro X hP hw hK hc i pins s σ H E I hf st hg
  subst hP hw hK
  obtain ⟨⟨old,he⟩,hit⟩:=st
  obtain ⟨xs,q1,hx⟩:=hg
  obtain ⟨its,r1,w1,_⟩:=I.list q1
  have gx:xs[i]? = some xs[i]:=List.getElem?_eq_getElem hx
  obtain ⟨u1,hu1,ru1⟩:=r1.get gx
  refine wpAny_pyNext_enum_item he hit w1.isList (by simpa using hu1) hei fun h' ho hit' hT hsz kp=>?_
  refine ⟨_,rfl,?_⟩
  have hp:H s.heap.objs.size=none:=I.hok.fresh (Nat.le_refl _)
  have ltp:∀ c o,s.heap.get? c=some o->c≠s.heap.objs.size:=fun c o e=>Nat.ne_of_lt (Heap.lt_size e)
  have kp':∀ c o,c ∉ [e,it]->s.heap.get? c=some o->h'.get? c=some o:=fun c o hc e=>kp c o (fun q=>hc (by simp [q])) (fun q=>hc (by simp [q])) e
  have ntr:∀ c u,H c=some u->c ∉ [e,it]:=fun c u e hc=>by
   have:=(hf c hc).1
   rw [this] at e; cases e
  have I1:Inv X pins σ (upd H s.heap.objs.size (.tup [.int i,xs[i]])) {s with heap:=h',toks:=s.toks+1 }:=by
   refine I.step (g':=s.gens) (d':=s.drawn) (t':=s.toks+1) (ch:=[e,it]) (fun c hc=>?_) (fun c o _ _ hc e _=>kp' c o hc e) (fun c o _ _ hc e _=>⟨o.slots,kp' c o hc e⟩) (fun c o hc e n=>by rw [Zc (ltp c o e)]; exact n)
    (fun c o hc e=>⟨o,kp' c o hc e⟩) (fun c us e=>by rw [Zc (Zh e hp)]; exact e) (fun c o u e=>by rw [Zc (Zh e hp)]; exact e) (fun c ps e=>⟨#[],by rw [Zc (Zh e hp),e]; simp⟩) (fun m hm=>?_) ?_ I.bare
   ·obtain ⟨f0,f1,f2,f3,f4,f5⟩:=hf c hc
    exact ⟨f3,f1,f4,f5⟩
   ·refine hm.at fun o e=>kp' _ o (fun hc=>?_) e
    exact (hf _ hc).2.1 rfl
   ·intro c u e
    by_cases hcp:c=s.heap.objs.size
    ·subst hcp
     rw [Zi] at e
     cases e
     exact ⟨by show 2<=sizeLine; decide,[.int i s.toks,u1],.cons ⟨s.toks,rfl⟩ (.cons ru1 .nil),⟨_,hT,rfl,_,rfl⟩⟩
    ·rw [Zc hcp] at e
     refine (I.hok c u e).stay (fun d v hd q=>kp' d v ?_ q) (fun d q=>by rw [Zc (Zh q hp)]; exact q) fun d us q=>by rw [Zc (Zh q hp)]; exact q
     rcases hd with rfl | hd
     ·exact ntr _ u e
     ·exact ntr _ _ hd
  refine wpAny_letOwnedTupleGo_enum (s:={s with heap:=h',toks:=s.toks+1 }) ho fun h2 z2 e2=>?_
  obtain ⟨f0,f1,f2,f3,f4,f5⟩:=hf e (by simp)
  have nz:e≠s.heap.objs.size:=ltp e _ he
  have I2:Inv X pins σ (upd H s.heap.objs.size (.tup [.int i,xs[i]])) {s with heap:=h2,toks:=s.toks+1 }:=I1.turned (s:={s with heap:=h',toks:=s.toks+1 }) (it:=e) (t':=s.toks+1) (fun c o hc e=>(e2.2 c hc).trans e) (by rw [Zc nz]; exact f0) f1 f3 f4 f5
  have z2':IsEnum h2 e it ((i+1:Nat):Int) u1:=by
   have e0:((i+1:Nat):Int)=(i:Int)+1:=by push_cast; rfl
   rw [e0]; exact z2
  refine ⟨.ref s.heap.objs.size,_,I2,rfl,⟨s.heap.objs.size,xs[i],rfl,hp,rfl,fun xs' q1'=>?_⟩,⟨⟨_,z2'⟩,hit'.at fun o x=>(e2.2 it hei.symm).trans x⟩,fun c hc=>?_⟩
  ·rw [I.list_inj q1' q1]
   exact gx
  ·obtain ⟨o,ho⟩:∃ o,s.heap.get? c=some o:=by
    simp only [List.mem_cons,List.not_mem_nil,or_false] at hc
    rcases hc with rfl | rfl
    ·exact ⟨_,he⟩
    ·obtain ⟨o,x,_⟩:=hit; exact ⟨o,x⟩
   rw [Zc (ltp c o ho)]
   exact (hf c hc).1
 done:=by
  intro X hP hw hK hc i pins s σ H E I hf st hg
  subst hP hw hK
  obtain ⟨⟨old,he⟩,hit⟩:=st
  obtain ⟨xs,q1,hend⟩:=hg
  obtain ⟨its,r1,w1,_⟩:=I.list q1
  refine wpAny_pyNext_enum_end (I.ok.hd hc) he hit w1.isList (by have e1:=r1.length; simp; lia) fun h' kp=>⟨rfl,?_⟩
  obtain ⟨f0,f1,f2,f3,f4,f5⟩:=hf it (by simp)
  exact I.turned (it:=it) (t':=s.toks) (fun c o hc e=>kp c o hc e) f0 f1 f3 f4 f5
 self:=fun A i s Q E st h=>by
  obtain ⟨⟨old,he⟩,_⟩:=st
  exact wpAny_pyIter_enum he h
def Zo3 (K:PySem.W.Frag) (ta:TA):TI:=fun σ H R=>ta σ H fun vs H1=>∃ l xs,vs = [.ref l]/\SqL K H1 l xs/\R (Ite K l) H1
theorem Zr9:bootBuiltins "enumerate" = some (.type "enumerate"):=by decide +kernel
theorem Zyf {X:Cx}{a:Expr}{ta:TA}{p pos:Pos}{elts:List Expr}{ek:Nat}{epos:Pos}(hg:Gl X "enumerate") (hm:X.mg "enumerate" = none) (ha:PA X [a] ta) (hs:starEach [a] X.env = [(false,eval a X.env)]:=by rfl) :
  PI X (.Tuple elts ek epos) (.Call (.Name "enumerate" p) [a] [] pos) (Zo3 X.K ta):=by
 intro pins s σ H R I h
 refine Call_ (Vf I hg hm Zr9 (PyProof.Rows.callWith_type1 (thn (ha pos pins s σ H _ I h) fun us s1 ⟨vs,H1,I1,r1,q1⟩=>?_) hs rfl))
 obtain ⟨l,xs,e,h1,q⟩:=q1
 subst e
 obtain ⟨u1,rfl,ru1⟩:=Vt r1
 cases ru1
 obtain ⟨its,r1,p1,_⟩:=I1.list h1
 have b1:l < s1.heap.objs.size:=by obtain ⟨o,n,e,_⟩:=p1; exact Heap.lt_size e
 refine call_enumerate_list p1.isList fun h' z0 st1 _ kp=>?_
 refine wpAny_pyIter_enum z0 ?_
 have b1' : @LT.lt Nat _ l s1.heap.objs.size:=b1
 have key:∀ (a b:Nat),(a < b\/b < a)->¬ (@Eq Nat a b):=fun a b h q=>by lia
 refine ⟨s1.heap.objs.size+1,_,_,_,H1,rfl,I1.kept (h':=h') (t':=s1.toks) kp,Zuj (it:=s1.heap.objs.size) (l:=l) (key _ _ (by lia)) (key _ _ (by lia)) (key _ _ (by lia)),⟨⟨_,z0⟩,st1⟩,fun c hc=>?_,q⟩
 have hle:s1.heap.objs.size<=c:=by
  simp only [List.mem_cons,List.not_mem_nil,or_false] at hc
  have:(s1.heap.objs.size:Nat)<=(c:Nat):=by rcases hc with rfl | rfl <;> lia
  exact this
 exact I1.fpOk hle (I1.hok.fresh hle)
theorem Zyg {X:Cx}{a:Expr}{ta:TA}{p pos:Pos}{elts:List Expr}{ek:Nat}{epos:Pos}(hg:Gl X "enumerate") (hm:X.mg "enumerate" = none) (ha:QA X [a] ta) (hs:starEach [a] X.env = [(false,eval a X.env)]:=by rfl) :
  QI X (.Tuple elts ek epos) (.Call (.Name "enumerate" p) [a] [] pos) (Zo3 X.K ta):=⟨Zyf hg hm ha.h hs⟩
theorem Zuk {K:PySem.W.Frag}{l:Addr}{g:TG}{tb:TS}{D:Ends}{σ:St}{H:Hp}(xs:List V) (Pv:Nat->St->Hp->Prop) (h0:Pv 0 σ H) (hl:∀ i σ H,i<=xs.length->Pv i σ H->SqL K H l xs)
  (hs:∀ i x p σ H,xs[i]? = some x->Pv i σ H->H p=none->g (.ref p) σ (upd H p (.tup [.int i,x])) fun σ2 H2=>tb {D with nx:=Pv (i+1),ct:=Pv (i+1),bk:=D.nx } σ2 H2) (hd:∀ σ H,Pv xs.length σ H->D.nx σ H):Zae (Ite K l) g tb D σ H:=by
 refine ⟨fun i m σ H=>m=xs.length - i/\i<=xs.length/\Pv i σ H,⟨xs.length,by simp,Nat.zero_le _,h0⟩,?_⟩
 rintro i m σ H ⟨rfl,hi,p⟩
 have q1:=hl i σ H hi p
 by_cases hlt:i < xs.length
 ·refine .inr ⟨⟨xs,q1,hlt⟩,Pv (i+1),fun σ' H' p'=>⟨xs.length - (i+1),by lia,rfl,hlt,p'⟩,fun v H' y=>?_⟩
  obtain ⟨pp,a,rfl,hp,rfl,hv⟩:=y
  exact hs i a pp σ H (hv xs q1) p hp
 ·have e:i=xs.length:=by lia
  subst e
  exact .inl ⟨⟨xs,q1,Nat.le_refl _⟩,hd σ H p⟩
end L2
end
section
set_option Elab.async false
set_option linter.all false
set_option maxRecDepth 100000
set_option maxHeartbeats 4000000
namespace L2
open PySem PySem.Spec PyProof.Rows
structure HasM (K:PySem.W.Frag) (C:Addr) (m qual:Str) (st:Stmt):Prop where
 ex:∃ (f:Addr) (fd:FuncData),Fun K m qual st f fd/\Meth K C m f
structure Mt (P:Program) (w:World) (K:PySem.W.Frag) (mg:Str->Option Value) (base:Heap) (C:Addr) (m:Str) (ps:List Str) (k:Nat) (sp:Sp):Prop where
 ex:∃ (f:Addr) (fd:FuncData),Meth K C m f/\FnOk P w K mg base CX0 k f fd ps sp/\Binds K fd ps []
section
variable {P:Program}{w:World}{K:PySem.W.Frag}{mg:Str->Option Value}{base:Heap}{C:Addr}{m qual:Str}{st:Stmt}{N ps:List Str}{k:Nat}{sp:Sp}
theorem HasM.mtQ (h:HasM K C m qual st) (S:FnScope N ps (Za st))
  (hb:∀ (kV doc pm:Value) (an:Option Addr) (cdv ct:Value) (us:List Value),us.length=ps.length->bindArgs (PySem.W.fnOf m qual (Wt st) (Yt st) (Za st) .none kV doc pm an cdv ct) ⟨us,[]⟩=pure (ps.zip us))
  (len:∀ vs H Q E,sp vs H Q E->vs.length=ps.length)
  (hbody:∀ (f:Addr) (cdv:Value) (A:Around) (outer:List Env) (s:Shared) (H:Hp) (vs:List V) (Q:VK) (E:XK),Room k (A.deeper (envOfC qual (Za st) s.heap.objs.size f cdv))->sp vs H Q E ->
   ∃ t,QSs (Yi CX0 P w K mg base N qual (Za st) f cdv A outer s H E).nox (Yt st) t/\t {nx:=fun _ H'=>Q .non H',rt:=Q } (start N vs) H):Mt P w K mg base C m ps (k+1) sp:=by
 obtain ⟨f,fd,F,M⟩:=h.ex
 exact ⟨f,fd,M,F.okQ S len (hbody f),F.binds hb⟩
theorem Yb {f:Addr}{oc:Value}{od an:Option Addr}{osl:Array (Option Value)}{kV doc pm cdv ct:Value}(a:PySem.W.findIn K (.ref C) m=some (some (.ref f))) (i:PySem.W.isFn K (.ref f)=true) (l:K.lookup f=some ⟨oc,od,.func (PySem.W.fnOf m qual (Wt st) (Yt st) (Za st) .none kV doc pm an cdv ct),osl⟩)
  (c:PySem.W.codeIn K cdv qual=true) (kp:PySem.W.keepIn K (.ref f)=true):HasM K C m qual st:=⟨f,_,Zgx l c kp,⟨a,i,kp⟩⟩
structure Mks (P:Program) (w:World) (K:PySem.W.Frag) (mg:Str->Option Value) (base:Heap) (C:Addr) (x:Str) (k:Nat) (sp:Sp):Prop where
 ex:∃ (f:Addr) (fd:FuncData),Mk K C f/\FnOk P w K mg base CX0 k f fd ["self"] sp/\Binds K fd ["self"] []/\mg x=some (.ref C)
theorem Mt.mks {x:Str}(h:Mt P w K mg base C "__init__" ["self"] k sp) (mk:PySem.W.makesIn K C=true) (kc:PySem.W.keepIn K (.ref C)=true) (g:mg x=some (.ref C)):Mks P w K mg base C x k sp:=by
 obtain ⟨f,fd,M,F,B⟩:=h.ex
 exact ⟨f,fd,⟨mk,M.at_,M.fn,kc⟩,F,B,g⟩
end
section
variable {X:Cx}{C:Addr}{m x f:Str}{ps:List Str}{k:Nat}{sp:Sp}{o e value i:Expr}{es:List Expr}{ta td ty tv:TE}{t:TA}{apos pos pos' p:Pos}
theorem Zz {pl:Sem Bool}(he:QE X o ta) (c:Cls X.K C) (M:Mt X.prog X.w X.K X.mg X.base C m ps k sp) (hr:Room k X.A) (ha:QA X (e::es) t)
  (hst:starEach (e::es) X.env=(false,eval e X.env)::starEach es X.env:=by rfl) (hpl:(backTo pos (starEach es X.env)).any (·.1)=false:=by rfl)
  (ht:eval (.Call (.Attribute o m apos) (e::es) [] pos) X.env=(do
   let ov ← eval o X.env
   standAt apos.atName
   let (f,first) ← holding [ov] (getMethod ov m pl)
   callWith pos f first (backTo pos (starEach (e::es) X.env)) (backToKw pos (keywordEach [] X.env))):=by rfl) :
  QE X (.Call (.Attribute o m apos) (e::es) [] pos) (Zed C m sp [] E0 ta t):=by
 obtain ⟨f,fd,M,F,B⟩:=M.ex
 exact ⟨Zxo he.h c M F hr B .nil Zee ha.h hst hpl ht⟩
theorem Zd6 {pl:Sem Bool}(he:QE X o ta) (c:Cls X.K C) (M:Mt X.prog X.w X.K X.mg X.base C m ps k sp) (hr:Room k X.A)
  (ht:eval (.Call (.Attribute o m apos) [] [] pos) X.env=(do
   let ov ← eval o X.env
   standAt apos.atName
   let (f,first) ← holding [ov] (getMethod ov m pl)
   callWith pos f first (backTo pos (starEach [] X.env)) (backToKw pos (keywordEach [] X.env))):=by rfl) :
  QE X (.Call (.Attribute o m apos) [] [] pos) (Zed C m sp [] E0 ta Wy):=by
 obtain ⟨f,fd,M,F,B⟩:=M.ex
 exact ⟨Zvd he.h c M F hr B .nil Zee ht⟩
theorem Zn2 (M:Mks X.prog X.w X.K X.mg X.base C x k sp) (hr:Room (k+1) X.A) (n:Nm X.env.scope x .globalImplicit):QE X (.Call (.Name x p) [] [] pos) (Zol C sp [] E0 Wy):=by
 obtain ⟨f,fd,M,F,B,g⟩:=M.ex
 exact ⟨Zvf M F hr n.1 g B .nil Zee n.2.1⟩
theorem Zy (he:QE X e ta) (hb:attributeBase e f X.env (eval e X.env)=eval e X.env:=by rfl):QE X (.Attribute e f pos) (Zi4 X.K ta f):=⟨Znu he.h hb⟩
theorem Wq (ha:QE X o ta) (hv:QE X value tv) (hs:swapsWith value (some (.Attribute o f pos')) pos.line X.env=pure false:=by rfl):QS X (.Assign [.Attribute o f pos'] value pos) (Zqz X.K ta tv f):=⟨Zzm ha.h hv.h hs⟩
theorem Zb1:QE X (.Dict [] [] pos) Znx:=⟨Zvk⟩
theorem Zb8 (hr:Room k X.A) (ho:QE X o td) (hi:QE X i ty) (hs:Zi6 i):QE X (.Subscript o i pos) (Zor td ty):=⟨Zxu (by have:=hr.units; lia) ho.h hi.h hs⟩
theorem Zv8 {ek ev:Expr}{tk tw:TE}(hk:QE X ek tk) (hv:QE X ev tw):QE X (.Dict [some ek] [ev] pos) (Zot [(tk,tw)]):=⟨Zxx (Zvm hk.h hv.h Zxw) rfl rfl (by simp) (by show 1<=15; decide)⟩
def Z08:List V->Hp->VK->Prop:=fun xs H Q=>∃ a kvs,xs = [V.ref a]/\H a=some (.dK kvs)/\Q (.int kvs.length) H
theorem Zs9:QC X (.builtin "len") Z08:=⟨Zt5⟩
end
end L2
end
section
set_option Elab.async false
set_option linter.all false
set_option maxRecDepth 100000
set_option maxHeartbeats 4000000
namespace L2
open PySem PySem.Spec PyProof.Rows
section
variable {X:Cx}{pins:List (Addr×Obj)}{σ:St}{H:Hp}{s:Shared}
end
section
variable {X:Cx}{e:Expr}{te:TE}
end
section
variable {X:Cx}{tg l:Expr}{te:TE}
end
section
variable {X:Cx}
end
end L2
end
section
set_option Elab.async false
set_option linter.all false
set_option maxRecDepth 100000
set_option maxHeartbeats 4000000
namespace L2
open PySem PySem.Spec PyProof.Rows
section
variable {X:Cx}{o:Expr}{te:TE}
end
end L2
end
section
set_option Elab.async false
set_option linter.all false
set_option maxRecDepth 100000
set_option maxHeartbeats 4000000
namespace L2
open PySem PySem.Spec PyProof.Rows
end L2
end
section
set_option Elab.async false
set_option linter.all false
set_option maxRecDepth 100000
set_option maxHeartbeats 4000000
namespace L2
open PySem PySem.Spec PyProof.Rows PySem.W
def Ents (h:Heap) (d:Addr) (es:Array DictEntry) (ep:Nat):Prop:=∃ o,h.get? d=some o/\o.ExactDict/\o.data = .dict es ep
theorem Ents.ty {s:Shared}{d:Addr}{es:Array DictEntry}{ep:Nat}(h:Ents s.heap d es ep):s.TypeIs (.ref d) "dict" := let ⟨o,e,c,_⟩:=h; ⟨o,e,c.1⟩
section
variable {prog:Program}{w:World}{A:Around}{E:Value->Shared->Prop}{s:Shared}{d it:Addr}{es:Array DictEntry}{ep i:Nat}
end
section
variable {X:Cx}
end
end L2
end
section
set_option Elab.async false
set_option linter.all false
set_option maxRecDepth 100000
set_option maxHeartbeats 4000000
namespace L2
open PySem PySem.Spec PyProof.Rows PySem.W
def e0:Str:=⟨#[]⟩
def ltS (x y:Str):Bool:=decide (x.cps.toList < y.cps.toList)
theorem Zm5 (x:Str):ltS x x=false:=decide_eq_false (List.lt_irrefl _)
theorem Zz6 {x y z:Str}(a:ltS x y=true) (b:ltS y z=true):ltS x z=true:=decide_eq_true (List.lt_trans (of_decide_eq_true a) (of_decide_eq_true b))
theorem Zm6 {x y:Str}(a:ltS x y=false) (b:ltS y x=false):x=y:=by
 by_cases e:x=y
 ·exact e
 ·exact absurd (Zge e (of_decide_eq_false a)) (of_decide_eq_false b)
section
variable {X:Cx}
end
end L2
end
section
set_option Elab.async false
set_option linter.all false
set_option maxRecDepth 100000
set_option maxHeartbeats 4000000
namespace L2
open PySem PySem.Spec PyProof.Rows PySem.W
section
variable {prog:Program}{w:World}{A:Around}{E:Value->Shared->Prop}{s:Shared}{d it:Addr}{es:Array DictEntry}{ep i:Nat}
theorem Zul (d:Addr) (lo:(d == sysModules)=false):MeetsIn prog w (Builtin.«dict.items» ⟨[.ref d],[]⟩) (fun _ R s=>s.TypeIs (.ref d) "dict" /\ R (.ok (.ret (.ref s.heap.objs.size))) {s with heap:=s.heap.push {cls:=.type "dict_items", data:=.fields #[.ref d] } }) :=
 .of_wp fun A R s ⟨ty,q⟩=>by
  unfold Builtin.«dict.items» Builtin.Dict.noArgs; refine wpAny_bind (wpAny_bind (wpAny_notOrdered_dict ty ?_))
  show wpAny _ _ (pure d) _ _ s; refine wpAny_pure ?_
  show wpAny _ _ (Builtin.Dict.showsAll d >>= _) _ _ s; unfold Builtin.Dict.showsAll; rw [if_neg (by rw [lo]; simp)]
  exact wpAny_bind (wpAny_pure (wpAny_bind (wpAny_newObj_type (wpAny_pure ⟨_,rfl,q⟩))))
theorem Zta {v:Addr}{Q:Value->Shared->Prop}(hv:s.heap.IsItemsView v d) (h:Ents s.heap d es ep)
  (q:Q (.ref s.heap.objs.size) {s with heap:=s.heap.push {cls:=.type "dict_itemiterator", data:=.fields #[.none,.bool false,.ref d,.int 0 0,.int es.size 0,.int ep 0,.none,.none] } }):wpAny (model prog w) A (pyIter (.ref v)) Q E s:=by
 have ty:=hv.typeIs
 obtain ⟨ov,v1,v2,v3⟩:=hv
 obtain ⟨o,e1,e2,e3⟩:=h
 refine wpAny_pyIter_slot ty PySem.F.slot_dict_items_iter (wpAny_call_entry PySem.F.slot_dict_items_iter ty PySem.F.entry_dict_items_iter ?_ (PySem.F.args_dict_items_iter_1 _))
 unfold Builtin.«dict_items.__iter__»; refine wpAny_bind (wpAny_pure (wpAny_bind ?_)); unfold Builtin.Dict_items.dictOf
 refine wpAny_bind (wpAny_field v1 v3 (x:=.ref d) rfl (wpAny_pure (wpAny_bind ?_))); unfold Builtin.Dict_items.newIterator; refine wpAny_bind (wpAny_dictEntries e1 e3 (wpAny_bind (wpAny_dictEpoch e1 e3 ?_)))
 simp only [show Builtin.Dict_items.ownsTuple "dict_itemiterator" = true by decide,if_true]
 refine wpAny_newObj_type (wpAny_pure ⟨_,rfl, "dict_itemiterator", _,⟨_,Heap.get?_push_size _ rfl,rfl⟩,PySem.F.slot_dict_itemiterator_next.lookup,?_⟩) (by simp only [sizeOk,Builtin.Dict_items.ownedTupleFields,List.size_toArray,List.length_append,List.length_cons,List.length_nil,sizeLine_eq]; lia)
 simpa [rawInt,Builtin.Dict_items.ownedTupleFields] using q
theorem Ztb {ok ov:Value}{Q:Option Value->Shared->Prop}(hI:IsItemIter s.heap it d i es.size ep ok ov) (h:Ents s.heap d es ep) (hi:i < es.size)
  (q:∀ h',IsItemIterOut h' it d (i+1) es.size ep es[i].key es[i].val s.heap.objs.size->h'.get? s.heap.objs.size=some {cls:=.type "tuple", data:=.seq #[es[i].key,es[i].val] }->h'.objs.size=s.heap.objs.size+1->(∀ b o,b≠it->s.heap.get? b=some o->h'.get? b=some o)->Q (some (.ref s.heap.objs.size)) {s with heap:=h' }) :
  wpAny (model prog w) A (pyNext (.ref it)) Q E s:=by
 obtain ⟨hp,g,dr,tk,os⟩:=s
 obtain ⟨od,e1,e2,e3⟩:=h
 have ty:Shared.TypeIs ⟨hp,g,dr,tk,os⟩ (.ref it) "dict_itemiterator" := ⟨_,hI,rfl⟩
 unfold pyNext; refine wpAny_bind (wpAny_attempt (wpAny_callSpecial?_slot (name:=Str.ofString "__next__") ty PySem.F.slot_dict_itemiterator_next (wpAny_call_entry PySem.F.slot_dict_itemiterator_next ty PySem.F.entry_dict_itemiterator_next ?_ (PySem.F.args_dict_itemiterator_next_1 _))))
 refine wpAny_bind (wpAny_pure (wpAny_bind (wpAny_bind ?_)))
 first | refine wpAny_bind (wpAny_typeNameOfWhole_itemiter ty (wpAny_pure (wpAny_bind (wpAny_fieldsOf hI rfl ?_)))) | refine wpAny_bind (wpAny_typeNameOf_itemiter ty (wpAny_pure (wpAny_bind (wpAny_fieldsOf hI rfl ?_))))
 simp only [show Builtin.Dict_items.ownsTuple "dict_itemiterator" = true by decide,if_true]
 show wpAny _ _ (if (Value.ref d == Value.none)=true then _ else _) _ _ _; rw [if_neg (show ¬ ((Value.ref d == Value.none)=true) from Bool.false_ne_true)]
 refine wpAny_bind (wpAny_pure (wpAny_bind (wpAny_dictEntries e1 e3 ?_))); rw [if_neg (by simp)]
 refine wpAny_bind (wpAny_pure (wpAny_bind (wpAny_dictEpoch e1 e3 ?_))); rw [if_neg (by simp)]; refine wpAny_pure ?_
 simp only [show ¬ ((i:Int) < 0) from by lia,if_false,Int.toNat_natCast,Array.getElem?_eq_getElem hi]; refine wpAny_bind ?_
 first | refine wpAny_bind (wpAny_typeNameOfWhole_itemiter ty (wpAny_pure (wpAny_bind (wpAny_isOneOf_itemiter ty ?_)))) | refine wpAny_bind (wpAny_typeNameOf_itemiter ty (wpAny_pure (wpAny_bind (wpAny_isOneOf_itemiter ty ?_))))
 show wpAny _ _ (setField (.ref it) 3 (rawInt ((i:Int)+1)) >>= _) _ _ ⟨hp,g,dr,tk,os⟩; refine wpAny_bind (wpAny_setField_rec hI (by simp) fun h1 a1 b1=>?_)
 have b1:Heap.SameBut it hp h1:=b1
 have a1:IsItemIter h1 it d (i+1) es.size ep ok ov:=by
  have e:((i+1:Nat):Int)=(i:Int)+1:=by lia
  unfold IsItemIter; rw [e]; simpa [rawInt] using a1
 have ty1:Shared.TypeIs ⟨h1,g,dr,tk,os⟩ (.ref it) "dict_itemiterator" := ⟨_,a1,rfl⟩
 refine wpAny_bind (wpAny_holding (wpAny_bind (wpAny_isOneOf_itemiter ty1 (wpAny_bind (wpAny_isOneOf_itemiter ty1 ?_)))))
 show wpAny _ _ (Builtin.Dict_items.pairFromOwner (.ref it) 6 es[i].key es[i].val) _ _ ⟨h1,g,dr,tk,os⟩; unfold Builtin.Dict_items.pairFromOwner; refine wpAny_bind (wpAny_newTuple ?_)
 have a2:IsItemIter (h1.push {cls:=.type "tuple", data:=.seq #[es[i].key,es[i].val] }) it d (i+1) es.size ep ok ov:=Heap.get?_push_of_some _ a1
 have z1:h1.objs.size=hp.objs.size:=b1.1
 have hil:it < hp.objs.size:=Heap.lt_size hI
 have t2:(h1.push {cls:=.type "tuple", data:=.seq #[es[i].key,es[i].val] }).get? hp.objs.size=some {cls:=.type "tuple", data:=.seq #[es[i].key,es[i].val] }:=by rw [← z1]; exact Heap.get?_push_size _ rfl
 have z2:(h1.push {cls:=.type "tuple", data:=.seq #[es[i].key,es[i].val] }).objs.size=hp.objs.size+1:=by rw [Heap.size_push,z1]
 have k2:∀ b o,b≠it->hp.get? b=some o->(h1.push {cls:=.type "tuple", data:=.seq #[es[i].key,es[i].val] }).get? b=some o:=fun b o hb e=>Heap.get?_push_of_some _ (b1.extBut b o hb e)
 generalize h1.push {cls:=.type "tuple", data:=.seq #[es[i].key,es[i].val] }=h2 at a2 t2 z2 k2
 show wpAny _ _ (Builtin.Dict_items.ownedTupleIsFree (.ref it) >>= _) _ _ ⟨h2,g,dr,tk,os⟩
 rw [z1]
 refine wpAny_bind ?_; unfold Builtin.Dict_items.ownedTupleIsFree; refine wpAny_bind (wpAny_field a2 rfl (x:=.none) rfl (wpAny_pure ?_)); simp only [if_true]
 refine wpAny_bind (wpAny_field a2 rfl (x:=ok) rfl (wpAny_bind (wpAny_field a2 rfl (x:=ov) rfl (wpAny_bind (wpAny_setField_rec a2 (by simp) fun h3 a3 b3=>?_)))))
 have b3:Heap.SameBut it h2 h3:=b3
 have a3:IsItemIter h3 it d (i+1) es.size ep es[i].key ov:=a3
 refine wpAny_bind (wpAny_setField_rec a3 (by simp) fun h4 a4 b4=>?_)
 have b4:Heap.SameBut it h3 h4:=b4
 have a4:IsItemIter h4 it d (i+1) es.size ep es[i].key es[i].val:=a4
 refine wpAny_bind (wpAny_setField_rec a4 (by simp) fun h5 a5 b5=>?_)
 have b5:Heap.SameBut it h4 h5:=b5
 have a5:IsItemIterOut h5 it d (i+1) es.size ep es[i].key es[i].val hp.objs.size:=a5
 refine wpAny_bind (wpAny_setField_rec a5 (by simp) fun h6 a6 b6=>?_)
 have b6:Heap.SameBut it h5 h6:=b6
 have a6:IsItemIterOut h6 it d (i+1) es.size ep es[i].key es[i].val hp.objs.size:=a6
 have kk:∀ b o,b≠it->h2.get? b=some o->h6.get? b=some o:=fun b o hb e=>b6.extBut b o hb (b5.extBut b o hb (b4.extBut b o hb (b3.extBut b o hb e)))
 exact wpAny_bind (wpAny_letGo (wpAny_pure (wpAny_pure ⟨_,rfl,wpAny_pure (q h6 a6 (kk _ _ (Nat.ne_of_gt hil) t2) (by show h6.objs.size=hp.objs.size+1; rw [b6.1,b5.1,b4.1,b3.1,z2]) fun b o hb e=>kk b o hb (k2 b o hb e))⟩)))
theorem Zum {ok ov:Value}{Q:Option Value->Shared->Prop}(hh:A.handled=none) (hI:IsItemIter s.heap it d i es.size ep ok ov) (h:Ents s.heap d es ep) (hi:es.size<=i) (q:∀ h',Heap.ExtBut it s.heap h'->Q none {s with heap:=h' }):wpAny (model prog w) A (pyNext (.ref it)) Q E s:=by
 obtain ⟨od,e1,e2,e3⟩:=h
 have ty:s.TypeIs (.ref it) "dict_itemiterator" := ⟨_,hI,rfl⟩
 unfold pyNext; refine wpAny_bind (wpAny_attempt (wpAny_callSpecial?_slot (name:=Str.ofString "__next__") ty PySem.F.slot_dict_itemiterator_next (wpAny_call_entry PySem.F.slot_dict_itemiterator_next ty PySem.F.entry_dict_itemiterator_next ?_ (PySem.F.args_dict_itemiterator_next_1 _))))
 refine wpAny_bind (wpAny_pure (wpAny_bind (wpAny_bind ?_)))
 first | refine wpAny_bind (wpAny_typeNameOfWhole_itemiter ty (wpAny_pure (wpAny_bind (wpAny_fieldsOf hI rfl ?_)))) | refine wpAny_bind (wpAny_typeNameOf_itemiter ty (wpAny_pure (wpAny_bind (wpAny_fieldsOf hI rfl ?_))))
 simp only [show Builtin.Dict_items.ownsTuple "dict_itemiterator" = true by decide,if_true]
 show wpAny _ _ (if (Value.ref d == Value.none)=true then _ else _) _ _ s; rw [if_neg (show ¬ ((Value.ref d == Value.none)=true) from Bool.false_ne_true)]
 refine wpAny_bind (wpAny_pure (wpAny_bind (wpAny_dictEntries e1 e3 ?_))); rw [if_neg (by simp)]
 refine wpAny_bind (wpAny_pure (wpAny_bind (wpAny_dictEpoch e1 e3 ?_))); rw [if_neg (by simp)]; refine wpAny_pure ?_
 simp only [show ¬ ((i:Int) < 0) from by lia,if_false,Int.toNat_natCast,Array.getElem?_eq_none hi]; refine wpAny_bind ?_
 first | refine wpAny_bind (wpAny_typeNameOfWhole_itemiter ty (wpAny_pure ?_)) | refine wpAny_bind (wpAny_typeNameOf_itemiter ty (wpAny_pure ?_))
 show wpAny _ _ (setField (.ref it) 2 .none >>= _) _ _ s; refine wpAny_bind (wpAny_setField hI rfl (by simp) ?_)
 show wpAny _ _ (newExc (.type "StopIteration") [] >>= _) _ _ _; refine wpAny_bind ?_; simp only [newExc,newTuple]; refine wpAny_bind (wpAny_newObj_type ?_ (by size_fits))
 refine wpAny_bind (m:=firstArgMember _ _) (wpAny_of_eq (a:=Value.none) (by first | rfl | (simp only [firstArgMember]; rfl)) ?_); refine wpAny_newObj_type ?_ (by size_fits); simp only [raiseNew]
 refine wpAny_bind (wpAny_handled ?_); rw [show A.in1.handled=none from hh]; refine wpAny_bind (wpAny_pure (wpAny_throw ?_))
 exact wpAny_bind (wpAny_isInstance (T := "StopIteration") (b:=true) ⟨_,Heap.get?_push_size _ rfl,rfl⟩ isSubtype_stop (wpAny_pure (q _ (((Heap.SameBut.update ..).extBut.push _).push _))))
end
section
variable {X:Cx}{pins:List (Addr×Obj)}{σ:St}{H:Hp}{s:Shared}
theorem Inv.freezeT {d:Addr}{o:Obj}{kvs:List (List Key×V)}(I:Inv X pins σ H s) (e:H d=some (.dT kvs)) (ho:s.heap.get? d=some o):Inv X pins σ (upd H d (.frz o (.dT kvs))) s:=by
 have ne:∀ b u,H b=some u->(∀ ks,u ≠ .dT ks)->b≠d:=fun b u q n z=>by rw [z,e] at q; exact n _ (Option.some.inj q).symm
 exact I.write (h':=s.heap) (t':=s.toks) (x:=d) (e:=d) (o:=.frz o (.dT kvs)) (by rw [e]; exact True.intro) (.inl rfl) (fun _ _ _ q=>q) ⟨o,ho⟩
  ⟨ho,(show ObjOk X.prog X.w H s.heap d (.dT kvs) from I.hok d _ e).stay (fun _ _ _ z=>z) (fun c z=>by rw [Zc (ne c _ z fun _ y=>nomatch y)]; exact z) fun c xs z=>by rw [Zc (ne c _ z fun _ y=>nomatch y)]; exact z⟩
theorem Inv.nofrzT {d:Addr}{kvs:List (List Key×V)}(I:Inv X pins σ H s) (e:H d=some (.dT kvs)):∀ o u,X.H₀ d≠some (.frz o u):=fun o u z=>by
 have:=I.base.frzs d o u z
 rw [e] at this; cases this
theorem Inv.thawT {d:Addr}{o:Obj}{kvs:List (List Key×V)}(I:Inv X pins σ H s) (e:H d=some (.frz o (.dT kvs))) (nf:∀ o u,X.H₀ d≠some (.frz o u)):Inv X pins σ (upd H d (.dT kvs)) s:=by
 have hne:∀ b u,H b=some u->(∀ x,u ≠ .frz o x)->b≠d:=fun b u q n z=>by rw [z,e] at q; exact n _ (Option.some.inj q).symm
 have hnn:∀ b,H b=none->b≠d:=fun b q z=>by rw [z,e] at q; cases q
 refine ⟨I.ok,I.os,I.bare,⟨I.base.keep,I.base.slot,fun b ob q n hx=>?_,I.base.there,fun b xs q=>?_,fun b ob u q=>?_,fun b ps q=>?_⟩,I.loc,I.cell,?_,fun x c q=>?_,fun p hp=>?_,fun b u q=>?_,I.len⟩
 ·have:=I.base.free b ob q n hx
  rw [Zc (hnn b this)]; exact this
 ·have:=I.base.tups b xs q
  rw [Zc (hne b _ this fun _ z=>nomatch z)]; exact this
 ·have:=I.base.frzs b ob u q
  rw [Zc (fun z=>nf ob u (by rw [← z]; exact q))]; exact this
 ·obtain ⟨m,hm⟩:=I.base.tbls b ps q
  exact ⟨m,by rw [Zc (hne b _ hm fun _ z=>nomatch z)]; exact hm⟩
 ·rw [Zc (hnn _ I.free)]; exact I.free
 ·rw [Zc (hnn _ (I.freeC x c q))]; exact I.freeC x c q
 ·obtain ⟨p1,p2,p3,p4,p5⟩:=I.pin p hp
  exact ⟨p1,by rw [Zc (hnn _ p2)]; exact p2,p3,p4,p5⟩
 ·have st:∀ {u:HO},ObjOk X.prog X.w H s.heap b u->ObjOk X.prog X.w (upd H d (.dT kvs)) s.heap b u:=fun k=>k.stay (fun _ _ _ z=>z) (fun c z=>by rw [Zc (hne c _ z fun _ y=>nomatch y)]; exact z) fun c xs z=>by rw [Zc (hne c _ z fun _ y=>nomatch y)]; exact z
  by_cases hb:b=d
  ·subst hb
   rw [Zi] at q
   cases q
   exact st (show ObjOk X.prog X.w H s.heap b (.frz o (.dT kvs)) from I.hok b _ e).2
  ·rw [Zc hb] at q
   exact st (I.hok b u q)
end
section
variable {X:Cx}{e:Expr}{te:TE}
def Zz7 (te:TE):TE:=fun σ H Q=>∃ d kvs,H d=some (.dT kvs)/\∀ o,te σ (upd H d (.frz o (.dT kvs))) fun v H'=>H' d=some (.frz o (.dT kvs))/\Q v (upd H' d (.dT kvs))
theorem Zv9 (h:QE X e te):QE X e (Zz7 te):=⟨by
 intro pins s σ H Q I q
 obtain ⟨d,kvs,ed,q⟩:=q
 obtain ⟨z,y,vs,r,o,es,ep,ho,c⟩:=(show ObjOk X.prog X.w H s.heap d (.dT kvs) from I.hok d _ ed)
 have nf:=I.nofrzT ed
 exact thn (h.h pins s σ _ _ (I.freezeT ed ho) (q o)) fun u s1 ⟨x,H1,I1,r1,e1,q1⟩=>⟨x,_,I1.thawT e1 nf,r1,q1⟩⟩
end
def ItT (d:Addr) (o:Obj) (kvs:List (List Key×V)):It :=
 ⟨fun i H=>H d=some (.frz o (.dT kvs))/\i < kvs.length,fun i H v H'=>∃ p a x,kvs[i]? = some x/\H a=some (.tup (x.1.map kV))/\v = .ref p/\H p=none/\H'=upd H p (.tup [.ref a,x.2]),fun i H=>H d=some (.frz o (.dT kvs))/\kvs.length<=i⟩
theorem KT.at {H:Hp}:∀ {kvs:List (List Key×V)}{xs:List (List Key×Addr×Value)},Paired (fun (p:List Key×V) (q:List Key×Addr×Value)=>p.1=q.1/\H q.2.1=some (.tup (p.1.map kV))/\RelV p.2 q.2.2) kvs xs->∀ {i:Nat}{x:List Key×V}{y:List Key×Addr×Value},kvs[i]? = some x->xs[i]? = some y->H y.2.1=some (.tup (x.1.map kV))/\RelV x.2 y.2.2:=by
 intro kvs xs h
 induction h with
 | nil=>intro i x y h1; simp at h1
 | @cons a b as bs r t ih =>
  intro i x y h1 h2
  cases i with
  | zero=>cases h1; cases h2; exact r.2
  | succ i=>exact ih h1 h2
theorem Zsk {P:Program}{w:World}{K:PySem.W.Frag}{elts:List Expr}{ek:Nat}{epos:Pos}(it d:Addr) (o:Obj) (kvs:List (List Key×V)) (es:Array DictEntry) (ep:Nat) (hne:d≠it) (hsz:es.size=kvs.length) (hD:o.ExactDict/\o.data = .dict es ep) :
  Turn P w K (.Tuple elts ek epos) (ItT d o kvs) [it] it (fun i h=>∃ ok ov,IsItemIter h it d i es.size ep ok ov) where
 mem:=by simp
 obj:=fun i h st b hb=>by
  have e:b=it:=by simpa using hb
  subst e
  obtain ⟨ok,ov,st⟩:=st
  exact ⟨_,st,fun v q=>by cases q⟩
 keep:=fun i h h' st k=>by
  obtain ⟨ok,ov,st⟩:=st
  exact ⟨ok,ov,k it (by simp) _ st⟩
 item:=by
  intro X hP hw hK hc i pins s σ H E I hf st hg
  subst hP hw hK
  obtain ⟨ok,ov,st⟩:=st
  obtain ⟨f0,f1,f2,f3,f4,f5⟩:=hf it (by simp)
  obtain ⟨ed,hi⟩:=hg
  obtain ⟨hod,z,lo,xs,rel,o',es',ep',ho',c1,c2,c3,c4⟩:=(show ObjOk X.prog X.w H s.heap d (.frz o (.dT kvs)) from I.hok d _ ed)
  rw [hod] at ho'
  cases ho'
  rw [hD.2] at c2
  cases c2
  have hi':i < es.size:=by lia
  obtain ⟨x,hx⟩:∃ x,kvs[i]? = some x:=⟨_,List.getElem?_eq_getElem hi⟩
  obtain ⟨y,hy⟩:∃ y,xs[i]? = some y:=⟨_,List.getElem?_eq_getElem (by rw [← rel.length]; exact hi)⟩
  have ee:es[i]'hi'=entryOfKey (tupleKind (Ym X.prog X.w)) y:=by
   have:es.toList[i]? = some (entryOfKey (tupleKind (Ym X.prog X.w)) y):=by rw [c3,List.getElem?_map,hy]; rfl
   rw [Array.getElem?_toList,Array.getElem?_eq_getElem hi'] at this
   exact Option.some.inj this
  obtain ⟨ha,rv⟩:=KT.at rel hx hy
  refine Ztb st ⟨o,hod,hD⟩ hi' fun h' ho hT hsz' kp=>?_
  rw [ee] at ho hT
  refine ⟨_,rfl,?_⟩
  have hp:H s.heap.objs.size=none:=I.hok.fresh (Nat.le_refl _)
  have ltp:∀ c o,s.heap.get? c=some o->c≠s.heap.objs.size:=fun c o e=>Nat.ne_of_lt (Heap.lt_size e)
  have kp':∀ c o,c ∉ [it]->s.heap.get? c=some o->h'.get? c=some o:=fun c o hc e=>kp c o (fun q=>hc (by simp [q])) e
  have ntr:∀ c u,H c=some u->c ∉ [it]:=fun c u e hc=>by
   have:=(hf c hc).1
   rw [this] at e; cases e
  have I1:Inv X pins σ (upd H s.heap.objs.size (.tup [.ref y.2.1,x.2])) {s with heap:=h' }:=by
   refine I.step (g':=s.gens) (d':=s.drawn) (t':=s.toks) (ch:=[it]) (fun c hc=>?_) (fun c o _ _ hc e _=>kp' c o hc e) (fun c o _ _ hc e _=>⟨o.slots,kp' c o hc e⟩) (fun c o hc e n=>by rw [Zc (ltp c o e)]; exact n)
    (fun c o hc e=>⟨o,kp' c o hc e⟩) (fun c us e=>by rw [Zc (Zh e hp)]; exact e) (fun c o u e=>by rw [Zc (Zh e hp)]; exact e) (fun c ps e=>⟨#[],by rw [Zc (Zh e hp),e]; simp⟩) (fun m hm=>?_) ?_ I.bare
   ·obtain ⟨f0,f1,f2,f3,f4,f5⟩:=hf c hc
    exact ⟨f3,f1,f4,f5⟩
   ·refine hm.at fun o e=>kp' _ o (fun hc=>?_) e
    exact (hf _ hc).2.1 rfl
   ·intro c u e
    by_cases hcp:c=s.heap.objs.size
    ·subst hcp
     rw [Zi] at e
     cases e
     exact ⟨by show 2<=sizeLine; decide,[.ref y.2.1,y.2.2],.cons rfl (.cons rv .nil),⟨_,hT,rfl,_,rfl⟩⟩
    ·rw [Zc hcp] at e
     refine (I.hok c u e).stay (fun d v hd q=>kp' d v ?_ q) (fun d q=>by rw [Zc (Zh q hp)]; exact q) fun d us q=>by rw [Zc (Zh q hp)]; exact q
     rcases hd with rfl | hd
     ·exact ntr _ u e
     ·exact ntr _ _ hd
  refine wpAny_letOwnedTupleGo_items (s:={s with heap:=h' }) ho fun h2 z2 e2=>?_
  have nz:it≠s.heap.objs.size:=ltp it _ st
  have I2:Inv X pins σ (upd H s.heap.objs.size (.tup [.ref y.2.1,x.2])) {s with heap:=h2 }:=I1.turned (s:={s with heap:=h' }) (it:=it) (t':=s.toks) (fun c o hc e=>(e2.2 c hc).trans e) (by rw [Zc nz]; exact f0) f1 f3 f4 f5
  refine ⟨.ref s.heap.objs.size,_,I2,rfl,⟨s.heap.objs.size,y.2.1,x,hx,ha,rfl,hp,rfl⟩,⟨_,_,z2⟩,fun c hc=>?_⟩
  obtain rfl:c=it:=by simpa using hc
  rw [Zc nz]
  exact f0
 done:=by
  intro X hP hw hK hc i pins s σ H E I hf st hg
  subst hP hw hK
  obtain ⟨ok,ov,st⟩:=st
  obtain ⟨f0,f1,f2,f3,f4,f5⟩:=hf it (by simp)
  obtain ⟨ed,hi⟩:=hg
  obtain ⟨hod,_⟩:=(show ObjOk X.prog X.w H s.heap d (.frz o (.dT kvs)) from I.hok d _ ed)
  exact Zum (I.ok.hd hc) st ⟨o,hod,hD⟩ (by lia) fun h' eb=>⟨rfl,I.turned (t':=s.toks) (fun b ob hb e=>eb b ob hb e) f0 f1 f3 f4 f5⟩
 self:=fun _ _ _ _ _ st h=>by
  obtain ⟨ok,ov,st⟩:=st
  exact PySem.W.kcp_self st h
section
variable {X:Cx}{o:Expr}{te:TE}
def Zyh (te:TE):TI:=fun σ H R=>te σ H fun x H1=>∃ d ob kvs,x = .ref d/\H1 d=some (.frz ob (.dT kvs))/\R (ItT d ob kvs) H1
theorem Zun {elts:List Expr}{ek:Nat}{epos apos cpos:Pos}(hl:QE X o te) (hbase:attributeBase o "items" X.env (eval o X.env)=eval o X.env:=by rfl) (hline:(apos.endLine == cpos.line)=true:=by rfl) :
  QI X (.Tuple elts ek epos) (.Call (.Attribute o "items" apos) [] [] cpos) (Zyh te):=⟨by
 intro pins s σ H R I h
 refine wpAny_Call_method0_late hbase hline (thn (hl.h pins s σ H _ I h) fun u s1 ⟨x,H1,I1,r1,d,ob,kvs,ex,ed,q⟩=>?_)
 subst ex
 obtain rfl:u=Value.ref d:=r1
 obtain ⟨hod,z,lo,xs,rel,o',es,ep,ho',c1,c2,c3,c4⟩:=(show ObjOk X.prog X.w H1 s1.heap d (.frz ob (.dT kvs)) from I1.hok d _ ed)
 rw [hod] at ho'
 cases ho'
 have hE:Ents s1.heap d es ep:=⟨ob,hod,c1,c2⟩
 have hsz:es.size=kvs.length:=by rw [← Array.length_toList,c3,List.length_map,rel.length]
 refine ⟨"dict", "dict.items", PySem.F.plainAttrs_dict,PySem.F.slot_dict_items,PySem.F.type_dict_items,hE.ty,fun b hb=>?_,Calls.callWith_builtin rfl (PySem.evalArgs_none ?_)⟩
 ·cases hb
  exact ⟨ob,hod,c1.2.1⟩
 refine call_meetsIn PySem.F.slot_dict_items hE.ty PySem.F.entry_dict_items (PySem.F.args_dict_items_1 _) (Zul d lo) ⟨hE.ty,?_⟩
 have I2:Inv X pins σ H1 {s1 with heap:=s1.heap.push {cls:=.type "dict_items", data:=.fields #[.ref d] } }:=I1.kept (t':=s1.toks) fun b ob e=>Heap.get?_push_of_some _ e
 have lt2:d < (s1.heap.push {cls:=.type "dict_items", data:=.fields #[.ref d] }).objs.size:=Heap.lt_size (Heap.get?_push_of_some _ hod)
 refine Zta (es:=es) (ep:=ep) (v:=s1.heap.objs.size) ⟨_,Heap.get?_push_size _ rfl,rfl,rfl⟩ ⟨ob,Heap.get?_push_of_some _ hod,c1,c2⟩ ?_
 refine ⟨_,[_],_,_,H1,rfl,I2.kept (t':=s1.toks) fun b ob e=>Heap.get?_push_of_some _ e,Zsk _ d ob kvs es ep (Nat.ne_of_lt lt2) hsz ⟨c1,c2⟩,⟨.none,.none,Heap.get?_push_size _ rfl⟩,fun b hb=>?_,q⟩
 obtain rfl:=List.mem_singleton.mp hb
 exact I2.fpOk (Nat.le_refl _) (I2.hok.fresh (Nat.le_refl _))⟩
end
theorem Zsl {d:Addr}{o:Obj}{kvs:List (List Key×V)}{nl:Nat}{fv:St}{g:TG}{tt:TTs}{te:TE}{Q:VK}{H:Hp}(Pv:Nat->List V->Hp->Prop) (h0:Pv 0 [] H) (hn:kvs.length<=1000000)
  (hl:∀ i ys H,i<=kvs.length->Pv i ys H->H d=some (.frz o (.dT kvs))) (hlen:∀ i ys H,Pv i ys H->ys.length<=i)
  (step:∀ i x a p ys H,kvs[i]? = some x->H a=some (.tup (x.1.map kV))->Pv i ys H->H p=none->Vg nl fv g tt te (.ref p) (upd H p (.tup [.ref a,x.2])) (fun y H'=>Pv (i+1) (ys ++ [y]) H') fun H'=>Pv (i+1) ys H')
  (hd:∀ ys H,Pv kvs.length ys H->∀ l,H l=none->Q (.ref l) (upd H l (.lst ys))) :
  Za6 (ItT d o kvs) nl fv g tt te Q H:=by
 have mono:∀ {x:V}{H:Hp}{Y Y':V->Hp->Prop}{N N':Hp->Prop},Vg nl fv g tt te x H Y N->Y=Y'->N=N'->Vg nl fv g tt te x H Y' N':=fun h e1 e2=>by subst e1; subst e2; exact h
 refine ⟨fun i m ys H=>m=kvs.length - i/\i<=kvs.length/\Pv i ys H,⟨kvs.length,by simp,Nat.zero_le _,h0⟩,?_⟩
 rintro i m ys H ⟨rfl,hi,p⟩
 have hl':=hlen i ys H p
 have hz:(1000000:Nat) < sizeLine:=by decide
 by_cases hlt:i < kvs.length
 ·refine .inr ⟨⟨hl i ys H hi p,hlt⟩,by lia,kvs.length - (i+1),by lia,fun x H' y=>?_⟩
  obtain ⟨q,a,x',hx,ha,rfl,hq,rfl⟩:=y
  refine mono (step i x' a q ys H hx ha p hq) ?_ ?_
  ·funext y H4
   apply propext
   exact ⟨fun q=>⟨rfl,hlt,q⟩,fun q=>q.2.2⟩
  ·funext H3
   apply propext
   exact ⟨fun q=>⟨rfl,hlt,q⟩,fun q=>q.2.2⟩
 ·have e:i=kvs.length:=by lia
  subst e
  exact .inl ⟨⟨hl _ ys H (Nat.le_refl _) p,Nat.le_refl _⟩,by lia,hd ys H p⟩
end L2
end
section
set_option Elab.async false
set_option linter.all false
set_option maxRecDepth 100000
set_option maxHeartbeats 4000000
namespace L2
open PySem PySem.Spec PyProof.Rows
section
variable {X:Cx}
end
end L2
end
section
set_option Elab.async false
set_option linter.all false
set_option maxRecDepth 100000
set_option maxHeartbeats 4000000
namespace L2
open PySem PySem.Spec PyProof.Rows PySem.W
def LL (r:Nat->Nat) (a b:Nat):Prop:=r a < r b\/(r a=r b/\a < b)
theorem LL.le {r:Nat->Nat}{a b:Nat}(h:LL r a b):r a<=r b:=by rcases h with h | h <;> lia
structure Tl (N m:Nat) (p:Array Nat):Prop where
 pm:Pm N p
 tl:∀ j,m<=j->j < N->p.getD j 0=j
 hd:∀ j,j < m->p.getD j 0 < m
def UpS (r:Nat->Nat) (p:Array Nat) (m:Nat):Prop:=∀ i,i+1 < m->LL r (p.getD i 0) (p.getD (i+1) 0)
def DnS (r:Nat->Nat) (p:Array Nat) (m:Nat):Prop:=∀ i,i+1 < m->LL r (p.getD (i+1) 0) (p.getD i 0)
section
variable {s:Shared}{cmp:Nat->Nat->(Bool->Shared->Prop)->Shared->Prop}{r:Nat->Nat}{N:Nat}{p:Array Nat}
theorem UpS.up {m:Nat}(h:UpS r p m):UpTo r p m:=fun i hi=>(h i hi).le
theorem Ww (h:Pm N p) {i j k:Nat}(hj:j<=N):(kas_rev p i j).getD k 0=if i<=k/\k < j then p.getD (i+j - 1 - k) 0 else p.getD k 0:=Zd5 (r:=id) h hj
theorem Zd7 (h:Pm N p) {k l i:Nat}(hk:k < N) (hl:l<=k):(bubble p k (k - l)).getD i 0=if i=l then p.getD k 0 else if l < i/\i<=k then p.getD (i - 1) 0 else p.getD i 0:=Zg1 (r:=id) h hk hl
theorem Tl.step {n:Nat}(h:Tl N n p) (hn:n < N):Tl N (n+1) p:=⟨h.pm,fun j a b=>h.tl j (by lia) b,fun j hj=>by
 by_cases e:j < n
 ·have:=h.hd j e; lia
 ·have:j=n:=by lia
  subst this
  rw [h.tl j (Nat.le_refl _) hn]; lia⟩
theorem Tl.rev {n i j:Nat}(h:Tl N n p) (hj:j<=n) (hn:n<=N):Tl N n (kas_rev p i j):=⟨h.pm.rev i j,fun k a b=>by rw [Ww h.pm (by lia),if_neg (by lia)]; exact h.tl k a b,fun k hk=>by
 rw [Ww h.pm (by lia)]
 by_cases c:i<=k/\k < j
 ·rw [if_pos c]; exact h.hd _ (by lia)
 ·rw [if_neg c]; exact h.hd k hk⟩
theorem Zgi (hR:Yu cmp r N s) {Q:Nat->Shared->Prop}:∀ (f n:Nat),1<=n->n+f<=N->Tl N n p->UpS r p n->(∀ m,n<=m->m<=n+f->Tl N m p->UpS r p m->(m < n+f->r (p.getD m 0) < r (p.getD (m - 1) 0))->Q m s)->(kas_asc p f n).kasWp cmp Q s
 | 0,n,h1,h2,ht,hu,k=>k n (Nat.le_refl _) (Nat.le_refl _) ht hu (fun z=>by lia)
 | f+1,n,h1,h2,ht,hu,k=>by
  refine hR _ _ _ (ht.pm.lt (by lia)) (ht.pm.lt (by lia)) ?_
  by_cases c:r (p.getD n 0) < r (p.getD (n - 1) 0)
  ·rw [decide_eq_true c]
   exact k n (Nat.le_refl _) (by lia) ht hu fun _=>c
  ·rw [decide_eq_false c]
   refine Zgi hR f (n+1) (by lia) (by lia) (ht.step (by lia)) (fun i hi=>?_) fun m a b t u d=>k m (by lia) (by lia) t u (fun z=>d (by lia))
   by_cases e:i+1 < n
   ·exact hu i e
   ·have:i=n - 1:=by lia
    subst this
    rw [show n - 1+1=n by lia]
    have e1:=ht.tl n (Nat.le_refl _) (by lia)
    have e2:=ht.hd (n - 1) (by lia)
    rw [e1] at c ⊢
    unfold LL
    lia
structure Dn (r:Nat->Nat) (p:Array Nat) (z n:Nat):Prop where
 a:∀ i,i+1<=z->LL r (p.getD (i+1) 0) (p.getD i 0)
 b:∀ i,i+1=z->r (p.getD (i+1) 0) < r (p.getD i 0)
 c:∀ i,z<=i->i+1 < n->r (p.getD i 0)=r (p.getD (i+1) 0)/\p.getD i 0 < p.getD (i+1) 0
theorem Dn.eq {b n:Nat}(h:Dn r p b n):∀ d,b+d < n->r (p.getD b 0)=r (p.getD (b+d) 0)
 | 0,_=>rfl
 | d+1,hd=>(h.eq d (by lia)).trans (h.c (b+d) (by lia) (by lia)).1
theorem Dn.flip {b n:Nat}(h:Dn r p b n) (hp:Pm N p) (hb:b < n) (hn:n<=N):DnS r (kas_rev p b n) n:=fun i hi=>by
 rw [Ww hp hn,Ww hp hn]
 by_cases c1:i+1 < b
 ·rw [if_neg (by lia),if_neg (by lia)]; exact h.a i (by lia)
 ·by_cases c2:i+1=b
  ·rw [if_pos (by lia),if_neg (by lia),show b+n - 1 - (i+1)=n - 1 by lia]
   have e:=h.eq (n - 1 - b) (by lia)
   rw [show b+(n - 1 - b)=n - 1 by lia] at e
   have e2:=h.b i c2
   rw [c2] at e2
   exact .inl (by lia)
  ·rw [if_pos (by lia),if_pos (by lia)]
   have e:=h.c (b+n - 1 - (i+1)) (by lia) (by lia)
   rw [show b+n - 1 - (i+1)+1=b+n - 1 - i by lia] at e
   exact .inr e
theorem Zdk (hR:Yu cmp r N s) {Q:Array Nat×Nat×Nat->Shared->Prop}:∀ (f:Nat) (p:Array Nat) (n q:Nat),Tl N n p->1<=n->n+f<=N->q+1<=n->Dn r p (n - (q+1)) n ->
  (∀ (p':Array Nat) (m q':Nat),Tl N m p'->n<=m->m<=n+f->q'+1<=m->Dn r p' (m - (q'+1)) m->Q (p',m,q') s)->(kas_desc f p n q).kasWp cmp Q s
 | 0,p,n,q,hp,h1,h2,hq,hd,k=>k p n q hp (Nat.le_refl _) (Nat.le_refl _) hq hd
 | f+1,p,n,q,hp,h1,h2,hq,hd,k=>by
  refine hR _ _ _ (hp.pm.lt (by lia)) (hp.pm.lt (by lia)) ?_
  by_cases c:r (p.getD n 0) < r (p.getD (n - 1) 0)
  ·rw [decide_eq_true c]
   show (if true=true then (if q > 0 then kas_desc f (kas_rev p (n - (q+1)) n) (n+1) 0 else kas_desc f p (n+1) 0) else _).kasWp cmp Q s
   rw [if_pos rfl]
   by_cases z:q > 0
   ·rw [if_pos z]
    have fl:=hd.flip hp.pm (by lia) (by lia)
    have last:r ((kas_rev p (n - (q+1)) n).getD n 0) < r ((kas_rev p (n - (q+1)) n).getD (n - 1) 0):=by
     rw [Ww hp.pm (by lia),Ww hp.pm (by lia),if_neg (by lia),if_pos (by lia),show n - (q+1)+n - 1 - (n - 1)=n - (q+1) by lia]
     have e:=hd.eq q (by lia)
     rw [show n - (q+1)+q=n - 1 by lia] at e
     lia
    refine Zdk hR f _ (n+1) 0 ((hp.rev (by lia) (by lia)).step (by lia)) (by lia) (by lia) (by lia) ⟨fun i hi=>?_,fun i hi=>?_,fun i a b=>by lia⟩ fun p' m q' a b c' d e=>k p' m q' a (by lia) (by lia) d e
    ·by_cases e:i+1 < n
     ·exact fl i e
     ·have:i=n - 1:=by lia
      subst this
      rw [show n - 1+1=n by lia]
      exact .inl last
    ·have:i=n - 1:=by lia
     subst this
     rw [show n - 1+1=n by lia]
     exact last
   ·rw [if_neg z]
    have q0:q=0:=by lia
    subst q0
    refine Zdk hR f p (n+1) 0 (hp.step (by lia)) (by lia) (by lia) (by lia) ⟨fun i hi=>?_,fun i hi=>?_,fun i a b=>by lia⟩ fun p' m q' a b c' d e=>k p' m q' a (by lia) (by lia) d e
    ·by_cases e:i+1 < n
     ·exact hd.a i (by lia)
     ·have:i=n - 1:=by lia
      subst this
      rw [show n - 1+1=n by lia]
      exact .inl c
    ·have:i=n - 1:=by lia
     subst this
     rw [show n - 1+1=n by lia]
     exact c
  ·rw [decide_eq_false c]
   show (if false=true then _ else KasT.ask (p.getD (n - 1) 0) (p.getD n 0) fun d=>if d=true then .ret (p,n,q) else kas_desc f p (n+1) (q+1)).kasWp cmp Q s
   rw [if_neg Bool.false_ne_true]
   refine hR _ _ _ (hp.pm.lt (by lia)) (hp.pm.lt (by lia)) ?_
   by_cases d:r (p.getD (n - 1) 0) < r (p.getD n 0)
   ·rw [decide_eq_true d]
    exact k p n q hp (Nat.le_refl _) (by lia) hq hd
   ·rw [decide_eq_false d]
    have e1:=hp.tl n (Nat.le_refl _) (by lia)
    have e2:=hp.hd (n - 1) (by lia)
    have eb:n+1 - (q+1+1)=n - (q+1):=by lia
    refine Zdk hR f p (n+1) (q+1) (hp.step (by lia)) (by lia) (by lia) (by lia) (by
     rw [eb]
     refine ⟨hd.a,hd.b,fun i a b=>?_⟩
     by_cases e:i+1 < n
     ·exact hd.c i a e
     ·have:i=n - 1:=by lia
      subst this
      rw [show n - 1+1=n by lia]
      exact ⟨by lia,by lia⟩) fun p' m q' a b c' d e=>k p' m q' a (by lia) (by lia) d e
theorem Zyi (h:Pm N p) {n:Nat}(hn:n<=N) (hd:DnS r p n):UpS r (kas_rev p 0 n) n:=fun i hi=>by
 rw [Ww h hn,Ww h hn,if_pos (by lia),if_pos (by lia)]
 have:=hd (0+n - 1 - (i+1)) (by lia)
 rw [show 0+n - 1 - (i+1)+1=0+n - 1 - i by lia] at this
 exact this
def Zhc (r:Nat->Nat) (N:Nat) (Q:Nat×Array Nat->Shared->Prop) (s:Shared):Prop:=∀ (m:Nat) (p:Array Nat),1<=m->m<=N->Tl N m p->UpS r p m->Q (m,p) s
theorem Zl7 (hR:Yu cmp r N s) {n:Nat}(h:Tl N n p) {Q:Nat×Array Nat->Shared->Prop}(k:Zhc r N Q s) (h1 : 1<=n) (hn:n<=N) (hd:DnS r p n):(kas_tail3 n N p).kasWp cmp Q s:=by
 unfold kas_tail3
 rw [KasT.kasWp_bind]
 exact Zgi hR (N - n) n h1 (by lia) (h.rev (Nat.le_refl _) hn) (Zyi h.pm hn hd) fun m a b t u _=>k m _ (by lia) (by lia) t u
theorem Zl8 (hR:Yu cmp r N s) {n:Nat}(h:Tl N (n+1) p) {Q:Nat×Array Nat->Shared->Prop}(k:Zhc r N Q s) (hn:n+1<=N) (hd:Dn r p n (n+1)):(kas_descPart n N p).kasWp cmp Q s:=by
 unfold kas_descPart
 rw [KasT.kasWp_bind]
 refine Zdk hR (N - (n+1)) p (n+1) 0 h (by lia) (by lia) (by lia) hd fun p' m q' a b c d e=>?_
 dsimp only
 by_cases z:q' > 0
 ·rw [if_pos z]
  exact Zl7 hR (a.rev (Nat.le_refl _) (by lia)) k (by lia) (by lia) (e.flip a.pm (by lia) (by lia))
 ·rw [if_neg z]
  exact Zl7 hR a k (by lia) (by lia) fun i hi=>e.a i (by lia)
theorem Zuo (hR:Yu cmp r N s) (h:Tl N 1 p) (h1 : 1<=N) {Q:Nat×Array Nat->Shared->Prop}(k:Zhc r N Q s):(kas_count N p).kasWp cmp Q s:=by
 unfold kas_count
 rw [KasT.kasWp_bind]
 refine Zgi hR (N - 1) 1 (Nat.le_refl _) (by lia) h (fun i hi=>by lia) fun m a b t u d=>?_
 by_cases z:m=N
 ·rw [if_pos (by rw [z]; exact beq_self_eq_true N)]
  exact k m p a (by lia) t u
 ·rw [if_neg (fun e=>z (eq_of_beq e))]
  have dm:=d (by lia)
  by_cases y:m > 1
  ·rw [if_pos y]
   refine hR _ _ _ (h.pm.lt (by lia)) (h.pm.lt (by lia)) ?_
   by_cases c:r (p.getD 0 0) < r (p.getD (m - 1) 0)
   ·rw [decide_eq_true c]
    exact k m p a (by lia) t u
   ·rw [decide_eq_false c]
    have all:∀ i,i < m->r (p.getD i 0)=r (p.getD (m - 1) 0):=fun i hi=>by
     have h0:=Vx u.up i 0 (by lia)
     have h2:=Vx u.up (m - 1 - i) i (by lia)
     rw [show 0+i=i by lia] at h0
     rw [show i+(m - 1 - i)=m - 1 by lia] at h2
     unfold kp at h0 h2
     lia
    refine Zl8 hR ((t.rev (Nat.le_refl _) (by lia)).step (by lia)) k (by lia) ⟨fun i hi=>?_,fun i hi=>?_,fun i a b=>by lia⟩
    ·rw [Ww h.pm (by lia),Ww h.pm (by lia)]
     by_cases e:i+1 < m
     ·rw [if_pos (by lia),if_pos (by lia)]
      have e2:=u (0+m - 1 - (i+1)) (by lia)
      rw [show 0+m - 1 - (i+1)+1=0+m - 1 - i by lia] at e2
      have a1:=all (0+m - 1 - (i+1)) (by lia)
      have a2:=all (0+m - 1 - i) (by lia)
      rcases e2 with e2 | e2
      ·lia
      ·exact .inr ⟨by lia,e2.2⟩
     ·rw [if_neg (by lia),if_pos (by lia)]
      have e3:i+1=m:=by lia
      rw [e3,show 0+m - 1 - i=0 by lia]
      have:=all 0 (by lia)
      exact .inl (by lia)
    ·rw [Ww h.pm (by lia),Ww h.pm (by lia),if_neg (by lia),if_pos (by lia),hi,show 0+m - 1 - i=0 by lia]
     have:=all 0 (by lia)
     lia
  ·rw [if_neg y]
   have m1:m=1:=by lia
   subst m1
   refine Zl8 hR (t.step (by lia)) k (by lia) ⟨fun i hi=>?_,fun i hi=>?_,fun i a b=>by lia⟩
   ·have:i=0:=by lia
    subst this
    exact .inl dm
   ·have:i=0:=by lia
    subst this
    exact dm
theorem Zfn (hR:Yu cmp r N s) (h:Pm N p) {Q:Nat->Shared->Prop}{k:Nat}(hk:k < N) (hu:UpTo r p k) (q:∀ l,l<=k->(∀ i,i < l->kp r p i<=kp r p k)->(∀ i,l<=i->i < k->kp r p k < kp r p i)->Q l s) :
  ∀ (f l m:Nat),l<=m->m<=k->m - l<=f->(∀ i,i < l->kp r p i<=kp r p k)->(∀ i,m<=i->i < k->kp r p k < kp r p i)->(kas_place p k f l m).kasWp cmp Q s
 | 0,l,m,a,b,c,lo,hi=>q l (by lia) lo fun i x y=>hi i (by lia) y
 | f+1,l,m,a,b,c,lo,hi=>by
  show (if l>=m then KasT.ret l else _).kasWp cmp Q s
  by_cases z:l>=m
  ·rw [if_pos z]
   exact q l (by lia) lo fun i x y=>hi i (by lia) y
  ·rw [if_neg z]
   refine hR _ _ _ (h.lt hk) (h.lt (by lia)) ?_
   by_cases y:r (p.getD k 0) < r (p.getD ((l+m) / 2) 0)
   ·rw [decide_eq_true y]
    refine Zfn hR h hk hu q f l ((l+m) / 2) (by lia) (by lia) (by lia) lo fun i x w=>?_
    have:=Vx hu (i - (l+m) / 2) ((l+m) / 2) (by lia)
    rw [show (l+m) / 2+(i - (l+m) / 2)=i by lia] at this
    exact Nat.lt_of_lt_of_le y this
   ·rw [decide_eq_false y]
    refine Zfn hR h hk hu q f ((l+m) / 2+1) m (by lia) b (by lia) (fun i x=>?_) hi
    have:=Vx hu ((l+m) / 2 - i) i (by lia)
    rw [show i+((l+m) / 2 - i)=(l+m) / 2 by lia] at this
    exact Nat.le_trans this (Nat.le_of_not_lt y)
theorem Zm7 (hR:Yu cmp r N s) {Q:Array Nat->Shared->Prop}:∀ (f:Nat) (p:Array Nat) (k:Nat),Tl N k p->k+f<=N->UpS r p k->(∀ p',Pm N p'->UpS r p' (k+f)->Q p' s)->(kas_bin f p k).kasWp cmp Q s
 | 0,p,k,h,hk,hu,q=>q p h.pm hu
 | f+1,p,k,h,hk,hu,q=>by
  show ((kas_place p k k 0 k).bind fun l=>kas_bin f (bubble p k (k - l)) (k+1)).kasWp cmp Q s
  rw [KasT.kasWp_bind]
  refine Zfn hR h.pm (by lia) hu.up (fun l a lo hi=>?_) k 0 k (by lia) (by lia) (by lia) (fun i x=>by lia) fun i x y=>by lia
  have ek:=h.tl k (Nat.le_refl _) (by lia)
  refine Zm7 hR f _ (k+1) ⟨h.pm.bub _ _,fun j x y=>?_,fun j x=>?_⟩ (by lia) (fun i x=>?_) fun p' a b=>q p' a (by rw [show k+(f+1)=k+1+f by lia]; exact b)
  ·rw [Zd7 h.pm (by lia) a,if_neg (by lia),if_neg (by lia)]; exact h.tl j (by lia) y
  ·rw [Zd7 h.pm (by lia) a]
   by_cases c:j=l
   ·rw [if_pos c,ek]; lia
   ·rw [if_neg c]
    by_cases d:l < j/\j<=k
    ·rw [if_pos d]; have:=h.hd (j - 1) (by lia); lia
    ·rw [if_neg d]; have:=h.hd j (by lia); lia
  ·rw [Zd7 h.pm (by lia) a,Zd7 h.pm (by lia) a]
   by_cases c:i=l
   ·rw [if_pos c,if_neg (by lia),if_pos (by lia),show i+1 - 1=l by lia]
    exact .inl (hi l (by lia) (by lia))
   ·rw [if_neg c]
    by_cases d:i+1=l
    ·rw [if_pos d,if_neg (by lia)]
     have e1:=lo i (by lia)
     have e2:=h.hd i (by lia)
     unfold kp at e1
     rw [ek] at e1 ⊢
     unfold LL
     lia
    ·rw [if_neg d]
     by_cases e:l < i
     ·rw [if_pos (by lia),if_pos (by lia),show i+1 - 1=i - 1+1 by lia]
      exact hu (i - 1) (by lia)
     ·rw [if_neg (by lia),if_neg (by lia)]
      exact hu i (by lia)
theorem Zwa (hR:Yu cmp r N s) (h2 : 1<=N) {Q:Array Nat->Shared->Prop}(q:∀ p,Pm N p->UpS r p N->Q p s):(kas_sort N).kasWp cmp Q s:=by
 unfold kas_sort
 rw [KasT.kasWp_bind]
 have id0:∀ j,j < N->(List.toArray (List.range N)).getD j 0=j:=fun j hj=>by simp [Array.getD,hj]
 refine Zuo hR ⟨by show (List.toArray (List.range N)).toList.Perm _; exact List.Perm.refl _,fun j _ hj=>id0 j hj,fun j hj=>by rw [id0 j (by lia)]; exact hj⟩ h2 fun m p a b hp u=>?_
 by_cases c:m < N
 ·rw [if_pos c]
  refine Zm7 hR _ p _ (by rw [Nat.max_eq_left a]; exact hp) (by lia) (by rw [Nat.max_eq_left a]; exact u) fun p' x y=>q p' x ?_
  rw [show max m 1+(N - max m 1)=N by lia] at y
  exact y
 ·rw [if_neg c]
  exact q p hp.pm (by rw [show N=m by lia]; exact u)
theorem LL.tr {a b c:Nat}(h:LL r a b) (g:LL r b c):LL r a c:=by unfold LL at *; lia
theorem UpS.lt {m:Nat}(h:UpS r p m):∀ (d i:Nat),i+d+1 < m->LL r (p.getD i 0) (p.getD (i+d+1) 0)
 | 0,i,hi=>h i hi
 | d+1,i,hi=>(UpS.lt h d i (by lia)).tr (h (i+d+1) (by lia))
theorem UpS.pair (hp:Pm N p) (u:UpS r p N):p.toList.Pairwise (LL r):=by
 rw [List.pairwise_iff_getElem]
 intro i j hi hj hij
 have hs:=hp.size
 have hi':i < p.size:=by simpa using hi
 have hj':j < p.size:=by simpa using hj
 have:=u.lt (j - i - 1) i (by lia)
 rw [show i+(j - i - 1)+1=j by lia] at this
 simpa [Array.getD,hi',hj'] using this
end
def kI (ks:List Int) (i:Nat):Int:=ks.getD i 0
def LK (ks:List Int) (a b:Nat):Prop:=kI ks a < kI ks b\/(kI ks a=kI ks b/\a < b)
theorem Zup (ks:List Int):Weak fun i j=>decide (kI ks i < kI ks j):=⟨fun i=>decide_eq_false (Int.lt_irrefl _),fun i j k a b=>by have:=of_decide_eq_true a; have:=of_decide_eq_true b; exact decide_eq_true (by lia),
 fun i j k a=>by
  have:=of_decide_eq_true a
  by_cases c:kI ks i < kI ks k
  ·exact .inl (decide_eq_true c)
  ·exact .inr (decide_eq_true (by lia))⟩
def rI' (ks:List Int):Nat->Nat:=rk (fun i j=>decide (kI ks i < kI ks j)) ks.length
theorem Zg6 {ks:List Int}{i j:Nat}(hi:i < ks.length):(rI' ks i < rI' ks j)↔kI ks i < kI ks j:=by
 have:=Zg3 (Zup ks) (i:=i) (j:=j) hi
 unfold rI'
 by_cases c:kI ks i < kI ks j
 ·rw [decide_eq_true c] at this
  exact ⟨fun _=>c,fun _=>of_decide_eq_true this⟩
 ·rw [decide_eq_false c] at this
  exact ⟨fun z=>absurd z (of_decide_eq_false this),fun z=>absurd z c⟩
theorem LL.key {ks:List Int}{i j:Nat}(hi:i < ks.length) (hj:j < ks.length) (h:LL (rI' ks) i j):LK ks i j:=by
 have a:=Zg6 (ks:=ks) (i:=i) (j:=j) hi
 have b:=Zg6 (ks:=ks) (i:=j) (j:=i) hj
 rcases h with h | ⟨h1,h2⟩
 ·exact .inl (a.mp h)
 ·refine .inr ⟨?_,h2⟩
  have:¬ kI ks i < kI ks j:=fun z=>by have:=a.mpr z; lia
  have:¬ kI ks j < kI ks i:=fun z=>by have:=b.mpr z; lia
  lia
theorem UpS.keys {ks:List Int}{p:Array Nat}(hp:Pm ks.length p) (u:UpS (rI' ks) p ks.length):p.toList.Pairwise (LK ks):=by
 have hm:∀ i∈p.toList,i < ks.length:=fun i hi=>List.mem_range.mp (hp.mem_iff.mp hi)
 exact List.Pairwise.imp_of_mem (fun hi hj h=>LL.key (hm _ hi) (hm _ hj) h) (u.pair hp)
end L2
end
section
set_option Elab.async false
set_option linter.all false
set_option maxRecDepth 100000
set_option maxHeartbeats 4000000
namespace L2
open PySem PySem.Spec PyProof.Rows PySem.W
def IsTab (H:Hp) (P:Addr) (nm:Str):Prop:=∃ ps t,H P=some (.tbl ps)/\ps[0]? = some (.str nm t)
theorem IsTab.same {H H':Hp}{P:Addr}{nm:Str}(h:IsTab H P nm) (k:Same H H'):IsTab H' P nm:=let ⟨ps,t,a,b⟩:=h; ⟨ps,t,k _ _ a,b⟩
theorem IsTab.x {H H':Hp}{P s:Addr}{xs:List V}{nm:Str}(h:IsTab H P nm) (hs:H s=some (.lst xs)) (k:SameX s H H'):IsTab H' P nm:=let ⟨ps,t,a,b⟩:=h; ⟨ps,t,k _ _ (fun z=>by rw [z,hs] at a; cases a) a,b⟩
def Z7d (H H':Hp):Prop:=∀ b ps,H b=some (.tbl ps)->∃ more,H' b=some (.tbl (ps++more))
theorem IsTab.call {H H':Hp}{P:Addr}{nm:Str}(h:IsTab H P nm) (k:Z7d H H'):IsTab H' P nm:=by
 obtain ⟨ps,t,a,b⟩:=h
 obtain ⟨m,e⟩:=k _ _ a
 refine ⟨_,t,e,?_⟩
 have h0 : 0 < ps.size:=by
  rcases Nat.eq_zero_or_pos ps.size with z | z
  ·rw [Array.getElem?_eq_none (by lia)] at b; cases b
  ·exact z
 rw [Array.getElem?_append_left h0]; exact b
section
variable {P:Program}{w:World}{K:Frag}{mg:Str->Option Value}{base:Heap}
theorem Zyj {A:Around}{outer:List Env}{s:Shared}{H:Hp}{k:Nat}{name qual:Str}{params:Arguments}{body:Expr}{scope:Scope}{pm ctv:Value}{c f:Addr}{x:Str}{u:Value}{v:V}{te:TE}{Q:VK}
  (hr:Room k A) (e0:Env0 P w K mg base A outer s H) (ho:s.heap.get? f=some (kla_obj name qual params body scope [] pm c ctv)) (hcd:s.heap.CodeRec (.ref c) qual) (S:FnScope [x] [x] scope)
  (hb:bindArgs (kla_fn name qual params body scope [] pm (.ref c) ctv) ⟨[u],[]⟩=pure [(x,u)]) (r:RelV v u)
  (hbody:PE (Yi CX0 P w K mg base [x] qual scope f (.ref c) A outer s H E0) body te) (hq:te (start [x] [v]) H Q) :
  codeAny (model P w) A (.call (.ref f) ⟨[u],[]⟩) (CR CX0 outer P w H s Q E0) s:=by
 have lim:s.heap.NoLimit:=e0.mod.nolimit.keeps fun b o e=>(e0.bs b o e).1
 have hkind:∀ y ∈ [(x,u)],scope.names.lookup y.1=some .local\/(scope.names.lookup y.1=some .cell/\((cellsFrom (s.heap.objs.size+1) scope.names []).lookup y.1).isSome=true):=fun ⟨n,v⟩ hy=>by
  have e:(n,v)=(x,u):=by simpa using hy
  cases e
  rcases S.par x List.mem_cons_self with q | q
  ·exact .inl q
  ·exact .inr ⟨q,PySem.W.cellsFrom_some _ _ _ (.inl q)⟩
 refine kla_callFunE hr.depth ho rfl S.co S.gen rfl hcd ?_
 rw [hb]
 refine wpAny_pure (wpAny_newFunctionEnv_cells S.kind hkind fun env he s1 xx=>?_)
 subst he
 refine ⟨lim.keeps xx.toInCall.keep,kla_codeExpr ?_⟩
 have I:Inv (Yi CX0 P w K mg base [x] qual scope f (.ref c) A outer s H E0) [] (start [x] [v]) H s1:=Zlc (ps:=[x]) S hr.hd e0 rfl (.cons r .nil) xx
 exact wpAny_mono (hbody [] s1 _ H _ I hq) (fun v s' ⟨v',H',J,rv,q⟩=>⟨v',H',J.os,J.bare,J.base,J.hok,rv,q⟩) fun e s' hs=>hs
end
theorem Ztc {pos p2:Pos}{c cv:Value}(l:List Value) (h:TriplesOk l) (e:codeAmong pos (l ++ [rawInt p2.line,rawInt p2.col,c])=some cv):codeAmong pos l=some cv\/cv=c:=by
 fun_induction TriplesOk l with
 | case1 =>
  simp only [List.nil_append,codeAmong,rawInt] at e
  split at e
  ·cases e; exact .inr rfl
  ·cases e
 | case2 a t b u x rest ih =>
  simp only [List.cons_append,codeAmong] at e ⊢
  split at e
  ·rename_i hc; rw [if_pos hc]; exact .inl e
  ·rename_i hc; rw [if_neg hc]; exact ih h e
 | case3 l h1 h2=>exact h.elim
structure LamX (X:Cx) (c P:Addr) (nm:Str):Prop where
 code:X.env.code = .ref c
 hd:CodeHd X.base c P
 blt:X.base.BuiltinsAt X.mg P
 nmq:X.env.qual ++ "<lambda>" = nm
 gl:mainGlobals≠P
section
variable {X:Cx}{pins:List (Addr×Obj)}{σ:St}{H:Hp}{s:Shared}{c P:Addr}{nm:Str}{params:Arguments}{body:Expr}{scope:Scope}{lpos:Pos}
theorem Inv.pin1 {f:Addr}{o:Obj}(I:Inv X pins σ H s) (fp:Z7 X pins H f) (ho:s.heap.get? f=some o) (hc:∀ v,o.data ≠ .cell v):Inv X (pins ++ [(f,o)]) σ H s:=I.pins_of fun p hp=>(List.mem_append.mp hp).elim (fun z=>I.pin p (List.mem_append_right _ z)) fun z=>by
 have e:p=(f,o):=by simpa using z
 subst e
 exact ⟨ho,fp.1,fp.2.1,fp.2.2.1,hc⟩
theorem Zwb {Q:Value->Shared->Prop}(I:Inv X pins σ H s) (L:LamX X c P nm) (hT:IsTab X.H₀ P nm) (hcl:closureFor scope X.env=pure []) (hdef:defaultsOf params X.env=([],[]))
  (k:∀ (f c':Addr) (ctv:Value) (oc:Obj) (vs:Array Value) (t:Tok) (H':Hp) (s':Shared),Inv X (pins ++ [(f,kla_obj "<lambda>" nm params body scope [] ((X.mg "__name__").getD .none) c' ctv)]) σ H' s'->s'.heap.get? c'=some oc->oc.data = .fields vs->vs[1]? = some (.str nm t)->H' c'=some (.own P)->IsTab H' P nm->Same H H'->Q (.ref f) s') :
  wpAny (model X.prog X.w) X.A (eval (.Lambda params body scope lpos) X.env) Q X.xe s:=by
 have hTH:=hT.call I.base.tbls
 obtain ⟨ps,tp,hP,hps⟩:=hTH
 obtain ⟨qs,nm',t',eP,tr,hps',rows⟩:=I.hok P _ hP
 rw [hps] at hps'
 cases hps'
 have C:=L.hd.keeps I.bk
 have G:s.heap.Ns mainGlobals X.mg:=let ⟨o,es,ep,e,r⟩:=I.ok.mod.glob; ⟨o,es,ep,I.bk _ _ e,r⟩
 have B:s.heap.BuiltinsAt X.mg P:=let ⟨bm,o,a1,a2,a3,a4,a5,a6⟩:=L.blt; ⟨bm,o,a1,a2,a3,a4,I.bk _ _ a5,a6⟩
 refine kla_eval hdef ?_
 rw [L.nmq]
 cases hf:codeAmong lpos qs.toList with
 | some cv =>
  obtain ⟨c',rfl,own,c2,oc,vs,t2,e3,e4,e5,e6⟩:=rows _ _ hf
  cases e3
  refine kla_makeFunctionHit (mg:=X.mg) hcl I.ok.glob G L.code C eP tr hf B fun ctv h' tk hk hsz=>?_
  have hk2:∀ b u,s.heap.get? b=some u->(h'.push (kla_obj "<lambda>" nm params body scope [] ((X.mg "__name__").getD .none) c' ctv)).get? b=some u:=fun b u e=>Heap.get?_push_of_some _ (hk b u e)
  have I2:Inv X pins σ H {s with heap:=h'.push (kla_obj "<lambda>" nm params body scope [] ((X.mg "__name__").getD .none) c' ctv),toks:=tk }:=I.kept hk2
  exact k h'.objs.size c' ctv oc vs t2 H _ (I2.pin1 (I.fpOk hsz (I.hok.fresh hsz)) (Heap.get?_push_size _ rfl) (fun v z=>by cases z)) (hk2 _ _ e4) e5 e6 own ⟨ps,tp,hP,hps⟩ fun _ _ e=>e
 | none =>
  refine kla_makeFunction (mg:=X.mg) hcl I.ok.glob G L.code C eP tr hf L.gl B fun c' ctv h' tk hx hge hlt hrec htb=>?_
  obtain ⟨c2,oc,vs,t2,e3,e4,e5,e6⟩:=hrec
  cases e3
  have hcn:H c'=none:=I.hok.fresh hge
  have hcP:c'≠P:=fun z=>by rw [z] at hge; exact absurd (Nat.lt_of_lt_of_le (Heap.lt_size eP) hge) (Nat.lt_irrefl _)
  have ext:∀ b u,b≠P->s.heap.get? b=some u->(h'.push (kla_obj "<lambda>" nm params body scope [] ((X.mg "__name__").getD .none) c' ctv)).get? b=some u:=fun b u n e=>Heap.get?_push_of_some _ (hx b u n e)
  have hoc:=Heap.get?_push_of_some (kla_obj "<lambda>" nm params body scope [] ((X.mg "__name__").getD .none) c' ctv) e4
  have hPt:=Heap.get?_push_of_some (kla_obj "<lambda>" nm params body scope [] ((X.mg "__name__").getD .none) c' ctv) htb
  have hszz:s.heap.objs.size<=h'.objs.size:=Nat.le_of_lt (Nat.lt_of_le_of_lt hge hlt)
  have hfo:=Heap.get?_push_size h' (o:=kla_obj "<lambda>" nm params body scope [] ((X.mg "__name__").getD .none) c' ctv) rfl
  generalize (h'.push (kla_obj "<lambda>" nm params body scope [] ((X.mg "__name__").getD .none) c' ctv))=h2 at ext hoc hPt hfo ⊢
  have hPu:upd H c' (.own P) P=some (.tbl ps):=by rw [Zc hcP.symm]; exact hP
  have hok:HOk X.prog X.w (upd H c' (.own P)) h2:=fun b u e=>by
   by_cases b1:b=c'
   ·subst b1; rw [Zi] at e; cases e; exact ⟨oc,hoc⟩
   ·rw [Zc b1] at e
    by_cases b2:b=P
    ·subst b2
     rw [hP] at e
     cases e
     refine ⟨_,nm,tp,hPt,by rw [Array.toList_append]; exact TriplesOk_snoc _ _ _ _ tr,hps,fun pos cv ec=>?_⟩
     rw [Array.toList_append] at ec
     rcases Ztc _ tr ec with z | z
     ·obtain ⟨c3,f1,f2,c4,o4,v4,t4,f3,f4,f5⟩:=rows _ _ z
      cases f3
      have nb:c3≠b:=fun y=>by rw [y,hP] at f2; cases f2
      exact ⟨c3,f1,by rw [Zc (fun y=>by rw [y,hcn] at f2; cases f2)]; exact f2,c3,o4,v4,t4,rfl,ext _ _ nb f4,f5⟩
     ·exact ⟨c',z,Zi,c',oc,vs,t2,rfl,hoc,e5,e6⟩
    ·refine (I.hok b u e).stay (fun d v hd q=>ext d v ?_ q) (fun d q=>by rw [Zc (Zh q hcn)]; exact q) fun d xs q=>by rw [Zc (Zh q hcn)]; exact q
     rcases hd with z | z
     ·rw [z]; exact b2
     ·intro y; rw [y,hP] at z; cases z
  have un:Un X.fs [] H (upd H c' (.own P)) s.heap h2:=by
   have nP:∀ b,H b=none->b≠P:=fun b n z=>by rw [z,hP] at n; cases n
   have lt:∀ b o,s.heap.get? b=some o->b≠c':=fun b o e z=>by rw [z] at e; exact absurd (Nat.lt_of_lt_of_le (Heap.lt_size e) hge) (Nat.lt_irrefl _)
   refine ⟨fun b o e n _ _=>ext b o (nP b n) e,fun b o e n _ _=>⟨o.slots,ext b o (nP b n) e⟩,fun b o e n _=>by rw [Zc (lt b o e)]; exact n,fun b o e _=>?_,fun b xs e=>by rw [Zc (Zh e hcn)]; exact e,fun b o u e=>by rw [Zc (Zh e hcn)]; exact e,fun b ps e=>⟨#[],by rw [Zc (Zh e hcn),e]; simp⟩⟩
   by_cases b2:b=P
   ·exact ⟨_,by rw [b2]; exact hPt⟩
   ·exact ⟨o,ext b o b2 e⟩
  have I2:Inv X pins σ (upd H c' (.own P)) {s with heap:=h2,toks:=tk }:=I.un un hok
  have hfn:(upd H c' (.own P)) h'.objs.size=none:=by rw [Zc (Nat.ne_of_gt hlt)]; exact I.hok.fresh hszz
  exact k h'.objs.size c' ctv oc vs t2 _ _ (I2.pin1 (I.fpOk hszz hfn) hfo (fun v z=>by cases z)) hoc e5 e6 Zi ⟨ps,tp,hPu,hps⟩ (Same.new hcn)
theorem Zwc {k:Nat}{A:Around}{f c':Addr}{ctv pm:Value}{oc:Obj}{vs:Array Value}{t:Tok}{x:Str}{u:Value}{v w:V}{te:TE}(I:Inv X pins σ H s) (hA:A.frames=X.A.frames) (hr:Room k A) (hf:s.heap.get? f=some (kla_obj "<lambda>" nm params body scope [] pm c' ctv))
  (ho:s.heap.get? c'=some oc) (e1:oc.data = .fields vs) (e2:vs[1]? = some (.str nm t)) (hc:H c'=some (.own P)) (hT:IsTab H P nm) (S:FnScope [x] [x] scope)
  (hb:bindArgs (kla_fn "<lambda>" nm params body scope [] pm (.ref c') ctv) ⟨[u],[]⟩=pure [(x,u)]) (r:RelV v u)
  (hbody:∀ H2:Hp,PE (Yi CX0 X.prog X.w X.K X.mg X.base [x] nm scope f (.ref c') A X.stack s H2 E0) body te)
  (hq:∀ H2:Hp,(∀ b ys,H b=some (.tup ys)->H2 b=some (.tup ys))->te [some v] H2 fun z H3=>z=w/\H3=H2) :
  wpAny (model X.prog X.w) A (call (.ref f) [u]) (fun r s'=>RelV w r/\Inv X pins σ H s'/\s'.heap.get? c'=some oc) (fun _ _=>False) s:=by
 classical
 obtain ⟨ps,tp,hP,hps⟩:=hT
 let H2:Hp:=fun b=>if b=P\/H b=some (.own P) then none else H b
 have sub:∀ b o,H2 b=some o->H b=some o/\b≠P/\o ≠ .own P:=fun b o e=>by
  by_cases z:b=P\/H b=some (.own P)
  ·have:H2 b=none:=if_pos z
   rw [this] at e; cases e
  ·have e':H2 b=H b:=if_neg z
   rw [e'] at e
   exact ⟨e,fun y=>z (.inl y),fun y=>z (.inr (by rw [e,y]))⟩
 have up:∀ b o,H b=some o->b≠P->o ≠ .own P->H2 b=some o:=fun b o e n1 n2=>by
  have z:¬ (b=P\/H b=some (.own P)):=fun z=>z.elim n1 fun y=>n2 (by rw [e] at y; exact Option.some.inj y)
  have e':H2 b=H b:=if_neg z
  rw [e']; exact e
 have non:∀ b,H b=none->H2 b=none:=fun b e=>by
  cases q:H2 b with
  | none=>rfl
  | some o=>rw [(sub b o q).1] at e; cases e
 have tup2:∀ b ys,H b=some (.tup ys)->H2 b=some (.tup ys):=fun b ys e=>up b _ e (fun z=>by rw [z,hP] at e; cases e) (fun z=>by cases z)
 have hok2:HOk X.prog X.w H2 s.heap:=fun b o e=>by
  obtain ⟨h1,h2,h3⟩:=sub b o e
  refine (I.hok b o h1).stay (fun _ _ _ q=>q) (fun d q=>up d _ q (fun z=>by rw [z,hP] at q; cases q) (fun z=>by cases z; exact h2 rfl)) tup2
 have e0:=I.env0
 have e02:Env0 X.prog X.w X.K X.mg X.base A X.stack s H2:=⟨hA.trans e0.frames,e0.mod,fun b o e=>⟨(e0.bs b o e).1,non b (e0.bs b o e).2⟩,e0.bsz,e0.funs,fun b hb=>non b (e0.frf b hb),hok2,e0.bare⟩
 refine wpAny_call (codeAny_mono (Zyj (Q:=fun z H3=>z=w/\H3=H2) hr e02 hf ⟨c',oc,vs,t,rfl,ho,e1,e2⟩ S hb r (hbody H2) (hq H2 tup2)) fun rr s' h=>?_)
 cases rr with
 | error e=>exact h.elim
 | ok fl =>
  cases fl with
  | next=>exact False.elim h
  | brk=>exact False.elim h
  | cont=>exact False.elim h
  | ret uu =>
   obtain ⟨z,H3,os,bare,un,hok3,rz,ez,eH⟩:=h
   subst ez eH
   have hc2:H2 c'=none:=if_pos (.inr hc)
   have hP2:H2 P=none:=if_pos (.inl rfl)
   have nfr:∀ b o,H b=some o->b∉frs X.stack:=fun b o e z=>by rw [I.stkFree b z] at e; cases e
   have own2:∀ d,H d=some (.own P)->H2 d=none:=fun d q=>if_pos (.inr q)
   have hokH:HOk X.prog X.w H s'.heap:=fun b o e=>by
    by_cases b0:o = .own P
    ·subst b0
     obtain ⟨ob,eb⟩:=I.hok b _ e
     exact ⟨ob,un.keep _ _ eb (own2 _ e) (nfr _ _ e) (by simp)⟩
    by_cases b1:b=P
    ·subst b1
     refine (I.hok b o e).stay (fun d v hd q=>?_) (fun _ q=>q) fun _ _ q=>q
     rcases hd with z | z
     ·subst z; exact un.keep _ _ q hP2 (nfr _ _ e) (by simp)
     ·exact un.keep _ _ q (own2 _ z) (nfr _ _ z) (by simp)
    ·have b1':b≠P/\o ≠ .own P:=⟨b1,b0⟩
     refine (hok3 b o (up b o e b1'.1 b1'.2)).stay (fun _ _ _ q=>q) (fun d q=>(sub d _ q).1) fun d xs q=>(sub d _ q).1
   refine ⟨rz,I.call' (ch:=[]) os ⟨fun b o e n hb hx=>un.keep b o e (non b n) hb hx,fun b o e n hb hx=>un.slot b o e (non b n) hb hx,fun b o e n hx=>n,fun b o e hx=>un.there b o e hx,fun _ _ e=>e,fun _ _ _ e=>e,fun b ps e=>⟨#[],by rw [e]; simp⟩⟩ hokH bare (fun b z=>absurd z (by simp)),un.keep _ _ ho hc2 (nfr _ _ hc) (by simp)⟩
end
end L2
end
section
set_option Elab.async false
set_option linter.all false
set_option maxRecDepth 100000
set_option maxHeartbeats 4000000
namespace L2
open PySem PySem.Spec PyProof.Rows PySem.W
def LKb (b:Bool) (ks:List Int) (x y:Nat):Prop:=(if b=true then kI ks y < kI ks x else kI ks x < kI ks y)\/(kI ks x=kI ks y/\x < y)
def Zah (b:Bool) (ks:List Int) (vs out:List Value):Prop:=∃ p:List Nat,p.Perm (List.range vs.length)/\p.Pairwise (LKb b ks)/\out=p.map fun i=>vs.getD i Value.none
theorem Zfx {α:Type}{l:List α}{d : α}{i:Nat}(h:i < l.length):l.reverse.getD i d=l.getD (l.length - 1 - i) d:=by
 rw [List.getD_eq_getElem?_getD,List.getD_eq_getElem?_getD,List.getElem?_reverse h]
theorem Zuq {ks:List Int}{vs:List Value}{p:Array Nat}(hl:ks.length=vs.length) (hp:Pm vs.length p) (u:UpS (rI' ks) p vs.length):Zah false ks vs (p.toList.map fun i=>vs.getD i Value.none) :=
 ⟨p.toList,hp,by rw [← hl] at hp u; exact (u.keys hp).imp fun h=>by unfold LKb; rw [if_neg Bool.false_ne_true]; exact h,rfl⟩
theorem Zsm {ks:List Int}{vs:List Value}{p:Array Nat}(hl:ks.length=vs.length) (hp:Pm vs.length p) (u:UpS (rI' ks.reverse) p vs.length):Zah true ks vs (p.toList.map fun i=>vs.reverse.getD i Value.none).reverse:=by
 have hm:∀ i∈p.toList,i < vs.length:=fun i hi=>List.mem_range.mp (hp.mem_iff.mp hi)
 have e1:(List.range vs.length).map (fun i=>vs.length - 1 - i)=(List.range vs.length).reverse:=by
  apply List.ext_getElem
  ·simp
  ·intro i h1 h2
   simp
 refine ⟨(p.toList.map fun i=>vs.length - 1 - i).reverse,(List.reverse_perm _).trans ?_,?_,?_⟩
 ·have:=hp.map fun i=>vs.length - 1 - i
  rw [e1] at this
  exact this.trans (List.reverse_perm _)
 ·rw [List.pairwise_reverse,List.pairwise_map]
  have hp':Pm ks.reverse.length p:=by rw [List.length_reverse,hl]; exact hp
  have u':UpS (rI' ks.reverse) p ks.reverse.length:=by rw [List.length_reverse,hl]; exact u
  refine List.Pairwise.imp_of_mem ?_ (u'.keys hp')
  intro i j hi hj h
  have hi:=hm i hi
  have hj:=hm j hj
  unfold LK kI at h
  rw [Zfx (by lia),Zfx (by lia),hl] at h
  unfold LKb kI
  rw [if_pos rfl]
  rcases h with h | ⟨h1,h2⟩
  ·exact .inl h
  ·exact .inr ⟨h1.symm,by lia⟩
 ·rw [List.map_reverse,List.map_map]
  congr 1
  refine List.map_congr_left fun i hi=>?_
  exact Zfx (hm i hi)
section
variable {X:Cx}{pins:List (Addr×Obj)}{σ:St}{H:Hp}{s:Shared}
theorem Inv.track {D:Addr}{u:HO}(I:Inv X pins σ H s) (fp:Z7 X pins H D) (h0:X.s₀.heap.objs.size<=D) (new:ObjOk X.prog X.w (upd H D u) s.heap D u):Inv X pins σ (upd H D u) s:=by
 obtain ⟨f0,f1,f2,f3,f4,f5⟩:=fp
 refine ⟨I.ok,I.os,I.bare,⟨I.base.keep,I.base.slot,fun b o e n hx=>?_,I.base.there,fun b xs e=>?_,fun b o v e=>?_,fun b ps e=>?_⟩,I.loc,I.cell,?_,fun x c e=>?_,fun p hp=>?_,Zmv I.hok f0 new,I.len⟩
 ·rw [Zc (fun z=>by rw [z] at e; exact absurd (Nat.lt_of_lt_of_le (Heap.lt_size e) h0) (Nat.lt_irrefl _))]; exact I.base.free b o e n hx
 ·have:=I.base.tups b xs e
  rw [Zc (Zh this f0)]; exact this
 ·have:=I.base.frzs b o v e
  rw [Zc (Zh this f0)]; exact this
 ·obtain ⟨m,e2⟩:=I.base.tbls b ps e
  exact ⟨m,by rw [Zc (Zh e2 f0)]; exact e2⟩
 ·rw [Zc f1.symm]; exact I.free
 ·rw [Zc (f4 x c e)]; exact I.freeC x c e
 ·obtain ⟨a1,a2,a3⟩:=I.pin p hp
  exact ⟨a1,by rw [Zc (f5 p hp)]; exact a2,a3⟩
theorem Inv.reup {D:Addr}{g:Array Value->Array Value}(I:Inv X pins σ H s) (fp:Z7 X pins H D):Inv X pins σ H {s with heap:=s.heap.update D (Obj.mapSeq g) } :=
 I.turned (it:=D) (t':=s.toks) (fun b o hb e=>by rw [Heap.get?_update_ne _ _ _ _ hb]; exact e) fp.1 fp.2.1 fp.2.2.2.1 fp.2.2.2.2.1 fp.2.2.2.2.2
theorem Inv.pin2 {a b:Addr}{oa ob:Obj}(I:Inv X pins σ H s) (fa:Z7 X pins H a) (fb:Z7 X pins H b) (ha:s.heap.get? a=some oa) (hb:s.heap.get? b=some ob) (ca:∀ v,oa.data ≠ .cell v) (cb:∀ v,ob.data ≠ .cell v):Inv X (pins ++ [(a,oa),(b,ob)]) σ H s :=
 I.pins_of fun p hp=>(List.mem_append.mp hp).elim (fun z=>I.pin p (List.mem_append_right _ z)) fun z=>by
  rcases List.mem_cons.mp z with e | z
  ·subst e; exact ⟨ha,fa.1,fa.2.1,fa.2.2.1,ca⟩
  ·have e:p=(b,ob):=by simpa using z
   subst e; exact ⟨hb,fb.1,fb.2.1,fb.2.2.1,cb⟩
theorem Inv.at1 {pl:List (Addr×Obj)}{p:Addr×Obj}(I:Inv X (pins++pl) σ H s) (h:p∈pl):s.heap.get? p.1=some p.2:=(I.pin p (List.mem_append_right _ (List.mem_append_right _ h))).1
def Zg7 (X:Cx) (pins:List (Addr×Obj)) (σ:St) (H:Hp) (f:Value) (c':Addr) (oc:Obj) (vs:List Value) (ks:List Int):Prop:=∀ (i:Nat) (v:Value) (k:Int),vs[i]? = some v->ks[i]? = some k->∀ (pl:List (Addr×Obj)) (s:Shared),Inv X (pins++pl) σ H s->s.heap.get? c'=some oc ->
 wpAny (model X.prog X.w) X.A.in1.in1 (call f [v]) (fun r s'=>(∃ t,r = .int k t)/\Inv X (pins++pl) σ H s'/\s'.heap.get? c'=some oc) (fun _ _=>False) s
variable {f:Value}{c' a kS:Addr}{oc:Obj}{vs:List Value}{ks:List Int}{keys:Array Value}{b:Bool}{e e1:Nat}{Pf:PySem.Fin->Shared->Prop}{E:Value->Shared->Prop}
theorem Zl9 {st:SortSt}{o:List Value}(I:Inv X (pins ++ [(kS,seqObj "list" keys e),(a,seqObj "list" #[] e1)]) σ H s) (fk:Z7 X pins H kS) (fa:Z7 X pins H a) (hka:kS≠a) (hz1:keys.size < 64) (ho:o.length < 64)
  (hs:(arrOf st).map (·.2)=List.toArray o) (hfl:failedOf st=none)
  (h:∀ (s':Shared) (c:Nat),Inv X pins σ H s'->s'.heap.get? a=some (seqObj "list" (List.toArray (if b then o.reverse else o)) c)->Pf (.done (.ret .none)) s') :
  wpAny (model X.prog X.w) X.A.in1.in1 (ksk_tail a b e1 (.ref kS) st) Pf E s:=by
 have nk:=I.at1 (p:=(kS,seqObj "list" keys e)) (.head _)
 have na:=I.at1 (p:=(a,seqObj "list" #[] e1)) (.tail _ (.head _))
 have na1:(s.heap.update kS (Obj.mapSeq fun _=>(#[]:Array Value))).get? a=some (seqObj "list" #[] e1):=by rw [Heap.get?_update_ne _ _ _ _ hka.symm]; exact na
 have I1:=(I.unpinned).reup (g:=fun _=>(#[]:Array Value)) fk
 have hout:(if b then ((arrOf st).map (·.2)).reverse else (arrOf st).map (·.2))=List.toArray (if b then o.reverse else o):=by
  rw [hs]; cases b <;> simp
 unfold ksk_tail
 try dsimp only
 refine wpAny_bind (listUpdate_at nk rfl ?_ (by rw [sizeLine_eq]; lia) (Nat.zero_le _))
 refine wpAny_bind (wpAny_letGo ?_)
 refine wpAny_bind (seqEpoch_at na1 rfl ?_)
 rw [hout]
 have hz:(List.toArray (if b then o.reverse else o)).size<=sizeLine+1:=by
  rw [sizeLine_eq]
  cases b <;> simp <;> lia
 refine wpAny_bind (listUpdate_at na1 rfl ?_ (Nat.zero_le _) hz)
 rw [hfl]
 simp only [bne_self_eq_false,Bool.false_eq_true,if_false]
 have I2:=I1.reup (g:=fun _=>List.toArray (if b then o.reverse else o)) fa
 exact wpAny_pure (h _ _ I2 (get?_update_seq na1 fun _=>List.toArray (if b then o.reverse else o)))
theorem Zyk {α β:Type}{l:List α}{m:List β}(h:l.length=m.length):(l.zip m).reverse=l.reverse.zip m.reverse:=by
 unfold List.zip
 rw [List.reverse_zipWith h]
theorem Zwd {kv:List Value}{ks:List Int}(h:IntsAre kv ks):IntsAre kv.reverse ks.reverse:=by
 induction h with
 | nil=>exact .nil
 | cons n t _ ih=>rw [List.reverse_cons,List.reverse_cons]; exact ksk_snoc ih
theorem Zma {kv:List Value}{ks:List Int}(h:IntsAre kv ks):∀ {i:Nat},i < ks.length->∃ t,kv.getD i Value.none = .int (kI ks i) t:=by
 induction h with
 | nil=>intro i hi; simp at hi
 | cons n t _ ih =>
  intro i hi
  cases i with
  | zero=>exact ⟨t,rfl⟩
  | succ i =>
   obtain ⟨t',e⟩:=ih (i:=i) (by simpa using hi)
   exact ⟨t',by unfold kI at e ⊢; simpa using e⟩
theorem Ztd {A:Around}{kv:List Value}{ks:List Int}(h:IntsAre kv ks) (s:Shared):Yu (kas_ask X.prog X.w A oneType' kv) (rI' ks) ks.length s:=by
 intro i j C hi hj hC
 obtain ⟨t,ei⟩:=Zma h hi
 obtain ⟨u,ej⟩:=Zma h hj
 unfold kas_ask
 rw [ei,ej,keyLt'_oneType]
 refine oneLt_int ?_
 have:=Zg6 (ks:=ks) (i:=i) (j:=j) hi
 by_cases c:kI ks i < kI ks j
 ·rw [decide_eq_true c]; rw [decide_eq_true (this.mpr c)] at hC; exact hC
 ·rw [decide_eq_false c]; rw [decide_eq_false (fun z=>c (this.mp z))] at hC; exact hC
theorem Zyl (I:Inv X (pins ++ [(kS,seqObj "list" keys e),(a,seqObj "list" #[] e1)]) σ H s) (fk:Z7 X pins H kS) (fa:Z7 X pins H a) (hka:kS≠a) (hk:IntsAre keys.toList ks) (hlen:ks.length=vs.length) (h64:vs.length < 64)
  (h:∀ (s':Shared) (out:List Value) (c:Nat),Inv X pins σ H s'->s'.heap.get? a=some (seqObj "list" (List.toArray out) c)->Zah b ks vs out->Pf (.done (.ret .none)) s') :
  wpAny (model X.prog X.w) X.A.in1.in1 (ksk_end a b vs.toArray e1 (.ref kS) keys) Pf E s:=by
 have hsz:keys.size=vs.length:=by
  have h1:=hk.length
  rw [Array.length_toList] at h1
  lia
 have step:∀ t:Sem PySem.Fin,wpAny (model X.prog X.w) X.A.in1.in1 t Pf E s->wpAny (model X.prog X.w) X.A.in1.in1 (if b=true then (do let _ ← rule "list.sort.reverse"; t) else t) Pf E s:=by
  intro t ht
  split
  ·exact wpAny_bind (wpAny_rule ht)
  ·exact ht
 obtain ⟨kv,ks2,v2,hpr,hi2,hl2,hl3,fin⟩:∃ (kv:List Value) (ks2:List Int) (v2:List Value),(if b=true then (keys.zip vs.toArray).reverse else keys.zip vs.toArray)=kv.toArray.zip v2.toArray/\IntsAre kv ks2/\ks2.length=v2.length/\v2.length=vs.length /\
   ∀ p:Array Nat,Pm v2.length p->UpS (rI' ks2) p v2.length->Zah b ks vs (if b then (p.toList.map fun i=>v2.getD i Value.none).reverse else p.toList.map fun i=>v2.getD i Value.none):=by
  cases b with
  | false =>
   refine ⟨keys.toList,ks,vs,by rw [if_neg Bool.false_ne_true,Array.toArray_toList],hk,hlen,rfl,fun p hp u=>?_⟩
   rw [if_neg Bool.false_ne_true]
   exact Zuq hlen hp u
  | true =>
   refine ⟨keys.toList.reverse,ks.reverse,vs.reverse,?_,Zwd hk,by rw [List.length_reverse,List.length_reverse,hlen],List.length_reverse,fun p hp u=>?_⟩
   ·rw [if_pos rfl]
    apply Array.toList_inj.mp
    rw [Array.toList_reverse,ksk_zip,Zyk (by rw [Array.length_toList]; exact hsz)]
    simp
   ·rw [if_pos rfl]
    rw [List.length_reverse] at hp u
    exact Zsm hlen hp u
 have hkl:kv.length=v2.length:=by have:=hi2.length; lia
 unfold ksk_end
 try dsimp only
 refine step _ ?_
 rw [hpr]
 by_cases h2:vs.toArray.size < 2
 ·rw [if_pos h2,if_pos h2]
  refine wpAny_bind (wpAny_pure ?_)
  rw [StateT.run_pure]
  refine wpAny_bind (wpAny_pure ?_)
  try dsimp only
  have l2:v2.length < 2:=by simp at h2; lia
  have pm:Pm v2.length (List.toArray (List.range v2.length)):=List.Perm.refl _
  have ko:=fin _ pm fun i hi=>by lia
  have eo:((List.toArray (List.range v2.length)).toList.map fun i=>v2.getD i Value.none)=v2:=by
   apply List.ext_getElem
   ·simp
   ·intro i h1 h2
    simp at h1
    simp [h1]
  rw [eo] at ko
  refine Zl9 (o:=v2) (b:=b) I fk fa hka (by lia) (by lia) ?_ rfl fun s' c I' e'=>h s' _ c I' e' ko
  show Array.map (fun x=>x.2) (kv.toArray.zip v2.toArray)=_
  apply Array.toList_inj.mp
  rw [Array.toList_map,ksk_zip]
  simp only [List.toList_toArray]
  rw [List.map_snd_zip (by lia)]
 ·rw [if_neg h2,if_neg h2]
  have l2 : 2<=v2.length:=by simp at h2; lia
  rw [ksk_kind hk (by lia)]
  refine wpAny_bind (wpAny_pure ?_)
  refine wpAny_bind (wpAny_mono (kat_run (ks:=kv) (vs:=v2) (κ:=oneType') (G:=fun p s'=>s'=s/\Pm v2.length p/\UpS (rI' ks2) p v2.length)
   (Q:=fun st' s'=>s'=s/\∃ p:Array Nat,(arrOf st').map (·.2)=List.toArray (p.toList.map fun i=>v2.getD i Value.none)/\failedOf st'=none/\Pm v2.length p/\UpS (rI' ks2) p v2.length)
   hkl l2 (by lia) (fun p st' s' a1 a2 a3 a4=>⟨a4.1,p,kat_snds hkl a2,a3,a4.2⟩) (Zwa (by have:=Ztd (X:=X) (A:=X.A.in1.in1) hi2 s; rw [hl2] at this; exact this) (by lia) fun p a b=>⟨rfl,a,b⟩)) ?_ fun _ _ e=>e)
  rintro ⟨⟨⟩,st'⟩ s' ⟨rfl,p,ho',hf,hp,hu⟩
  try dsimp only
  have hpl:(p.toList.map fun i=>v2.getD i Value.none).length=v2.length:=by rw [List.length_map,Array.length_toList,hp.size]
  exact Zl9 (o:=p.toList.map fun i=>v2.getD i Value.none) (b:=b) I fk fa hka (by lia) (by lia) ho' hf fun s' c I' e'=>h s' _ c I' e' (fin p hp hu)
theorem Zwe (I:Inv X (pins ++ [(kS,seqObj "list" #[] 0),(a,seqObj "list" #[] e1)]) σ H s) (hc:s.heap.get? c'=some oc) (fk:Z7 X pins H kS) (fa:Z7 X pins H a) (hka:kS≠a) (nck:c'≠kS) (hlen:ks.length=vs.length) (h64:vs.length < 64)
  (turn:Zg7 X pins σ H f c' oc vs ks)
  (h:∀ (s':Shared) (out:List Value) (c:Nat),Inv X pins σ H s'->s'.heap.get? a=some (seqObj "list" (List.toArray out) c)->Zah b ks vs out->Pf (.done (.ret .none)) s') :
  wpAny (model X.prog X.w) X.A.in1.in1 (ksk_rest a f b vs.toArray e1 (.ref kS)) Pf E s:=by
 unfold ksk_rest
 refine wpAny_bind (wpAny_rule ?_)
 first
  | rw [List.forIn_toArray]
  | (rw [← Array.forIn_toList]; simp only [List.toList_toArray])
  | rw [← Array.forIn_toList]
 refine wpAny_bind (ksk_fold (fun i s'=>∃ kA e,Inv X (pins ++ [(kS,seqObj "list" kA e),(a,seqObj "list" #[] e1)]) σ H s'/\s'.heap.get? c'=some oc/\IntsAre kA.toList (ks.take i)) vs 0 s
  ⟨#[],0,I,hc,by simpa using IntsAre.nil⟩ ?step ?done)
 case step =>
  rintro j x s' hx ⟨kA,e,I',hc',hk⟩
  simp only [Nat.zero_add] at hk ⊢
  have hj:j < vs.length:=(List.getElem?_eq_some_iff.mp hx).1
  obtain ⟨k,hkj⟩:∃ k,ks[j]? = some k:=⟨_,List.getElem?_eq_getElem (by lia)⟩
  have hz:kA.size<=vs.length:=by
   have h1:=hk.length
   rw [Array.length_toList,List.length_take] at h1
   lia
  refine wpAny_bind (wpAny_attempt (wpAny_mono (turn j x k hx hkj _ s' I' hc') (fun v s'' he=>?_) fun _ _ hF=>hF.elim))
  obtain ⟨⟨t2,rfl⟩,I2,hc2⟩:=he
  try dsimp only
  have nk:=I2.at1 (p:=(kS,seqObj "list" kA e)) (.head _)
  have na:=I2.at1 (p:=(a,seqObj "list" #[] e1)) (.tail _ (.head _))
  have ek:ks.take (j+1)=ks.take j ++ [k]:=by rw [List.take_add_one,hkj]; simp
  have ea:(kA.push (Value.int k t2)).toList=kA.toList ++ [Value.int k t2]:=by simp
  refine wpAny_bind (listUpdate_at nk rfl ?_ (by rw [sizeLine_eq]; lia) (Nat.le_trans (Nat.le_of_eq (Array.size_push ..)) (by rw [sizeLine_eq]; lia)))
  have I3:=(I2.unpinned).reup (g:=(·.push (.int k t2))) fk
  refine wpAny_pure ⟨rfl,kA.push (.int k t2),_,I3.pin2 fk fa (get?_update_seq nk (·.push (.int k t2))) (by rw [Heap.get?_update_ne _ _ _ _ hka.symm]; exact na) (fun v z=>by cases z) (fun v z=>by cases z),?_,by rw [ea,ek]; exact ksk_snoc hk⟩
  show (s''.heap.update kS _).get? c'=_
  rw [Heap.get?_update_ne _ _ _ _ nck]; exact hc2
 case done =>
  rintro s' ⟨kA,e,I',hc',hk⟩
  have hk':IntsAre kA.toList ks:=by
   have e3:ks.take (0+vs.length)=ks:=List.take_of_length_le (by lia)
   rw [e3] at hk
   exact hk
  have nk:=I'.at1 (p:=(kS,seqObj "list" kA e)) (.head _)
  try dsimp only
  refine wpAny_bind (listItems_at nk rfl ?_)
  exact Zyl I' fk fa hka hk' hlen h64 h
theorem Zwf {n:Nat}(I:Inv X pins σ H s) (hc:s.heap.get? c'=some oc) (fa:Z7 X pins H a) (ho:s.heap.get? a=some (seqObj "list" vs.toArray n)) (nca:c'≠a) (hlen:ks.length=vs.length) (h64:vs.length < 64) (turn:Zg7 X pins σ H f c' oc vs ks)
  (h:∀ (s':Shared) (out:List Value) (c:Nat),Inv X pins σ H s'->s'.heap.get? a=some (seqObj "list" (List.toArray out) c)->Zah b ks vs out->Pf (.done (.ret .none)) s') :
  wpAny (model X.prog X.w) X.A.in1.in1 (ksk_tree a f b) Pf E s:=by
 have ha:a < s.heap.objs.size:=Heap.lt_size ho
 obtain ⟨e1,ho1⟩:∃ e1,(s.heap.update a (Obj.mapSeq fun _=>(#[]:Array Value))).get? a=some (seqObj "list" #[] e1):=⟨_,get?_update_seq ho fun _=>#[]⟩
 have hkS:((s.heap.update a (Obj.mapSeq fun _=>(#[]:Array Value))).push (seqObj "tuple" vs.toArray 0)).objs.size=s.heap.objs.size+1:=by rw [size_push',Heap.size_update]
 have I1:=I.reup (g:=fun _=>(#[]:Array Value)) fa
 have I2:Inv X pins σ H {s with heap:=((s.heap.update a (Obj.mapSeq fun _=>(#[]:Array Value))).push (seqObj "tuple" vs.toArray 0)).push (seqObj "list" #[] 0) }:=I1.kept (t':=s.toks) fun b u e=>Heap.get?_push_of_some _ (Heap.get?_push_of_some _ e)
 have fk:Z7 X pins H ((s.heap.update a (Obj.mapSeq fun _=>(#[]:Array Value))).push (seqObj "tuple" vs.toArray 0)).objs.size:=I.fpOk (by rw [hkS]; lia) (I.hok.fresh (by rw [hkS]; lia))
 unfold ksk_tree
 refine wpAny_bind (listItems_at ho rfl ?_)
 refine wpAny_bind (listUpdate_at ho rfl ?_ (by rw [List.size_toArray,sizeLine_eq]; lia) (Nat.zero_le _))
 refine wpAny_bind (seqEpoch_at ho1 rfl ?_)
 refine wpAny_bind (wpAny_newTuple ?_ (by show vs.length<=_; rw [sizeLine_eq]; lia))
 refine wpAny_bind (wpAny_newList ?_ (Nat.zero_le _))
 refine wpAny_holding ?_
 refine Zwe (s:={s with heap:=((s.heap.update a (Obj.mapSeq fun _=>(#[]:Array Value))).push (seqObj "tuple" vs.toArray 0)).push (seqObj "list" #[] 0) }) (kS:=((s.heap.update a (Obj.mapSeq fun _=>(#[]:Array Value))).push (seqObj "tuple" vs.toArray 0)).objs.size)
  (I2.pin2 fk fa (Heap.get?_push_size _ rfl) (Heap.get?_push_of_some _ (Heap.get?_push_of_some _ ho1)) (fun v z=>by cases z) (fun v z=>by cases z)) ?_ fk fa (by rw [hkS]; exact Nat.ne_of_gt (Nat.lt_succ_of_lt ha)) (by rw [hkS]; exact Nat.ne_of_lt (Nat.lt_succ_of_lt (Heap.lt_size hc))) hlen h64 turn h
 refine Heap.get?_push_of_some _ (Heap.get?_push_of_some _ ?_)
 rw [Heap.get?_update_ne _ _ _ _ nca]; exact hc
theorem Zte {l:Addr}{kw:List (Str×Value)}{Q:Value->Shared->Prop}(I:Inv X pins σ H s) (hc:s.heap.get? c'=some oc) (hl:s.heap.IsList l vs.toArray) (hlen:ks.length=vs.length) (h64:vs.length < 64)
  (ha1:argsOk "sorted" ⟨[.ref l],kw⟩) (ha2:∀ x,argsOk "list.sort" ⟨[.ref x],kw⟩) (ht:∀ x,Builtin.«list.sort» ⟨[.ref x],kw⟩=ksk_tree x f b) (turn:Zg7 X pins σ H f c' oc vs ks)
  (h:∀ (D:Addr) (s':Shared) (out:List Value) (c:Nat),Inv X pins σ H s'->Z7 X pins H D->X.s₀.heap.objs.size<=D->s'.heap.get? D=some (seqObj "list" (List.toArray out) c)->Zah b ks vs out->Q (.ref D) s') :
  wpAny (model X.prog X.w) X.A (call (.builtin "sorted") [.ref l] kw) Q E s:=by
 refine call_function_entry_kw kind_sorted plain_sorted entry_sorted ha1 ?_
 unfold Builtin.«sorted»
 refine wpAny_bind (m:=checkCount "sorted" 1 1 _) (wpAny_pure ?_)
 refine wpAny_bind (collect_list hl ?_ (by rw [sizeLine_eq]; lia))
 refine wpAny_bind (wpAny_newList ?_ (by rw [sizeLine_eq]; lia))
 have hsz:((s.heap.push (seqObj "list" #[] 0)).update s.heap.objs.size (Obj.mapSeq (· ++ vs.toArray))).objs.size=s.heap.objs.size+1:=by
  rw [Heap.size_update,size_push']
 have hoL:(((s.heap.push (seqObj "list" #[] 0)).update s.heap.objs.size (Obj.mapSeq (· ++ vs.toArray))).push (seqObj "list" vs.toArray 0)).get? (s.heap.objs.size+1)=some (seqObj "list" vs.toArray 0):=by
  rw [← hsz]; exact Heap.get?_push_size _ rfl
 have keep:∀ b o,s.heap.get? b=some o->(((s.heap.push (seqObj "list" #[] 0)).update s.heap.objs.size (Obj.mapSeq (· ++ vs.toArray))).push (seqObj "list" vs.toArray 0)).get? b=some o:=fun b o q=>by
  have hlt:b < s.heap.objs.size:=Heap.lt_size q
  rw [Heap.get?_push_ne _ _ _ (by rw [hsz]; exact Nat.ne_of_lt (Nat.lt_succ_of_lt hlt)),Heap.get?_update_ne _ _ _ _ (Nat.ne_of_lt hlt),Heap.get?_push_ne _ _ _ (Nat.ne_of_lt hlt)]
  exact q
 show wpAny _ _ _ _ _ {s with heap:=((s.heap.push (seqObj "list" #[] 0)).update s.heap.objs.size (Obj.mapSeq (· ++ vs.toArray))).push (seqObj "list" vs.toArray 0) }
 rw [hsz]
 refine wpAny_bind (wpAny_holding (wpAny_call_entry_kw slot_list_sort ⟨_,hoL,rfl⟩ entry_list_sort ?body (ha2 _)))
 case body =>
  have ht':=ht (s.heap.objs.size+1)
  show wpAny (model X.prog X.w) X.A.in1.in1 (Builtin.«list.sort» ⟨[.ref (s.heap.objs.size+1)],kw⟩) _ _ _
  rw [ht']
  have I1:Inv X pins σ H {s with heap:=((s.heap.push (seqObj "list" #[] 0)).update s.heap.objs.size (Obj.mapSeq (· ++ vs.toArray))).push (seqObj "list" vs.toArray 0) }:=I.kept (t':=s.toks) keep
  have fa:Z7 X pins H (s.heap.objs.size+1):=I.fpOk (by lia) (I.hok.fresh (by lia))
  refine Zwf (s:={s with heap:=((s.heap.push (seqObj "list" #[] 0)).update s.heap.objs.size (Obj.mapSeq (· ++ vs.toArray))).push (seqObj "list" vs.toArray 0) }) I1 (keep _ _ hc) fa hoL (Nat.ne_of_lt (Nat.lt_succ_of_lt (Heap.lt_size hc))) hlen h64 turn fun s' out c I' ho' ko=>⟨_,rfl,?_⟩
  exact wpAny_pure ⟨_,rfl,h _ s' out c I' fa (Nat.le_succ_of_le I.sz) ho' ko⟩
end
end L2
end
section
set_option Elab.async false
set_option linter.all false
set_option maxRecDepth 100000
set_option maxHeartbeats 4000000
namespace L2
open PySem PySem.Spec PyProof.Rows PySem.W
def Zn3 (K:Frag) (b:Bool) (te:TE):List V->Hp->VK->Prop:=fun vs H Q=>∃ (a:Addr) (xs:List V) (ks:List Int),vs = [.ref a]/\SqL K H a xs/\xs.length < 64/\ks.length=xs.length /\
 (∀ (i:Nat) (x:V) (k:Int),xs[i]? = some x->ks[i]? = some k->∀ H2:Hp,(∀ b ys,H b=some (.tup ys)->H2 b=some (.tup ys))->te [some x] H2 fun z H3=>z = .int k/\H3=H2) /\
 ∀ (l:Addr) (p:List Nat) (H':Hp),Same H H'->H' l=none->p.Perm (List.range xs.length)->p.Pairwise (LKb b ks)->Q (.ref l) (upd H' l (.lst (p.map fun i=>xs.getD i .non)))
theorem Zlk {xs:List V}{vs:List Value}(r:Vals xs vs):∀ p:List Nat,Vals (p.map fun i=>xs.getD i .non) (p.map fun i=>vs.getD i Value.none)
 | []=>.nil
 | i::p=>.cons (by
   show RelV (xs.getD i .non) (vs.getD i Value.none)
   rw [List.getD_eq_getElem?_getD,List.getD_eq_getElem?_getD]
   cases e:xs[i]? with
   | none=>rw [r.none_of e]; rfl
   | some x=>obtain ⟨u,e2,r2⟩:=r.get e; rw [e2]; exact r2) (Zlk r p)
section
variable {X:Cx}{c P:Addr}{nm x:Str}{params:Arguments}{body:Expr}{scope:Scope}{lpos p kp kp2 pos:Pos}{e:Expr}{te1 te:TE}{k:Nat}
structure LamOk (X:Cx) (nm x:Str) (params:Arguments) (body:Expr) (scope:Scope) (te:TE):Prop where
 cl:closureFor scope X.env=pure []
 df:defaultsOf params X.env=([],[])
 S:FnScope [x] [x] scope
 bd:∀ (pm cv ctv u:Value),bindArgs (kla_fn "<lambda>" nm params body scope [] pm cv ctv) ⟨[u],[]⟩=pure [(x,u)]
 bo:∀ (f:Addr) (cv:Value) (A:Around) (s:Shared) (H2:Hp),QE (Yi CX0 X.prog X.w X.K X.mg X.base [x] nm scope f cv A X.stack s H2 E0) body te
theorem Ztf {b:Bool}{kw:Addr->List (Str×Value)}{pins:List (Addr×Obj)}{σ:St}{H:Hp}{s:Shared}{Q:VK}{a f c':Addr}{ctv pm:Value}{oc:Obj}{vs:Array Value}{t:Tok}{H1:Hp}(Lo:LamOk X nm x params body scope te) (hr:Room k X.A) (hk : 3<=k)
  (ha1:∀ l f,argsOk "sorted" ⟨[.ref l],kw f⟩) (ha2:∀ x f,argsOk "list.sort" ⟨[.ref x],kw f⟩) (ht:∀ x f,Builtin.«list.sort» ⟨[.ref x],kw f⟩=ksk_tree x (.ref f) b)
  (I:Inv X (pins ++ [(f,kla_obj "<lambda>" nm params body scope [] pm c' ctv)]) σ H s) (ho:s.heap.get? c'=some oc) (e1:oc.data = .fields vs) (e2:vs[1]? = some (.str nm t)) (own:H c'=some (.own P)) (hT:IsTab H P nm) (sm:Same H1 H)
  (h:Zn3 X.K b te [.ref a] H1 Q):wpAny (model X.prog X.w) X.A (call (.builtin "sorted") [.ref a] (kw f)) (EP X pins σ Q) X.xe s:=by
 obtain ⟨a',xs,ks,ea,hS,h64,hlen,hkey,q⟩:=h
 cases ea
 have hS':SqL X.K H a xs:=by
  rcases hS with (z | ⟨o,z⟩) | z
  ·exact .inl (.inl (sm _ _ z))
  ·exact .inl (.inr ⟨o,sm _ _ z⟩)
  ·exact .inr z
 obtain ⟨its,rv,pl,_⟩:=I.list hS'
 have hl:=rv.length
 have hr2:Room (k - 2) X.A.in1.in1:=(Room.in1 (k:=k - 2) (Room.in1 (k:=k - 2+1) (hr.mono (by lia))))
 refine Zte (f:=.ref f) (oc:=oc) (ks:=ks) (b:=b) I ho pl.isList (by lia) (by lia) (ha1 a f) (fun x=>ha2 x f) (fun x=>ht x f) (fun i v kk hv hkk pl2 s2 I2 ho2=>?_) fun D s' out cc I' fp hD hdo ko=>?_
 ·have hx:∃ xv,xs[i]? = some xv/\RelV xv v:=by
   have hi:i < xs.length:=by have:=(List.getElem?_eq_some_iff.mp hv).1; lia
   obtain ⟨u,e3,r3⟩:=rv.get (List.getElem?_eq_getElem hi)
   rw [hv] at e3
   cases e3
   exact ⟨_,List.getElem?_eq_getElem hi,r3⟩
  obtain ⟨xv,hxv,rxv⟩:=hx
  refine wpAny_mono (Zwc (P:=P) (pm:=pm) (ctv:=ctv) (te:=te) (w:=.int kk) I2 rfl hr2 ?_ ho2 e1 e2 own hT Lo.S (Lo.bd _ _ _ _) rxv (fun H2=>(Lo.bo _ _ _ _ _).h) fun H2 hH2=>hkey i xv kk hxv hkk H2 fun b ys e=>hH2 b ys (sm _ _ e)) (fun r s3 ⟨r1,r2,r3⟩=>⟨r1,r2,r3⟩) fun _ _ z=>z
  exact (I2.pin _ (List.mem_append_right _ (List.mem_append_left _ (List.mem_append_right _ List.mem_cons_self)))).1
 ·obtain ⟨pp,hp1,hp2,rfl⟩:=ko
  have hl3:xs.length=its.length:=hl
  have hpl:pp.length=xs.length:=by have:=hp1.length_eq; rw [List.length_range] at this; lia
  refine ⟨.ref D,_,(I'.track (u:=.lst (pp.map fun i=>xs.getD i .non)) fp hD ⟨?_,pp.map fun i=>its.getD i Value.none,cc,Zlk rv pp,hdo⟩).unpinned,rfl,q D pp H sm fp.1 (by rw [hl3]; exact hp1) hp2⟩
  rw [List.length_map,hpl]
  exact Nat.le_trans (Nat.le_of_lt h64) (by decide)
theorem Zsa {t:TA}(L:LamX X c P nm) (hT:IsTab X.H₀ P nm) (hr:Room k X.A) (hk : 3<=k) (n:Nm X.env.scope "sorted" .globalImplicit) (hm:X.mg "sorted" = none) (ha:QA X [e] t) (Lo:LamOk X nm x params body scope te)
  (hs:backTo pos (starEach [e] X.env)=(false,eval e X.env)::backTo pos (starEach [] X.env):=by rfl) (hpl:(backTo pos (starEach [e] X.env)).any (·.1)=false:=by rfl) :
  QE X (.Call (.Name "sorted" p) [e] [⟨some "key", .Lambda params body scope lpos,kp⟩] pos) (tCB (Zn3 X.K false te) t):=⟨by
 intro pins s σ H Q I h
 refine wpAny_Call_Name_kw (Vf I n.1 hm Zdh ?_ n.2.2.2 n.2.1)
 refine PyProof.Rows.callWith_kw (thn (ha.h pos pins s σ H _ I h) fun us s1 ⟨vs,H1,I1,r1,q1⟩=>?_) hs hpl rfl rfl
 obtain ⟨a,xs,ks,ea,rest⟩:=id q1
 subst ea
 obtain ⟨u,rfl,ru⟩:=Vt r1
 cases ru
 refine PyProof.Rows.kws_cons (Zwb I1 L hT Lo.cl Lo.df fun f c' ctv oc vs t H' s' I2 ho e1 e2 own hT' sm=>PyProof.Rows.kws_nil ?_)
 exact Ztf (kw:=fun f=>[(Str.ofString "key", .ref f)]) Lo hr hk (fun l f=>ksk_s1 _ _) (fun x f=>ksk_l1 _ _) (fun x f=>ksk_t1 _ _) I2 ho e1 e2 own hT' sm q1⟩
end
end L2
end
section
set_option Elab.async false
set_option linter.all false
set_option maxRecDepth 100000
set_option maxHeartbeats 4000000
namespace L2
open PySem PySem.Spec PyProof.Rows PySem.W
/- the library's own look at a code's head (KE.KNestM): a match of its own cost 37,000 objects -/
theorem Zll {K:Frag}{h:Heap}{c P:Addr}(X:K.In h) (e:PySem.W.codeHdIn K c P=true):CodeHd h c P:=PySem.W.codeHd_of_K X e
def HasL (K:Frag) (mg:Str->Option Value) (x:Str) (st:Stmt) (c:Addr):Prop:=∃ (f:Addr) (oc:Value) (od:Option Addr) (kV doc pm:Value) (an:Option Addr) (ct:Value) (osl:Array (Option Value)),
 K.lookup f=some ⟨oc,od,.func (PySem.W.fnOf x x (Wt st) (Yt st) (Za st) .none kV doc pm an (.ref c) ct),osl⟩/\PySem.W.codeIn K (.ref c) x=true/\PySem.W.keepIn K (.ref f)=true/\mg x=some (.ref f)
theorem Zym {K:Frag}{mg:Str->Option Value}{h:Heap}{x:Str}{st:Stmt}{f c:Addr}{oc:Value}{od an:Option Addr}{osl:Array (Option Value)}{kV doc pm ct:Value}(KX:K.In h) (G:h.Ns mainGlobals mg)
  (a:PySem.W.nsIn K mainGlobals x=some (some (.ref f))) (l:K.lookup f=some ⟨oc,od,.func (PySem.W.fnOf x x (Wt st) (Yt st) (Za st) .none kV doc pm an (.ref c) ct),osl⟩)
  (cc:PySem.W.codeIn K (.ref c) x=true) (k:PySem.W.keepIn K (.ref f)=true):HasL K mg x st c:=⟨f,oc,od,kV,doc,pm,an,ct,osl,l,cc,k,PySem.W.mg_of KX G a⟩
structure LamB (K:Frag) (mg:Str->Option Value) (c P:Addr):Prop where
 hd:PySem.W.codeHdIn K c P=true
 bm:∃ bm o,mg "__builtins__" = some (.ref bm)/\bm≠builtinsNs/\bm≠mainGlobals/\bm≠P/\K.lookup bm=some o/\o.cls = .type "module" /\ o.dict=some builtinsNs/\o.data = .plain
 gl:mainGlobals≠P
section
variable {P:Program}{w:World}{K:PySem.W.Frag}{mg:Str->Option Value}{base:Heap}
theorem HasL.fnQ {x:Str}{st:Stmt}{N ps:List Str}{k:Nat}{sp:Sp}{c T:Addr}(h:HasL K mg x st c) (B:LamB K mg c T) (kb:K.In base) (S:FnScope N ps (Za st))
  (hb:∀ (kV doc pm:Value) (an:Option Addr) (cdv ct:Value) (us:List Value),us.length=ps.length->bindArgs (PySem.W.fnOf x x (Wt st) (Yt st) (Za st) .none kV doc pm an cdv ct) ⟨us,[]⟩=pure (ps.zip us))
  (len:∀ vs H Q E,sp vs H Q E->vs.length=ps.length)
  (hbody:∀ (f:Addr) (A:Around) (outer:List Env) (s:Shared) (H:Hp) (vs:List V) (Q:VK) (E:XK),Room k (A.deeper (envOfC x (Za st) s.heap.objs.size f (.ref c)))->LamX (Yi CX0 P w K mg base N x (Za st) f (.ref c) A outer s H E).nox c T (x ++ ".<locals>." ++ "<lambda>")->sp vs H Q E ->
   ∃ t,QSs (Yi CX0 P w K mg base N x (Za st) f (.ref c) A outer s H E).nox (Yt st) t/\t {nx:=fun _ H'=>Q .non H',rt:=Q } (start N vs) H):Fn P w K mg base x ps (k+1) sp:=by
 obtain ⟨f,oc,od,kV,doc,pm,an,ct,osl,lk,hcd,kp,hm⟩:=h
 refine ⟨f,_,hm,kp,.all (hb kV doc pm an (.ref c) ct),Zom lk hcd S len fun A outer s H vs Q E hr hsp=>?_⟩
 have L:LamX (Yi CX0 P w K mg base N x (Za st) f (.ref c) A outer s H E).nox c T (x ++ ".<locals>." ++ "<lambda>") :=
  ⟨rfl,Zll kb B.hd,let ⟨bm,o,a1,a2,a3,a4,a5,a6⟩:=B.bm; ⟨bm,o,a1,a2,a3,a4,kb _ _ a5,a6⟩,rfl,B.gl⟩
 obtain ⟨t,h,q⟩:=hbody f A outer s H vs Q E hr L hsp
 exact ⟨t,h.h.nox,q⟩
end
section
variable {P:Program}{w:World}{K:PySem.W.Frag}{mg:Str->Option Value}{base:Heap}{x nm:Str}{scope:Scope}{f:Addr}{cv:Value}{A:Around}{outer:List Env}{s:Shared}{H:Hp}{E:XK}{pos:Pos}
theorem Zwg:QIx (Yi CX0 P w K mg base [x] nm scope f cv A outer s H E) (Zem K):=⟨Zgv (X:=Yi CX0 P w K mg base [x] nm scope f cv A outer s H E)⟩
theorem Z7e (n:Nm scope x .local:=by decide +kernel):QE (Yi CX0 P w K mg base [x] nm scope f cv A outer s H E) (.Name x pos) (Yh 0):=qvN 0 n
theorem Zur {y:Str}{v:V}{u:Value}(hm:mg y=some u) (r:RelV v u) (n:Nm scope y .globalImplicit:=by decide +kernel):QE (Yi CX0 P w K mg base [x] nm scope f cv A outer s H E) (.Name y pos) (tC v):=Yo n hm r
end
structure Tb where
 c:Addr
 P:Addr
 nm:Str
def Vo (ts:List Tb) (b:Addr):Option HO:=(ts.find? fun t=>t.P == b).map fun t=>.tbl #[.str t.nm 0]
def Zn4 (ts:List Tb) (H:Hp):Prop:=∀ t∈ts,IsTab H t.P t.nm
def Zd8 (K:PySem.W.Frag) (ts:List Tb):Sp:=fun vs H Q _=>∃ (a:Addr) (ns:List Int),vs = [.ref a]/\SqL K H a (ns.map V.int)/\ns.length<=63/\Zn4 ts H/\∀ H',Q (.bl true) H'
theorem Zus {P:Program}{w:World}{K:PySem.W.Frag}{mg mb:Str->Option Value}{k:Nat}{fa a:Addr}{fd:FuncData}{x:Str}{s₁:Shared}{vs:List Value}{ns:List Int}{ts:List Tb}
  (KX:K.In s₁.heap) (hns:s₁.heap.Ns mainGlobals mg) (hb:s₁.heap.Ns builtinsNs mb) (hbb:∀ x:Str,x ≠ "__name__" -> mb x=bootBuiltins x) (hlim:s₁.heap.NoLimit) (hg:s₁.gens = #[])
  (ha:s₁.heap.get? a=some {cls:=.type "list", data:=.seq vs.toArray }) (hi:IntsAre vs ns) (hl:ns.length<=63) (hr:Room k callerA)
  (hts:∀ t∈ts,s₁.heap.get? t.P=some {cls:=.none,data:=.fields #[] }/\PySem.W.codeHdIn K t.c t.P=true/\K.lookup t.P=none) (hnd:(ts.map (·.P)).Nodup)
  (F:∀ base:Heap,K.In base->base.Ns mainGlobals mg->FnOk P w K mg base CX0 k fa fd [x] (Zd8 K ts)) (hbind:∀ (s:Shared) (u:Value),BindsTo s fd ⟨[u],[]⟩ [(x,u)]) :
  codeAny (model P w) callerA (.call (.ref fa) ⟨[.ref a],[]⟩) (fun r s'=>r = .ok (.ret (.bool true))/\OldK s₁.heap s'.heap/\s'.os=s₁.os/\AllBare s'.gens) s₁:=by
 have rv:=Zlf hi
 have lenV:=hi.length
 have hl':ns.length<=sizeLine:=Nat.le_trans hl (by decide)
 have tabS:∀ b u,Vo ts b=some u->∃ t∈ts,t.P=b/\u = .tbl #[.str t.nm 0]:=fun b u e=>by
  unfold Vo at e
  obtain ⟨t,h1,h2⟩:=Option.map_eq_some_iff.mp e
  exact ⟨t,List.mem_of_find?_eq_some h1,by simpa using List.find?_some h1,h2.symm⟩
 have tabN:∀ t∈ts,∃ u,Vo ts t.P=some u:=fun t ht=>by
  unfold Vo
  cases e:ts.find? (fun t'=>t'.P == t.P) with
  | none=>have:=List.find?_eq_none.mp e t ht; simp at this
  | some t'=>exact ⟨_,rfl⟩
 have tabE:∀ t∈ts,Vo ts t.P=some (.tbl #[.str t.nm 0]):=fun t ht=>by
  obtain ⟨u,e⟩:=tabN t ht
  obtain ⟨t',h1,h2,h3⟩:=tabS _ _ e
  have:t'=t:=by
   have e1:∀ {l:List Tb}{t t':Tb},(l.map (·.P)).Nodup->t∈l->t'∈l->t'.P=t.P->t'=t:=by
    intro l
    induction l with
    | nil=>intro t t' _ h; cases h
    | cons y l ih =>
     intro t t' hn h h' hp
     rw [List.map_cons,List.nodup_cons] at hn
     rcases List.mem_cons.mp h with z | z
     ·rcases List.mem_cons.mp h' with z' | z'
      ·rw [z,z']
      ·rw [z] at hp; exact absurd (List.mem_map.mpr ⟨t',z',hp⟩) hn.1
     ·rcases List.mem_cons.mp h' with z' | z'
      ·rw [z'] at hp; exact absurd (List.mem_map.mpr ⟨t,z,hp.symm⟩) hn.1
      ·exact ih hn.2 z z' hp
   exact e1 hnd ht h1 h2
  rw [e,h3,this]
 have core:∀ H:Hp,(∀ b u,H b=some u->(b=a/\∃ o xs,u = .frz o (.lst xs))\/Vo ts b=some u)->Zn4 ts H->SqL K H a (ns.map V.int)->HOk P w H s₁.heap->(H a≠none->K.lookup a=none) ->
   codeAny (model P w) callerA (.call (.ref fa) ⟨[.ref a],[]⟩) (fun r s'=>r = .ok (.ret (.bool true))/\OldK s₁.heap s'.heap/\s'.os=s₁.os/\AllBare s'.gens) s₁:=by
  intro H hO hT hS hok hK
  have base_of:∀ {b:Addr}{o:Obj},s₁.heap.get? b=some o->H b=none->(Ui s₁.heap H).get? b=some o:=fun e n=>Zu1 e n
  have noA:∀ {b:Addr}{o:Obj}{es:Array DictEntry}{ep:Nat},s₁.heap.get? b=some o->o.data = .dict es ep->H b=none:=fun {b o es ep} e d=>by
   cases q:H b with
   | none=>rfl
   | some u =>
    rcases hO b u q with ⟨e',_⟩ | e'
    ·subst e'
     rw [ha] at e; cases e
     have d':Data.seq vs.toArray _=Data.dict es ep:=d
     cases d'
    ·obtain ⟨t,h1,h2,_⟩:=tabS b u e'
     subst h2
     rw [(hts t h1).1] at e; cases e; cases d
  have nsK:∀ {b:Addr}{m:Str->Option Value},s₁.heap.Ns b m->(Ui s₁.heap H).Ns b m:=fun {b m} ⟨o,es,ep,e,d,r⟩=>⟨o,es,ep,base_of e (noA e d),d,r⟩
  have hKb:K.In (Ui s₁.heap H):=fun b o e=>base_of (KX b o e) (by
   cases q:H b with
   | none=>rfl
   | some u =>
    rcases hO b u q with ⟨e',_⟩ | e'
    ·subst e'
     rw [hK (by rw [q]; simp)] at e; cases e
    ·obtain ⟨t,h1,h2,_⟩:=tabS b u e'
     subst h2
     rw [(hts t h1).2.2] at e; cases e)
  have hM:Mod K mg (Ui s₁.heap H):=⟨hKb,nsK hns,⟨mb,nsK hb,hbb⟩,let ⟨mc,h1,h2⟩:=hlim; ⟨mc,nsK h1,h2⟩⟩
  have e0:Env0 P w K mg (Ui s₁.heap H) callerA [] s₁ H:=⟨rfl,hM,fun b o e=>Zw6 e,Nat.le_of_eq (Ztp _ _),trivial,fun b hb=>absurd (show b∈([]:List Addr) from hb) (by simp),hok,.of_eq hg⟩
  refine codeAny_mono ((F _ hKb (nsK hns)).run callerA [] s₁ H ⟨[.ref a],[]⟩ [.ref a] [.ref a] (fun v _=>v = .bl true) E0 hr e0 (hbind s₁ (.ref a)) (.cons rfl .nil) ⟨a,ns,rfl,hS,hl,hT,fun _=>rfl⟩) fun r s' h=>?_
  cases r with
  | error e=>exact h.elim
  | ok fl =>
   cases fl with
   | next=>exact False.elim h
   | brk=>exact False.elim h
   | cont=>exact False.elim h
   | ret u =>
    obtain ⟨v,H',os,bare,un,hok',r',q⟩:=h
    have q':v = .bl true:=q
    subst q'
    obtain rfl:u=Value.bool true:=r'
    have nfs:∀ b:Addr,b∉frs []:=fun b z=>absurd (show b∈([]:List Addr) from z) (by simp)
    refine ⟨rfl,⟨fun b o e=>?_,fun b o e=>un.there b o e (by simp)⟩,os,bare⟩
    cases q:H b with
    | none=>exact .inl (un.keep b o e q (nfs b) (by simp))
    | some u =>
     rcases hO b u q with ⟨_,ob,xs,z⟩ | z
     ·subst z
      have z2:=un.frzs b ob _ q
      obtain ⟨e1,_⟩:=hok b _ q
      obtain ⟨e2,_⟩:=hok' b _ z2
      rw [e] at e1; cases e1
      exact .inl e2
     ·obtain ⟨t,h1,h2,h3⟩:=tabS b u z
      subst h2 h3
      obtain ⟨e1,e2,_⟩:=hts t h1
      rw [e1] at e
      cases e
      obtain ⟨more,z2⟩:=un.tbls _ _ q
      obtain ⟨qs,_,_,e3,_⟩:=hok' _ _ z2
      obtain ⟨oc,vv,_,_,_,_,_,_,_,f1,f2,f3,f4,_⟩:=Zll KX e2
      exact .inr (.inl ⟨⟨t.c,oc,vv,f1,f2,f3,f4⟩,rfl,#[],qs,rfl,by rw [e3]; simp⟩)
 have tabOk:∀ (H:Hp),(∀ t∈ts,H t.P=some (.tbl #[.str t.nm 0]))->∀ b u,Vo ts b=some u->ObjOk P w H s₁.heap b u:=fun H hH b u z=>by
  obtain ⟨t,h1,h2,h3⟩:=tabS b u z
  subst h2 h3
  exact ⟨#[],t.nm,0,(hts t h1).1,trivial,rfl,fun pos cv e=>by cases e⟩
 have nPa:∀ t∈ts,t.P≠a:=fun t ht z=>by
  have:=(hts t ht).1
  rw [z,ha] at this; cases this
 cases hk:K.lookup a with
 | some o =>
  have e:=KX a o hk
  rw [ha] at e
  cases e
  refine core (Vo ts) (fun b u z=>.inr z) (fun t ht=>⟨_,_,tabE t ht,rfl⟩) (.inr ⟨_,vs.toArray,_,hk,rfl,rfl,rfl,by rw [List.size_toArray,lenV]; exact hl',by simpa using rv⟩) (fun b u z=>tabOk _ tabE b u z) fun z=>?_
  exfalso
  cases q:Vo ts a with
  | none=>exact z q
  | some u=>obtain ⟨t,h1,h2,_⟩:=tabS a u q; exact nPa t h1 h2
 | none =>
  have hH:∀ t∈ts,(fun b=>if b=a then some (HO.frz {cls:=.type "list", data:=.seq vs.toArray } (.lst (ns.map V.int))) else Vo ts b) t.P=some (.tbl #[.str t.nm 0]):=fun t ht=>by
   show (if t.P=a then _ else _)=_
   rw [if_neg (nPa t ht)]; exact tabE t ht
  refine core (fun b=>if b=a then some (.frz {cls:=.type "list", data:=.seq vs.toArray } (.lst (ns.map V.int))) else Vo ts b) (fun b u z=>?_) (fun t ht=>⟨_,_,hH t ht,rfl⟩) (.inl (.inr ⟨{cls:=.type "list", data:=.seq vs.toArray },if_pos rfl⟩)) (fun b u z=>?_) fun _=>hk
  ·by_cases hb:b=a
   ·have z':=(if_pos hb).symm.trans z
    cases z'
    exact .inl ⟨hb,_,_,rfl⟩
   ·exact .inr ((if_neg hb).symm.trans z)
  ·by_cases hb:b=a
   ·have z':=(if_pos hb).symm.trans z
    cases z'
    subst hb
    exact ⟨ha,by rw [List.length_map]; exact hl',vs,_,rv,ha⟩
   ·exact tabOk _ hH b u ((if_neg hb).symm.trans z)
theorem walkLawT {l:PySem.W.OpenLaw}{q:Program}{loose:List Str}{XP:(Str->Option Value)->Heap->Prop}{YP:World->Heap->Prop}{d:DefRec}{K KT:Params->PySem.W.Frag}{ts:List Tb}(hn:l.most=some 63) (hdf:d.params.defaults = [])
  (hY:∀ (w:World) (h:Heap),YP w h->(KT w.params).In h) (hsub:∀ (p:Params) (h:Heap),(KT p).In h->(K p).In h)
  (hts:∀ (p:Params),∀ t∈ts,(KT p).lookup t.P=some {cls:=.none,data:=.fields #[] }/\PySem.W.codeHdIn (K p) t.c t.P=true/\(K p).lookup t.P=none) (hnd:(ts.map (·.P)).Nodup)
  (F:∀ (w:World) (mg:Str->Option Value) (fa:Addr) (h:Heap),(K w.params).In h->h.Ns mainGlobals mg->mg d.name=some (.ref fa) ->
   ∃ fd:FuncData,(∀ (s:Shared) (u:Value),BindsTo s fd ⟨[u],[]⟩ [("_law_script", u)])/\∀ base:Heap,(K w.params).In base->base.Ns mainGlobals mg->FnOk l.prog w (K w.params) mg base CX0 40 fa fd ["_law_script"] (Zd8 (K w.params) ts)) :
  PySem.W.WalkO q loose XP YP l.row.toRowW d [] (fun f vs=>PySem.call f vs):=by
 refine Att.attach_call hn hdf fun w s₀ s₁ mg mb fa o pm cd doc a vs ns G Y ho hd hcd hmg hobj hints hlen hg=>?_
 have KT':=hY w _ Y
 have KX:=hsub _ _ KT'
 obtain ⟨fd,hb,hF⟩:=F w mg fa _ KX G.T.g hmg
 exact Zus KX G.T.g G.T.b G.T.builtins G.T.nolimit hg hobj hints hlen ⟨rfl,by decide,by decide⟩ (fun t ht=>⟨KT' _ _ (hts w.params t ht).1,(hts w.params t ht).2⟩) hnd hF hb
end L2
namespace L2
open PySem PySem.Spec PyProof.Rows PySem.W
theorem Zsn {scope:Scope}{env:Env}(h:∀ p∈scope.names,p.2 ≠ .free):closureFor scope env=pure []:=by
 have go:∀ (l:List (Str×NameKind)) (cs:List (Str×Addr)),(∀ p∈l,p.2 ≠ .free) ->
   (forIn l cs (fun (x:Str×NameKind) (r:List (Str×Addr))=>if (x.2 == NameKind.free)=true then (do let a ← cellOf env x.1; pure (ForInStep.yield ((x.1,a)::r)):Sem (ForInStep (List (Str×Addr)))) else pure (ForInStep.yield r)):Sem _)=pure cs:=by
  intro l
  induction l with
  | nil=>intro cs _; rfl
  | cons p l ih =>
   intro cs hp
   rw [List.forIn_cons]
   have e2:(p.2 == NameKind.free)=false:=by simpa using hp p List.mem_cons_self
   simp only [e2,Bool.false_eq_true,if_false,pure_bind]
   exact ih cs fun q hq=>hp q (List.mem_cons_of_mem _ hq)
 unfold closureFor
 have e':=congrArg (fun m:Sem (List (Str×Addr))=>m >>= fun r=>pure r) (go scope.names [] h)
 simp only [pure_bind] at e'
 exact e'
theorem Frag.In.left {K T:Frag}{h:Heap}(x:Frag.In (K++T:List (Addr×Obj)) h):K.In h:=fun a o e=>x a o (by
 show List.lookup a (K++T)=some o
 rw [List.lookup_append]
 have:List.lookup a K=some o:=e
 rw [this]; rfl)
end L2
namespace L2
open PySem PySem.Spec PyProof.Rows PySem.W
section
variable {X:Cx}{a:Expr}{ta:TE}
def Z7f (K:Frag) (ta:TE):TT:=fun σ H Q=>ta σ H fun x H'=>∃ k,Zi3 K x H' k/\Q k H'
theorem Zwh (ha:QE X a ta) (he:∀ whole,isTrue a X.env whole=(do let v ← whole; standAt a.pos; holding [v] (truthy v))):QT X a (Z7f X.K ta):=⟨Zva ha.h he⟩
end
end L2
end
section
set_option Elab.async false
set_option linter.all false
set_option maxRecDepth 100000
set_option maxHeartbeats 4000000
namespace L2
open PySem PySem.Spec PyProof.Rows PySem.W
structure Ch where
 a:Addr
 c:Int
 l:Int
 pa:Addr
 ps:List Int
section
variable {X:Cx}
section
variable {scope:Scope}{cl:List (Str×Addr)}{C:Addr}{N':List Str}{s0:Shared}{H0:Hp}{ex:List Addr}{pn:List (Addr×Obj)}
end
end
end L2
end
section
set_option Elab.async false
set_option linter.all false
set_option maxRecDepth 100000
set_option maxHeartbeats 4000000
namespace PySem.F
theorem sub_rgi_reversed:isSubtype (.type "range_iterator") (.type "reversed")=pure false:=by rw [isSubtype_type]; kernel_rfl
end PySem.F
namespace L2
open PySem PySem.Spec PyProof.Rows PySem.W
theorem Zrz:bootBuiltins "reversed" = some (.type "reversed"):=by decide +kernel
section
variable {prog:Program}{w:World}{A:Around}{E:Value->Shared->Prop}{s:Shared}
def rgi (a n c:Int):Obj:={cls:=.type "range_iterator", data:=.fields #[rawInt a,rawInt n,rawInt c] }
theorem Zrp {r:Addr}{a b:Int}{t u v:Tok}{Q:Value->Shared->Prop}(hr:IsRange s.heap r a b 1 t u v) (h1 : -(2 ^ 62)<=a) (h2:a < 2 ^ 62) (h3 : -(2 ^ 62)<=b) (h4:b < 2 ^ 62)
  (h:Q (.ref s.heap.objs.size) {s with heap:=s.heap.push (rgi (a+(Builtin.Range.rangeSize a b 1 - 1) * 1) (Builtin.Range.rangeSize a b 1) (-1)) }):wpAny (model prog w) A (call (.builtin "range.__reversed__") [.ref r]) Q E s:=by
 have hT:s.TypeIs (.ref r) "range" := ⟨_,hr,rfl⟩
 refine wpAny_call_entry PySem.F.slot_range_reversed hT PySem.F.entry_range_reversed ?_ (PySem.F.args_range_reversed_1 _)
 unfold Builtin.«range.__reversed__»
 refine wpAny_bind (wpAny_of_eq (a:=Value.ref r) rfl ?_)
 unfold Builtin.Range.rangeFields
 refine wpAny_bind (wpAny_bind (wpAny_field hr rfl (x:=.int a t) rfl (wpAny_bind (wpAny_of_eq (a:=some a) rfl (wpAny_bind (wpAny_field hr rfl (x:=.int b u) rfl (wpAny_bind (wpAny_of_eq (a:=some b) rfl (wpAny_bind (wpAny_field hr rfl (x:=.int 1 v) rfl (wpAny_bind (wpAny_of_eq (a:=some 1) rfl (wpAny_pure ?_)))))))))))))
 dsimp only
 have e:(Builtin.Range.rangeFitsLong a && Builtin.Range.rangeFitsLong b && Builtin.Range.rangeFitsLong 1 && Builtin.Range.rangeFitsLong (-1) && Builtin.Range.rangeFitsLong (a - 1) && Builtin.Range.rangeFitsLong (Builtin.Range.rangeSize a b 1))=true:=by
  rw [rangeSize_one]
  simp only [Builtin.Range.rangeFitsLong,Bool.and_eq_true,decide_eq_true_eq]
  split <;> lia
 rw [e]
 simp only [Bool.not_true,Bool.false_eq_true,if_false,if_true]
 exact wpAny_bind (wpAny_newObj_type (wpAny_pure ⟨_,rfl,h⟩))
theorem Zsb {r:Addr}{a b:Int}{t u v:Tok}{Q₁:Value->Shared->Prop}(hr:IsRange s.heap r a b 1 t u v) (h1 : -(2 ^ 62)<=a) (h2:a < 2 ^ 62) (h3 : -(2 ^ 62)<=b) (h4:b < 2 ^ 62)
  (h:Q₁ (.ref s.heap.objs.size) {s with heap:=s.heap.push (rgi (a+(Builtin.Range.rangeSize a b 1 - 1) * 1) (Builtin.Range.rangeSize a b 1) (-1)) }) :
  codeAny (model prog w) A (.call (.builtin "reversed.__new__") ⟨[.type "reversed", .ref r],[]⟩) (wants Q₁ E) s:=by
 have hT:s.TypeIs (.ref r) "range" := ⟨_,hr,rfl⟩
 refine codeAny_of_tree ?_
 show wpAny _ A.in1 (do checkBuiltinCall "reversed.__new__" ⟨[.type "reversed", .ref r],[]⟩; again (.builtin "reversed.__new__" ⟨[.type "reversed", .ref r],[]⟩)) _ _ s
 refine wpAny_bind (wpAny_of_eq (PySem.F.newCall_reversed_1 _) (wpAny_pure ⟨plainId_quiet PySem.F.plain_reversed_new _,codeAny_builtin PySem.F.entry_reversed_new ?_⟩))
 rw [Around.under_plainId PySem.F.plain_reversed_new _]
 unfold Builtin.«reversed.__new__»
 refine wpAny_bind (wpAny_of_eq (newClass_reversed _) ?_)
 try dsimp only
 refine wpAny_bind (wpAny_of_eq (a:=()) (by first | rfl | kernel_rfl) ?_)
 refine wpAny_bind (wpAny_of_eq (a:=()) (by first | rfl | kernel_rfl) ?_)
 try dsimp only
 refine wpAny_bind (wpAny_specialOf hT PySem.F.slot_range_reversed.lookup ?_)
 try dsimp only
 refine wpAny_bind (wpAny_of_eq (PySem.F.slot_range_reversed.bind _) ?_)
 try dsimp only
 have hb:¬ ((Value.builtin "range.__reversed__" == Value.none)=true):=Bool.false_ne_true
 first
 | rw [if_neg hb]
 | (show wpAny _ _ (if (Value.builtin "range.__reversed__" == Value.none)=true then _ else _) _ _ _; rw [if_neg hb])
 refine wpAny_bind (wpAny_rule ?_)
 refine wpAny_bind (m:=runValue (.call (.builtin "range.__reversed__") ⟨[.ref r],[]⟩)) (show wpAny _ _ (call (.builtin "range.__reversed__") [.ref r]) _ _ _ from Zrp hr h1 h2 h3 h4 ?_)
 first
 | exact wpAny_pure h
 | exact wpAny_bind (wpAny_pure (wpAny_pure h))
theorem Zrq {r:Addr}{a b:Int}{t u v:Tok}{Q:Value->Shared->Prop}(hr:IsRange s.heap r a b 1 t u v) (h1 : -(2 ^ 62)<=a) (h2:a < 2 ^ 62) (h3 : -(2 ^ 62)<=b) (h4:b < 2 ^ 62)
  (h:Q (.ref s.heap.objs.size) {s with heap:=s.heap.push (rgi (a+(Builtin.Range.rangeSize a b 1 - 1) * 1) (Builtin.Range.rangeSize a b 1) (-1)) }):wpAny (model prog w) A (call (.type "reversed") [.ref r]) Q E s:=by
 refine callType_other (U := "range_iterator") (Q₁:=fun obj s₁=>obj = .ref s.heap.objs.size/\s₁={s with heap:=s.heap.push (rgi (a+(Builtin.Range.rangeSize a b 1 - 1) * 1) (Builtin.Range.rangeSize a b 1) (-1)) }) (by decide +kernel) PySem.F.create_reversed ⟨_,_,PySem.F.mro_reversed⟩ PySem.F.made_reversed PySem.F.sub_rgi_reversed (PySem.F.typeCall_reversed_1 _) (Zsb hr h1 h2 h3 h4 ⟨rfl,rfl⟩) ?_
 rintro obj s₁ ⟨rfl,rfl⟩
 exact ⟨⟨_,Heap.get?_push_size _ rfl,rfl⟩,h⟩
end
section
variable {X:Cx}{tg:Expr}
end
section
variable {prog:Program}{w:World}{A:Around}{E:Value->Shared->Prop}{s:Shared}
end
section
variable {X:Cx}
end
end L2
end
section
set_option Elab.async false
set_option linter.all false
set_option maxRecDepth 100000
set_option maxHeartbeats 4000000
namespace L2
open PySem PySem.Spec PyProof.Rows PySem.W
section
variable {X:Cx}{tg:Expr}
def Zn5 (ta:TA):TI:=fun σ H R=>ta σ H fun vs H1=>∃ n:Nat,vs = [.int n]/\n < 1000000/\R (Itd ((n:Int) - 1) n) H1
theorem Ztg {a:Expr}{ta:TA}{p q pos pos':Pos}(hgr:Gl X "reversed") (hmr:X.mg "reversed" = none) (hg:Gl X "range") (hm:X.mg "range" = none) (ha:PA X [a] ta) (hs:starEach [a] X.env = [(false,eval a X.env)]:=by rfl)
  (hs2:starEach [.Call (.Name "range" p) [a] [] pos] X.env = [(false,eval (.Call (.Name "range" p) [a] [] pos) X.env)]:=by rfl) :
  PI X tg (.Call (.Name "reversed" q) [.Call (.Name "range" p) [a] [] pos] [] pos') (Zn5 ta):=by
 intro pins s σ H R I h
 refine Call_ (Vf I hgr hmr Zrz (PyProof.Rows.callWith_type1 ?_ hs2 rfl))
 rw [hs2]
 refine Calls.spliced_cons ?_
 refine Call_ (Vf I hg hm boot_range (PyProof.Rows.callWith_type1 (thn (ha pos pins s σ H _ I h) fun us s1 ⟨vs,H1,I1,r1,q1⟩=>?_) hs rfl))
 obtain ⟨n,e,q1,q⟩:=q1
 subst e
 cases r1 with
 | cons r rr =>
  cases rr
  obtain ⟨t,rfl⟩:=r
  refine call_range_1 (Calls.spliced_nil ?_)
  have n1:(n:Int) < 1000000:=by lia
  refine Zrq (IsRange.new ..) (by lia) (by lia) (by lia) (by lia) ?_
  refine wpAny_pyIter_rangeiter (Heap.get?_push_size _ rfl) ?_
  have en:Builtin.Range.rangeSize 0 (n:Int) 1=(n:Int):=by rw [rangeSize_one]; split <;> lia
  refine ⟨_,[_],_,_,H1,rfl,?_,Zue _ ((n:Int) - 1) n,?_,fun b hb=>?_,q⟩
  ·exact (I1.kept fun b o e=>Heap.get?_push_of_some _ e).kept fun b o e=>Heap.get?_push_of_some _ e
  ·show IsRangeIter _ _ ((n:Int) - 1+((0:Nat):Int) * (-1)) ((n:Int) - ((0:Nat):Int)) (-1)
   have e1:(n:Int) - 1+((0:Nat):Int) * (-1)=0+(Builtin.Range.rangeSize 0 (n:Int) 1 - 1) * 1:=by rw [en]; lia
   have e2:(n:Int) - ((0:Nat):Int)=Builtin.Range.rangeSize 0 (n:Int) 1:=by rw [en]; simp
   rw [e1,e2]
   exact Heap.get?_push_size _ rfl
  ·have e:=List.mem_singleton.mp hb
   subst e
   have I2:Inv X pins σ H1 {s1 with heap:=s1.heap.push {cls:=.type "range", data:=.fields #[.int 0 s1.toks,.int n t,.int 1 (s1.toks+1)] },toks:=s1.toks+1+1 }:=I1.kept fun b o e=>Heap.get?_push_of_some _ e
   exact I2.fpOk (Nat.le_refl _) (I2.hok.fresh (Nat.le_refl _))
theorem Zth {a:Expr}{ta:TA}{p q pos pos':Pos}(hgr:Gl X "reversed") (hmr:X.mg "reversed" = none) (hg:Gl X "range") (hm:X.mg "range" = none) (ha:QA X [a] ta) (hs:starEach [a] X.env = [(false,eval a X.env)]:=by rfl)
  (hs2:starEach [.Call (.Name "range" p) [a] [] pos] X.env = [(false,eval (.Call (.Name "range" p) [a] [] pos) X.env)]:=by rfl) :
  QI X tg (.Call (.Name "reversed" q) [.Call (.Name "range" p) [a] [] pos] [] pos') (Zn5 ta):=⟨Ztg hgr hmr hg hm ha.h hs hs2⟩
end
end L2
end
section
set_option Elab.async false
set_option linter.all false
set_option maxRecDepth 100000
set_option maxHeartbeats 4000000
namespace L2
open PySem PySem.Spec PyProof.Rows PySem.W
theorem Zut:bootBuiltins "reversed" = some (.type "reversed"):=by decide +kernel
theorem Zyn:typeLookup (.type "list_reverseiterator") "__len__" = pure none:=by rw [typeLookup_type,builtinLookup_eq_fast]; kernel_rfl
theorem Zwi:typeLookup (.type "list_reverseiterator") "__length_hint__" = pure (some (.builtin "list_reverseiterator.__length_hint__")):=by rw [typeLookup_type,builtinLookup_eq_fast]; kernel_rfl
section
variable {prog:Program}{w:World}{A:Around}{E:Value->Shared->Prop}{s:Shared}
theorem Zwj {r:Addr}{Q:Bool->Shared->Prop}(hT:s.TypeIs (.ref r) "list_reverseiterator") (h:Q false s):wpAny (model prog w) A (Builtin.List.listLengthHint (.ref r)) Q E s:=by
 unfold Builtin.List.listLengthHint
 refine wpAny_bind (wpAny_specialOf hT Zyn ?_)
 try dsimp only
 refine wpAny_ite_split (fun hab=>absurd hab (by decide)) (fun _=>?_)
 refine wpAny_ite_split (fun hab=>absurd hab (by decide)) (fun _=>?_)
 refine wpAny_bind (wpAny_specialOf hT Zwi ?_)
 generalize hid:("list_reverseiterator.__length_hint__" : String)=id0
 wp_delta
 rw [show splitId id0=some ("list_reverseiterator", "__length_hint__") from by subst hid; decide +kernel]
 subst hid
 refine wpAny_bind (wpAny_isInstance (T := "list_reverseiterator") (b:=true) hT (by rw [isSubtype_type]; kernel_rfl) ?_)
 refine wpAny_ite_split (fun hab=>absurd hab (by decide)) (fun _=>?_)
 refine wpAny_ite_split (fun _=>?_) (fun hab=>absurd (by decide +kernel) hab)
 refine wpAny_ite_split (fun hab=>absurd hab (by decide +kernel)) (fun _=>?_)
 exact wpAny_pure h
theorem Zr0 {r l:Addr}{items:Array Value}{Q:Value->Shared->Prop}(hh:A.handled=none) (hne:l≠r) (hr:s.heap.IsRevIter r l ((items.size:Int) - 1)) (hl:s.heap.IsList l items) (hn:items.size<=sizeLine)
  (hQ:∀ h' tk acc c,(∀ b o,b≠r->s.heap.get? b=some o->h'.get? b=some o)->h'.get? s.heap.objs.size=some {cls:=.type "list", dict:=none,data:=.seq acc c,slots:=#[] } ->
   ItemsOf (fun i v=>items[items.size - 1 - i]? = some v) acc items.size->Q (.ref s.heap.objs.size) {s with heap:=h',toks:=tk }) :
  wpAny (model prog w) A (call (.type "list") [.ref r]) Q E s:=by
 refine callType_codes (Q₁:=fun obj s₁=>obj = .ref s.heap.objs.size/\s₁={s with heap:=s.heap.push {cls:=.type "list", data:=.seq #[] } }) PySem.F.called_list (PySem.F.typeCall_list_1 _) PySem.F.entry_list_init
  (code_list_new _ ⟨rfl,rfl⟩) fun obj s₁ h₁=>?_
 obtain ⟨rfl,rfl⟩:=h₁
 have hS0:(s.heap.push {cls:=.type "list", data:=.seq #[] }).get? s.heap.objs.size=some {cls:=.type "list", data:=.seq #[] }:=Heap.get?_push_size _ rfl
 have hlr:r < s.heap.objs.size:=by obtain ⟨o,ho,_⟩:=hr; exact Heap.lt_size ho
 have hll:l < s.heap.objs.size:=by obtain ⟨o,ho,_⟩:=hl; exact Heap.lt_size ho
 have kp0:∀ b o,s.heap.get? b=some o->(s.heap.push {cls:=.type "list", data:=.seq #[] }).get? b=some o:=fun b o e=>Heap.get?_push_of_some _ e
 have lt0:∀ b o,s.heap.get? b=some o->b≠s.heap.objs.size:=fun b o e=>Nat.ne_of_lt (Heap.lt_size e)
 refine ⟨⟨_,hS0,rfl⟩,PySem.F.args_list_init_2 _ _,?_⟩
 have fin:=hQ
 generalize hSz:s.heap.objs.size=S at hS0 fin lt0 hlr hll ⊢
 have hSr:S≠r:=Nat.ne_of_gt hlr
 have hSl:S≠l:=Nat.ne_of_gt hll
 show wpAny _ _ (do let old ← Builtin.List.listItems (.ref S); Builtin.List.listUpdate (.ref S) (fun _=>#[]); letGo old.toList.reverse; Builtin.List.listExtendWith (.ref S) (.ref r) .none) _ _ _
 have hr1:=hr.at (h':=s.heap.push {cls:=.type "list", data:=.seq #[] }) fun o e=>kp0 _ _ e
 have hl1:=hl.at (h':=s.heap.push {cls:=.type "list", data:=.seq #[] }) fun o e=>kp0 _ _ e
 generalize (s.heap.push {cls:=.type "list", data:=.seq #[] })=h1 at hS0 kp0 hr1 hl1 ⊢
 refine wpAny_bind ?_
 unfold Builtin.List.listItems
 refine wpAny_bind (wpAny_seqItems hS0 rfl (wpAny_pure ?_))
 show wpAny _ _ (updateSeq S (fun _=>#[]) >>= fun _=>letGo (#[]:Array Value).toList.reverse >>= fun _=>Builtin.List.listExtendWith (.ref S) (.ref r) .none) _ _ _
 refine wpAny_bind (wpAny_updateSeq hS0 rfl ?_)
 have hS₂:=Heap.get?_update_self (Obj.mapSeq (fun _=>(#[]:Array Value))) hS0 rfl
 have oth:∀ b o,b≠S->h1.get? b=some o->(h1.update S (Obj.mapSeq (fun _=>(#[]:Array Value)))).get? b=some o :=
  fun b o hb e=>(Heap.get?_update_other _ _ (Ne.symm hb)).trans e
 have hr2:=hr1.at fun o e=>oth _ o hSr.symm e
 have hl2:=hl1.at fun o e=>oth _ o hSl.symm e
 generalize (h1.update S (Obj.mapSeq (fun _=>(#[]:Array Value))))=h2 at hS₂ oth hr2 hl2 ⊢
 refine wpAny_bind (wpAny_letGo ?_)
 have W:=Walks.listRev (prog:=prog) (w:=w) (A:=A.in1.in1) hh r l hne items
 have hSf:S ∉ [r,l]:=by simp only [List.mem_cons,List.not_mem_nil,or_false,not_or]; exact ⟨hSr,hSl⟩
 have key:∀ (h:Heap) (c₁ tk:Nat),h.IsRevIter r l ((items.size:Int) - 1)->h.IsList l items->(∀ b o,b≠S->h2.get? b=some o->h.get? b=some o) ->
   h.get? S=some {cls:=.type "list", data:=.seq #[] c₁ }->codeAny (model prog w) A.in1 (.builtin "list.extend.loop" ⟨[.ref S,.ref r,.none],[]⟩) (wants (fun r s₂=>r = .none/\Q (.ref S) s₂) E) {s with heap:=h,toks:=tk }:=by
  intro h c₁ tk hst hl3 hk hS₁
  refine codeAny_extend_loopS W.toS hn S hSf .none items.size 0 _ #[] c₁ rfl (Nat.zero_le _) ⟨Nat.zero_le _,by rw [show (items.size:Int) - 1 - ((0:Nat):Int)=(items.size:Int) - 1 by lia]; exact hst,hl3⟩ hS₁ (ItemsOf.nil _) fun s' acc' c' hm hS' hacc=>?_
  rw [Moved.eq_with hm]
  refine ⟨rfl,fin s'.heap s'.toks acc' c' (fun b o hb e=>?_) hS' hacc⟩
  have hbS:=lt0 b o e
  refine hm.heap b o (fun hmem=>?_) (hk b o hbS (oth b o hbS (kp0 b o e)))
  rcases List.mem_cons.mp hmem with e' | hmem
  ·exact hbS e'
  ·exact hb (List.mem_singleton.mp hmem)
 unfold Builtin.List.listExtendWith
 refine wpAny_bind (wpAny_typeOf (T := "list_reverseiterator") hr2.typeIs ?_)
 have hx:Builtin.List.listSameRef (.ref S) (.ref r)=false:=by simp [Builtin.List.listSameRef,hSr]
 simp only [hx,show (Value.type "list_reverseiterator" == Value.type "list")=false by decide,show (Value.type "list_reverseiterator" == Value.type "tuple")=false by decide,Bool.or_false,Bool.false_eq_true,if_false]
 refine wpAny_bind (wpAny_pyIter_revIter hr2 ?_)
 refine wpAny_bind (wpAny_holding (Zwj hr2.typeIs ?_))
 refine wpAny_ite_split (fun _=>?_) (fun _=>wpAny_pure ⟨plainId_quiet PySem.F.plain_extend_loop _,key _ _ _ hr2 hl2 (fun b o _ e=>e) hS₂⟩)
 refine wpAny_bind (wpAny_rule ?_)
 refine wpAny_bind ?_
 show wpAny _ _ (updateSeq S (·.push .none) >>= fun _=>updateSeq S (·.pop)) _ _ _
 refine wpAny_bind (wpAny_updateSeq hS₂ rfl ?_)
 have hS₃:=Heap.get?_update_self (Obj.mapSeq (·.push Value.none)) hS₂ rfl
 refine wpAny_updateSeq (hz:=by seq_fits) hS₃ rfl ?_
 have hS₄:=Heap.get?_update_self (Obj.mapSeq (·.pop)) hS₃ rfl
 have o2:∀ b o,b≠S->h2.get? b=some o->((h2.update S (Obj.mapSeq (·.push Value.none))).update S (Obj.mapSeq (·.pop))).get? b=some o:=fun b o hb e =>
  (Heap.get?_update_other _ _ (Ne.symm hb)).trans ((Heap.get?_update_other _ _ (Ne.symm hb)).trans e)
 exact wpAny_pure ⟨plainId_quiet PySem.F.plain_extend_loop _,key _ _ _ (hr2.at fun o e=>o2 _ o hSr.symm e) (hl2.at fun o e=>o2 _ o hSl.symm e) o2 hS₄⟩
end
section
variable {X:Cx}
theorem Zwk {xs:List V}{us acc:List Value}(r:Vals xs us) (hl:acc.length=us.length) (h:∀ j v,acc[j]? = some v->us[us.length - 1 - j]? = some v):Vals xs.reverse acc:=by
 have e:acc=us.reverse:=by
  apply List.ext_getElem?
  intro j
  by_cases hj:j < us.length
  ·rw [List.getElem?_reverse hj,List.getElem?_eq_getElem (by lia:j < acc.length)]
   exact (h j _ (List.getElem?_eq_getElem (by lia))).symm
  ·rw [List.getElem?_eq_none (by lia),List.getElem?_eq_none (by rw [List.length_reverse]; lia)]
 rw [e]
 clear hl h e
 induction r with
 | nil=>exact .nil
 | cons a t ih =>
  rw [List.reverse_cons,List.reverse_cons]
  exact Vals.append ih (.cons a .nil)
def Zo4 (K:PySem.W.Frag) (tl:TE):TE:=fun σ H Q=>tl σ H fun x H1=>∃ a xs,x = .ref a/\SqL K H1 a xs/\∀ l,H1 l=none->Q (.ref l) (upd H1 l (.lst xs.reverse))
theorem Zyo {l:Expr}{tl:TE}{p q pos pos':Pos}(hc:X.calm=true) (hgl:Nm X.env.scope "list" .globalImplicit) (hml:X.mg "list" = none) (hg:Gl X "reversed") (hm:X.mg "reversed" = none) (ha:PE X l tl)
  (hs:starEach [l] X.env = [(false,eval l X.env)]:=by rfl) (hs2:starEach [.Call (.Name "reversed" p) [l] [] pos] X.env = [(false,eval (.Call (.Name "reversed" p) [l] [] pos) X.env)]:=by rfl) :
  PE X (.Call (.Name "list" q) [.Call (.Name "reversed" p) [l] [] pos] [] pos') (Zo4 X.K tl):=by
 intro pins s σ H Q I h
 refine wpAny_Call_Name_kw (Vf I hgl.1 hml boot_list ?_ hgl.2.2.2 hgl.2.1)
 refine PyProof.Rows.callWith_type1 ?_ hs2 rfl
 rw [hs2]
 refine Calls.spliced_cons ?_
 refine Call_ (Vf I hg hm Zut (PyProof.Rows.callWith_type1 ?_ hs rfl))
 rw [hs]
 refine Calls.spliced_cons ?_
 refine thn (ha pins s σ H _ I h) fun v s1 ⟨x,H1,I1,r1,a,xs,e,hq,q⟩=>?_
 subst e
 cases r1
 obtain ⟨its,rv,pl,hz⟩:=I1.list hq
 refine Calls.spliced_nil ?_
 refine call_reversed_list pl.isList ?_
 refine Calls.spliced_nil ?_
 have I2:Inv X pins σ H1 {s1 with heap:=s1.heap.push (revObj a ((its.toArray.size:Int) - 1)) }:=I1.kept (t':=s1.toks) fun b o e=>Heap.get?_push_of_some _ e
 have hr:(s1.heap.push (revObj a ((its.toArray.size:Int) - 1))).IsRevIter s1.heap.objs.size a ((its.toArray.size:Int) - 1):=⟨_,Heap.get?_push_size _ rfl,rfl,rfl⟩
 have hl:=pl.isList.at (h':=s1.heap.push (revObj a ((its.toArray.size:Int) - 1))) fun o e=>Heap.get?_push_of_some _ e
 have hne:a≠s1.heap.objs.size:=by obtain ⟨o,ho,_⟩:=pl.isList; exact Nat.ne_of_lt (Heap.lt_size ho)
 have hlen:=rv.length
 refine Zr0 (s:={s1 with heap:=s1.heap.push (revObj a ((its.toArray.size:Int) - 1)) }) (I2.ok.hd hc) hne hr hl (by rw [List.size_toArray,← hlen]; exact hz) fun h' tk acc c' hk hS hacc=>?_
 have hle:s1.heap.objs.size<=(s1.heap.push (revObj a ((its.toArray.size:Int) - 1))).objs.size:=by show _<=(Array.push _ _).size; rw [Array.size_push]; exact Nat.le_succ _
 refine ⟨.ref _,_,I1.laid (t':=tk) (o:=.lst xs.reverse) (fun b u e=>hk b u (Nat.ne_of_lt (Heap.lt_size e)) (Heap.get?_push_of_some _ e)) hle ⟨by rw [List.length_reverse]; exact hz,acc.toList,c',?_,by rw [Array.toArray_toList]; exact hS⟩,rfl,q _ (I1.hok.fresh hle)⟩
 exact Zwk rv (by rw [Array.length_toList,hacc.1,List.size_toArray]) fun j v e=>by
  have:=hacc.2 j v (by rw [← Array.getElem?_toList]; exact e)
  rw [List.size_toArray] at this
  simpa using this
theorem Zm8 {l:Expr}{tl:TE}{p q pos pos':Pos}(hc:X.calm=true) (hgl:Nm X.env.scope "list" .globalImplicit) (hml:X.mg "list" = none) (hg:Gl X "reversed") (hm:X.mg "reversed" = none) (ha:QE X l tl)
  (hs:starEach [l] X.env = [(false,eval l X.env)]:=by rfl) (hs2:starEach [.Call (.Name "reversed" p) [l] [] pos] X.env = [(false,eval (.Call (.Name "reversed" p) [l] [] pos) X.env)]:=by rfl) :
  QE X (.Call (.Name "list" q) [.Call (.Name "reversed" p) [l] [] pos] [] pos') (Zo4 X.K tl):=⟨Zyo hc hgl hml hg hm ha.h hs hs2⟩
end
end L2
end
section
set_option Elab.async false
set_option linter.all false
set_option maxRecDepth 100000
set_option maxHeartbeats 4000000
namespace L2
open PySem PySem.Spec PyProof.Rows
section
variable {X:Cx}{scope:Scope}{cl:List (Str×Addr)}{C:Addr}{N':List Str}{s0:Shared}{H0:Hp}{ex:List Addr}{pn:List (Addr×Obj)}{f:Str}{pos:Pos}{e:Expr}{ta:TE}
theorem Zyp (he:QE (ccx X scope cl C N' s0 H0 ex pn) e ta) (hb:attributeBase e f (ccx X scope cl C N' s0 H0 ex pn).env (eval e (ccx X scope cl C N' s0 H0 ex pn).env)=eval e (ccx X scope cl C N' s0 H0 ex pn).env:=by rfl):QE (ccx X scope cl C N' s0 H0 ex pn) (.Attribute e f pos) (Zi4 X.K ta f):=⟨Znu (X:=ccx X scope cl C N' s0 H0 ex pn) he.h hb⟩
end
end L2
end
set_option Elab.async false
set_option linter.all false
set_option maxRecDepth 100000
set_option maxHeartbeats 4000000
namespace Law
open PySem L2
local macro_rules | `(tactic| walk_at "hp")=>`(tactic| first | exact Zi | assumption | (rw [Zc (by first | assumption | (apply Ne.symm; assumption))]; walk_at "hp"))
local macro_rules | `(tactic| walk_at "sq")=>`(tactic| first | assumption | exact SqL.of (by walk_at "hp"))
local macro_rules | `(tactic| walk_at "dc")=>`(tactic| first | decide | assumption | lia)
local macro_rules | `(tactic| walk_at "rd1")=>`(tactic| first | refine Yc ?_ | refine Zm ?_ | refine Z6 (fun _=>?_) (fun _=>?_) | refine Y4 (fun _=>?_) (fun _=>?_) | refine Zrf (fun _=>?_) (fun _=>?_) | refine ⟨_,rfl,?_⟩ | refine ⟨_,_,rfl,rfl,?_⟩ | refine ⟨(.inr ⟨by decide,by decide⟩:CMul _ _),?_⟩ | refine ⟨(⟨by walk_at "dc", by walk_at "dc"⟩:Zi1 _ _),?_⟩ | refine ⟨(⟨by decide,by decide,by decide⟩:Zi2 _ _),?_⟩ | refine ⟨(show (0:Int) < _ by walk_at "dc"),?_⟩ | refine ⟨_,_,_,_,rfl,rfl,(by walk_at "sq"),(by rfl),?_⟩ | refine ⟨_,_,_,_,rfl,rfl,(by walk_at "sq"),Zx3 (by lia) (by lia),?_⟩ | refine ⟨_,_,_,_,rfl,rfl,(by walk_at "hp"),(by rfl),?_⟩ | refine ⟨_,_,rfl,.inl (by walk_at "sq"),?_⟩ | fail "rd")
local macro_rules | `(tactic| walk_at "rd")=>`(tactic| repeat' walk_at "rd1")
def top (i:Nat):Stmt:=PySem.Challenge.pw_forsworn_k60_long_lines_of_heirs.main.body.getD i (.Pass ⟨0,0,0,0⟩)
structure Txt (mg:Str->Option Value):Prop where
 len:mg "len" = none
 list:mg "list" = none
 range:mg "range" = none
 isinstance:mg "isinstance" = none
 bool:mg "bool" = none
 int:mg "int" = none
 str:mg "str" = none
 tuple:mg "tuple" = none
 zip:mg "zip" = none
 all:mg "all" = none
 sorted:mg "sorted" = none
 max:mg "max" = none
 reversed:mg "reversed" = none
 enumerate:mg "enumerate" = none
section
variable {P:Program}{w:World}{K:PySem.W.Frag}{mg:Str->Option Value}{base:Heap}
def isInt:D->Bool
 | .int _=>true
 | _=>false
def Zgj:Sp:=fun vs H Q _=>∃ (v:V) (d:D),vs = [v]/\Rep H d v/\Q (.bl (isInt d)) H
abbrev Zai:Stmt:=top 56
theorem Z09:FnScope ["_law_found"] ["_law_found"] (Za Zai):=⟨rfl,rfl,rfl,by decide +kernel,rfl,by decide +kernel,by decide +kernel⟩
theorem Zrj:Nm (Za Zai) "_law_found" .local:=by decide +kernel
theorem Z1a:Nm (Za Zai) "bool" .globalImplicit:=by decide +kernel
theorem Z1b:Nm (Za Zai) "int" .globalImplicit:=by decide +kernel
theorem Zrk:Nm (Za Zai) "isinstance" .globalImplicit:=by decide +kernel
theorem Z1c (Zhd:Has K mg "_law_whole" Zai) (T:Txt mg):Fn P w K mg base "_law_whole" ["_law_found"] 1 Zgj:=by
 refine Zhd.fnQ Z09 (fun _ _ _ _ _ _ us hl=>match us,hl with | [_],_=>rfl) (fun vs H Q E h=>?_) (fun f cdv A outer s H vs Q E hr h=>?_)
 ·obtain ⟨v,d,rfl,_⟩:=h
  rfl
 ·obtain ⟨v,d,rfl,r,k⟩:=h
  refine ⟨_,(Zg (Zu (Za8 (Z4 Vn Zrk T.isinstance Vk (Zb (qvN 0 Zrj) (Zb (Vl (v:=.ty "int") Z1b T.int Zow rfl) Zd))) (Za7 (Zz0 (Z4 Vn Zrk T.isinstance Vk (Zb (qvN 0 Zrj) (Zb (Vl (v:=.ty "bool") Z1a T.bool Zgz rfl) Zd)))))))),?_⟩
  obtain ⟨t1,ty1,e1⟩:=isi (K:=K) r "int" (by decide)
  obtain ⟨t2,ty2,e2⟩:=isi (K:=K) r "bool" (by decide)
  refine ⟨_,rfl,v, "int", t1,_,rfl,ty1,e1,_,rfl,Zrf (fun h1=>?_) (fun h1=>?_)⟩
  ·refine ⟨_,rfl,v, "bool", t2,_,rfl,ty2,e2,_,rfl,?_⟩
   have e:(!isI d "bool")=isInt d:=by cases d <;> first | rfl | (simp [isI] at h1)
   rw [e]
   exact k
  ·have e:false=isInt d:=by cases d <;> first | rfl | (simp [isI] at h1)
   rw [e]
   exact k
def Zd9 (n:Nat):Sp:=fun vs H Q _=>∃ (v1 v2:V) (d1 d2:D),vs = [v1,v2]/\Rep H d1 v1/\Rep H d2 v2/\d2.deep<=n/\∀ H',Same H H'->Q (.bl (Yd d1 d2)) H'
abbrev Yv:Stmt:=top 57
theorem Zhe:FnScope ["_law_found", "_law_due", "_law_one", "_law_other"] ["_law_found", "_law_due"] (Za Yv):=⟨rfl,rfl,rfl,by decide +kernel,rfl,by decide +kernel,by decide +kernel⟩
theorem Vr:Nm (Za Yv) "_law_due" .local:=by decide +kernel
theorem Vs:Nm (Za Yv) "_law_found" .local:=by decide +kernel
theorem Zrl:Nm (Za Yv) "_law_one" .local:=by decide +kernel
theorem Zo5:Nm (Za Yv) "_law_other" .local:=by decide +kernel
theorem Z1d:Nm (Za Yv) "_law_same" .globalImplicit:=by decide +kernel
theorem Z1e:Nm (Za Yv) "_law_whole" .globalImplicit:=by decide +kernel
theorem Zo6:Nm (Za Yv) "bool" .globalImplicit:=by decide +kernel
theorem Z1f:Nm (Za Yv) "int" .globalImplicit:=by decide +kernel
theorem Uo:Nm (Za Yv) "isinstance" .globalImplicit:=by decide +kernel
theorem Zo7:Nm (Za Yv) "len" .globalImplicit:=by decide +kernel
theorem Zo8:Nm (Za Yv) "list" .globalImplicit:=by decide +kernel
theorem Zo9:Nm (Za Yv) "str" .globalImplicit:=by decide +kernel
theorem Zpa:Nm (Za Yv) "tuple" .globalImplicit:=by decide +kernel
theorem Z1g:Nm (Za Yv) "zip" .globalImplicit:=by decide +kernel
theorem Zlm {n k:Nat}(V4:Has K mg "_law_same" Yv) (T:Txt mg) (Zcg:Fn P w K mg base "_law_whole" ["_law_found"] 1 Zgj)
  (Zbe:Fn P w K mg base "_law_same" ["_law_found", "_law_due"] (k+1) (fun vs H Q E=>0 < n/\Zd9 (n - 1) vs H Q E)):Fn P w K mg base "_law_same" ["_law_found", "_law_due"] (k+2) (Zd9 n):=by
 refine V4.fnQ Zhe (fun _ _ _ _ _ _ us hl=>match us,hl with | [_,_],_=>rfl) (fun vs H Q E h=>?_) (fun f cdv A outer s H vs Q E hr h=>?_)
 ·obtain ⟨v1,v2,d1,d2,rfl,_⟩:=h
  rfl
 ·obtain ⟨v1,v2,d1,d2,rfl,r1,r2,hn,q⟩:=h
  have hk : 1<=k+1:=Nat.le_add_left _ _
  refine ⟨_,(Ze (Zs (Zx Zgb (qvN 1 Vr) Wd (Zw _)) (Zg (Zu (Za2 Zgb (qvN 0 Vs) Wd (Zw _)))) Zt)
 (Ze (Zs (Wp (Z4 Vn Uo T.isinstance Vk (Zb (qvN 1 Vr) (Zb (Vl (v:=.ty "bool") Zo6 T.bool Zgz rfl) Zd)))) (Zg (Zu (Za8 (Z4 Vn Uo T.isinstance Vk (Zb (qvN 0 Vs) (Zb (Vl (v:=.ty "bool") Zo6 T.bool Zgz rfl) Zd))) (Za7 (Za2 Vw (qvN 0 Vs) (qvN 1 Vr) (Zw _)))))) Zt)
 (Ze (Zs (Wp (Z4 Vn Uo T.isinstance Vk (Zb (qvN 1 Vr) (Zb (Vl (v:=.ty "int") Z1f T.int Zow rfl) Zd)))) (Zg (Zu (Za8 (Zq Zcg (hr.mono (by lia)) Z1e (Zb (qvN 0 Vs) Zd)) (Za7 (Za2 Vw (qvN 0 Vs) (qvN 1 Vr) (Zw _)))))) Zt)
 (Ze (Zs (Wp (Z4 Vn Uo T.isinstance Vk (Zb (qvN 1 Vr) (Zb (Vl (v:=.ty "str") Zo9 T.str Zox rfl) Zd)))) (Zg (Zu (Za8 (Z4 Vn Uo T.isinstance Vk (Zb (qvN 0 Vs) (Zb (Vl (v:=.ty "str") Zo9 T.str Zox rfl) Zd))) (Za7 (Za2 Vw (qvN 0 Vs) (qvN 1 Vr) (Zw _)))))) Zt)
 (Ze (Zs (QW.pt (Zce (Zx Za9 (Z4 Vn Uo T.isinstance Vk (Zb (qvN 1 Vr) (Zb (Vl (v:=.ty "list") Zo8 T.list Zgy rfl) Zd))) (Z4 Vn Uo T.isinstance Vk (Zb (qvN 0 Vs) (Zb (Vl (v:=.ty "list") Zo8 T.list Zgy rfl) Zd))) (Zw _)) (Zcb (Zx Za9 (Z4 Vn Uo T.isinstance Vk (Zb (qvN 1 Vr) (Zb (Vl (v:=.ty "tuple") Zpa T.tuple Zmw rfl) Zd))) (Z4 Vn Uo T.isinstance Vk (Zb (qvN 0 Vs) (Zb (Vl (v:=.ty "tuple") Zpa T.tuple Zmw rfl) Zd))) (Zw _))))) (Zg (Zu Uu)) Zt)
 (Ze (Zs (Zx Za9 (Z4 Vm Zo7 T.len Wc (Zb (qvN 0 Vs) Zd)) (Z4 Vm Zo7 T.len Wc (Zb (qvN 1 Vr) Zd)) (Zw _)) (Zg (Zu Uu)) Zt)
 (Ze (Wo PassesOwn.never rfl (Zz2 Z1g.1 T.zip (Zb (qvN 0 Vs) (Zb (qvN 1 Vr) Zd))) (Zg0 (by rfl) (Vb (Y8 (i:=2) Zhe.nd Zrl) (Vb (Y8 (i:=3) Zhe.nd Zo5) Zb4)))
 (Zg (Zs (Vv (Wp (Zq Zbe (hr.mono (by lia)) Z1d (Zb (qvN 2 Zrl) (Zb (qvN 3 Zo5) Zd))))) (Zg (Zu Uu)) Zt)))
 (Zg (Zu Uu))))))))),?_⟩
  have q0:Q (.bl (Yd d1 d2)) H:=q H (Same.refl _)
  obtain ⟨tb2,yb2,eb2⟩:=isi (K:=K) r2 "bool" (by decide)
  obtain ⟨ti2,yi2,ei2⟩:=isi (K:=K) r2 "int" (by decide)
  obtain ⟨ts2,ys2,es2⟩:=isi (K:=K) r2 "str" (by decide)
  obtain ⟨tl2,yl2,el2⟩:=isi (K:=K) r2 "list" (by decide)
  obtain ⟨tt2,yt2,et2⟩:=isi (K:=K) r2 "tuple" (by decide)
  obtain ⟨tb1,yb1,eb1⟩:=isi (K:=K) r1 "bool" (by decide)
  obtain ⟨ts1,ys1,es1⟩:=isi (K:=K) r1 "str" (by decide)
  obtain ⟨tl1,yl1,el1⟩:=isi (K:=K) r1 "list" (by decide)
  obtain ⟨tt1,yt1,et1⟩:=isi (K:=K) r1 "tuple" (by decide)
  refine ⟨_,rfl,rfl,_,rfl,?_⟩
  rw [r2.none_iff]
  cases d2 with
  | non =>
   refine Yc ⟨_,rfl,rfl,?_⟩
   rw [r1.none_iff]
   cases d1 <;> exact q0
  | bl b2 =>
   refine Zm ?_
   refine ⟨_,rfl,v2, "bool", tb2,_,rfl,yb2,eb2,_,rfl,Yc ?_⟩
   refine ⟨_,rfl,v1, "bool", tb1,_,rfl,yb1,eb1,_,rfl,?_⟩
   cases r2
   cases d1 with
   | bl b1 =>
    cases r1
    refine Yc ⟨_,rfl,_,rfl,rfl,?_⟩
    rw [Zgt]
    exact q0
   | non=>exact Zm q0
   | int _=>exact Zm q0
   | str _=>exact Zm q0
   | tup _=>exact Zm q0
   | lst _=>exact Zm q0
  | int i2 =>
   refine Zm ?_
   refine ⟨_,rfl,v2, "bool", tb2,_,rfl,yb2,eb2,_,rfl,Zm ?_⟩
   refine ⟨_,rfl,v2, "int", ti2,_,rfl,yi2,ei2,_,rfl,Yc ?_⟩
   refine ⟨_,rfl,v1,d1,rfl,r1,_,rfl,?_⟩
   cases r2
   cases d1 with
   | int i1 =>
    cases r1
    refine Yc ⟨_,rfl,_,rfl,rfl,?_⟩
    rw [Zf3]
    exact q0
   | non=>exact Zm q0
   | bl _=>exact Zm q0
   | str _=>exact Zm q0
   | tup _=>exact Zm q0
   | lst _=>exact Zm q0
  | str x2 =>
   refine Zm ?_
   refine ⟨_,rfl,v2, "bool", tb2,_,rfl,yb2,eb2,_,rfl,Zm ?_⟩
   refine ⟨_,rfl,v2, "int", ti2,_,rfl,yi2,ei2,_,rfl,Zm ?_⟩
   refine ⟨_,rfl,v2, "str", ts2,_,rfl,ys2,es2,_,rfl,Yc ?_⟩
   refine ⟨_,rfl,v1, "str", ts1,_,rfl,ys1,es1,_,rfl,?_⟩
   cases r2
   cases d1 with
   | str x1 =>
    cases r1
    refine Yc ⟨_,rfl,_,rfl,rfl,?_⟩
    rw [Zf4]
    exact q0
   | non=>exact Zm q0
   | bl _=>exact Zm q0
   | int _=>exact Zm q0
   | tup _=>exact Zm q0
   | lst _=>exact Zm q0
  | lst ds2 =>
   refine Zm ?_
   refine ⟨_,rfl,v2, "bool", tb2,_,rfl,yb2,eb2,_,rfl,Zm ?_⟩
   refine ⟨_,rfl,v2, "int", ti2,_,rfl,yi2,ei2,_,rfl,Zm ?_⟩
   refine ⟨_,rfl,v2, "str", ts2,_,rfl,ys2,es2,_,rfl,Zm ?_⟩
   refine ⟨_,rfl,v2, "list", tl2,_,rfl,yl2,el2,_,rfl,v1, "list", tl1,_,rfl,yl1,el1,rfl,_,rfl,?_⟩
   have ne1:∀ {A B:Prop},B->if (!decide (V.bl true=V.bl true))=true then A else B:=fun h=>Y4 (fun z=>absurd rfl z) fun _=>h
   have ne2:∀ {A B:Prop},B->if (!decide (V.bl false=V.bl false))=true then A else B:=fun h=>Y4 (fun z=>absurd rfl z) fun _=>h
   have nt1:∀ {A B:Prop},A->if (!decide (V.bl true=V.bl false))=true then A else B:=fun h=>Y4 (fun _=>h) fun z=>by cases z
   have nt2:∀ {A B:Prop},A->if (!decide (V.bl false=V.bl true))=true then A else B:=fun h=>Y4 (fun _=>h) fun z=>by cases z
   have two:∀ {R:Prop},R->R:=id
   cases d1 with
   | lst ds1 =>
    refine ne1 ?_
    refine ⟨_,rfl,v2, "tuple", tt2,_,rfl,yt2,et2,_,rfl,v1, "tuple", tt1,_,rfl,yt1,et1,rfl,_,rfl,?_⟩
    refine ne2 ?_
    obtain ⟨a1,vs1,rfl,g1,p1⟩:=r1
    obtain ⟨a2,vs2,rfl,g2,p2⟩:=r2
    refine ⟨_,rfl,a1,vs1,rfl,.inl (SqL.of g1),_,rfl,a2,vs2,rfl,.inl (SqL.of g2),rfl,_,rfl,Y4 (fun hne=>?_) (fun heq=>?_)⟩
    ·have:ds1.length≠ds2.length:=fun z=>hne (by rw [p1.length,p2.length,z])
     have e:Yd (.lst ds1) (.lst ds2)=false:=by rw [Yd]; exact Zkj this
     rw [e] at q0
     exact q0
    ·have hl:vs1.length=vs2.length:=by injection heq with z; lia
     have hl1:=p1.length
     have hl2:=p2.length
     refine ⟨_,rfl,_,rfl,a1,a2,rfl,.inl ⟨vs1,vs2,SqL.of g1,SqL.of g2,?_⟩⟩
     refine Zl4 vs1 vs2 hl (fun i σ H'=>Same H H'/\∃ w3 w4,σ = [some (.ref a1),some (.ref a2),w3,w4]/\Y1 (ds1.take i) (ds2.take i)=true) ⟨Same.refl _,none,none,rfl,rfl⟩ (fun i σ H' _ ⟨sm,_⟩=>⟨SqL.of (sm _ _ g1),SqL.of (sm _ _ g2)⟩) ?_ ?_
     ·rintro i x y p σ H' hx hy ⟨sm,w3,w4,rfl,hs⟩ hp
      obtain ⟨dx,ex,rx⟩:=p1.get hx
      obtain ⟨dy,ey,ry⟩:=p2.get hy
      have sm':=sm.trans (Same.new (o:=.tup [x,y]) hp)
      have dd:=Zfv ey
      have hn':Y2 ds2+1<=n:=hn
      refine ⟨p,_,rfl,SqT.of Zi,rfl,x,[y],rfl,y,[],rfl,rfl,?_⟩
      refine ⟨_,rfl,_,rfl,by lia,x,y,dx,dy,rfl,rx.mono' sm',ry.mono' sm',by lia,fun H2 sm2=>⟨_,rfl,Zoy (fun hf=>?_) (fun ht=>?_)⟩⟩
      ·have e:Yd (.lst ds1) (.lst ds2)=false:=by rw [Yd]; exact Zkl ex ey hf
       have qq:=q H2 (sm'.trans sm2)
       rw [e] at qq
       exact qq
      ·exact ⟨sm'.trans sm2,_,_,rfl,by rw [Zk2 ex ey,hs,ht]; rfl⟩
     ·rintro σ H' ⟨sm,w3,w4,rfl,hs⟩
      have e:Yd (.lst ds1) (.lst ds2)=true:=by
       rw [Yd]
       rw [List.take_of_length_le (by lia),List.take_of_length_le (by lia)] at hs
       exact hs
      have qq:=q H' sm
      rw [e] at qq
      exact qq
   | tup _=>exact nt1 (Yc q0)
   | non=>exact nt1 (Yc q0)
   | bl _=>exact nt1 (Yc q0)
   | int _=>exact nt1 (Yc q0)
   | str _=>exact nt1 (Yc q0)
  | tup ds2 =>
   refine Zm ?_
   refine ⟨_,rfl,v2, "bool", tb2,_,rfl,yb2,eb2,_,rfl,Zm ?_⟩
   refine ⟨_,rfl,v2, "int", ti2,_,rfl,yi2,ei2,_,rfl,Zm ?_⟩
   refine ⟨_,rfl,v2, "str", ts2,_,rfl,ys2,es2,_,rfl,Zm ?_⟩
   refine ⟨_,rfl,v2, "list", tl2,_,rfl,yl2,el2,_,rfl,v1, "list", tl1,_,rfl,yl1,el1,rfl,_,rfl,?_⟩
   have ne1:∀ {A B:Prop},B->if (!decide (V.bl true=V.bl true))=true then A else B:=fun h=>Y4 (fun z=>absurd rfl z) fun _=>h
   have ne2:∀ {A B:Prop},B->if (!decide (V.bl false=V.bl false))=true then A else B:=fun h=>Y4 (fun z=>absurd rfl z) fun _=>h
   have nt1:∀ {A B:Prop},A->if (!decide (V.bl true=V.bl false))=true then A else B:=fun h=>Y4 (fun _=>h) fun z=>by cases z
   have nt2:∀ {A B:Prop},A->if (!decide (V.bl false=V.bl true))=true then A else B:=fun h=>Y4 (fun _=>h) fun z=>by cases z
   have two:∀ {R:Prop},R->R:=id
   cases d1 with
   | tup ds1 =>
    refine ne2 ?_
    refine ⟨_,rfl,v2, "tuple", tt2,_,rfl,yt2,et2,_,rfl,v1, "tuple", tt1,_,rfl,yt1,et1,rfl,_,rfl,?_⟩
    refine ne1 ?_
    obtain ⟨a1,vs1,rfl,g1,p1⟩:=r1
    obtain ⟨a2,vs2,rfl,g2,p2⟩:=r2
    refine ⟨_,rfl,a1,vs1,rfl,.inr (SqT.of g1),_,rfl,a2,vs2,rfl,.inr (SqT.of g2),rfl,_,rfl,Y4 (fun hne=>?_) (fun heq=>?_)⟩
    ·have:ds1.length≠ds2.length:=fun z=>hne (by rw [p1.length,p2.length,z])
     have e:Yd (.tup ds1) (.tup ds2)=false:=by rw [Yd]; exact Zkj this
     rw [e] at q0
     exact q0
    ·have hl:vs1.length=vs2.length:=by injection heq with z; lia
     have hl1:=p1.length
     have hl2:=p2.length
     refine ⟨_,rfl,_,rfl,a1,a2,rfl,.inr ⟨vs1,vs2,SqT.of g1,SqT.of g2,?_⟩⟩
     refine Zl4 vs1 vs2 hl (fun i σ H'=>Same H H'/\∃ w3 w4,σ = [some (.ref a1),some (.ref a2),w3,w4]/\Y1 (ds1.take i) (ds2.take i)=true) ⟨Same.refl _,none,none,rfl,rfl⟩ (fun i σ H' _ ⟨sm,_⟩=>⟨SqT.of (sm _ _ g1),SqT.of (sm _ _ g2)⟩) ?_ ?_
     ·rintro i x y p σ H' hx hy ⟨sm,w3,w4,rfl,hs⟩ hp
      obtain ⟨dx,ex,rx⟩:=p1.get hx
      obtain ⟨dy,ey,ry⟩:=p2.get hy
      have sm':=sm.trans (Same.new (o:=.tup [x,y]) hp)
      have dd:=Zfv ey
      have hn':Y2 ds2+1<=n:=hn
      refine ⟨p,_,rfl,SqT.of Zi,rfl,x,[y],rfl,y,[],rfl,rfl,?_⟩
      refine ⟨_,rfl,_,rfl,by lia,x,y,dx,dy,rfl,rx.mono' sm',ry.mono' sm',by lia,fun H2 sm2=>⟨_,rfl,Zoy (fun hf=>?_) (fun ht=>?_)⟩⟩
      ·have e:Yd (.tup ds1) (.tup ds2)=false:=by rw [Yd]; exact Zkl ex ey hf
       have qq:=q H2 (sm'.trans sm2)
       rw [e] at qq
       exact qq
      ·exact ⟨sm'.trans sm2,_,_,rfl,by rw [Zk2 ex ey,hs,ht]; rfl⟩
     ·rintro σ H' ⟨sm,w3,w4,rfl,hs⟩
      have e:Yd (.tup ds1) (.tup ds2)=true:=by
       rw [Yd]
       rw [List.take_of_length_le (by lia),List.take_of_length_le (by lia)] at hs
       exact hs
      have qq:=q H' sm
      rw [e] at qq
      exact qq
   | lst _=>exact nt2 (Yc q0)
   | non=>exact ne2 ⟨_,rfl,v2, "tuple", tt2,_,rfl,yt2,et2,_,rfl,v1, "tuple", tt1,_,rfl,yt1,et1,rfl,_,rfl,nt1 q0⟩
   | bl _=>exact ne2 ⟨_,rfl,v2, "tuple", tt2,_,rfl,yt2,et2,_,rfl,v1, "tuple", tt1,_,rfl,yt1,et1,rfl,_,rfl,nt1 q0⟩
   | int _=>exact ne2 ⟨_,rfl,v2, "tuple", tt2,_,rfl,yt2,et2,_,rfl,v1, "tuple", tt1,_,rfl,yt1,et1,rfl,_,rfl,nt1 q0⟩
   | str _=>exact ne2 ⟨_,rfl,v2, "tuple", tt2,_,rfl,yt2,et2,_,rfl,v1, "tuple", tt1,_,rfl,yt1,et1,rfl,_,rfl,nt1 q0⟩
theorem Zti {k:Nat}(V4:Has K mg "_law_same" Yv):Fn P w K mg base "_law_same" ["_law_found", "_law_due"] k (fun _ _ _ _=>False):=by
 obtain ⟨f,fd,F,hm⟩:=V4
 exact ⟨f,fd,hm,F.kp,F.binds fun _ _ _ _ _ _ us hl=>match us,hl with | [_,_],_=>rfl,⟨fun _ _ _ _ h=>h.elim,fun _ _ _ _ _ _ _ _ _ _ _ _ _ h=>h.elim⟩⟩
theorem Zpb (V4:Has K mg "_law_same" Yv) (T:Txt mg) (Zcg:Fn P w K mg base "_law_whole" ["_law_found"] 1 Zgj):∀ n:Nat,Fn P w K mg base "_law_same" ["_law_found", "_law_due"] (n+2) (Zd9 n)
 | 0=>Zlm (k:=0) V4 T Zcg ((Zti V4).imp fun _ _ _ _ h=>absurd h.1 (Nat.lt_irrefl _))
 | n+1=>Zlm (k:=n+1) V4 T Zcg ((Zpb V4 T Zcg n).imp fun _ _ _ _ h=>h.2)
end
section
variable {P:Program}{w:World}{K:PySem.W.Frag}{mg:Str->Option Value}{base:Heap}
def Zpc (K:PySem.W.Frag):Sp:=fun vs H Q _=>∃ (a:Addr) (ns:List Int),vs = [.ref a]/\SqL K H a (ns.map V.int)/\∀ (s la:Addr) (H':Hp),H s=none->H la=none->SrcAt H' s la->Same H H'->Q (.ref s) H'
abbrev Zch:Stmt:=top 54
theorem Z1h:FnScope ["_law_script"] ["_law_script"] (Za Zch):=⟨rfl,rfl,rfl,by decide +kernel,rfl,by decide +kernel,by decide +kernel⟩
theorem Z1i:Nm (Za Zch) "_law_script" .local:=by decide +kernel
theorem Z1j:Nm (Za Zch) "list" .globalImplicit:=by decide +kernel
theorem Z1k (Zhf:Has K mg "_law_src" Zch) (T:Txt mg):Fn P w K mg base "_law_src" ["_law_script"] 1 (Zpc K):=by
 refine Zhf.fnQ Z1h (fun _ _ _ _ _ _ us hl=>match us,hl with | [_],_=>rfl) (fun vs H Q E h=>?_) (fun f cdv A outer s H vs Q E hr h=>?_)
 ·obtain ⟨a,ns,rfl,_⟩:=h
  rfl
 ·obtain ⟨a,ns,rfl,hS,k⟩:=h
  refine ⟨_,(Zg (Zu (Yk (Zb (Zs5 Zrx Z1j T.list Zgy (Zb (Zb0 Zv0 (qvN 0 Z1i) Zb5 (Zb6 Zf)) Zd)) (Zb Zf (Zb Zf (Zb Zf (Zb Zf Zd)))))))),?_⟩
  refine ⟨_,rfl,_,rfl,a,_,rfl,hS,fun l hl=>?_⟩
  have hc:∃ ms:List Int,Uz (ns.map V.int) none (some 63)=ms.map V.int:=by
   unfold Uz
   rw [← List.map_drop,← List.map_take]
   exact ⟨_,rfl⟩
  obtain ⟨ms,ec⟩:=hc
  refine ⟨l,_,rfl,.inl (SqL.of Zi),fun l2 hl2=>⟨by show 5<=sizeLine; decide,fun s hs=>?_⟩⟩
  have n1:l2≠l:=fun z=>by rw [z,Zi] at hl2; cases hl2
  have s1:Same H (upd H l (.lst (Uz (ns.map V.int) none (some 63)))):=Same.new hl
  have s2:=s1.trans (Same.new (o:=.lst (Uz (ns.map V.int) none (some 63))) hl2)
  have n2:l2≠s:=fun z=>by rw [← z,Zi] at hs; cases hs
  refine k s l2 _ (s2.free hs) (s1.free hl2) ⟨ms,0,0,1,0,Zi,by rw [Zc n2,Zi,ec],by decide,n2⟩ (s2.trans (Same.new hs))
def Zbb:Sp:=fun vs H Q _=>∃ (s la:Addr) (b:Int),vs = [.ref s,.int b]/\SrcAt H s la/\0 < b/\b < 1073741824/\∀ (d:Int) (H':Hp),0<=d->d < b->SrcAt H' s la->SameX s H H'->Q (.int d) H'
abbrev Uv:Stmt:=top 55
theorem Zeg:FnScope ["_law_src_here", "_law_base", "_law_cell", "_law_digit"] ["_law_src_here", "_law_base"] (Za Uv):=⟨rfl,rfl,rfl,by decide +kernel,rfl,by decide +kernel,by decide +kernel⟩
theorem Zi8:Nm (Za Uv) "_law_base" .local:=by decide +kernel
theorem Zcv:Nm (Za Uv) "_law_cell" .local:=by decide +kernel
theorem Zpd:Nm (Za Uv) "_law_digit" .local:=by decide +kernel
theorem Y0:Nm (Za Uv) "_law_src_here" .local:=by decide +kernel
theorem Z1l:Nm (Za Uv) "len" .globalImplicit:=by decide +kernel
theorem Z1m (Zhg:Has K mg "_law_next" Uv) (T:Txt mg):Fn P w K mg base "_law_next" ["_law_src_here", "_law_base"] 1 Zbb:=by
 refine Zhg.fnQ Zeg (fun _ _ _ _ _ _ us hl=>match us,hl with | [_,_],_=>rfl) (fun vs H Q E h=>?_) (fun f cdv A outer s H vs Q E hr h=>?_)
 ·obtain ⟨s,la,b,rfl,_⟩:=h
  rfl
 ·obtain ⟨s,la,b,rfl,⟨ns,i,big,st,cnt,hs,hla,hi,hne⟩,hb0,hb1,k⟩:=h
  refine ⟨_,(Ze (Zb9 (Z0 Yy (Zk Zv (qvN 0 Y0) Zf (fun _ _=>rfl)) Zf) (Zca (qvN 0 Y0) Zf Zbx))
 (Ze (Zs (Zx Wn (Zk Zv (qvN 0 Y0) Zf (fun _ _=>rfl)) Zf (Zw _)) (Ze (Z2 (i:=2) Zeg.nd Zcv Zf)
 (Ze (Zs (Zx Zaf (Zk Zv (qvN 0 Y0) Zf (fun _ _=>rfl)) (Z4 Vm Z1l T.len Wc (Zb (Zk Zv (qvN 0 Y0) Zf (fun _ _=>rfl)) Zd)) (Zw _)) (Ze (Z2 (i:=2) Zeg.nd Zcv (Zk Zv (Zk Zv (qvN 0 Y0) Zf (fun _ _=>rfl)) (Zk Zv (qvN 0 Y0) Zf (fun _ _=>rfl)) (fun _ _=>rfl)))
 (Zg (Zb9 (Z0 Yy (Zk Zv (qvN 0 Y0) Zf (fun _ _=>rfl)) Zf) (Zca (qvN 0 Y0) Zf Zbx)))) Zt)
 (Ze (Zb9 (Z0 Za3 (Z0 Yy (Z0 Yy (Z0 Zmx (Zk Zv (qvN 0 Y0) Zf (fun _ _=>rfl)) Zf) (Z0 Za3 (qvN 2 Zcv) Zf)) (Zk Zv (qvN 0 Y0) Zf (fun _ _=>rfl))) Zf) (Zca (qvN 0 Y0) Zf Zbx))
 (Zg (Zs (Zx Zd4 (qvN 2 Zcv) (Z0 Zx6 Zf Zf) (Zw _)) (Zg (Zb9 (qvN 2 Zcv) (Zca (qvN 0 Y0) Zf Zbx))) Zt))))) Zt)
 (Ze (Zs (Zx Zd3 (Zk Zv (qvN 0 Y0) Zf (fun _ _=>rfl)) Zf (Zw _)) (Ze (Z2 (i:=3) Zeg.nd Zpd (Z0 Za3 (Zk Zv (qvN 0 Y0) Zf (fun _ _=>rfl)) (qvN 1 Zi8)))
 (Ze (Zb9 (Z0 Zfu (Zk Zv (qvN 0 Y0) Zf (fun _ _=>rfl)) (qvN 1 Zi8)) (Zca (qvN 0 Y0) Zf Zbx))
 (Zg (Zu (qvN 3 Zpd))))) Zt)
 (Zg (Zu (Z0 Za3 (Z0 Zfu (Z0 Za3 (Z0 Zmx (Zk Zv (qvN 0 Y0) Zf (fun _ _=>rfl)) Zf) Zf) Zf) (qvN 1 Zi8))))))),?_⟩
  have fin:∀ (H1:Hp) (i' big st cnt d:Int),0<=d->d < b->SameX s H H1->H1 s=some (.lst [.ref la,.int i',.int big,.int st,.int cnt])->0<=i'->Q (.int d) H1:=fun H1 i' big st cnt d h0 h1 sx hs1 hi1 =>
   k d H1 h0 h1 ⟨ns,i',big,st,cnt,hs1,sx _ _ hne hla,hi1,hne⟩ sx
  walk_at "rd"
  all_goals refine fin _ _ _ _ _ _ (Int.emod_nonneg _ (by lia)) (Int.emod_lt_of_pos _ hb0) ?_ Zi (by lia)
  all_goals repeat (first | exact SameX.refl | refine SameX.trans ?_ SameX.upd)
end
section
variable {P:Program}{w:World}{K:PySem.W.Frag}{mg:Str->Option Value}{base:Heap}
def Zg8:Sp:=fun vs H Q _=>∃ (s la:Addr) (n:Int),vs = [.ref s,.int n]/\SrcAt H s la/\0<=n/\n<=100/\∀ (x:Str) (H':Hp),(x.length:Int)=n->Low x->SrcAt H' s la->SameX s H H'->Q (.str x) H'
theorem Zsc (cl:List Nat):(List.map cs (cl.map fun c=>(⟨#[c]⟩:Str))).flatten=cl:=by
 induction cl with
 | nil=>rfl
 | cons c r ih=>rw [List.map_cons,List.map_cons,List.flatten_cons,ih]; rfl
abbrev Zaj:Stmt:=top 59
theorem Zpe:FnScope ["_law_src_here", "_law_many", "_law_letters"] ["_law_src_here", "_law_many"] (Za Zaj):=⟨rfl,rfl,rfl,by decide +kernel,rfl,by decide +kernel,by decide +kernel⟩
theorem Zpf:Nm (Za Zaj) "_law_letters" .cell:=by decide +kernel
theorem Z1n:Nm (Za Zaj) "_law_many" .local:=by decide +kernel
theorem Z1o:Nm (Za Zaj) "_law_src_here" .cell:=by decide +kernel
theorem Z1p:Nm (Za Zaj) "range" .globalImplicit:=by decide +kernel
theorem Z1q (Zhh:Has K mg "_law_word" Zaj) (T:Txt mg) (Y9:Fn P w K mg base "_law_next" ["_law_src_here", "_law_base"] 1 Zbb):Fn P w K mg base "_law_word" ["_law_src_here", "_law_many"] 2 Zg8:=by
 refine Zhh.fnQ Zpe (fun _ _ _ _ _ _ us hl=>match us,hl with | [_,_],_=>rfl) (fun vs H Q E h=>?_) (fun f cdv A outer s H vs Q E hr h=>?_)
 ·obtain ⟨s,la,n,rfl,_⟩:=h
  rfl
 ·obtain ⟨s,la,n,rfl,hsrc,hn0,hn1,k⟩:=h
  refine ⟨_,(Ze (Zl0 (i:=2) Zpe.nd Zpf Wm)
 (Zg (Zu (Wi F.plainAttrs_str F.slot_str_join F.type_str_join Zv1 Wm (Zb (Za0 (locs:=["_law_k"]) (fr:=[("_law_src_here", 0),("_law_letters", 2)]) ⟨rfl,by decide +kernel,by decide +kernel,by decide +kernel,by decide +kernel,by decide +kernel⟩ (.consN Z1o (.consN Zpf .nil)) rfl (Zby Z1p.1 T.range (Zb (qvN 1 Z1n) Zd)) ⟨fun _ _ _ _ _ _=>by
  have cnd:(inN ["_law_k"] [("_law_src_here", 0),("_law_letters", 2)]).Nodup:=by decide +kernel
  exact ⟨(Uj 0 cnd),Zdr,(Zk Zgc (Zas 2) (Zq Y9 (hr.mono (by lia)) nmC (Zb (Zas 1) (Zb Zf Zd))) (fun _ _=>rfl))⟩⟩) Zd))))),?_⟩
  refine ⟨rfl,_,rfl,n,rfl,by lia,by lia,?_⟩
  refine Zkx (n:=n.toNat) (fun i ys H2=>SrcAt H2 s la/\SameX s H H2/\∃ cl:List Nat,cl.length=i/\ys=cl.map (fun c=>V.str ⟨#[c]⟩)/\∀ c∈cl,97<=c/\c<=122) ⟨hsrc,SameX.refl,[],rfl,rfl,(fun _ z=>nomatch z)⟩ (by lia) ?_ ?_ ?_
  ·rintro i ys H2 ⟨_,_,cl,h1,rfl,_⟩
   rw [List.length_map]; lia
  ·rintro i ys H2 hi ⟨hs2,sx2,cl,h1,rfl,hc⟩ ls hls
   obtain ⟨a,rfl⟩:=Zcu hls
   refine ⟨⟨[_],rfl,rfl⟩,?_⟩
   walk_at "rd"
   refine ⟨s,la,26,rfl,hs2,by decide,by decide,fun d H3 d0 d1 hs3 sx3=>?_⟩
   refine ⟨letters,d,_,rfl,rfl,by decide,Zff d0 d1,hs3,sx2.trans sx3,cl ++ [97+d.toNat],by rw [List.length_append,h1]; rfl,by rw [List.map_append]; rfl,fun c hc'=>?_⟩
   rcases List.mem_append.mp hc' with z | z
   ·exact hc c z
   ·have:c=97+d.toNat:=by simpa using z
    lia
  ·rintro ys H2 ⟨hs2,sx2,cl,h1,rfl,hc⟩ l hl
   have e:(cl.map fun c=>V.str ⟨#[c]⟩)=(cl.map fun c=>(⟨#[c]⟩:Str)).map V.str:=by rw [List.map_map]; rfl
   have sumlen:∀ l:List Nat,((l.map fun c=>(⟨#[c]⟩:Str)).map (·.length)).sum=l.length:=by
    intro l
    induction l with
    | nil=>rfl
    | cons c r ih=>rw [List.map_cons,List.map_cons,List.sum_cons,ih,List.length_cons]; show 1+r.length=_; lia
   refine ⟨_,l,cl.map fun c=>(⟨#[c]⟩:Str),rfl,rfl,SqL.of (by rw [Zi,e]),?_,?_⟩
   ·rw [sumlen,List.length_map]
    show cl.length+cl.length * 0<=16777216
    lia
   ·have ej:cs (Txt.join "" (cl.map fun c=>(⟨#[c]⟩:Str)))=cl:=by rw [Zvw,Zsc]
    refine k _ _ ?_ (fun c hc'=>hc c (by rw [ej] at hc'; exact hc')) (hs2.keep (Same.new hl)) (sx2.trans (SameX.new hl))
    rw [← Y5,ej,h1]
    lia
end
theorem ph {α:Type} [DecidableEq α]:∀ (L M:List α),L.Nodup->(∀ a∈L,a∈M)->L.length<=M.length
 | [],_,_,_=>Nat.zero_le _
 | a::L,M,nd,h=>by
  obtain ⟨n1,n2⟩:=List.nodup_cons.mp nd
  have ha:=h a List.mem_cons_self
  have:=ph L (M.erase a) n2 fun b hb=>(List.mem_erase_of_ne (fun (e:b=a)=>n1 (by rw [← e]; exact hb))).mpr (h b (List.mem_cons_of_mem _ hb))
  rw [List.length_erase_of_mem ha] at this
  have hp : 0 < M.length:=List.length_pos_of_mem ha
  rw [List.length_cons]
  lia
def We (stem:Str) (j:Nat):Str:=stem++⟨#[97+j % 26]⟩++⟨#[97+j / 26]⟩
theorem Zdu (stem:Str) (j:Nat):cs (We stem j)=cs stem ++ [97+j % 26,97+j / 26]:=by
 unfold We
 rw [Zd1,Zd1]
 simp [cs]
theorem Zwl {stem:Str}{i j:Nat}(h:We stem i=We stem j):i=j:=by
 have e:cs (We stem i)=cs (We stem j):=by rw [h]
 rw [Zdu,Zdu] at e
 have e2:=List.append_cancel_left e
 injection e2 with e3 e4
 injection e4 with e5 _
 lia
theorem Zmb (stem:Str) (j:Nat):(We stem j).length=stem.length+2:=by
 rw [← Y5,Zdu,List.length_append,Y5]
 rfl
theorem Zwm {stem:Str}{j:Nat}(h:Low stem) (hj:j < 676):Low (We stem j):=by
 intro c hc
 rw [Zdu] at hc
 rcases List.mem_append.mp hc with z | z
 ·exact h c z
 ·simp at z
  lia
theorem Zr1 {names:List Str}{stem:Str}(h:∀ j,j < names.length->We stem j∈names):We stem names.length∉names:=by
 intro hm
 have nd:((List.range (names.length+1)).map (We stem)).Nodup:=by
  rw [List.nodup_iff_pairwise_ne,List.pairwise_map]
  exact List.Pairwise.imp (fun h e=>h (Zwl e)) (List.nodup_iff_pairwise_ne.mp List.nodup_range)
 have:=ph _ names nd fun a ha=>by
  obtain ⟨j,hj,rfl⟩:=List.mem_map.mp ha
  have hj:=List.mem_range.mp hj
  by_cases e:j=names.length
  ·rw [e]; exact hm
  ·exact h j (by lia)
 rw [List.length_map,List.length_range] at this
 lia
theorem Zyq (x:Str) (names:List Str):inV (.str x) (names.map V.str)=decide (x∈names):=by
 unfold inV
 rw [List.any_map,Bool.eq_iff_iff,List.any_eq_true,decide_eq_true_iff]
 constructor
 ·rintro ⟨y,hy,e⟩
  have:y=x:=by simpa [eqV] using e
  rw [← this]; exact hy
 ·intro h
  exact ⟨x,h,by simp [eqV]⟩
theorem Zuu (names:List Str):(names.map V.str).all Ub=true:=by
 rw [List.all_map,List.all_eq_true]
 intro x _
 rfl
def Wf (x:Str):Prop:=Low x/\1<=x.length/\x.length<=12
section
variable {P:Program}{w:World}{K:PySem.W.Frag}{mg:Str->Option Value}{base:Heap}
def Zdl (K:PySem.W.Frag):Sp:=fun vs H Q _=>∃ (a:Addr) (names:List Str) (x:Str),vs = [.ref a,.str x]/\SqL K H a (names.map V.str)/\names.length<=600/\Wf x/\∀ y:Str,Wf y->y∉names->Q (.str y) H
abbrev V5:Stmt:=top 58
theorem Zci:FnScope ["_law_names_here", "_law_name", "_law_letters", "_law_stem", "_law_tries"] ["_law_names_here", "_law_name"] (Za V5):=⟨rfl,rfl,rfl,by decide +kernel,rfl,by decide +kernel,by decide +kernel⟩
theorem Zi9:Nm (Za V5) "_law_letters" .local:=by decide +kernel
theorem Zcw:Nm (Za V5) "_law_name" .local:=by decide +kernel
theorem Zpg:Nm (Za V5) "_law_names_here" .local:=by decide +kernel
theorem Zph:Nm (Za V5) "_law_stem" .local:=by decide +kernel
theorem Zja:Nm (Za V5) "_law_tries" .local:=by decide +kernel
theorem Z1r:Nm (Za V5) "len" .globalImplicit:=by decide +kernel
theorem Z1s:Nm (Za V5) "range" .globalImplicit:=by decide +kernel
theorem Z1t (Zhi:Has K mg "_law_unlike" V5) (T:Txt mg):Fn P w K mg base "_law_unlike" ["_law_names_here", "_law_name"] 1 (Zdl K):=by
 refine Zhi.fnQ Zci (fun _ _ _ _ _ _ us hl=>match us,hl with | [_,_],_=>rfl) (fun vs H Q E h=>?_) (fun f cdv A outer s H vs Q E hr h=>?_)
 ·obtain ⟨a,names,x,rfl,_⟩:=h
  rfl
 ·obtain ⟨a,names,x,rfl,hS,hn,⟨hx1,hx2,hx3⟩,k⟩:=h
  refine ⟨_,(Ze (Z2 (i:=2) Zci.nd Zi9 Wm)
 (Ze (Z2 (i:=3) Zci.nd Zph (Zb0 Zdq (qvN 1 Zcw) Zb5 (Zb6 Zf)))
 (Ze (Wo PassesOwn.never rfl (Zby Z1s.1 T.range (Zb (Z0 Yy (Z4 Vm Z1r T.len Wc (Zb (qvN 0 Zpg) Zd)) Zf) Zd)) (Y8 (i:=4) Zci.nd Zja)
 (Ze (Zs (Zx Zrw (qvN 1 Zcw) (qvN 0 Zpg) rfl) (Zg (Zu (qvN 1 Zcw))) Zt)
 (Zg (Z2 (i:=1) Zci.nd Zcw (Z0 Zde (Z0 Zde (qvN 3 Zph) (Zk Zgc (qvN 2 Zi9) (Z0 Za3 (qvN 4 Zja) Zf) (fun _ _=>rfl))) (Zk Zgc (qvN 2 Zi9) (Z0 Zfu (qvN 4 Zja) Zf) (fun _ _=>rfl)))))))
 (Zg (Zu (qvN 1 Zcw)))))),?_⟩
  have hz:(13:Nat)<=sizeLine:=by decide
  refine ⟨_,rfl,10,rfl,x,rfl,by lia,?_⟩
  have hst:cs (Txt.slice x none (some 10))=(cs x).take 10:=Zf9 x (by decide)
  have hstl:(Txt.slice x none (some 10)).length<=10:=by rw [← Y5,hst,List.length_take]; lia
  have hsto:Low (Txt.slice x none (some 10)):=fun c hc=>hx1 c (by rw [hst] at hc; exact List.mem_of_mem_take hc)
  show Zbh _ _ _ [some (.ref a),some (.str x),some (.str letters),some (.str (Txt.slice x none (some 10))),none] H
  generalize Txt.slice x none (some 10)=stem at hstl hsto
  refine ⟨_,rfl,a,_,rfl,.inl hS,_,_,rfl,rfl,_,rfl,by lia,by rw [List.length_map]; lia,?_⟩
  refine Zfg (names.length+1) (by rw [List.length_map]; lia) (fun i σ H'=>H'=H/\∃ (cur:Str) (v:Option V),σ = [some (.ref a),some (.str cur),some (.str letters),some (.str stem),v]/\Wf cur/\(i=0\/cur=We stem (i - 1))/\∀ j,j+1 < i->We stem j∈names)
   ⟨rfl,x,none,rfl,⟨hx1,hx2,hx3⟩,.inl rfl,fun j hj=>by lia⟩ ?_ ?_
  ·rintro i σ H' hi ⟨rfl,cur,v,rfl,hc,hci,hal⟩
   refine ⟨_,rfl,_,rfl,a,_,rfl,.inl hS,rfl,Zuu names,_,rfl,?_⟩
   rw [Zyq]
   refine Y4 (fun hnin=>?_) (fun hin=>?_)
   ·exact ⟨_,rfl,k cur hc hnin⟩
   ·have hi':i<=600:=by lia
    refine ⟨_,rfl,_,rfl,_,rfl,_,_,rfl,rfl,by show (0:Int) < 26; decide,letters,_,_,rfl,rfl,by decide,Zff (Int.emod_nonneg _ (by decide)) (Int.emod_lt_of_pos _ (by decide)),stem,_,rfl,rfl,?_,?_⟩
    ·show stem.length+1<=sizeLine
     lia
    refine ⟨_,rfl,_,rfl,_,_,rfl,rfl,⟨by decide,by decide⟩,letters,_,_,rfl,rfl,by decide,Zff (Int.ediv_nonneg (by lia) (by decide)) (by lia),_,_,rfl,rfl,?_,?_⟩
    ·show (stem++_).length+1<=sizeLine
     rw [PySem.Str.length_append]
     show stem.length+1+1<=sizeLine
     lia
    have e1:((0:Int)+(i:Nat)) % 26=((i % 26:Nat):Int):=by lia
    have e2:((0:Int)+(i:Nat)) / 26=((i / 26:Nat):Int):=by lia
    refine ⟨rfl,We stem i,some (.int (0+(i:Nat))),?_,⟨Zwm hsto (by lia),by rw [Zmb]; lia,by rw [Zmb]; lia⟩,.inr rfl,fun j hj=>?_⟩
    ·show [some (V.ref a),some (V.str _),some (V.str letters),some (V.str stem),some (V.int _)]=_
     unfold We
     rw [e1,e2]
     rfl
    ·by_cases e:j+1=i
     ·rcases hci with z | z
      ·lia
      ·have:j=i - 1:=by lia
       rw [this,← z]; exact hin
     ·exact hal j (by lia)
  ·rintro σ H' ⟨rfl,cur,v,rfl,hc,hci,hal⟩
   refine ⟨_,rfl,k cur hc ?_⟩
   rcases hci with z | z
   ·lia
   ·rw [z]
    exact Zr1 fun j hj=>hal j (by lia)
def Zm9:Sp:=fun vs H Q _=>∃ (s la:Addr) (n:Int),vs = [.ref s,.int n]/\SrcAt H s la/\0<=n/\n<=100 /\
 ∀ (l:Addr) (names:List Str) (H':Hp),(names.length:Int)=n->names.Nodup->(∀ x∈names,Wf x)->H l=none->H' l=some (.lst (names.map V.str))->SrcAt H' s la->SameX s H H'->Q (.ref l) H'
abbrev Wa:Stmt:=top 60
theorem Uk:FnScope ["_law_src_here", "_law_many", "_law_style", "_law_stem", "_law_at", "_law_names_here", "_law_k", "_law_name"] ["_law_src_here", "_law_many"] (Za Wa):=⟨rfl,rfl,rfl,by decide +kernel,rfl,by decide +kernel,by decide +kernel⟩
theorem Zjb:Nm (Za Wa) "_law_at" .local:=by decide +kernel
theorem Z1u:Nm (Za Wa) "_law_k" .local:=by decide +kernel
theorem Z1v:Nm (Za Wa) "_law_many" .local:=by decide +kernel
theorem Zen:Nm (Za Wa) "_law_name" .local:=by decide +kernel
theorem Zeo:Nm (Za Wa) "_law_names_here" .local:=by decide +kernel
theorem Zcx:Nm (Za Wa) "_law_next" .globalImplicit:=by decide +kernel
theorem U6:Nm (Za Wa) "_law_src_here" .local:=by decide +kernel
theorem Zbj:Nm (Za Wa) "_law_stem" .local:=by decide +kernel
theorem Zjc:Nm (Za Wa) "_law_style" .local:=by decide +kernel
theorem Z1w:Nm (Za Wa) "_law_unlike" .globalImplicit:=by decide +kernel
theorem Zjd:Nm (Za Wa) "_law_word" .globalImplicit:=by decide +kernel
theorem Zpi:Nm (Za Wa) "len" .globalImplicit:=by decide +kernel
theorem Z1x:Nm (Za Wa) "range" .globalImplicit:=by decide +kernel
theorem Z1y (Zhj:Has K mg "_law_names" Wa) (T:Txt mg) (Y9:Fn P w K mg base "_law_next" ["_law_src_here", "_law_base"] 1 Zbb) (Zhk:Fn P w K mg base "_law_word" ["_law_src_here", "_law_many"] 2 Zg8)
  (Z1z:Fn P w K mg base "_law_unlike" ["_law_names_here", "_law_name"] 1 (Zdl K)):Fn P w K mg base "_law_names" ["_law_src_here", "_law_many"] 3 Zm9:=by
 refine Zhj.fnQ Uk (fun _ _ _ _ _ _ us hl=>match us,hl with | [_,_],_=>rfl) (fun vs H Q E h=>?_) (fun f cdv A outer s H vs Q E hr h=>?_)
 ·obtain ⟨s,la,n,rfl,_⟩:=h
  rfl
 ·obtain ⟨s,la,n,rfl,hsrc,hn0,hn1,k⟩:=h
  refine ⟨_,(Ze (Z2 (i:=2) Uk.nd Zjc (Zq Y9 (hr.mono (by lia)) Zcx (Zb (qvN 0 U6) (Zb Zf Zd))))
 (Ze (Z2 (i:=3) Uk.nd Zbj (Zq Zhk (hr.mono (by lia)) Zjd (Zb (qvN 0 U6) (Zb (Z0 Yy Zf (Zq Y9 (hr.mono (by lia)) Zcx (Zb (qvN 0 U6) (Zb Zf Zd)))) Zd))))
 (Ze (Z2 (i:=4) Uk.nd Zjb (Zq Y9 (hr.mono (by lia)) Zcx (Zb (qvN 0 U6) (Zb (Z4 Zfb Zpi T.len Wc (Zb (qvN 3 Zbj) Zd)) Zd))))
 (Ze (Z2 (i:=5) Uk.nd Zeo (Yk Zd))
 (Ze (Wo PassesOwn.never rfl (Zby Z1x.1 T.range (Zb (qvN 1 Z1v) Zd)) (Y8 (i:=6) Uk.nd Z1u)
 (Ze (Z2 (i:=7) Uk.nd Zen (Z0 Zde (Z0 Zde (Zb0 Zdq (qvN 3 Zbj) Zb5 (Zb6 (qvN 4 Zjb))) (Zq Zhk (hr.mono (by lia)) Zjd (Zb (qvN 0 U6) (Zb Zf Zd)))) (Zb0 Zdq (qvN 3 Zbj) (Zb6 (Z0 Yy (qvN 4 Zjb) Zf)) Zb5)))
 (Ze (Zs (Zx Vw (qvN 2 Zjc) Zf (Zw _)) (Zg (Z2 (i:=7) Uk.nd Zen (Zb0 Zdq (qvN 3 Zbj) Zb5 (Zb6 (Z0 Yy Zf (Zq Y9 (hr.mono (by lia)) Zcx (Zb (qvN 0 U6) (Zb (Z4 Zfb Zpi T.len Wc (Zb (qvN 3 Zbj) Zd)) Zd)))))))) Zt)
 (Ze (Zs (Zx Vw (qvN 2 Zjc) Zf (Zw _)) (Zg (Z2 (i:=7) Uk.nd Zen (Zq Zhk (hr.mono (by lia)) Zjd (Zb (qvN 0 U6) (Zb (Z0 Yy Zf (Zq Y9 (hr.mono (by lia)) Zcx (Zb (qvN 0 U6) (Zb Zf Zd)))) Zd))))) Zt)
 (Zg (Zn (Wi F.plainAttrs_list F.slot_list_append F.type_list_append Wu (qvN 5 Zeo) (Zb (Zq Z1z (hr.mono (by lia)) Z1w (Zb (qvN 5 Zeo) (Zb (qvN 7 Zen) Zd))) Zd))))))))
 (Zg (Zu (qvN 5 Zeo)))))))),?_⟩
  have hz:(200:Nat)<=sizeLine:=by decide
  refine ⟨_,rfl,s,la,3,rfl,hsrc,by decide,by decide,fun style H1 st0 st1 hs1 sx1=>?_⟩
  refine ⟨_,rfl,_,rfl,s,la,11,rfl,hs1,by decide,by decide,fun d1 H2 d10 d11 hs2 sx2=>?_⟩
  refine ⟨_,_,rfl,rfl,s,la,_,rfl,hs2,by lia,by lia,fun stem H3 hl3 hlow3 hs3 sx3=>?_⟩
  refine ⟨_,rfl,_,rfl,stem,rfl,by lia,s,la,_,rfl,hs3,by lia,by lia,fun at_ H4 at0 at1 hs4 sx4=>?_⟩
  refine ⟨by show 0<=sizeLine; lia,fun l hl4=>?_⟩
  have sx:SameX s H H4:=((sx1.trans sx2).trans sx3).trans sx4
  obtain ⟨nls,nlla⟩:=hs4.ne hl4
  have hlH:H l=none:=by
   cases e:H l with
   | none=>rfl
   | some o=>exact absurd (sx l o nls e) (by rw [hl4]; simp)
  refine ⟨_,rfl,n,rfl,by lia,by lia,?_⟩
  show Zae _ _ _ _ [some (.ref s),some (.int n),some (.int style),some (.str stem),some (.int at_),some (.ref l),none,none] (upd H4 l (.lst []))
  have mkn:∀ x:Str,Low x->1<=x.length->x.length<=12->Wf x:=fun x a b c=>⟨a,b,c⟩
  refine Zfg n.toNat rfl (fun i σ H'=>∃ (names:List Str) (v1 v2:Option V),σ = [some (.ref s),some (.int n),some (.int style),some (.str stem),some (.int at_),some (.ref l),v1,v2]/\names.length=i/\names.Nodup/\(∀ x∈names,Wf x)/\H' l=some (.lst (names.map V.str))/\SrcAt H' s la/\SameX s H H')
   ⟨[],none,none,rfl,rfl,List.nodup_nil,(fun _ z=>nomatch z),Zi,hs4.keep (Same.new hl4),sx.trans (SameX.new hl4)⟩ ?_ ?_
  ·rintro i σ H5 hi ⟨names,v1,v2,rfl,hlen,hnd,hall,hl5,hs5,sx5⟩
   have e1:cs (Txt.slice stem none (some at_))=(cs stem).take at_.toNat:=Zf9 stem at0
   have e2:cs (Txt.slice stem (some (at_+1)) none)=(cs stem).drop (at_+1).toNat:=Zx5 stem (by lia)
   have l1:(Txt.slice stem none (some at_)).length<=11:=by rw [← Y5,e1,List.length_take,Y5]; lia
   have l2:(Txt.slice stem (some (at_+1)) none).length+(at_+1).toNat=stem.length:=by rw [← Y5,e2,List.length_drop,Y5]; lia
   have l1':(Txt.slice stem none (some at_)).length=at_.toNat:=by rw [← Y5,e1,List.length_take,Y5]; lia
   refine ⟨_,rfl,_,rfl,at_,rfl,stem,rfl,by lia,_,rfl,s,la,1,rfl,hs5,by decide,by decide,fun x1 H6 hx1 hlow1 hs6 sx6=>?_⟩
   have hl6:H6 l=some (.lst (names.map V.str)):=sx6 l _ nls hl5
   refine ⟨_,_,rfl,rfl,by lia,?_⟩
   refine ⟨_,rfl,_,rfl,_,_,rfl,rfl,_,rfl,stem,rfl,by lia,?_⟩
   have l3:(Txt.slice stem none (some at_)++x1).length=at_.toNat+1:=by rw [PySem.Str.length_append,l1']; lia
   refine ⟨_,_,rfl,rfl,by rw [l3]; lia,?_⟩
   have hname:Wf (Txt.slice stem none (some at_)++x1++Txt.slice stem (some (at_+1)) none):=by
    refine mkn _ (fun c hc=>?_) ?_ ?_
    ·rw [Zd1,Zd1,e1,e2] at hc
     rcases List.mem_append.mp hc with hc | hc
     ·rcases List.mem_append.mp hc with hc | hc
      ·exact hlow3 c (List.mem_of_mem_take hc)
      ·exact hlow1 c hc
     ·exact hlow3 c (List.mem_of_mem_drop hc)
    ·rw [PySem.Str.length_append,l3]; lia
    ·rw [PySem.Str.length_append,l3]; lia
   generalize Txt.slice stem none (some at_)++x1++Txt.slice stem (some (at_+1)) none=nm0 at hname
   show Zbh _ _ _ [some (.ref s),some (.int n),some (.int style),some (.str stem),some (.int at_),some (.ref l),some (.int (0+(i:Nat))),some (.str nm0)] H6
   have app:∀ (D:Ends),(∀ σ H',(∃ (names:List Str) (v1 v2:Option V),σ = [some (.ref s),some (.int n),some (.int style),some (.str stem),some (.int at_),some (.ref l),v1,v2]/\names.length=i+1/\names.Nodup/\(∀ x∈names,Wf x)/\H' l=some (.lst (names.map V.str))/\SrcAt H' s la/\SameX s H H')->D.nx σ H') ->
     ∀ (x:Str) (H6:Hp),Wf x->H6 l=some (.lst (names.map V.str))->SrcAt H6 s la->SameX s H H6 ->
     Zeb (tBM K "list" Zdo (Yh 5) (Wv (tFn (Zdl K) (Wv (Yh 5) (Wv (Yh 7) Wy))) Wy)) D
      [some (.ref s),some (.int n),some (.int style),some (.str stem),some (.int at_),some (.ref l),some (.int (0+(i:Nat))),some (.str x)] H6:=by
    intro D hD x H6 hx hl6 hs6 sx6
    refine ⟨_,rfl,.inl ⟨rfl,_,SqL.of hl6⟩,_,rfl,_,rfl,l,names,x,rfl,SqL.of hl6,by lia,hx,fun y hy hny=>?_⟩
    refine ⟨l,_,_,rfl,rfl,hl6,by rw [List.length_map]; lia,hD _ _ ⟨names ++ [y],_,_,rfl,by rw [List.length_append,hlen]; rfl,Zf8 hnd hny,fun z hz=>?_,?_,?_,?_⟩⟩
    ·rcases List.mem_append.mp hz with q | q
     ·exact hall z q
     ·have:z=y:=by simpa using q
      rw [this]; exact hy
    ·rw [Zi,List.map_append]; rfl
    ·exact hs6.keepX SameX.upd nls nlla
    ·intro b o hb e
     have:b≠l:=fun z=>by rw [z,hlH] at e; cases e
     rw [Zc this]
     exact sx6 b o hb e
   have step2:∀ (D:Ends),(∀ σ H',(∃ (names:List Str) (v1 v2:Option V),σ = [some (.ref s),some (.int n),some (.int style),some (.str stem),some (.int at_),some (.ref l),v1,v2]/\names.length=i+1/\names.Nodup/\(∀ x∈names,Wf x)/\H' l=some (.lst (names.map V.str))/\SrcAt H' s la/\SameX s H H')->D.nx σ H') ->
     ∀ (x:Str) (H6:Hp),Wf x->H6 l=some (.lst (names.map V.str))->SrcAt H6 s la->SameX s H H6 ->
     Zbh (Zix (Zcd (tOp rEq (Yh 2) (tC (.int 2)))) (V2 (tFn Zg8 (Wv (Yh 0) (Wv (tOp (rI0 fun i j=>.int (i+j)) (tC (.int 1)) (tFn Zbb (Wv (Yh 0) (Wv (tC (.int 12)) Wy)))) Wy))) (Yx 7)) Ur)
      (Zeb (tBM K "list" Zdo (Yh 5) (Wv (tFn (Zdl K) (Wv (Yh 5) (Wv (Yh 7) Wy))) Wy))) D
      [some (.ref s),some (.int n),some (.int style),some (.str stem),some (.int at_),some (.ref l),some (.int (0+(i:Nat))),some (.str x)] H6:=by
    intro D hD x H6 hx hl6 hs6 sx6
    refine ⟨_,rfl,rfl,_,rfl,Z6 (fun _=>?_) (fun _=>?_)⟩
    ·refine ⟨_,rfl,_,rfl,s,la,12,rfl,hs6,by decide,by decide,fun d H7 d0 d1 hs7 sx7=>?_⟩
     refine ⟨_,_,rfl,rfl,s,la,_,rfl,hs7,by lia,by lia,fun y H8 hy1 hy2 hs8 sx8=>?_⟩
     exact app D hD y H8 ⟨hy2,by lia,by lia⟩ (sx8 l _ nls (sx7 l _ nls hl6)) hs8 ((sx6.trans sx7).trans sx8)
    ·exact app D hD x H6 hx hl6 hs6 sx6
   refine ⟨_,rfl,rfl,_,rfl,Z6 (fun _=>?_) (fun _=>?_)⟩
   ·refine ⟨_,rfl,_,rfl,_,rfl,stem,rfl,by lia,s,la,_,rfl,hs6,by lia,by lia,fun d H7 d0 d1 hs7 sx7=>?_⟩
    refine ⟨_,_,rfl,rfl,_,rfl,stem,rfl,by lia,?_⟩
    have e3:cs (Txt.slice stem none (some (1+d)))=(cs stem).take (1+d).toNat:=Zf9 stem (by lia)
    refine step2 _ (fun σ H' h=>h) _ H7 ⟨fun c hc=>hlow3 c (by rw [e3] at hc; exact List.mem_of_mem_take hc),?_,?_⟩ (sx7 l _ nls hl6) hs7 ((sx5.trans sx6).trans sx7)
    ·rw [← Y5,e3,List.length_take,Y5]; lia
    ·rw [← Y5,e3,List.length_take,Y5]; lia
   ·exact step2 _ (fun σ H' h=>h) nm0 H6 hname hl6 hs6 (sx5.trans sx6)
  ·rintro σ H5 ⟨names,v1,v2,rfl,hlen,hnd,hall,hl5,hs5,sx5⟩
   exact ⟨_,rfl,k l names H5 (by lia) hnd hall hlH hl5 hs5 sx5⟩
end
section
variable {P:Program}{w:World}{K:PySem.W.Frag}{mg:Str->Option Value}{base:Heap}
def okc (c:Nat):Bool:=decide (97<=c) && decide (c<=122)
def Uc (x:Str):Bool:=(decide (1<=x.length) && decide (x.length<=12)) && (cs x).all okc
theorem Ztj {x:Str}(h:Wf x):Uc x=true:=by
 obtain ⟨h1,h2,h3⟩:=h
 unfold Uc
 rw [decide_eq_true h2,decide_eq_true h3,Bool.true_and,Bool.true_and,List.all_eq_true]
 intro c hc
 obtain ⟨a,b⟩:=h1 c hc
 unfold okc
 rw [decide_eq_true a,decide_eq_true b]
 rfl
def Zmc:Sp:=fun vs H Q _=>∃ x:Str,vs = [.str x]/\x.length<=1000/\∀ H',Same H H'->Q (.bl (Uc x)) H'
theorem Zn6 {x:Str}{i:Nat}(hi:i < x.length):(cs x)[i]? = some (x.cps.getD i 0):=by
 unfold cs
 have:i < x.cps.size:=hi
 rw [Array.getD_eq_getD_getElem?,Array.getElem?_eq_getElem this,Array.getElem?_toList,Array.getElem?_eq_getElem this]
 rfl
theorem leA (c:Nat):(!decide ((⟨#[c]⟩:Str).cps.toList < ("a" : Str).cps.toList))=decide (97<=c):=by
 have e:("a" : Str).cps.toList = [97]:=by decide +kernel
 rw [e]
 show (!decide (([c]:List Nat) < [97]))=_
 rw [Bool.eq_iff_iff,Bool.not_eq_true',decide_eq_false_iff_not,decide_eq_true_iff,Zk1]
 lia
theorem leZ (c:Nat):(!decide (("z" : Str).cps.toList < (⟨#[c]⟩:Str).cps.toList))=decide (c<=122):=by
 have e:("z" : Str).cps.toList = [122]:=by decide +kernel
 rw [e]
 show (!decide (([122]:List Nat) < [c]))=_
 rw [Bool.eq_iff_iff,Bool.not_eq_true',decide_eq_false_iff_not,decide_eq_true_iff,Zk1]
 lia
theorem Zkn {α β:Type}{l:List α}{i:Nat}{a : α}(f : α->β) (h:l[i]? = some a):(l.take (i+1)).map f=(l.take i).map f ++ [f a]:=by
 rw [List.take_add_one,h,List.map_append]
 rfl
abbrev Zak:Stmt:=top 28
theorem Z10:FnScope ["text"] ["text"] (Za Zak):=⟨rfl,rfl,rfl,by decide +kernel,rfl,by decide +kernel,by decide +kernel⟩
theorem Z11:Nm (Za Zak) "LONGEST_NAME" .globalImplicit:=by decide +kernel
theorem Z12:Nm (Za Zak) "all" .globalImplicit:=by decide +kernel
theorem Z13:Nm (Za Zak) "len" .globalImplicit:=by decide +kernel
theorem Zpj:Nm (Za Zak) "text" .local:=by decide +kernel
theorem Z14 (Zhl:Has K mg "is_name" Zak) (T:Txt mg) (hL:∃ t,mg "LONGEST_NAME" = some (.int 12 t)):Fn P w K mg base "is_name" ["text"] 1 Zmc:=by
 obtain ⟨tL,c_LONGEST_NAME⟩:=hL
 have r_LONGEST_NAME:RelV (.int 12) (.int 12 tL):=⟨tL,rfl⟩
 refine Zhl.fnQ Z10 (fun _ _ _ _ _ _ us hl=>match us,hl with | [_],_=>rfl) (fun vs H Q E h=>?_) (fun f cdv A outer s H vs Q E hr h=>?_)
 ·obtain ⟨x,rfl,_⟩:=h
  rfl
 ·obtain ⟨x,rfl,hx,k⟩:=h
  refine ⟨_,(Zg (Zu (Za8 (Zl2 Wn Wn Zf (Z4 Zfb Z13 T.len Wc (Zb (qvN 0 Zpj) Zd)) (Yo Z11 c_LONGEST_NAME r_LONGEST_NAME)) (Za7 (Z4 (Zt9 (by rfl)) Z12 T.all Z0z (Zb (Za0 (locs:=["sign"]) (fr:=[]) ⟨rfl,by decide +kernel,by decide +kernel,by decide +kernel,by decide +kernel,by decide +kernel⟩ .nil rfl (Zzz (qvN 0 Zpj)) ⟨fun _ _ _ _ _ _=>by
  have cnd:(inN ["sign"] []).Nodup:=by decide +kernel
  exact ⟨(Uj 0 cnd),Zdr,(Zl2 Zky Zky Wm (V3 0) Wm)⟩⟩) Zd)))))),?_⟩
  have hz:(1000:Nat)<=sizeLine:=by decide
  refine ⟨_,rfl,x,rfl,by lia,_,_,rfl,rfl,_,rfl,Z6 (fun h1=>?_) (fun h1=>?_)⟩
  ·refine ⟨_,_,rfl,rfl,_,rfl,Z6 (fun h2=>?_) (fun h2=>?_)⟩
   ·refine ⟨_,rfl,x,rfl,?_⟩
    refine Zvy (fun i ys H'=>H'=H/\ys=((cs x).take i).map fun c=>V.bl (okc c)) ⟨rfl,rfl⟩ (by lia) ?_ ?_ ?_
    ·rintro i ys H' ⟨_,rfl⟩
     rw [List.length_map,List.length_take]; lia
    ·rintro i ys H' hi ⟨rfl,rfl⟩ ls hls
     obtain ⟨a,rfl⟩:=Zcu hls
     refine ⟨⟨[_],rfl,rfl⟩,Yc ?_⟩
     refine ⟨_,rfl,_,_,rfl,rfl,_,rfl,?_⟩
     rw [leA]
     refine Z6 (fun h3=>?_) (fun h3=>?_)
     ·refine ⟨_,_,rfl,rfl,rfl,?_⟩
      dsimp only
      rw [leZ,Zkn _ (Zn6 hi)]
      unfold okc
      rw [decide_eq_true h3,Bool.true_and]
     ·refine ⟨rfl,?_⟩
      rw [Zkn _ (Zn6 hi)]
      unfold okc
      rw [decide_eq_false h3,Bool.false_and]
    ·rintro ys H' ⟨rfl,rfl⟩ l hl
     refine ⟨l,(cs x).map okc,rfl,SqL.of (by rw [Zi,← Y5,List.take_length,List.map_map]; rfl),?_⟩
     have e:((cs x).map okc).all id=Uc x:=by
      unfold Uc
      rw [List.all_map,decide_eq_true (show 1<=x.length by lia),decide_eq_true (show x.length<=12 by lia)]
      rfl
     rw [e]
     exact k _ (Same.new hl)
   ·refine (?_:Q (.bl false) H)
    have e:Uc x=false:=by
     unfold Uc
     rw [decide_eq_false (show ¬ x.length<=12 by lia),Bool.and_false,Bool.false_and]
    rw [← e]
    exact k H (Same.refl _)
  ·refine ⟨_,rfl,Zm ?_⟩
   have e:Uc x=false:=by
    unfold Uc
    rw [decide_eq_false (show ¬ 1<=x.length by lia),Bool.false_and,Bool.false_and]
   rw [← e]
   exact k H (Same.refl _)
end
section
variable {P:Program}{w:World}{K:PySem.W.Frag}{mg:Str->Option Value}{base:Heap}
inductive Deed where
 | come (n:Str) (d w:Int) | rise (n:Str) (d w:Int) | die (n:Str) (d:Int) (h:Str)
def Zl:List Deed->Str->Option Int
 | [],_=>none
 | .come m d _::r,n=>if m=n then some d else Zl r n
 | .rise _ _ _::r,n=>Zl r n
 | .die _ _ _::r,n=>Zl r n
def Zp:List Deed->Str->Option (Int×Str)
 | [],_=>none
 | .die m d h::r,n=>if m=n then some (d,h) else Zp r n
 | .come _ _ _::r,n=>Zp r n
 | .rise _ _ _::r,n=>Zp r n
theorem Zfo (a b:List Deed) (n:Str):Zl (a++b) n=(Zl a n).or (Zl b n):=by
 induction a with
 | nil=>rfl
 | cons x r ih =>
  cases x with
  | come m d w =>
   rw [List.cons_append,Zl,Zl]
   by_cases e:m=n
   ·rw [if_pos e,if_pos e]; rfl
   ·rw [if_neg e,if_neg e,ih]
  | rise m d w=>rw [List.cons_append,Zl,Zl,ih]
  | die m d h=>rw [List.cons_append,Zl,Zl,ih]
theorem Zln (a b:List Deed) (n:Str):Zp (a++b) n=(Zp a n).or (Zp b n):=by
 induction a with
 | nil=>rfl
 | cons x r ih =>
  cases x with
  | come m d w=>rw [List.cons_append,Zp,Zp,ih]
  | rise m d w=>rw [List.cons_append,Zp,Zp,ih]
  | die m d h =>
   rw [List.cons_append,Zp,Zp]
   by_cases e:m=n
   ·rw [if_pos e,if_pos e]; rfl
   ·rw [if_neg e,if_neg e,ih]
theorem Ztk {ds:List Deed}{n:Str}{d w:Int}(h:Zl ds n=none) (x:Str):Zl (ds ++ [.come n d w]) x=if x=n then some d else Zl ds x:=by
 rw [Zfo,Zl,Zl]
 by_cases e:x=n
 ·subst e
  rw [if_pos rfl,if_pos rfl,h]; rfl
 ·rw [if_neg (Ne.symm e),if_neg e]
  cases Zl ds x <;> rfl
theorem Zlo {ds:List Deed}{n h:Str}{d:Int}(x:Str):Zl (ds ++ [.die n d h]) x=Zl ds x:=by
 rw [Zfo,Zl,Zl]
 cases Zl ds x <;> rfl
theorem Zk3 {ds:List Deed}{n:Str}{d w:Int}(x:Str):Zp (ds ++ [.come n d w]) x=Zp ds x:=by
 rw [Zln,Zp,Zp]
 cases Zp ds x <;> rfl
theorem Zdg {ds:List Deed}{n h:Str}{d:Int}(hn:Zp ds n=none) (x:Str):Zp (ds ++ [.die n d h]) x=if x=n then some (d,h) else Zp ds x:=by
 rw [Zln,Zp,Zp]
 by_cases e:x=n
 ·subst e
  rw [if_pos rfl,if_pos rfl,hn]; rfl
 ·rw [if_neg (Ne.symm e),if_neg e]
  cases Zp ds x <;> rfl
def Yp (ds:List Deed) (n:Str) (day:Int):Bool:=match Zp ds n with
 | some x=>decide (x.1<=day)
 | none=>false
inductive Stands (ds:List Deed) (day:Int):Nat->Str->Str->Prop where
 | here {n:Str}:Yp ds n day=false->Stands ds day 0 n n
 | step {n m:Str}{x:Int×Str}{k:Nat}:Zp ds n=some x->Yp ds n day=true->Stands ds day k x.2 m->Stands ds day (k+1) n m
def Wr (dc dw dd dh:Addr):List (Str×V):=Zj "heirs" (.ref dh) (Zj "deaths" (.ref dd) (Zj "weights" (.ref dw) (Zj "comings" (.ref dc) [])))
theorem Zcy (dc dw dd dh:Addr):(Wr dc dw dd dh).lookup ("comings" : Str)=some (.ref dc):=by
 unfold Wr
 rw [Z8,if_neg (by decide +kernel),Z8,if_neg (by decide +kernel),Z8,if_neg (by decide +kernel),Z8,if_pos rfl]
theorem Z7g (dc dw dd dh:Addr):(Wr dc dw dd dh).lookup ("weights" : Str)=some (.ref dw):=by
 unfold Wr
 rw [Z8,if_neg (by decide +kernel),Z8,if_neg (by decide +kernel),Z8,if_pos rfl]
theorem Zbk (dc dw dd dh:Addr):(Wr dc dw dd dh).lookup ("deaths" : Str)=some (.ref dd):=by
 unfold Wr
 rw [Z8,if_neg (by decide +kernel),Z8,if_pos rfl]
theorem Zje (dc dw dd dh:Addr):(Wr dc dw dd dh).lookup ("heirs" : Str)=some (.ref dh):=by
 unfold Wr
 rw [Z8,if_pos rfl]
def Zep (m:Str):Prop:=¬ m = "heirs" /\ ¬ m = "deaths" /\ ¬ m = "weights" /\ ¬ m = "comings"
instance (m:Str):Decidable (Zep m):=by unfold Zep; exact inferInstance
theorem Yq (dc dw dd dh:Addr) {m:Str}(h:Zep m):(Wr dc dw dd dh).lookup m=none:=by
 obtain ⟨a,b,c,d⟩:=h
 unfold Wr
 rw [Z8,if_neg a,Z8,if_neg b,Z8,if_neg c,Z8,if_neg d]
 rfl
structure FL where
 p:Addr
 dc:Addr
 dw:Addr
 dd:Addr
 dh:Addr
structure FolkAt (C:Addr) (H:Hp) (L:FL) (ds:List Deed):Prop where
 ob:∃ dx,H L.p=some (.ins C dx (Wr L.dc L.dw L.dd L.dh))
 c:∃ kvs:List (Key×V),H L.dc=some (.dK kvs)/\kvs.length<=ds.length/\∀ n:Str,Z1 kvs (.inr n)=(Zl ds n).map V.int
 w:∃ kvs:List (Key×V),H L.dw=some (.dK kvs)/\kvs.length<=ds.length
 d:∃ kvs:List (Key×V),H L.dd=some (.dK kvs)/\kvs.length<=ds.length/\∀ n:Str,Z1 kvs (.inr n)=(Zp ds n).map fun x=>V.int x.1
 h:∃ kvs:List (Key×V),H L.dh=some (.dK kvs)/\kvs.length<=ds.length/\∀ n:Str,Z1 kvs (.inr n)=(Zp ds n).map fun x=>V.str x.2
 a1:L.dc≠L.dw
 a2:L.dc≠L.dd
 a3:L.dc≠L.dh
 a4:L.dw≠L.dd
 a5:L.dw≠L.dh
 a6:L.dd≠L.dh
def Zeh (H H':Hp):Prop:=∀ b o,(∀ xs,o ≠ .lst xs)->H b=some o->H' b=some o
theorem Same.n {H H':Hp}(h:Same H H'):Zeh H H':=fun b o _ e=>h b o e
theorem SameX.n {s:Addr}{H H':Hp}{xs:List V}(h:SameX s H H') (hs:H s=some (.lst xs)):Zeh H H':=fun b o n e=>h b o (fun z=>by rw [z,hs] at e; exact n xs (Option.some.inj e).symm) e
theorem FolkAt.keep {C:Addr}{H H':Hp}{L:FL}{ds:List Deed}(h:FolkAt C H L ds) (k:Zeh H H'):FolkAt C H' L ds:=by
 obtain ⟨⟨dx,ob⟩,⟨k1,c1,c2⟩,⟨k2,w1,w2⟩,⟨k3,d1,d2⟩,⟨k4,h1,h2⟩,a1,a2,a3,a4,a5,a6⟩:=h
 exact ⟨⟨dx,k _ _ (fun _ z=>nomatch z) ob⟩,⟨k1,k _ _ (fun _ z=>nomatch z) c1,c2⟩,⟨k2,k _ _ (fun _ z=>nomatch z) w1,w2⟩,⟨k3,k _ _ (fun _ z=>nomatch z) d1,d2⟩,⟨k4,k _ _ (fun _ z=>nomatch z) h1,h2⟩,a1,a2,a3,a4,a5,a6⟩
def SameLT (H H':Hp):Prop:=(∀ b xs,H b=some (.lst xs)->H' b=some (.lst xs))/\∀ b xs,H b=some (.tup xs)->H' b=some (.tup xs)
theorem SameLT.updD {H:Hp}{l:Addr}{kvs kvs':List (Key×V)}(h:H l=some (.dK kvs)):SameLT H (upd H l (.dK kvs')) :=
 ⟨fun b xs e=>by rw [Zc (fun z=>by rw [z,h] at e; cases e)]; exact e,fun b xs e=>by rw [Zc (fun z=>by rw [z,h] at e; cases e)]; exact e⟩
structure TxC (K:PySem.W.Frag) (C:Addr):Prop where
 cl:Cls K C
 nc:NoAttr K C "comings"
 nw:NoAttr K C "weights"
 nd:NoAttr K C "deaths"
 nh:NoAttr K C "heirs"
variable {C:Addr}
def Ud:Sp:=fun vs H Q _=>∃ d:Int,vs = [.int d]/\0<=d/\d<=9999/\Q .non H
abbrev Zcj:Stmt:=top 23
theorem Z15:FnScope ["day"] ["day"] (Za Zcj):=⟨rfl,rfl,rfl,by decide +kernel,rfl,by decide +kernel,by decide +kernel⟩
theorem Z16:Nm (Za Zcj) "LAST_DAY" .globalImplicit:=by decide +kernel
theorem Z17:Nm (Za Zcj) "day" .local:=by decide +kernel
theorem Z18 (Zhm:Has K mg "check_day" Zcj) (C0:∃ t,mg "LAST_DAY" = some (.int 9999 t)):Fn P w K mg base "check_day" ["day"] 1 Ud:=by
 obtain ⟨t0,c_LAST_DAY⟩:=C0
 have r_LAST_DAY:RelV (.int 9999) (.int 9999 t0):=⟨t0,rfl⟩
 refine Zhm.fnQ Z15 (fun _ _ _ _ _ _ us hl=>match us,hl with | [_],_=>rfl) (fun vs H Q E h=>?_) (fun f cdv A outer s H vs Q E hr h=>?_)
 ·obtain ⟨d,rfl,_⟩:=h
  rfl
 ·obtain ⟨d,rfl,h0,h1,k⟩:=h
  refine ⟨_,(Zg (Zs (Vv (Zdi Wn Wn Zf (qvN 0 Z17) (Yo Z16 c_LAST_DAY r_LAST_DAY))) (Zg Yz) Zt)),?_⟩
  refine ⟨_,rfl,_,_,rfl,rfl,_,rfl,Z6 (fun _=>?_) (fun z=>absurd h0 z)⟩
  refine ⟨_,_,rfl,rfl,_,rfl,Y4 (fun z=>absurd h1 z) (fun _=>k)⟩
def Zrm:Sp:=fun vs H Q _=>∃ d:Int,vs = [.int d]/\1<=d/\d<=1000/\Q .non H
abbrev Zck:Stmt:=top 24
theorem Z19:FnScope ["weight"] ["weight"] (Za Zck):=⟨rfl,rfl,rfl,by decide +kernel,rfl,by decide +kernel,by decide +kernel⟩
theorem Z2a:Nm (Za Zck) "MOST_WEIGHT" .globalImplicit:=by decide +kernel
theorem Z2b:Nm (Za Zck) "weight" .local:=by decide +kernel
theorem Z2c (Zhn:Has K mg "check_weight" Zck) (C0:∃ t,mg "MOST_WEIGHT" = some (.int 1000 t)):Fn P w K mg base "check_weight" ["weight"] 1 Zrm:=by
 obtain ⟨t0,c_MOST_WEIGHT⟩:=C0
 have r_MOST_WEIGHT:RelV (.int 1000) (.int 1000 t0):=⟨t0,rfl⟩
 refine Zhn.fnQ Z19 (fun _ _ _ _ _ _ us hl=>match us,hl with | [_],_=>rfl) (fun vs H Q E h=>?_) (fun f cdv A outer s H vs Q E hr h=>?_)
 ·obtain ⟨d,rfl,_⟩:=h
  rfl
 ·obtain ⟨d,rfl,h0,h1,k⟩:=h
  refine ⟨_,(Zg (Zs (Vv (Zdi Wn Wn Zf (qvN 0 Z2b) (Yo Z2a c_MOST_WEIGHT r_MOST_WEIGHT))) (Zg Yz) Zt)),?_⟩
  refine ⟨_,rfl,_,_,rfl,rfl,_,rfl,Z6 (fun _=>?_) (fun z=>absurd h0 z)⟩
  refine ⟨_,_,rfl,rfl,_,rfl,Y4 (fun z=>absurd h1 z) (fun _=>k)⟩
def Zdv (C:Addr):Sp:=fun vs H Q _=>∃ (L:FL) (ds:List Deed) (n:Str) (d:Int),vs = [.ref L.p,.str n]/\FolkAt C H L ds/\Zl ds n=some d/\Q .non H
abbrev Zcz:Stmt:=Z9 (top 31) 17
theorem Z2d:FnScope ["self", "name"] ["self", "name"] (Za Zcz):=⟨rfl,rfl,rfl,by decide +kernel,rfl,by decide +kernel,by decide +kernel⟩
theorem Z2e:Nm (Za Zcz) "name" .local:=by decide +kernel
theorem Z2f:Nm (Za Zcz) "self" .local:=by decide +kernel
theorem Z2g (Zho:HasM K C "check_known" "Folk.check_known" Zcz) (Tc:TxC K C):Mt P w K mg base C "check_known" ["self", "name"] 1 (Zdv C):=by
 refine Zho.mtQ Z2d (fun _ _ _ _ _ _ us hl=>match us,hl with | [_,_],_=>rfl) (fun vs H Q E h=>?_) (fun f cdv A outer s H vs Q E hr h=>?_)
 ·obtain ⟨L,ds,n,d,rfl,_⟩:=h
  rfl
 ·obtain ⟨L,ds,n,d,rfl,F,hn,k⟩:=h
  refine ⟨_,(Zg (Zs (Zx (Zs8 hr) (qvN 1 Z2e) (Zy (qvN 0 Z2f)) rfl) (Zg Yz) Zt)),?_⟩
  obtain ⟨dx,ob⟩:=F.ob
  obtain ⟨kvs,c1,c2,c3⟩:=F.c
  refine ⟨_,rfl,_,rfl,L.p,C,dx,_,_,rfl,ob,Tc.cl,Tc.nc,Zcy _ _ _ _,L.dc,_,rfl,DGet.k (k:=Sum.inr n) c1,_,rfl,?_⟩
  rw [c3,hn]
  exact Zm k
def Zgk (C:Addr):Sp:=fun vs H Q _=>∃ (L:FL) (ds:List Deed) (n:Str) (d day:Int),vs = [.ref L.p,.str n,.int day]/\FolkAt C H L ds/\Zl ds n=some d/\d<=day/\Q .non H
abbrev Zbl:Stmt:=Z9 (top 31) 18
theorem Z2h:FnScope ["self", "name", "day"] ["self", "name", "day"] (Za Zbl):=⟨rfl,rfl,rfl,by decide +kernel,rfl,by decide +kernel,by decide +kernel⟩
theorem Z2i:Nm (Za Zbl) "day" .local:=by decide +kernel
theorem Z2j:Nm (Za Zbl) "name" .local:=by decide +kernel
theorem Z2k:Nm (Za Zbl) "self" .local:=by decide +kernel
theorem Z2l (Zhp:HasM K C "check_there" "Folk.check_there" Zbl) (Tc:TxC K C):Mt P w K mg base C "check_there" ["self", "name", "day"] 1 (Zgk C):=by
 refine Zhp.mtQ Z2h (fun _ _ _ _ _ _ us hl=>match us,hl with | [_,_,_],_=>rfl) (fun vs H Q E h=>?_) (fun f cdv A outer s H vs Q E hr h=>?_)
 ·obtain ⟨L,ds,n,d,day,rfl,_⟩:=h
  rfl
 ·obtain ⟨L,ds,n,d,day,rfl,F,hn,hd,k⟩:=h
  refine ⟨_,(Zg (Zs (Zx Zaf (qvN 2 Z2i) (Zb8 hr (Zy (qvN 0 Z2k)) (qvN 1 Z2j) (fun _ _=>rfl)) (Zw _)) (Zg Yz) Zt)),?_⟩
  obtain ⟨dx,ob⟩:=F.ob
  obtain ⟨kvs,c1,c2,c3⟩:=F.c
  have g:=DGet.k (k:=Sum.inr n) c1
  rw [c3,hn] at g
  refine ⟨_,rfl,_,rfl,L.p,C,dx,_,_,rfl,ob,Tc.cl,Tc.nc,Zcy _ _ _ _,_,rfl,L.dc,.int d,rfl,g,?_⟩
  exact ⟨_,_,rfl,rfl,_,rfl,Z6 (fun z=>absurd z (by lia)) (fun _=>k)⟩
def Zdm (C:Addr):Sp:=fun vs H Q _=>∃ (L:FL) (ds:List Deed) (n:Str) (day:Int),vs = [.ref L.p,.str n,.int day]/\FolkAt C H L ds/\Q (.bl (Yp ds n day)) H
abbrev Zbm:Stmt:=Z9 (top 31) 11
theorem Z2m:FnScope ["self", "name", "day"] ["self", "name", "day"] (Za Zbm):=⟨rfl,rfl,rfl,by decide +kernel,rfl,by decide +kernel,by decide +kernel⟩
theorem Z2n:Nm (Za Zbm) "day" .local:=by decide +kernel
theorem Zpk:Nm (Za Zbm) "name" .local:=by decide +kernel
theorem Zpl:Nm (Za Zbm) "self" .local:=by decide +kernel
theorem Z2o (Zhq:HasM K C "died_by" "Folk.died_by" Zbm) (Tc:TxC K C):Mt P w K mg base C "died_by" ["self", "name", "day"] 1 (Zdm C):=by
 refine Zhq.mtQ Z2m (fun _ _ _ _ _ _ us hl=>match us,hl with | [_,_,_],_=>rfl) (fun vs H Q E h=>?_) (fun f cdv A outer s H vs Q E hr h=>?_)
 ·obtain ⟨L,ds,n,day,rfl,_⟩:=h
  rfl
 ·obtain ⟨L,ds,n,day,rfl,F,k⟩:=h
  refine ⟨_,(Zg (Zu (Za8 (Za2 (Zds hr) (qvN 1 Zpk) (Zy (qvN 0 Zpl)) rfl) (Za7 (Za2 Wn (Zb8 hr (Zy (qvN 0 Zpl)) (qvN 1 Zpk) (fun _ _=>rfl)) (qvN 2 Z2n) (Zw _)))))),?_⟩
  obtain ⟨dx,ob⟩:=F.ob
  obtain ⟨kvs,c1,c2,c3⟩:=F.d
  have g:=DGet.k (k:=Sum.inr n) c1
  rw [c3] at g
  unfold Yp at k
  refine ⟨_,rfl,_,rfl,L.p,C,dx,_,_,rfl,ob,Tc.cl,Tc.nd,Zbk _ _ _ _,L.dd,_,rfl,g,_,rfl,?_⟩
  cases e:Zp ds n with
  | none =>
   rw [e] at k
   exact Zm k
  | some x =>
   rw [e] at k g
   refine Yc ?_
   exact ⟨_,rfl,L.p,C,dx,_,_,rfl,ob,Tc.cl,Tc.nd,Zbk _ _ _ _,_,rfl,L.dd,.int x.1,rfl,g,_,rfl,_,_,rfl,rfl,k⟩
def Zn7 (C:Addr):Sp:=fun vs H Q _=>∃ (L:FL) (ds:List Deed) (n:Str) (x:Int×Str),vs = [.ref L.p,.str n]/\FolkAt C H L ds/\Zp ds n=some x/\Q (.int x.1) H
abbrev Zc0:Stmt:=Z9 (top 31) 12
theorem Z2p:FnScope ["self", "name"] ["self", "name"] (Za Zc0):=⟨rfl,rfl,rfl,by decide +kernel,rfl,by decide +kernel,by decide +kernel⟩
theorem Z2q:Nm (Za Zc0) "name" .local:=by decide +kernel
theorem Z2r:Nm (Za Zc0) "self" .local:=by decide +kernel
theorem Z2s (Zhr:HasM K C "death_day" "Folk.death_day" Zc0) (Tc:TxC K C):Mt P w K mg base C "death_day" ["self", "name"] 1 (Zn7 C):=by
 refine Zhr.mtQ Z2p (fun _ _ _ _ _ _ us hl=>match us,hl with | [_,_],_=>rfl) (fun vs H Q E h=>?_) (fun f cdv A outer s H vs Q E hr h=>?_)
 ·obtain ⟨L,ds,n,x,rfl,_⟩:=h
  rfl
 ·obtain ⟨L,ds,n,x,rfl,F,hx,k⟩:=h
  refine ⟨_,(Zg (Zu (Zb8 hr (Zy (qvN 0 Z2r)) (qvN 1 Z2q) (fun _ _=>rfl)))),?_⟩
  obtain ⟨dx,ob⟩:=F.ob
  obtain ⟨kvs,c1,c2,c3⟩:=F.d
  have g:=DGet.k (k:=Sum.inr n) c1
  rw [c3,hx] at g
  exact ⟨_,rfl,L.p,C,dx,_,_,rfl,ob,Tc.cl,Tc.nd,Zbk _ _ _ _,_,rfl,L.dd,.int x.1,rfl,g,k⟩
def Zmd (C:Addr):Sp:=fun vs H Q _=>∃ (L:FL) (ds:List Deed) (n:Str) (x:Int×Str),vs = [.ref L.p,.str n]/\FolkAt C H L ds/\Zp ds n=some x/\Q (.str x.2) H
abbrev Zcl:Stmt:=Z9 (top 31) 13
theorem Z2t:FnScope ["self", "name"] ["self", "name"] (Za Zcl):=⟨rfl,rfl,rfl,by decide +kernel,rfl,by decide +kernel,by decide +kernel⟩
theorem Z2u:Nm (Za Zcl) "name" .local:=by decide +kernel
theorem Z2v:Nm (Za Zcl) "self" .local:=by decide +kernel
theorem Z2w (Zhs:HasM K C "heir_of" "Folk.heir_of" Zcl) (Tc:TxC K C):Mt P w K mg base C "heir_of" ["self", "name"] 1 (Zmd C):=by
 refine Zhs.mtQ Z2t (fun _ _ _ _ _ _ us hl=>match us,hl with | [_,_],_=>rfl) (fun vs H Q E h=>?_) (fun f cdv A outer s H vs Q E hr h=>?_)
 ·obtain ⟨L,ds,n,x,rfl,_⟩:=h
  rfl
 ·obtain ⟨L,ds,n,x,rfl,F,hx,k⟩:=h
  refine ⟨_,(Zg (Zu (Zb8 hr (Zy (qvN 0 Z2v)) (qvN 1 Z2u) (fun _ _=>rfl)))),?_⟩
  obtain ⟨dx,ob⟩:=F.ob
  obtain ⟨kvs,c1,c2,c3⟩:=F.h
  have g:=DGet.k (k:=Sum.inr n) c1
  rw [c3,hx] at g
  exact ⟨_,rfl,L.p,C,dx,_,_,rfl,ob,Tc.cl,Tc.nh,Zje _ _ _ _,_,rfl,L.dh,.str x.2,rfl,g,k⟩
def Zfp (C:Addr):Sp:=fun vs H Q _=>∃ (L:FL) (ds:List Deed) (n m:Str) (day:Int) (b:Nat),vs = [.ref L.p,.str n,.int day]/\FolkAt C H L ds/\Stands ds day b n m/\Q (.str m) H
abbrev Zbn:Stmt:=Z9 (top 31) 10
theorem Zpm:FnScope ["self", "name", "day"] ["self", "name", "day"] (Za Zbn):=⟨rfl,rfl,rfl,by decide +kernel,rfl,by decide +kernel,by decide +kernel⟩
theorem Z2x:Nm (Za Zbn) "day" .local:=by decide +kernel
theorem Zeq:Nm (Za Zbn) "name" .local:=by decide +kernel
theorem Zpn:Nm (Za Zbn) "self" .local:=by decide +kernel
theorem Z2y (Zht:HasM K C "stand_in" "Folk.stand_in" Zbn) (Tc:TxC K C) (M_died_by:Mt P w K mg base C "died_by" ["self", "name", "day"] 1 (Zdm C)) :
  Mt P w K mg base C "stand_in" ["self", "name", "day"] 2 (Zfp C):=by
 refine Zht.mtQ Zpm (fun _ _ _ _ _ _ us hl=>match us,hl with | [_,_,_],_=>rfl) (fun vs H Q E h=>?_) (fun f cdv A outer s H vs Q E hr h=>?_)
 ·obtain ⟨L,ds,n,m,day,b,rfl,_⟩:=h
  rfl
 ·obtain ⟨L,ds,n,m,day,b,rfl,F,hst,k⟩:=h
  refine ⟨_,(Ze (Zl1 PassesOwn.never (Wp (Zz (qvN 0 Zpn) Tc.cl M_died_by (hr.mono (by lia)) (Zb (qvN 1 Zeq) (Zb (qvN 2 Z2x) Zd))))
 (Zg (Z2 (i:=1) Zpm.nd Zeq (Zb8 hr (Zy (qvN 0 Zpn)) (qvN 1 Zeq) (fun _ _=>rfl)))))
 (Zg (Zu (qvN 1 Zeq)))),?_⟩
  obtain ⟨dx,ob⟩:=F.ob
  obtain ⟨kvs,c1,c2,c3⟩:=F.h
  refine ⟨fun j σ H'=>∃ x,σ = [some (.ref L.p),some (.str x),some (.int day)]/\H'=H/\Stands ds day j x m,⟨b,n,rfl,rfl,hst⟩,?_⟩
  rintro j σ H' ⟨x,rfl,rfl,hx⟩
  refine ⟨_,rfl,L.p,dx,_,rfl,ob,Yq _ _ _ _ (by decide +kernel),_,rfl,_,rfl,L,ds,x,day,rfl,F,?_⟩
  refine ⟨_,rfl,?_⟩
  cases hx with
  | here e =>
   rw [e]
   exact Zm ⟨_,rfl,k⟩
  | step e1 e2 e3 =>
   rename_i y j'
   rw [e2]
   have g:=DGet.k (k:=Sum.inr x) c1
   rw [c3,e1] at g
   refine Yc ⟨fun σ' H''=>∃ m',m' < j'+1/\∃ x,σ' = [some (.ref L.p),some (.str x),some (.int day)]/\H''=H'/\Stands ds day m' x m,fun _ _ h=>h,?_⟩
   exact ⟨_,rfl,L.p,C,dx,_,_,rfl,ob,Tc.cl,Tc.nh,Zje _ _ _ _,_,rfl,L.dh,.str y.2,rfl,g,j',by lia,y.2,rfl,rfl,e3⟩
def Zme (C:Addr):Sp:=fun vs H Q _=>∃ (L:FL) (ds:List Deed) (n m:Str) (d day:Int) (b:Nat),vs = [.ref L.p,.str n,.int day]/\FolkAt C H L ds/\Zl ds n=some d/\0<=day/\day<=9999/\Stands ds day b n m/\Q (.str m) H
abbrev Zat:Stmt:=Z9 (top 31) 8
theorem Z2z:FnScope ["self", "name", "day"] ["self", "name", "day"] (Za Zat):=⟨rfl,rfl,rfl,by decide +kernel,rfl,by decide +kernel,by decide +kernel⟩
theorem Z20:Nm (Za Zat) "check_day" .globalImplicit:=by decide +kernel
theorem Zpo:Nm (Za Zat) "day" .local:=by decide +kernel
theorem Zpp:Nm (Za Zat) "name" .local:=by decide +kernel
theorem Zpq:Nm (Za Zat) "self" .local:=by decide +kernel
theorem Z21 (Zhu:HasM K C "stands_for" "Folk.stands_for" Zat) (Tc:TxC K C) (Wg:Fn P w K mg base "check_day" ["day"] 1 Ud) (M_check_known:Mt P w K mg base C "check_known" ["self", "name"] 1 (Zdv C)) (M_stand_in:Mt P w K mg base C "stand_in" ["self", "name", "day"] 2 (Zfp C)) :
  Mt P w K mg base C "stands_for" ["self", "name", "day"] 3 (Zme C):=by
 refine Zhu.mtQ Z2z (fun _ _ _ _ _ _ us hl=>match us,hl with | [_,_,_],_=>rfl) (fun vs H Q E h=>?_) (fun f cdv A outer s H vs Q E hr h=>?_)
 ·obtain ⟨L,ds,n,m,d,day,b,rfl,_⟩:=h
  rfl
 ·obtain ⟨L,ds,n,m,d,day,b,rfl,F,hn,d0,d1,hst,k⟩:=h
  refine ⟨_,(Ze (Zn (Zq Wg (hr.mono (by lia)) Z20 (Zb (qvN 2 Zpo) Zd)))
 (Ze (Zn (Zz (qvN 0 Zpq) Tc.cl M_check_known (hr.mono (by lia)) (Zb (qvN 1 Zpp) Zd)))
 (Zg (Zu (Zz (qvN 0 Zpq) Tc.cl M_stand_in (hr.mono (by lia)) (Zb (qvN 1 Zpp) (Zb (qvN 2 Zpo) Zd))))))),?_⟩
  obtain ⟨dx,ob⟩:=F.ob
  refine ⟨_,rfl,day,rfl,d0,d1,?_⟩
  refine ⟨_,rfl,L.p,dx,_,rfl,ob,Yq _ _ _ _ (by decide +kernel),_,rfl,L,ds,n,d,rfl,F,hn,?_⟩
  exact ⟨_,rfl,L.p,dx,_,rfl,ob,Yq _ _ _ _ (by decide +kernel),_,rfl,_,rfl,L,ds,n,m,day,b,rfl,F,hst,k⟩
end
section
variable {P:Program}{w:World}{K:PySem.W.Frag}{mg:Str->Option Value}{base:Heap}{C:Addr}
def Zn8 (C:Addr):Sp:=fun vs H Q _=>∃ (p dx:Addr),vs = [.ref p]/\H p=some (.ins C dx [])/\∀ (L:FL) (H':Hp),L.p=p->FolkAt C H' L []->(∀ b o,H b=some o->b≠p->H' b=some o)->(∀ b,b=L.dc\/b=L.dw\/b=L.dd\/b=L.dh->H b=none)->Q .non H'
abbrev Zei:Stmt:=Z9 (top 31) 0
theorem Z22:FnScope ["self"] ["self"] (Za Zei):=⟨rfl,rfl,rfl,by decide +kernel,rfl,by decide +kernel,by decide +kernel⟩
theorem Zer:Nm (Za Zei) "self" .local:=by decide +kernel
theorem Z23 (Zhv:HasM K C "__init__" "Folk.__init__" Zei) (Tc:TxC K C):Mt P w K mg base C "__init__" ["self"] 1 (Zn8 C):=by
 refine Zhv.mtQ Z22 (fun _ _ _ _ _ _ us hl=>match us,hl with | [_],_=>rfl) (fun vs H Q E h=>?_) (fun f cdv A outer s H vs Q E hr h=>?_)
 ·obtain ⟨p,dx,rfl,_⟩:=h
  rfl
 ·obtain ⟨p,dx,rfl,hp,k⟩:=h
  refine ⟨_,(Ze (Wq (qvN 0 Zer) Zb1)
 (Ze (Wq (qvN 0 Zer) Zb1)
 (Ze (Wq (qvN 0 Zer) Zb1)
 (Zg (Wq (qvN 0 Zer) Zb1))))),?_⟩
  intro dc hdc
  have p1:p≠dc:=Zh hp hdc
  refine ⟨_,rfl,p,C,dx,[],rfl,(by rw [Zc p1]; exact hp),Tc.cl,Tc.nc,(by show 0 < 1000; decide),?_⟩
  have g1:(upd (upd H dc (.dK [])) p (.ins C dx (Zj "comings" (.ref dc) []))) p=some (.ins C dx (Zj "comings" (.ref dc) [])):=Zi
  have c1:(upd (upd H dc (.dK [])) p (.ins C dx (Zj "comings" (.ref dc) []))) dc=some (.dK []):=by rw [Zc p1.symm,Zi]
  have s1:∀ b o,H b=some o->b≠p->(upd (upd H dc (.dK [])) p (.ins C dx (Zj "comings" (.ref dc) []))) b=some o:=fun b o e n=>by rw [Zc n,Zc (Zh e hdc)]; exact e
  generalize (upd (upd H dc (.dK [])) p (.ins C dx (Zj "comings" (.ref dc) [])))=H1 at g1 c1 s1 ⊢
  intro dw hdw
  have p2:p≠dw:=Zh g1 hdw
  have q1:dc≠dw:=Zh c1 hdw
  refine ⟨_,rfl,p,C,dx,_,rfl,(by rw [Zc p2]; exact g1),Tc.cl,Tc.nw,(by show 1 < 1000; decide),?_⟩
  have g2:(upd (upd H1 dw (.dK [])) p (.ins C dx (Zj "weights" (.ref dw) (Zj "comings" (.ref dc) [])))) p=some (.ins C dx (Zj "weights" (.ref dw) (Zj "comings" (.ref dc) []))):=Zi
  have c2:(upd (upd H1 dw (.dK [])) p (.ins C dx (Zj "weights" (.ref dw) (Zj "comings" (.ref dc) [])))) dc=some (.dK []):=by rw [Zc p1.symm,Zc q1]; exact c1
  have w2:(upd (upd H1 dw (.dK [])) p (.ins C dx (Zj "weights" (.ref dw) (Zj "comings" (.ref dc) [])))) dw=some (.dK []):=by rw [Zc p2.symm,Zi]
  have s2:∀ b o,H b=some o->b≠p->(upd (upd H1 dw (.dK [])) p (.ins C dx (Zj "weights" (.ref dw) (Zj "comings" (.ref dc) [])))) b=some o:=fun b o e n=>by rw [Zc n,Zc (Zh (s1 b o e n) hdw)]; exact s1 b o e n
  generalize (upd (upd H1 dw (.dK [])) p (.ins C dx (Zj "weights" (.ref dw) (Zj "comings" (.ref dc) []))))=H2 at g2 c2 w2 s2 ⊢
  intro dd hdd
  have p3:p≠dd:=Zh g2 hdd
  have q2:dc≠dd:=Zh c2 hdd
  have q3:dw≠dd:=Zh w2 hdd
  have z1:(Zj "comings" (V.ref dc) []).length<=0+1:=Wl "comings" (V.ref dc) []
  have z2:=Wl "weights" (V.ref dw) (Zj "comings" (V.ref dc) [])
  have z3:=Wl "deaths" (V.ref dd) (Zj "weights" (V.ref dw) (Zj "comings" (V.ref dc) []))
  refine ⟨_,rfl,p,C,dx,_,rfl,(by rw [Zc p3]; exact g2),Tc.cl,Tc.nd,(by lia),?_⟩
  have g3:(upd (upd H2 dd (.dK [])) p (.ins C dx (Zj "deaths" (.ref dd) (Zj "weights" (.ref dw) (Zj "comings" (.ref dc) []))))) p=some (.ins C dx (Zj "deaths" (.ref dd) (Zj "weights" (.ref dw) (Zj "comings" (.ref dc) [])))):=Zi
  have c3:(upd (upd H2 dd (.dK [])) p (.ins C dx (Zj "deaths" (.ref dd) (Zj "weights" (.ref dw) (Zj "comings" (.ref dc) []))))) dc=some (.dK []):=by rw [Zc p1.symm,Zc q2]; exact c2
  have w3:(upd (upd H2 dd (.dK [])) p (.ins C dx (Zj "deaths" (.ref dd) (Zj "weights" (.ref dw) (Zj "comings" (.ref dc) []))))) dw=some (.dK []):=by rw [Zc p2.symm,Zc q3]; exact w2
  have d3:(upd (upd H2 dd (.dK [])) p (.ins C dx (Zj "deaths" (.ref dd) (Zj "weights" (.ref dw) (Zj "comings" (.ref dc) []))))) dd=some (.dK []):=by rw [Zc p3.symm,Zi]
  have s3:∀ b o,H b=some o->b≠p->(upd (upd H2 dd (.dK [])) p (.ins C dx (Zj "deaths" (.ref dd) (Zj "weights" (.ref dw) (Zj "comings" (.ref dc) []))))) b=some o:=fun b o e n=>by rw [Zc n,Zc (Zh (s2 b o e n) hdd)]; exact s2 b o e n
  generalize (upd (upd H2 dd (.dK [])) p (.ins C dx (Zj "deaths" (.ref dd) (Zj "weights" (.ref dw) (Zj "comings" (.ref dc) [])))))=H3 at g3 c3 w3 d3 s3 ⊢
  intro dh hdh
  have p4:p≠dh:=Zh g3 hdh
  have q4:dc≠dh:=Zh c3 hdh
  have q5:dw≠dh:=Zh w3 hdh
  have q6:dd≠dh:=Zh d3 hdh
  refine ⟨_,rfl,p,C,dx,_,rfl,(by rw [Zc p4]; exact g3),Tc.cl,Tc.nh,(by lia),?_⟩
  refine k ⟨p,dc,dw,dd,dh⟩ _ rfl ⟨⟨dx,Zi⟩,⟨[],?_,Nat.le_refl _,fun n=>rfl⟩,⟨[],?_,Nat.le_refl _⟩,⟨[],?_,Nat.le_refl _,fun n=>rfl⟩,⟨[],?_,Nat.le_refl _,fun n=>rfl⟩,q1,q2,q4,q3,q5,q6⟩ (fun b o e n=>?_) fun b hb=>?_
  ·show (upd (upd H3 dh _) p _) dc=_
   rw [Zc p1.symm,Zc q4]; exact c3
  ·show (upd (upd H3 dh _) p _) dw=_
   rw [Zc p2.symm,Zc q5]; exact w3
  ·show (upd (upd H3 dh _) p _) dd=_
   rw [Zc p3.symm,Zc q6]; exact d3
  ·show (upd (upd H3 dh _) p _) dh=_
   rw [Zc p4.symm,Zi]
  ·rw [Zc n,Zc (Zh (s3 b o e n) hdh)]; exact s3 b o e n
  ·cases eb:H b with
   | none=>rfl
   | some o =>
    rcases hb with z | z | z | z <;> subst z
    ·rw [hdc] at eb; cases eb
    ·have:=s1 _ _ eb p2.symm; rw [hdw] at this; cases this
    ·have:=s2 _ _ eb p3.symm; rw [hdd] at this; cases this
    ·have:=s3 _ _ eb p4.symm; rw [hdh] at this; cases this
def Zfq (C:Addr):Sp:=fun vs H Q _=>∃ (L:FL) (ds:List Deed) (n:Str) (day wt:Int),vs = [.ref L.p,.str n,.int day,.int wt]/\FolkAt C H L ds/\ds.length < 40/\Wf n/\0<=day/\day<=9999/\1<=wt/\wt<=1000/\Zl ds n=none/\∀ H',Same H H'->Q .non H'
abbrev Vc:Stmt:=Z9 (top 31) 14
theorem Z24:FnScope ["self", "name", "day", "weight"] ["self", "name", "day", "weight"] (Za Vc):=⟨rfl,rfl,rfl,by decide +kernel,rfl,by decide +kernel,by decide +kernel⟩
theorem Z25:Nm (Za Vc) "MOST_FOLK" .globalImplicit:=by decide +kernel
theorem Z26:Nm (Za Vc) "check_day" .globalImplicit:=by decide +kernel
theorem Z27:Nm (Za Vc) "check_weight" .globalImplicit:=by decide +kernel
theorem Z28:Nm (Za Vc) "day" .local:=by decide +kernel
theorem Z29:Nm (Za Vc) "is_name" .globalImplicit:=by decide +kernel
theorem Z3a:Nm (Za Vc) "len" .globalImplicit:=by decide +kernel
theorem Zpr:Nm (Za Vc) "name" .local:=by decide +kernel
theorem Zps:Nm (Za Vc) "self" .local:=by decide +kernel
theorem Z3b:Nm (Za Vc) "weight" .local:=by decide +kernel
theorem Z3c (Zhw:HasM K C "check_coming" "Folk.check_coming" Vc) (T:Txt mg) (Tc:TxC K C) (C0:∃ t,mg "MOST_FOLK" = some (.int 40 t)) (Z3d:Fn P w K mg base "is_name" ["text"] 1 Zmc) (Wg:Fn P w K mg base "check_day" ["day"] 1 Ud) (Z3e:Fn P w K mg base "check_weight" ["weight"] 1 Zrm) :
  Mt P w K mg base C "check_coming" ["self", "name", "day", "weight"] 2 (Zfq C):=by
 obtain ⟨t0,c_MOST_FOLK⟩:=C0
 have r_MOST_FOLK:RelV (.int 40) (.int 40 t0):=⟨t0,rfl⟩
 refine Zhw.mtQ Z24 (fun _ _ _ _ _ _ us hl=>match us,hl with | [_,_,_,_],_=>rfl) (fun vs H Q E h=>?_) (fun f cdv A outer s H vs Q E hr h=>?_)
 ·obtain ⟨L,ds,n,day,wt,rfl,_⟩:=h
  rfl
 ·obtain ⟨L,ds,n,day,wt,rfl,F0,hl,hnm,d0,d1,w0,w1,hc,k⟩:=h
  refine ⟨_,(Ze (Zs (Vv (Wp (Zq Z3d (hr.mono (by lia)) Z29 (Zb (qvN 1 Zpr) Zd)))) (Zg Yz) Zt)
 (Ze (Zn (Zq Wg (hr.mono (by lia)) Z26 (Zb (qvN 2 Z28) Zd)))
 (Ze (Zn (Zq Z3e (hr.mono (by lia)) Z27 (Zb (qvN 3 Z3b) Zd)))
 (Ze (Zs (Zx (Zds hr) (qvN 1 Zpr) (Zy (qvN 0 Zps)) rfl) (Zg Yz) Zt)
 (Zg (Zs (Zx Zd4 (Z4 Zs9 Z3a T.len Wc (Zb (Zy (qvN 0 Zps)) Zd)) (Yo Z25 c_MOST_FOLK r_MOST_FOLK) (Zw _)) (Zg Yz) Zt)))))),?_⟩
  refine ⟨_,rfl,n,rfl,by have:=hnm.2.2; lia,fun H1 s1=>⟨_,rfl,?_⟩⟩
  rw [Ztj hnm]
  refine Zm ?_
  have F:=F0.keep (Same.n s1)
  obtain ⟨dx,ob⟩:=F.ob
  obtain ⟨kvs,c1,c2,c3⟩:=F.c
  have g:=DGet.k (k:=Sum.inr n) c1
  rw [c3,hc] at g
  refine ⟨_,rfl,day,rfl,d0,d1,?_⟩
  refine ⟨_,rfl,wt,rfl,w0,w1,?_⟩
  refine ⟨_,rfl,_,rfl,L.p,C,dx,_,_,rfl,ob,Tc.cl,Tc.nc,Zcy _ _ _ _,L.dc,_,rfl,g,_,rfl,Zm ?_⟩
  refine ⟨_,rfl,L.p,C,dx,_,_,rfl,ob,Tc.cl,Tc.nc,Zcy _ _ _ _,L.dc,kvs,rfl,c1,_,_,rfl,rfl,_,rfl,Z6 (fun z=>absurd z (by lia)) (fun _=>?_)⟩
  exact k H1 s1
end
section
variable {P:Program}{w:World}{K:PySem.W.Frag}{mg:Str->Option Value}{base:Heap}{C:Addr}
def Vy (f:Str->Option (List (Key×V))):Deed->Str->Option (List (Key×V))
 | .come n d w,m=>if m=n then some [(.inl d,.int w)] else f m
 | .rise n d w,m=>if m=n then (f m).map fun l=>Zr l (.inl d) (.int w) else f m
 | .die _ _ _,m=>f m
def kw (ds:List Deed):Str->Option (List (Key×V)):=ds.foldl Vy fun _=>none
theorem Zdw (ds:List Deed) (x:Deed):kw (ds ++ [x])=Vy (kw ds) x:=by
 unfold kw
 rw [List.foldl_append]
 rfl
def Ue:List Deed->List Str
 | []=>[]
 | .come n _ _::r=>n::Ue r
 | .rise _ _ _::r=>Ue r
 | .die _ _ _::r=>Ue r
theorem Zk4 (a b:List Deed):Ue (a++b)=Ue a++Ue b:=by
 induction a with
 | nil=>rfl
 | cons x r ih=>cases x <;> simp [Ue,ih]
theorem Zwn {l:List (Key×V)}{k:Key}{v:V}{p:Key×V}(h:p∈Zr l k v):p=(k,v)\/p∈l:=by
 unfold Zr at h
 split at h
 ·obtain ⟨q,hq,e⟩:=List.mem_map.mp h
  split at e
  ·rename_i e2
   rw [← e,e2]; exact .inl rfl
  ·rw [← e]; exact .inr hq
 ·rcases List.mem_append.mp h with z | z
  ·exact .inr z
  ·exact .inl (List.mem_singleton.mp z)
theorem Zna:∀ (ds:List Deed) (f:Str->Option (List (Key×V))) (g:Str->Option Int),(∀ m,(f m).isSome=(g m).isSome)->∀ m,(ds.foldl Vy f m).isSome=((g m).or (Zl ds m)).isSome
 | [],f,g,h,m=>by rw [Zl]; show (f m).isSome=_; rw [h m]; cases g m <;> rfl
 | x::r,f,g,h,m=>by
  have e:Zl (x::r) m=(Zl [x] m).or (Zl r m):=Zfo [x] r m
  have ih:=Zna r (Vy f x) (fun m=>(g m).or (Zl [x] m)) (fun m=>?_) m
  ·rw [List.foldl_cons,ih,e]
   cases g m <;> rfl
  ·cases x with
   | come n d w =>
    rw [Vy,Zl,Zl]
    by_cases z:m=n
    ·rw [if_pos z,if_pos z.symm]; cases g m <;> rfl
    ·rw [if_neg z,if_neg (Ne.symm z),h m]; cases g m <;> rfl
   | rise n d w =>
    rw [Vy,Zl,Zl]
    have hm:=h m
    by_cases z:m=n
    ·rw [if_pos z]; cases e1:f m <;> cases e2:g m <;> rw [e1,e2] at hm <;> first | rfl | cases hm
    ·rw [if_neg z]; cases e1:f m <;> cases e2:g m <;> rw [e1,e2] at hm <;> first | rfl | cases hm
   | die n d w=>rw [Vy,Zl,Zl,h m]; cases g m <;> rfl
theorem Zz8 (ds:List Deed) (n:Str):(kw ds n).isSome=(Zl ds n).isSome:=by
 have:=Zna ds (fun _=>none) (fun _=>none) (fun _=>rfl) n
 exact this
structure WtsAt (H:Hp) (L:FL) (ds:List Deed) (wa:Str->Addr):Prop where
 w:∃ kvs:List (Key×V),H L.dw=some (.dK kvs)/\kvs.length<=ds.length/\∀ n l,kw ds n=some l->Z1 kvs (.inr n)=some (.ref (wa n))/\H (wa n)=some (.dK l)/\l.length<=ds.length
 ord:∃ kvs:List (Key×V),H L.dc=some (.dK kvs)/\(kvs.map fun p=>kV p.1)=(Ue ds).map V.str
 ap:∀ n l,kw ds n=some l->wa n≠L.dc/\wa n≠L.dw/\wa n≠L.dd/\wa n≠L.dh
 inj:∀ n m l l',kw ds n=some l->kw ds m=some l'->wa n=wa m->n=m
theorem WtsAt.keep {H H':Hp}{L:FL}{ds:List Deed}{wa:Str->Addr}(h:WtsAt H L ds wa) (k:Zeh H H'):WtsAt H' L ds wa:=by
 obtain ⟨⟨k1,w1,w2,w3⟩,⟨k2,o1,o2⟩,ap,inj⟩:=h
 exact ⟨⟨k1,k _ _ (fun _ z=>nomatch z) w1,w2,fun n l e=>let ⟨a,b,c⟩:=w3 n l e; ⟨a,k _ _ (fun _ z=>nomatch z) b,c⟩⟩,⟨k2,k _ _ (fun _ z=>nomatch z) o1,o2⟩,ap,inj⟩
theorem WtsAt.start {H:Hp}{L:FL}{wa:Str->Addr}(h:FolkAt C H L []):WtsAt H L [] wa:=by
 obtain ⟨k,w1,w2⟩:=h.w
 obtain ⟨k2,c1,c2,_⟩:=h.c
 exact ⟨⟨k,w1,w2,(fun n l e=>by cases e)⟩,⟨k2,c1,by rw [List.eq_nil_of_length_eq_zero (Nat.le_zero.mp c2)]; rfl⟩,(fun n l e=>by cases e),(fun n m l l' e=>by cases e)⟩
def Z7h (H:Hp) (L:FL) (ds:List Deed) (wa:Str->Addr):Prop:=∃ kvs:List (Key×V),H L.dw=some (.dK kvs)/\∀ p∈kvs,∃ n l,kw ds n=some l/\p=(Sum.inr n,V.ref (wa n))
def own (L:FL) (ds:List Deed) (wa:Str->Addr) (b:Addr):Prop:=b=L.p\/b=L.dc\/b=L.dw\/b=L.dd\/b=L.dh\/∃ n l,kw ds n=some l/\b=wa n
structure Fk (C:Addr) (H:Hp) (L:FL) (ds:List Deed) (wa:Str->Addr):Prop where
 f:FolkAt C H L ds
 w:WtsAt H L ds wa
 all:Z7h H L ds wa
def Touch (L:FL) (ds:List Deed) (wa:Str->Addr) (H H':Hp):Prop:=∀ b o,H b=some o->¬ own L ds wa b->H' b=some o
def Zhx (L:FL) (ds:List Deed) (wa:Str->Addr) (ds':List Deed) (wa':Str->Addr) (H:Hp):Prop:=∀ b,own L ds' wa' b->own L ds wa b\/H b=none
theorem Fk.at {H H':Hp}{L:FL}{ds:List Deed}{wa:Str->Addr}(h:Fk C H L ds wa) (k:∀ b o,own L ds wa b->H b=some o->H' b=some o):Fk C H' L ds wa:=by
 obtain ⟨⟨⟨dx,ob⟩,⟨k1,c1,c2⟩,⟨k2,w1,w2⟩,⟨k3,d1,d2⟩,⟨k4,h1,h2⟩,a1,a2,a3,a4,a5,a6⟩,⟨⟨k5,x1,x2,x3⟩,⟨k6,o1,o2⟩,ap,inj⟩,⟨k7,y1,y2⟩⟩:=h
 have kp:=k L.p _ (.inl rfl) ob
 have kc:=fun o=>k L.dc o (.inr (.inl rfl))
 have kw':=fun o=>k L.dw o (.inr (.inr (.inl rfl)))
 exact ⟨⟨⟨dx,kp⟩,⟨k1,kc _ c1,c2⟩,⟨k2,kw' _ w1,w2⟩,⟨k3,k L.dd _ (.inr (.inr (.inr (.inl rfl)))) d1,d2⟩,⟨k4,k L.dh _ (.inr (.inr (.inr (.inr (.inl rfl))))) h1,h2⟩,a1,a2,a3,a4,a5,a6⟩,
  ⟨⟨k5,kw' _ x1,x2,fun n l e=>let ⟨a,b,c⟩:=x3 n l e; ⟨a,k _ _ (.inr (.inr (.inr (.inr (.inr ⟨n,l,e,rfl⟩))))) b,c⟩⟩,⟨k6,kc _ o1,o2⟩,ap,inj⟩,⟨k7,kw' _ y1,y2⟩⟩
theorem Fk.there {H:Hp}{L:FL}{ds:List Deed}{wa:Str->Addr}(h:Fk C H L ds wa) {b:Addr}(hb:own L ds wa b):∃ o,H b=some o/\(∀ xs,o ≠ .lst xs)/\∀ xs,o ≠ .tup xs:=by
 obtain ⟨⟨⟨dx,ob⟩,⟨k1,c1,c2⟩,⟨k2,w1,w2⟩,⟨k3,d1,d2⟩,⟨k4,h1,h2⟩,_⟩,⟨⟨k5,x1,x2,x3⟩,_⟩,_⟩:=h
 rcases hb with rfl | rfl | rfl | rfl | rfl | ⟨n,l,e,rfl⟩
 ·exact ⟨_,ob,(fun _ z=>nomatch z),(fun _ z=>nomatch z)⟩
 ·exact ⟨_,c1,(fun _ z=>nomatch z),(fun _ z=>nomatch z)⟩
 ·exact ⟨_,w1,(fun _ z=>nomatch z),(fun _ z=>nomatch z)⟩
 ·exact ⟨_,d1,(fun _ z=>nomatch z),(fun _ z=>nomatch z)⟩
 ·exact ⟨_,h1,(fun _ z=>nomatch z),(fun _ z=>nomatch z)⟩
 ·exact ⟨_,(x3 n l e).2.1,(fun _ z=>nomatch z),(fun _ z=>nomatch z)⟩
theorem Touch.lt {H H':Hp}{L:FL}{ds:List Deed}{wa:Str->Addr}(h:Fk C H L ds wa) (k:Touch L ds wa H H'):SameLT H H' :=
 ⟨fun b xs e=>k b _ e fun hb=>by obtain ⟨o',e',n1,_⟩:=h.there hb; rw [e] at e'; cases e'; exact n1 xs rfl,fun b xs e=>k b _ e fun hb=>by obtain ⟨o',e',_,n2⟩:=h.there hb; rw [e] at e'; cases e'; exact n2 xs rfl⟩
def Znb (C:Addr):Sp:=fun vs H Q _=>∃ (L:FL) (ds:List Deed) (wa:Str->Addr) (n:Str) (day wt:Int),vs = [.ref L.p,.str n,.int day,.int wt]/\Fk C H L ds wa/\ds.length < 40/\Wf n/\0<=day/\day<=9999/\1<=wt/\wt<=1000/\Zl ds n=none /\
 ∀ (wa':Str->Addr) (H':Hp),Fk C H' L (ds ++ [.come n day wt]) wa'->Touch L ds wa H H'->Zhx L ds wa (ds ++ [.come n day wt]) wa' H->Q .non H'
abbrev Zal:Stmt:=Z9 (top 31) 1
theorem Z3f:FnScope ["self", "name", "day", "weight"] ["self", "name", "day", "weight"] (Za Zal):=⟨rfl,rfl,rfl,by decide +kernel,rfl,by decide +kernel,by decide +kernel⟩
theorem Zjf:Nm (Za Zal) "day" .local:=by decide +kernel
theorem Zjg:Nm (Za Zal) "name" .local:=by decide +kernel
theorem Zjh:Nm (Za Zal) "self" .local:=by decide +kernel
theorem Zpt:Nm (Za Zal) "weight" .local:=by decide +kernel
theorem Z3g (Zhy:HasM K C "come" "Folk.come" Zal) (Tc:TxC K C) (M_check_coming:Mt P w K mg base C "check_coming" ["self", "name", "day", "weight"] 2 (Zfq C)) :
  Mt P w K mg base C "come" ["self", "name", "day", "weight"] 3 (Znb C):=by
 refine Zhy.mtQ Z3f (fun _ _ _ _ _ _ us hl=>match us,hl with | [_,_,_,_],_=>rfl) (fun vs H Q E h=>?_) (fun f cdv A outer s H vs Q E hr h=>?_)
 ·obtain ⟨L,ds,wa,n,day,wt,rfl,_⟩:=h
  rfl
 ·obtain ⟨L,ds,wa,n,day,wt,rfl,K0,hl,hnm,d0,d1,w0,w1,hc,k⟩:=h
  refine ⟨_,(Ze (Zn (Zz (qvN 0 Zjh) Tc.cl M_check_coming (hr.mono (by lia)) (Zb (qvN 1 Zjg) (Zb (qvN 2 Zjf) (Zb (qvN 3 Zpt) Zd)))))
 (Ze (Za4 hr (Zy (qvN 0 Zjh)) (qvN 1 Zjg) (qvN 2 Zjf))
 (Zg (Za4 hr (Zy (qvN 0 Zjh)) (qvN 1 Zjg) (Zv8 (qvN 2 Zjf) (qvN 3 Zpt)))))),?_⟩
  have F0:=K0.f
  have W0:=K0.w
  have hz:(5000:Nat)<=sizeLine:=by decide
  obtain ⟨dx0,ob0⟩:=F0.ob
  refine ⟨_,rfl,L.p,dx0,_,rfl,ob0,Yq _ _ _ _ (by decide +kernel),_,rfl,_,rfl,_,rfl,L,ds,n,day,wt,rfl,F0,hl,hnm,d0,d1,w0,w1,hc,fun H1 s1=>?_⟩
  have F:=F0.keep (Same.n s1)
  have W:=W0.keep (Same.n s1)
  obtain ⟨k9,y8,y9⟩:=K0.all
  have y7:=s1 _ _ y8
  have hkn:kw ds n=none:=by
   have:=Zz8 ds n
   rw [hc] at this
   cases e:kw ds n with
   | none=>rfl
   | some l=>rw [e] at this; cases this
  obtain ⟨⟨dx,ob⟩,⟨k1,c1,c2,c3⟩,_,⟨k3,e1,e2,e3⟩,⟨k4,h1,h2,h3⟩,a1,a2,a3,a4,a5,a6⟩:=F
  obtain ⟨⟨k2,w2,w3,w4⟩,⟨k1',o1,o2⟩,wap,winj⟩:=W
  rw [c1] at o1
  cases o1
  have np:L.p≠L.dc:=fun z=>by rw [z,c1] at ob; cases ob
  have np2:L.p≠L.dw:=fun z=>by rw [z,w2] at ob; cases ob
  refine ⟨_,rfl,_,rfl,L.p,C,dx,_,_,rfl,ob,Tc.cl,Tc.nc,Zcy _ _ _ _,_,rfl,L.dc,_,rfl,DPut.k (k:=Sum.inr n) c1 (by lia),?_⟩
  have T1:=SameLT.updD (kvs':=Zr k1 (Sum.inr n) (.int day)) c1
  have g0:∀ b o,b≠L.dc->H1 b=some o->(upd H1 L.dc (.dK (Zr k1 (Sum.inr n) (.int day)))) b=some o:=fun b o nb e=>by rw [Zc nb]; exact e
  have g2:(upd H1 L.dc (.dK (Zr k1 (Sum.inr n) (.int day)))) L.dc=some (.dK (Zr k1 (Sum.inr n) (.int day))):=Zi
  generalize (upd H1 L.dc (.dK (Zr k1 (Sum.inr n) (.int day))))=H2 at T1 g0 g2 ⊢
  have g1:=g0 _ _ np ob
  have g3:=g0 _ _ a1.symm w2
  have g4:=g0 _ _ a2.symm e1
  have g5:=g0 _ _ a3.symm h1
  intro q hq
  refine ⟨_,rfl,_,rfl,Zi,[(Sum.inl day,.int wt)],rfl,by show 1<=15; decide,?_⟩
  have S3:Same H2 (upd (upd H2 q (.dK [])) q (.dK (Ut [] [(Sum.inl day,.int wt)]))):=fun b o e=>by rw [Zc (Zh e hq),Zc (Zh e hq)]; exact e
  have kq:(upd (upd H2 q (.dK [])) q (.dK (Ut [] [(Sum.inl day,.int wt)]))) q=some (.dK [(Sum.inl day,.int wt)]):=Zi
  generalize (upd (upd H2 q (.dK [])) q (.dK (Ut [] [(Sum.inl day,.int wt)])))=H3 at S3 kq ⊢
  refine ⟨_,rfl,L.p,C,dx,_,_,rfl,S3 _ _ g1,Tc.cl,Tc.nw,Z7g _ _ _ _,_,rfl,L.dw,_,rfl,DPut.k (k:=Sum.inr n) (S3 _ _ g3) (by lia),?_⟩
  have T4:=SameLT.updD (kvs':=Zr k2 (Sum.inr n) (.ref q)) (S3 _ _ g3)
  have ll:=U0 k1 (Sum.inr n:Key) (V.int day)
  have ll2:=U0 k2 (Sum.inr n:Key) (V.ref q)
  have lapp:(ds ++ [Deed.come n day wt]).length=ds.length+1:=by rw [List.length_append]; rfl
  have q1:q≠L.dc:=fun z=>by rw [z,g2] at hq; cases hq
  have q2:q≠L.dw:=fun z=>by rw [z,g3] at hq; cases hq
  have q3:q≠L.dd:=fun z=>by rw [z,g4] at hq; cases hq
  have q4:q≠L.dh:=fun z=>by rw [z,g5] at hq; cases hq
  have old:∀ m l,kw ds m=some l->H3 (wa m)=some (.dK l)/\wa m≠q:=fun m l e=>by
   have hh:=g0 _ _ (wap m l e).1 (w4 m l e).2.1
   exact ⟨S3 _ _ hh,Zh hh hq⟩
  have hkw:∀ m l,kw (ds ++ [.come n day wt]) m=some l->(m=n/\l = [(Sum.inl day,.int wt)])\/(m≠n/\kw ds m=some l):=fun m l e=>by
   rw [Zdw,Vy] at e
   split at e
   ·rename_i z; cases e; exact .inl ⟨z,rfl⟩
   ·rename_i z; exact .inr ⟨z,e⟩
  refine k (fun m=>if m=n then q else wa m) _ ⟨⟨⟨dx,by rw [Zc np2]; exact S3 _ _ g1⟩,⟨_,by rw [Zc a1]; exact S3 _ _ g2,by lia,fun x=>?_⟩,⟨_,Zi,by lia⟩,⟨k3,by rw [Zc a4.symm]; exact S3 _ _ g4,by lia,fun x=>?_⟩,⟨k4,by rw [Zc a5.symm]; exact S3 _ _ g5,by lia,fun x=>?_⟩,a1,a2,a3,a4,a5,a6⟩,
   ⟨⟨_,Zi,by lia,fun m l e=>?_⟩,⟨_,by rw [Zc a1]; exact S3 _ _ g2,?_⟩,fun m l e=>?_,fun m m' l l' e e' z=>?_⟩,⟨_,Zi,fun p hp=>?_⟩⟩ (fun b o e hn=>?_) (fun b hb=>?_)
  ·rw [Zay,Ztk hc]
   by_cases e:x=n
   ·subst e; rw [if_pos rfl,if_pos rfl]; rfl
   ·rw [if_neg (fun z=>e (Sum.inr.inj z)),if_neg e]; exact c3 x
  ·rw [Zk3]; exact e3 x
  ·rw [Zk3]; exact h3 x
  ·(try dsimp only)
   rcases hkw m l e with ⟨rfl,rfl⟩ | ⟨hm,e'⟩
   ·rw [if_pos rfl]
    exact ⟨by rw [Zay,if_pos rfl],by rw [Zc q2]; exact kq,by rw [lapp]; show 1<=_; lia⟩
   ·rw [if_neg hm]
    obtain ⟨y1,y2,y3⟩:=w4 m l e'
    exact ⟨by rw [Zay,if_neg (fun z=>hm (Sum.inr.inj z))]; exact y1,by rw [Zc (wap m l e').2.1]; exact (old m l e').1,by lia⟩
  ·have hv:Z1 k1 (Sum.inr n:Key)=none:=by rw [c3,hc]; rfl
   rw [Zly _ hv,List.map_append,Zk4,List.map_append,o2]
   rfl
  ·(try dsimp only)
   rcases hkw m l e with ⟨rfl,rfl⟩ | ⟨hm,e'⟩
   ·rw [if_pos rfl]; exact ⟨q1,q2,q3,q4⟩
   ·rw [if_neg hm]; exact wap m l e'
  ·(try dsimp only at z)
   rcases hkw m l e with ⟨rfl,rfl⟩ | ⟨hm,y⟩
   ·rcases hkw m' l' e' with ⟨rfl,rfl⟩ | ⟨hm',y'⟩
    ·rfl
    ·rw [if_pos rfl,if_neg hm'] at z
     exact absurd z.symm (old m' l' y').2
   ·rcases hkw m' l' e' with ⟨rfl,rfl⟩ | ⟨hm',y'⟩
    ·rw [if_neg hm,if_pos rfl] at z
     exact absurd z (old m l y).2
    ·rw [if_neg hm,if_neg hm'] at z
     exact winj m m' l l' y y' z
  ·rw [w2] at y7
   cases y7
   rcases Zwn hp with rfl | hp
   ·exact ⟨n,[(Sum.inl day,.int wt)],by rw [Zdw,Vy,if_pos rfl],by (try dsimp only); rw [if_pos rfl]⟩
   ·obtain ⟨m,l,e,rfl⟩:=y9 p hp
    have hm:m≠n:=fun z=>by rw [z,hkn] at e; cases e
    exact ⟨m,l,by rw [Zdw,Vy,if_neg hm]; exact e,by (try dsimp only); rw [if_neg hm]⟩
  ·rw [Zc (fun z=>hn (.inr (.inr (.inl z))))]
   exact S3 _ _ (g0 b o (fun z=>hn (.inr (.inl z))) (s1 _ _ e))
  ·rcases hb with z | z | z | z | z | ⟨m,l,e,z⟩
   ·exact .inl (.inl z)
   ·exact .inl (.inr (.inl z))
   ·exact .inl (.inr (.inr (.inl z)))
   ·exact .inl (.inr (.inr (.inr (.inl z))))
   ·exact .inl (.inr (.inr (.inr (.inr (.inl z)))))
   ·(try dsimp only at z)
    rcases hkw m l e with ⟨rfl,rfl⟩ | ⟨hm,y⟩
    ·rw [if_pos rfl] at z
     refine .inr ?_
     cases eq:H b with
     | none=>rfl
     | some o =>
      have:=g0 _ _ (by rw [z]; exact q1) (s1 _ _ eq)
      rw [z,hq] at this
      cases this
    ·rw [if_neg hm] at z
     exact .inl (.inr (.inr (.inr (.inr (.inr ⟨m,l,y,z⟩)))))
end
section
variable {P:Program}{w:World}{K:PySem.W.Frag}{mg:Str->Option Value}{base:Heap}{C:Addr}
def Zmf (C:Addr):Sp:=fun vs H Q _=>∃ (L:FL) (ds:List Deed) (n:Str) (day:Int),vs = [.ref L.p,.str n,.int day]/\FolkAt C H L ds/\Yp ds n day=false/\Q .non H
abbrev Zbo:Stmt:=Z9 (top 31) 19
theorem Z3h:FnScope ["self", "name", "day"] ["self", "name", "day"] (Za Zbo):=⟨rfl,rfl,rfl,by decide +kernel,rfl,by decide +kernel,by decide +kernel⟩
theorem Z3i:Nm (Za Zbo) "day" .local:=by decide +kernel
theorem Z3j:Nm (Za Zbo) "name" .local:=by decide +kernel
theorem Z3k:Nm (Za Zbo) "self" .local:=by decide +kernel
theorem Z3l (Zhz:HasM K C "check_living" "Folk.check_living" Zbo) (Tc:TxC K C) (M_died_by:Mt P w K mg base C "died_by" ["self", "name", "day"] 1 (Zdm C)):Mt P w K mg base C "check_living" ["self", "name", "day"] 2 (Zmf C):=by
 refine Zhz.mtQ Z3h (fun _ _ _ _ _ _ us hl=>match us,hl with | [_,_,_],_=>rfl) (fun vs H Q E h=>?_) (fun f cdv A outer s H vs Q E hr h=>?_)
 ·obtain ⟨L,ds,n,day,rfl,_⟩:=h
  rfl
 ·obtain ⟨L,ds,n,day,rfl,F,hd,k⟩:=h
  refine ⟨_,(Zg (Zs (Wp (Zz (qvN 0 Z3k) Tc.cl M_died_by (hr.mono (by lia)) (Zb (qvN 1 Z3j) (Zb (qvN 2 Z3i) Zd)))) (Zg Yz) Zt)),?_⟩
  obtain ⟨dx,ob⟩:=F.ob
  refine ⟨_,rfl,L.p,dx,_,rfl,ob,Yq _ _ _ _ (by decide +kernel),_,rfl,_,rfl,L,ds,n,day,rfl,F,_,rfl,?_⟩
  rw [hd]
  exact Zm k
def Zmg (C:Addr):Sp:=fun vs H Q _=>∃ (L:FL) (ds:List Deed) (n:Str),vs = [.ref L.p,.str n]/\FolkAt C H L ds/\Zp ds n=none/\Q .non H
abbrev Zc1:Stmt:=Z9 (top 31) 20
theorem Z3m:FnScope ["self", "name"] ["self", "name"] (Za Zc1):=⟨rfl,rfl,rfl,by decide +kernel,rfl,by decide +kernel,by decide +kernel⟩
theorem Z3n:Nm (Za Zc1) "name" .local:=by decide +kernel
theorem Z3o:Nm (Za Zc1) "self" .local:=by decide +kernel
theorem Z3p (Zh0:HasM K C "check_untold" "Folk.check_untold" Zc1) (Tc:TxC K C):Mt P w K mg base C "check_untold" ["self", "name"] 1 (Zmg C):=by
 refine Zh0.mtQ Z3m (fun _ _ _ _ _ _ us hl=>match us,hl with | [_,_],_=>rfl) (fun vs H Q E h=>?_) (fun f cdv A outer s H vs Q E hr h=>?_)
 ·obtain ⟨L,ds,n,rfl,_⟩:=h
  rfl
 ·obtain ⟨L,ds,n,rfl,F,c5,k⟩:=h
  refine ⟨_,(Zg (Zs (Zx (Zds hr) (qvN 1 Z3n) (Zy (qvN 0 Z3o)) rfl) (Zg Yz) Zt)),?_⟩
  obtain ⟨dx,ob⟩:=F.ob
  obtain ⟨kvs,e1,e2,e3⟩:=F.d
  have g:=DGet.k (k:=Sum.inr n) e1
  rw [e3,c5] at g
  exact ⟨_,rfl,_,rfl,L.p,C,dx,_,_,rfl,ob,Tc.cl,Tc.nd,Zbk _ _ _ _,L.dd,_,rfl,g,_,rfl,Zm k⟩
def Zfy (C:Addr):Sp:=fun vs H Q _=>∃ (L:FL) (ds:List Deed) (n hr:Str) (day dn dr:Int),vs = [.ref L.p,.str n,.int day,.str hr]/\FolkAt C H L ds/\0<=day/\day<=9999/\Zl ds n=some dn/\dn<=day/\Zl ds hr=some dr/\dr<=day/\Zp ds n=none/\Zp ds hr=none/\hr≠n/\Q .non H
abbrev U1:Stmt:=Z9 (top 31) 16
theorem Z3q:FnScope ["self", "name", "day", "heir"] ["self", "name", "day", "heir"] (Za U1):=⟨rfl,rfl,rfl,by decide +kernel,rfl,by decide +kernel,by decide +kernel⟩
theorem Z3r:Nm (Za U1) "check_day" .globalImplicit:=by decide +kernel
theorem Zji:Nm (Za U1) "day" .local:=by decide +kernel
theorem Zes:Nm (Za U1) "heir" .local:=by decide +kernel
theorem Zet:Nm (Za U1) "name" .local:=by decide +kernel
theorem Zbp:Nm (Za U1) "self" .local:=by decide +kernel
theorem Z3s (Zh1:HasM K C "check_death" "Folk.check_death" U1) (Tc:TxC K C) (Wg:Fn P w K mg base "check_day" ["day"] 1 Ud) (M_check_known:Mt P w K mg base C "check_known" ["self", "name"] 1 (Zdv C)) (M_check_there:Mt P w K mg base C "check_there" ["self", "name", "day"] 1 (Zgk C)) (M_check_untold:Mt P w K mg base C "check_untold" ["self", "name"] 1 (Zmg C)) :
  Mt P w K mg base C "check_death" ["self", "name", "day", "heir"] 2 (Zfy C):=by
 refine Zh1.mtQ Z3q (fun _ _ _ _ _ _ us hl=>match us,hl with | [_,_,_,_],_=>rfl) (fun vs H Q E h=>?_) (fun f cdv A outer s H vs Q E hr h=>?_)
 ·obtain ⟨L,ds,n,hr,day,dn,dr,rfl,_⟩:=h
  rfl
 ·obtain ⟨L,ds,n,he,day,dn,dr,rfl,F,d0,d1,c1,c2,c3,c4,c5,c6,c7,k⟩:=h
  refine ⟨_,(Ze (Zn (Zq Wg (hr.mono (by lia)) Z3r (Zb (qvN 2 Zji) Zd)))
 (Ze (Zn (Zz (qvN 0 Zbp) Tc.cl M_check_known (hr.mono (by lia)) (Zb (qvN 1 Zet) Zd)))
 (Ze (Zn (Zz (qvN 0 Zbp) Tc.cl M_check_known (hr.mono (by lia)) (Zb (qvN 3 Zes) Zd)))
 (Ze (Zn (Zz (qvN 0 Zbp) Tc.cl M_check_there (hr.mono (by lia)) (Zb (qvN 1 Zet) (Zb (qvN 2 Zji) Zd))))
 (Ze (Zn (Zz (qvN 0 Zbp) Tc.cl M_check_there (hr.mono (by lia)) (Zb (qvN 3 Zes) (Zb (qvN 2 Zji) Zd))))
 (Ze (Zn (Zz (qvN 0 Zbp) Tc.cl M_check_untold (hr.mono (by lia)) (Zb (qvN 1 Zet) Zd)))
 (Zg (Zs (QW.pt (Zce (Zx Vw (qvN 3 Zes) (qvN 1 Zet) (Zw _)) (Zcb (Zx (Zds hr) (qvN 3 Zes) (Zy (qvN 0 Zbp)) rfl)))) (Zg Yz) Zt)))))))),?_⟩
  obtain ⟨dx,ob⟩:=F.ob
  obtain ⟨kvs,e1,e2,e3⟩:=F.d
  have g:=DGet.k (k:=Sum.inr n) e1
  rw [e3,c5] at g
  have g':=DGet.k (k:=Sum.inr he) e1
  rw [e3,c6] at g'
  have no:∀ {m:Str},Zep m->(Wr L.dc L.dw L.dd L.dh).lookup m=none:=fun h=>Yq _ _ _ _ h
  refine ⟨_,rfl,day,rfl,d0,d1,?_⟩
  refine ⟨_,rfl,L.p,dx,_,rfl,ob,no (by decide +kernel),_,rfl,L,ds,n,dn,rfl,F,c1,?_⟩
  refine ⟨_,rfl,L.p,dx,_,rfl,ob,no (by decide +kernel),_,rfl,L,ds,he,dr,rfl,F,c3,?_⟩
  refine ⟨_,rfl,L.p,dx,_,rfl,ob,no (by decide +kernel),_,rfl,_,rfl,L,ds,n,dn,day,rfl,F,c1,c2,?_⟩
  refine ⟨_,rfl,L.p,dx,_,rfl,ob,no (by decide +kernel),_,rfl,_,rfl,L,ds,he,dr,day,rfl,F,c3,c4,?_⟩
  refine ⟨_,rfl,L.p,dx,_,rfl,ob,no (by decide +kernel),_,rfl,L,ds,n,rfl,F,c5,?_⟩
  refine ⟨_,rfl,_,rfl,rfl,_,rfl,Z6 (fun z=>absurd (by injection z) c7) (fun _=>?_)⟩
  exact ⟨_,rfl,_,rfl,L.p,C,dx,_,_,rfl,ob,Tc.cl,Tc.nd,Zbk _ _ _ _,L.dd,_,rfl,g',_,rfl,Zm k⟩
def Zpu (C:Addr):Sp:=fun vs H Q _=>∃ (L:FL) (ds:List Deed) (wa:Str->Addr) (n hr:Str) (day dn dr:Int),vs = [.ref L.p,.str n,.int day,.str hr]/\Fk C H L ds wa/\ds.length<=1000/\0<=day/\day<=9999/\Zl ds n=some dn/\dn<=day/\Zl ds hr=some dr/\dr<=day/\Zp ds n=none/\Zp ds hr=none/\hr≠n /\
 ∀ H',Fk C H' L (ds ++ [.die n day hr]) wa->Touch L ds wa H H'->Zhx L ds wa (ds ++ [.die n day hr]) wa H->Q .non H'
abbrev Zam:Stmt:=Z9 (top 31) 3
theorem Z3t:FnScope ["self", "name", "day", "heir"] ["self", "name", "day", "heir"] (Za Zam):=⟨rfl,rfl,rfl,by decide +kernel,rfl,by decide +kernel,by decide +kernel⟩
theorem Zpv:Nm (Za Zam) "day" .local:=by decide +kernel
theorem Zpw:Nm (Za Zam) "heir" .local:=by decide +kernel
theorem Zjj:Nm (Za Zam) "name" .local:=by decide +kernel
theorem Zjk:Nm (Za Zam) "self" .local:=by decide +kernel
theorem Z3u (Zh2:HasM K C "die" "Folk.die" Zam) (Tc:TxC K C) (M_check_death:Mt P w K mg base C "check_death" ["self", "name", "day", "heir"] 2 (Zfy C)) :
  Mt P w K mg base C "die" ["self", "name", "day", "heir"] 3 (Zpu C):=by
 refine Zh2.mtQ Z3t (fun _ _ _ _ _ _ us hl=>match us,hl with | [_,_,_,_],_=>rfl) (fun vs H Q E h=>?_) (fun f cdv A outer s H vs Q E hr h=>?_)
 ·obtain ⟨L,ds,wa,n,hr,day,dn,dr,rfl,_⟩:=h
  rfl
 ·obtain ⟨L,ds,wa,n,he,day,dn,dr,rfl,K0,hl,d0,d1,b1,b2,b3,b4,b5,b6,b7,k⟩:=h
  refine ⟨_,(Ze (Zn (Zz (qvN 0 Zjk) Tc.cl M_check_death (hr.mono (by lia)) (Zb (qvN 1 Zjj) (Zb (qvN 2 Zpv) (Zb (qvN 3 Zpw) Zd)))))
 (Ze (Za4 hr (Zy (qvN 0 Zjk)) (qvN 1 Zjj) (qvN 2 Zpv))
 (Zg (Za4 hr (Zy (qvN 0 Zjk)) (qvN 1 Zjj) (qvN 3 Zpw))))),?_⟩
  have F:=K0.f
  obtain ⟨⟨k5,x1,x2,x3⟩,⟨k6,o1,o2⟩,wap,winj⟩:=K0.w
  obtain ⟨k9,y8,y9⟩:=K0.all
  have hkw:kw (ds ++ [.die n day he])=kw ds:=by rw [Zdw]; rfl
  have hz:(5000:Nat)<=sizeLine:=by decide
  obtain ⟨dx0,ob0⟩:=F.ob
  refine ⟨_,rfl,L.p,dx0,_,rfl,ob0,Yq _ _ _ _ (by decide +kernel),_,rfl,_,rfl,_,rfl,L,ds,n,he,day,dn,dr,rfl,F,d0,d1,b1,b2,b3,b4,b5,b6,b7,?_⟩
  obtain ⟨⟨dx,ob⟩,⟨k1,c1,c2,c3⟩,⟨k2,w2,w3⟩,⟨k3,e1,e2,e3⟩,⟨k4,h1,h2,h3⟩,a1,a2,a3,a4,a5,a6⟩:=F
  have np:L.p≠L.dd:=fun z=>by rw [z,e1] at ob; cases ob
  have np2:L.p≠L.dh:=fun z=>by rw [z,h1] at ob; cases ob
  refine ⟨_,rfl,_,rfl,L.p,C,dx,_,_,rfl,ob,Tc.cl,Tc.nd,Zbk _ _ _ _,_,rfl,L.dd,_,rfl,DPut.k (k:=Sum.inr n) e1 (by lia),?_⟩
  have T1:=SameLT.updD (kvs':=Zr k3 (Sum.inr n) (.int day)) e1
  have g1:(upd H L.dd (.dK (Zr k3 (Sum.inr n) (.int day)))) L.p=some (.ins C dx (Wr L.dc L.dw L.dd L.dh)):=by rw [Zc np]; exact ob
  have g0:∀ b o,b≠L.dd->H b=some o->(upd H L.dd (.dK (Zr k3 (Sum.inr n) (.int day)))) b=some o:=fun b o nb e=>by rw [Zc nb]; exact e
  have g2:(upd H L.dd (.dK (Zr k3 (Sum.inr n) (.int day)))) L.dd=some (.dK (Zr k3 (Sum.inr n) (.int day))):=Zi
  have g3:(upd H L.dd (.dK (Zr k3 (Sum.inr n) (.int day)))) L.dw=some (.dK k2):=by rw [Zc a4]; exact w2
  have g4:(upd H L.dd (.dK (Zr k3 (Sum.inr n) (.int day)))) L.dc=some (.dK k1):=by rw [Zc a2]; exact c1
  have g5:(upd H L.dd (.dK (Zr k3 (Sum.inr n) (.int day)))) L.dh=some (.dK k4):=by rw [Zc a6.symm]; exact h1
  generalize (upd H L.dd (.dK (Zr k3 (Sum.inr n) (.int day))))=H2 at T1 g0 g1 g2 g3 g4 g5 ⊢
  refine ⟨_,rfl,_,rfl,L.p,C,dx,_,_,rfl,g1,Tc.cl,Tc.nh,Zje _ _ _ _,_,rfl,L.dh,_,rfl,DPut.k (k:=Sum.inr n) g5 (by lia),?_⟩
  have T4:=SameLT.updD (kvs':=Zr k4 (Sum.inr n) (.str he)) g5
  have ll:=U0 k3 (Sum.inr n:Key) (V.int day)
  have ll2:=U0 k4 (Sum.inr n:Key) (V.str he)
  have lapp:(ds ++ [Deed.die n day he]).length=ds.length+1:=by rw [List.length_append]; rfl
  refine k _ ⟨⟨⟨dx,by rw [Zc np2]; exact g1⟩,⟨k1,by rw [Zc a3]; exact g4,by lia,fun x=>?_⟩,⟨k2,by rw [Zc a5]; exact g3,by lia⟩,⟨_,by rw [Zc a6]; exact g2,by lia,fun x=>?_⟩,⟨_,Zi,by lia,fun x=>?_⟩,a1,a2,a3,a4,a5,a6⟩,
   ⟨⟨k5,by rw [Zc a5]; exact g0 _ _ a4 x1,by lia,fun m l e=>?_⟩,⟨k6,by rw [Zc a3]; exact g0 _ _ a2 o1,?_⟩,fun m l e=>wap m l (by rw [← hkw]; exact e),fun m m' l l' e e' z=>winj m m' l l' (by rw [← hkw]; exact e) (by rw [← hkw]; exact e') z⟩,⟨k9,by rw [Zc a5]; exact g0 _ _ a4 y8,fun p hp=>?_⟩⟩ (fun b o e hn=>?_) (fun b hb=>?_)
  ·rw [Zlo]; exact c3 x
  ·rw [Zay,Zdg b5]
   by_cases e:x=n
   ·subst e; rw [if_pos rfl,if_pos rfl]; rfl
   ·rw [if_neg (fun z=>e (Sum.inr.inj z)),if_neg e]; exact e3 x
  ·rw [Zay,Zdg b5]
   by_cases e:x=n
   ·subst e; rw [if_pos rfl,if_pos rfl]; rfl
   ·rw [if_neg (fun z=>e (Sum.inr.inj z)),if_neg e]; exact h3 x
  ·rw [hkw] at e
   obtain ⟨q1,q2,q3⟩:=x3 m l e
   obtain ⟨_,_,z3,z4⟩:=wap m l e
   exact ⟨q1,by rw [Zc z4]; exact g0 _ _ z3 q2,by lia⟩
  ·rw [Zk4,o2]
   show _=((Ue ds) ++ []).map V.str
   rw [List.append_nil]
  ·obtain ⟨m,l,e,q⟩:=y9 p hp
   exact ⟨m,l,by rw [hkw]; exact e,q⟩
  ·rw [Zc (fun z=>hn (.inr (.inr (.inr (.inr (.inl z))))))]
   exact g0 b o (fun z=>hn (.inr (.inr (.inr (.inl z))))) e
  ·refine .inl ?_
   unfold own at hb ⊢
   rw [hkw] at hb
   exact hb
end
section
structure Enr where
 at_:Int
 d:Str
 c:Str
 m:Int
def V6 (e:Enr):D:=.tup [.int e.at_,.str e.d,.str e.c,.int e.m]
abbrev Row:=Str×Str×Int
def Wb (r:Row):D:=.tup [.str r.1,.str r.2.1,.int r.2.2]
def Zau (r:Row):List Key:=[.inr r.1,.inr r.2.1,.inl r.2.2]
def Y6 (a b x y:Str) (m:Int):Int:=(if x=a/\y=b then m else 0) - (if x=b/\y=a then m else 0)
theorem Zuv (a b x y:Str) (m:Int):Y6 b a x y m = - Y6 a b x y m:=by unfold Y6; lia
def U2 (f:Str->Str) (day:Int) (e:Enr) (a b:Str):Int:=if e.at_<=day then Y6 a b (f e.d) (f e.c) e.m else 0
def net (f:Str->Str) (day:Int) (es:List Enr) (a b:Str):Int:=(es.map fun e=>U2 f day e a b).sum
theorem Zwo {f:Str->Str}{day:Int}{es:List Enr}{i:Nat}{e:Enr}(h:es[i]? = some e) (a b:Str):net f day (es.take (i+1)) a b=net f day (es.take i) a b+U2 f day e a b:=by
 unfold net
 rw [List.take_add_one,h,List.map_append,List.sum_append]
 simp
theorem Zmh (f:Str->Str) (day:Int) (a b:Str):∀ es:List Enr,net f day es b a = - net f day es a b
 | []=>rfl
 | e::es=>by
  have ih:=Zmh f day a b es
  unfold net at ih ⊢
  rw [List.map_cons,List.map_cons,List.sum_cons,List.sum_cons,ih]
  have:U2 f day e b a = - U2 f day e a b:=by unfold U2; rw [Zuv]; split <;> lia
  lia
def Due (g:Str->Str->Int) (r:Row):Prop:=r.1≠r.2.1/\0 < r.2.2/\g r.1 r.2.1=r.2.2
def UpR (rs:List Row):Prop:=rs.Pairwise fun a b=>ltK (Zau b) (Zau a)=false
structure IsOwed (g:Str->Str->Int) (rs:List Row):Prop where
 up:UpR rs
 nd:rs.Nodup
 mem:∀ r,r∈rs↔Due g r
theorem Zwp {a b:Row}(h:Zau a=Zau b):a=b:=by
 obtain ⟨a1,a2,a3⟩:=a
 obtain ⟨b1,b2,b3⟩:=b
 unfold Zau at h
 injection h with h1 h2
 injection h2 with h2 h3
 injection h3 with h3 _
 cases h1
 cases h2
 cases h3
 rfl
theorem IsOwed.eq {g:Str->Str->Int}{rs rs':List Row}(h:IsOwed g rs) (h':IsOwed g rs'):rs=rs':=by
 refine List.Perm.eq_of_pairwise (fun a b _ _ x y=>?_) h.up h'.up ((List.perm_ext_iff_of_nodup h.nd h'.nd).mpr fun r=>by rw [h.mem,h'.mem])
 exact Zwp (Zgh _ _ rfl y x)
structure Sums (kvs:List (List Key×V)) (g:Str->Str->Int):Prop where
 key:∀ p∈kvs,∃ a b v,p=([.inr a,.inr b],.int v)/\ltS a b=true
 nd:(kvs.map (·.1)).Nodup
 val:∀ a b,ltS a b=true->Z1 kvs [.inr a,.inr b]=some (.int (g a b))\/(Z1 kvs [.inr a,.inr b]=none/\g a b=0)
theorem Sums.nil:Sums [] (fun _ _=>0):=⟨(fun p hp=>nomatch hp),List.nodup_nil,fun a b _=>.inr ⟨rfl,rfl⟩⟩
theorem Zz9 {kvs:List (List Key×V)}{k:List Key}{v:V}(h:(kvs.map (·.1)).Nodup):((Zr kvs k v).map (·.1)).Nodup:=by
 cases e:Z1 kvs k with
 | none=>exact Zxy v h e
 | some x =>
  unfold Zr
  have:(kvs.any fun kv=>decide (kv.1=k))=true:=by rw [Zab,e]; rfl
  rw [if_pos this,List.map_map]
  have e2:((fun x:List Key×V=>x.1)∘fun kv=>if kv.1=k then (kv.1,v) else kv)=fun kv=>kv.1:=by
   funext kv
   show (if kv.1=k then (kv.1,v) else kv).1=kv.1
   split <;> rfl
  rw [e2]
  exact h
theorem Zwq {l:List (List Key×V)}{k:List Key}{v:V}{p:List Key×V}(h:p∈Zr l k v):p=(k,v)\/p∈l:=by
 unfold Zr at h
 split at h
 ·obtain ⟨q,hq,e⟩:=List.mem_map.mp h
  split at e
  ·rename_i e2
   rw [← e,e2]; exact .inl rfl
  ·rw [← e]; exact .inr hq
 ·rcases List.mem_append.mp h with z | z
  ·exact .inr z
  ·exact .inl (List.mem_singleton.mp z)
theorem Sums.at {kvs:List (List Key×V)}{g:Str->Str->Int}(h:Sums kvs g) {a b:Str}(hab:ltS a b=true):(Z1 kvs [.inr a,.inr b]).getD (.int 0) = .int (g a b):=by
 rcases h.val a b hab with e | ⟨e,e2⟩
 ·rw [e]; rfl
 ·rw [e,e2]; rfl
theorem key2 {a b x y:Str}:([.inr a,.inr b]:List Key) = [.inr x,.inr y]↔a=x/\b=y:=by
 constructor
 ·intro h
  injection h with h1 h2
  injection h2 with h2 _
  cases h1
  cases h2
  exact ⟨rfl,rfl⟩
 ·rintro ⟨rfl,rfl⟩; rfl
theorem Zea {a b:Str}(h:ltS a b=true):ltS b a=false:=by
 cases e:ltS b a with
 | false=>rfl
 | true=>have:=Zz6 h e; rw [Zm5] at this; cases this
theorem Zbc {a b:Str}(h:ltS a b=true):a≠b:=fun z=>by rw [z,Zm5] at h; cases h
theorem Sums.put {kvs:List (List Key×V)}{g g':Str->Str->Int}(h:Sums kvs g) {x y:Str}(hxy:ltS x y=true) {v:Int}(hv:v=g' x y) (ho:∀ a b,ltS a b=true->¬ (a=x/\b=y)->g' a b=g a b):Sums (Zr kvs [.inr x,.inr y] (.int v)) g':=by
 refine ⟨fun p hp=>?_,Zz9 h.nd,fun a b hab=>?_⟩
 ·rcases Zwq hp with rfl | hp
  ·exact ⟨x,y,v,rfl,hxy⟩
  ·exact h.key p hp
 ·rw [Zay]
  by_cases e:a=x/\b=y
  ·rw [if_pos (key2.mpr e),hv,e.1,e.2]; exact .inl rfl
  ·rw [if_neg (fun z=>e (key2.mp z)),ho a b hab e]; exact h.val a b hab
theorem Sums.eqv {kvs:List (List Key×V)}{g g':Str->Str->Int}(h:Sums kvs g) (ho:∀ a b,ltS a b=true->g' a b=g a b):Sums kvs g' :=
 ⟨h.key,h.nd,fun a b hab=>by rw [ho a b hab]; exact h.val a b hab⟩
def tri (a b:Str) (v:Int):Row:=if 0 < v then (a,b,v) else (b,a,-v)
def Uw:List Key×V->Option Row
 | ([.inr a,.inr b],.int v)=>if v=0 then none else some (tri a b v)
 | _=>none
theorem Zfi {a b:Str}{v:Int}{r:Row}(h:Uw ([.inr a,.inr b],.int v)=some r):v≠0/\r=tri a b v:=by
 have h:(if v=0 then none else some (tri a b v))=some r:=h
 by_cases c:v=0
 ·rw [if_pos c] at h; cases h
 ·rw [if_neg c] at h; cases h; exact ⟨c,rfl⟩
theorem Zmi {kvs:List (List Key×V)}{k:List Key}{v:V}(h:Z1 kvs k=some v):(k,v)∈kvs:=by
 unfold Z1 at h
 obtain ⟨p,hp,e⟩:=Option.map_eq_some_iff.mp h
 have h1:=List.find?_some hp
 have h2:=List.mem_of_find?_eq_some hp
 have h1:p.1=k:=of_decide_eq_true h1
 rw [← h1,← e]
 exact h2
theorem Znc:∀ {kvs:List (List Key×V)}{p:List Key×V},(kvs.map (·.1)).Nodup->p∈kvs->Z1 kvs p.1=some p.2
 | q::kvs,p,hn,hp=>by
  rw [List.map_cons,List.nodup_cons] at hn
  rcases List.mem_cons.mp hp with rfl | hp
  ·exact Wz rfl
  ·rw [Va (fun z=>hn.1 (by rw [z]; exact List.mem_map.mpr ⟨p,hp,rfl⟩))]
   exact Znc hn.2 hp
theorem Zyr {g:Str->Str->Int}(ga:∀ a b,g b a = - g a b) {a b:Str}(hab:ltS a b=true) (hv:g a b≠0):Due g (tri a b (g a b)):=by
 unfold tri
 by_cases c : 0 < g a b
 ·rw [if_pos c]; exact ⟨Zbc hab,c,rfl⟩
 ·rw [if_neg c]; exact ⟨(Zbc hab).symm,by show 0 < - g a b; lia,ga a b⟩
theorem Zwr {a b a' b':Str}{v v':Int}(h:ltS a b=true) (h':ltS a' b'=true) (e:tri a b v=tri a' b' v'):a=a'/\b=b':=by
 unfold tri at e
 by_cases c : 0 < v <;> by_cases c' : 0 < v'
 ·rw [if_pos c,if_pos c'] at e; injection e with e1 e2; injection e2 with e2 _; exact ⟨e1,e2⟩
 ·rw [if_pos c,if_neg c'] at e; injection e with e1 e2; injection e2 with e2 _; rw [e1,e2,Zea h'] at h; cases h
 ·rw [if_neg c,if_pos c'] at e; injection e with e1 e2; injection e2 with e2 _; rw [e1,e2,Zea h'] at h; cases h
 ·rw [if_neg c,if_neg c'] at e; injection e with e1 e2; injection e2 with e2 _; exact ⟨e2,e1⟩
theorem Sums.owed {kvs:List (List Key×V)}{g:Str->Str->Int}(h:Sums kvs g) (ga:∀ a b,g b a = - g a b) {rs:List Row}(hp:rs.Perm (kvs.filterMap Uw)) (hup:UpR rs):IsOwed g rs:=by
 have at_:∀ p∈kvs,∃ a b,p=([.inr a,.inr b],.int (g a b))/\ltS a b=true:=fun p hp=>by
  obtain ⟨a,b,v,rfl,hab⟩:=h.key p hp
  have e:=Znc h.nd hp
  refine ⟨a,b,?_,hab⟩
  rcases h.val a b hab with z | ⟨z,_⟩
  ·rw [show Z1 kvs [.inr a,.inr b]=some (.int v) from e] at z
   injection z with z
   injection z with z
   rw [z]
  ·rw [show Z1 kvs [.inr a,.inr b]=some (.int v) from e] at z
   cases z
 refine ⟨hup,hp.nodup_iff.mpr ?_,fun r=>?_⟩
 ·have nd:=h.nd
  unfold List.Nodup at nd ⊢
  rw [List.pairwise_map] at nd
  rw [List.pairwise_filterMap]
  refine List.Pairwise.imp_of_mem ?_ nd
  intro p q hp hq hne r hr r' hr' e
  obtain ⟨a,b,rfl,hab⟩:=at_ p hp
  obtain ⟨a',b',rfl,hab'⟩:=at_ q hq
  have e1:=(Zfi hr).2
  have e2:=(Zfi hr').2
  have:=Zwr hab hab' (e1.symm.trans (e.trans e2))
  exact hne (key2.mpr this)
 ·rw [hp.mem_iff,List.mem_filterMap]
  constructor
  ·rintro ⟨p,hp,hr⟩
   obtain ⟨a,b,rfl,hab⟩:=at_ p hp
   obtain ⟨c,rfl⟩:=Zfi hr
   exact Zyr ga hab c
  ·obtain ⟨x,y,v⟩:=r
   rintro ⟨h1,h2,h3⟩
   have h1:x≠y:=h1
   have h2 : 0 < v:=h2
   have h3:g x y=v:=h3
   by_cases hxy:ltS x y=true
   ·rcases h.val x y hxy with z | ⟨_,z⟩
    ·refine ⟨_,Zmi z,?_⟩
     show (if g x y=0 then none else some (tri x y (g x y)))=some (x,y,v)
     rw [h3,if_neg (by lia)]
     unfold tri
     rw [if_pos h2]
    ·lia
   ·have hyx:ltS y x=true:=by
     cases e:ltS y x with
     | true=>rfl
     | false =>
      have hf:ltS x y=false:=by cases e2:ltS x y with | false=>rfl | true=>exact absurd e2 hxy
      exact absurd (Zm6 hf e) h1
    have h4:=ga x y
    rcases h.val y x hyx with z | ⟨_,z⟩
    ·refine ⟨_,Zmi z,?_⟩
     show (if g y x=0 then none else some (tri y x (g y x)))=some (x,y,v)
     rw [h4,h3,if_neg (by lia)]
     unfold tri
     rw [if_neg (by lia),Int.neg_neg]
    ·lia
end
section
variable {P:Program}{w:World}{K:PySem.W.Frag}{mg:Str->Option Value}{base:Heap}{C:Addr}
def Zpx:Sp:=fun vs H Q _=>∃ (g:Addr) (kvs:List (List Key×V)) (G:Str->Str->Int) (x y:Str) (m:Int),vs = [.ref g,.str x,.str y,.int m]/\H g=some (.dT kvs)/\Sums kvs G/\kvs.length<=1000 /\
 ∀ (kvs':List (List Key×V)) (H':Hp),H' g=some (.dT kvs')->Sums kvs' (fun a b=>G a b+Y6 a b x y m)->kvs'.length<=kvs.length+1->SameX g H H'->Q .non H'
theorem Zfr {a b x y:Str}{m:Int}(h1:¬ (x=a/\y=b)) (h2:¬ (x=b/\y=a)):Y6 a b x y m=0:=by
 unfold Y6
 rw [if_neg h1,if_neg h2]
 rfl
abbrev Zav:Stmt:=top 17
theorem Z3v:FnScope ["sums", "debtor", "creditor", "many"] ["sums", "debtor", "creditor", "many"] (Za Zav):=⟨rfl,rfl,rfl,by decide +kernel,rfl,by decide +kernel,by decide +kernel⟩
theorem Zbq:Nm (Za Zav) "creditor" .local:=by decide +kernel
theorem Zbr:Nm (Za Zav) "debtor" .local:=by decide +kernel
theorem Zpy:Nm (Za Zav) "many" .local:=by decide +kernel
theorem Zeu:Nm (Za Zav) "sums" .local:=by decide +kernel
theorem Z3w (Zh3:Has K mg "set_against" Zav):Fn P w K mg base "set_against" ["sums", "debtor", "creditor", "many"] 1 Zpx:=by
 refine Zh3.fnQ Z3v (fun _ _ _ _ _ _ us hl=>match us,hl with | [_,_,_,_],_=>rfl) (fun vs H Q E h=>?_) (fun f cdv A outer s H vs Q E hr h=>?_)
 ·obtain ⟨g,kvs,G,x,y,m,rfl,_⟩:=h
  rfl
 ·obtain ⟨g,kvs,G,x,y,m,rfl,hg,hS,hl,k⟩:=h
  refine ⟨_,(Zg (Zs (Zx Zkz (qvN 1 Zbr) (qvN 2 Zbq) (Zw _)) (Zg (Za4 hr (qvN 0 Zeu) (Yn (Zb (qvN 1 Zbr) (Zb (qvN 2 Zbq) Zd))) (Z0 Yy (Zl6 hr (qvN 0 Zeu) (Yn (Zb (qvN 1 Zbr) (Zb (qvN 2 Zbq) Zd))) Zf) (qvN 3 Zpy)))) (Zg (Zs (Zx Zkz (qvN 2 Zbq) (qvN 1 Zbr) (Zw _)) (Zg (Za4 hr (qvN 0 Zeu) (Yn (Zb (qvN 2 Zbq) (Zb (qvN 1 Zbr) Zd))) (Z0 Zb7 (Zl6 hr (qvN 0 Zeu) (Yn (Zb (qvN 2 Zbq) (Zb (qvN 1 Zbr) Zd))) Zf) (qvN 3 Zpy)))) Zt)))),?_⟩
  have hz:(5000:Nat)<=sizeLine:=by decide
  have put:∀ (a b:Str) (v:Int) (H1 H2:Hp) (q:Addr),ltS a b=true->Same H H1->H2 q=some (.tup [.str a,.str b])->Same H1 H2->v=G a b+Y6 a b x y m->(∀ a' b',ltS a' b'=true->¬ (a'=a/\b'=b)->Y6 a' b' x y m=0) ->
    DPut H2 g (.ref q) (.int v) (upd H2 g (.dT (Zr kvs [.inr a,.inr b] (.int v))))/\∀ R:VK,(∀ (kvs':List (List Key×V)) (H':Hp),H' g=some (.dT kvs')->Sums kvs' (fun a b=>G a b+Y6 a b x y m)->kvs'.length<=kvs.length+1->SameX g H H'->R .non H')->R .non (upd H2 g (.dT (Zr kvs [.inr a,.inr b] (.int v)))):=by
   intro a b v H1 H2 q hab s1 hq s2 hv ho
   refine ⟨DPut.t (s2 _ _ (s1 _ _ hg)) (k:=[.inr a,.inr b]) hq (by lia),fun R hR=>?_⟩
   refine hR _ _ Zi (hS.put hab hv fun a' b' h1 h2=>?_) (U0 _ _ _) fun b' o nb e=>?_
   ·show G a' b'+Y6 a' b' x y m=G a' b'
    rw [ho a' b' h1 h2,Int.add_zero]
   ·rw [Zc nb]; exact s2 _ _ (s1 _ _ e)
  refine ⟨_,rfl,_,rfl,x,y,rfl,rfl,_,rfl,Z6 (fun c=>?_) (fun c=>?_)⟩
  ·have hab:ltS x y=true:=decide_eq_true c
   refine ⟨_,rfl,g,rfl,.inr ⟨kvs,.inl hg⟩,_,rfl,_,rfl,by show 2<=sizeLine; lia,fun q hq=>?_⟩
   have S1:=Same.new (o:=.tup [.str x,.str y]) hq
   have k1:(upd H q (.tup [.str x,.str y])) q=some (.tup [.str x,.str y]):=Zi
   generalize (upd H q (.tup [.str x,.str y]))=H1 at S1 k1 ⊢
   refine ⟨_,DGet.t (S1 _ _ hg) (k:=[.inr x,.inr y]) k1,_,rfl,?_⟩
   refine ⟨G x y,m,hS.at hab,rfl,?_⟩
   refine ⟨_,rfl,_,rfl,_,rfl,by show 2<=sizeLine; lia,fun q2 hq2=>?_⟩
   have S2:=Same.new (o:=.tup [.str x,.str y]) hq2
   have k2:(upd H1 q2 (.tup [.str x,.str y])) q2=some (.tup [.str x,.str y]):=Zi
   generalize (upd H1 q2 (.tup [.str x,.str y]))=H2 at S2 k2 ⊢
   obtain ⟨p1,p2⟩:=put x y (G x y+m) H1 H2 q2 hab S1 k2 S2 (by unfold Y6; rw [if_pos ⟨rfl,rfl⟩,if_neg (fun z=>Zbc hab z.1)]; lia) (fun a' b' h1 h2=>Zfr (fun z=>h2 ⟨z.1.symm,z.2.symm⟩) (fun z=>by rw [← z.1,← z.2,Zea hab] at h1; cases h1))
   exact ⟨g,_,rfl,p1,p2 _ k⟩
  ·refine ⟨_,rfl,_,rfl,y,x,rfl,rfl,_,rfl,Z6 (fun c2=>?_) (fun c2=>?_)⟩
   ·have hab:ltS y x=true:=decide_eq_true c2
    refine ⟨_,rfl,g,rfl,.inr ⟨kvs,.inl hg⟩,_,rfl,_,rfl,by show 2<=sizeLine; lia,fun q hq=>?_⟩
    have S1:=Same.new (o:=.tup [.str y,.str x]) hq
    have k1:(upd H q (.tup [.str y,.str x])) q=some (.tup [.str y,.str x]):=Zi
    generalize (upd H q (.tup [.str y,.str x]))=H1 at S1 k1 ⊢
    refine ⟨_,DGet.t (S1 _ _ hg) (k:=[.inr y,.inr x]) k1,_,rfl,?_⟩
    refine ⟨G y x,m,hS.at hab,rfl,?_⟩
    refine ⟨_,rfl,_,rfl,_,rfl,by show 2<=sizeLine; lia,fun q2 hq2=>?_⟩
    have S2:=Same.new (o:=.tup [.str y,.str x]) hq2
    have k2:(upd H1 q2 (.tup [.str y,.str x])) q2=some (.tup [.str y,.str x]):=Zi
    generalize (upd H1 q2 (.tup [.str y,.str x]))=H2 at S2 k2 ⊢
    obtain ⟨p1,p2⟩:=put y x (G y x - m) H1 H2 q2 hab S1 k2 S2 (by unfold Y6; rw [if_neg (fun z=>Zbc hab z.1.symm),if_pos ⟨rfl,rfl⟩]; lia) (fun a' b' h1 h2=>Zfr (fun z=>by rw [← z.1,← z.2,Zea hab] at h1; cases h1) (fun z=>h2 ⟨z.2.symm,z.1.symm⟩))
    exact ⟨g,_,rfl,p1,p2 _ k⟩
   ·have e:x=y:=Zm6 (decide_eq_false c) (decide_eq_false c2)
    refine k kvs H hg (hS.eqv fun a b hab=>?_) (by lia) (fun _ _ _ e=>e)
    rw [Zfr (fun z=>Zbc hab (z.1.symm.trans (e.trans z.2))) (fun z=>Zbc hab (z.2.symm.trans (e.symm.trans z.1))),Int.add_zero]
def Zmj:Sp:=fun vs H Q _=>∃ (b:Addr) (x y:Str) (v:Int),vs = [.ref b,.int v]/\H b=some (.tup [.str x,.str y])/\∀ (p:Addr) (H':Hp),H' p=some (.tup [.str (tri x y v).1,.str (tri x y v).2.1,.int (tri x y v).2.2])->Same H H'->Q (.ref p) H'
abbrev Zcm:Stmt:=top 18
theorem Z3x:FnScope ["pair", "many"] ["pair", "many"] (Za Zcm):=⟨rfl,rfl,rfl,by decide +kernel,rfl,by decide +kernel,by decide +kernel⟩
theorem Zjl:Nm (Za Zcm) "many" .local:=by decide +kernel
theorem Zev:Nm (Za Zcm) "pair" .local:=by decide +kernel
theorem Z3y (Zh4:Has K mg "triple" Zcm):Fn P w K mg base "triple" ["pair", "many"] 1 Zmj:=by
 refine Zh4.fnQ Z3x (fun _ _ _ _ _ _ us hl=>match us,hl with | [_,_],_=>rfl) (fun vs H Q E h=>?_) (fun f cdv A outer s H vs Q E hr h=>?_)
 ·obtain ⟨b,x,y,v,rfl,_⟩:=h
  rfl
 ·obtain ⟨b,x,y,v,rfl,hb,k⟩:=h
  refine ⟨_,(Ze (Zs (Zx Zd3 (qvN 1 Zjl) Zf (Zw _)) (Zg (Zu (Yn (Zb (Zk Yl (qvN 0 Zev) Zf (fun _ _=>rfl)) (Zb (Zk Yl (qvN 0 Zev) Zf (fun _ _=>rfl)) (Zb (qvN 1 Zjl) Zd)))))) Zt)
 (Zg (Zu (Yn (Zb (Zk Yl (qvN 0 Zev) Zf (fun _ _=>rfl)) (Zb (Zk Yl (qvN 0 Zev) Zf (fun _ _=>rfl)) (Zb (Vh Vi (qvN 1 Zjl)) Zd))))))),?_⟩
  have hz:(5000:Nat)<=sizeLine:=by decide
  unfold tri at k
  refine ⟨_,rfl,_,_,rfl,rfl,_,rfl,Z6 (fun c=>?_) (fun c=>?_)⟩
  ·rw [if_pos c] at k
   exact ⟨_,rfl,b,_,0,.str x,rfl,rfl,SqT.of hb,rfl,_,rfl,b,_,1,.str y,rfl,rfl,SqT.of hb,rfl,_,rfl,by show 3<=sizeLine; lia,fun p hp=>k p _ Zi (Same.new hp)⟩
  ·rw [if_neg c] at k
   exact ⟨_,rfl,b,_,1,.str y,rfl,rfl,SqT.of hb,rfl,_,rfl,b,_,0,.str x,rfl,rfl,SqT.of hb,rfl,_,rfl,_,rfl,by show 3<=sizeLine; lia,fun p hp=>k p _ Zi (Same.new hp)⟩
theorem Znd {H:Hp}{r:Row}{v:V}(h:Rep H (Wb r) v):∃ a,v = .ref a/\H a=some (.tup [.str r.1,.str r.2.1,.int r.2.2]):=by
 obtain ⟨a,vs,e,h1,⟨x,r1,rfl,e1,⟨y,r2,rfl,e2,⟨z,r3,rfl,e3,e4⟩⟩⟩⟩:=h
 cases e1
 cases e2
 cases e3
 cases e4
 exact ⟨a,e,h1⟩
theorem Zcc {H:Hp}{r:Row}{a:Addr}(h:H a=some (.tup [.str r.1,.str r.2.1,.int r.2.2])):Rep H (Wb r) (.ref a):=⟨a,_,rfl,h,⟨_,_,rfl,rfl,⟨_,_,rfl,rfl,⟨_,_,rfl,rfl,rfl⟩⟩⟩⟩
theorem Zne {H:Hp}{e:Enr}{v:V}(h:Rep H (V6 e) v):∃ a,v = .ref a/\H a=some (.tup [.int e.at_,.str e.d,.str e.c,.int e.m]):=by
 obtain ⟨a,vs,ev,h1,⟨x,r1,rfl,e1,⟨y,r2,rfl,e2,⟨z,r3,rfl,e3,⟨u,r4,rfl,e4,e5⟩⟩⟩⟩⟩:=h
 cases e1
 cases e2
 cases e3
 cases e4
 cases e5
 exact ⟨a,ev,h1⟩
theorem Zn9 {H:Hp}{e:Enr}{a:Addr}(h:H a=some (.tup [.int e.at_,.str e.d,.str e.c,.int e.m])):Rep H (V6 e) (.ref a):=⟨a,_,rfl,h,⟨_,_,rfl,rfl,⟨_,_,rfl,rfl,⟨_,_,rfl,rfl,⟨_,_,rfl,rfl,rfl⟩⟩⟩⟩⟩
theorem Z0a {α:Type}{φ : α->D}{H:Hp}{xs:List α}{vs:List V}{i:Nat}{v:V}(h:RepL H (xs.map φ) vs) (hv:vs[i]? = some v):∃ x,xs[i]? = some x/\Rep H (φ x) v:=by
 obtain ⟨d,hd,hr⟩:=h.get hv
 rw [List.getElem?_map] at hd
 obtain ⟨x,hx,e⟩:=Option.map_eq_some_iff.mp hd
 exact ⟨x,hx,by rw [e]; exact hr⟩
theorem Znf {α:Type}{φ : α->D}{H:Hp}{xs:List α}{vs:List V}(h:RepL H (xs.map φ) vs):vs.length=xs.length:=by
 have:=h.length
 rw [List.length_map] at this
 exact this
def U3:List Key->Row
 | [.inr a,.inr b,.inl v]=>(a,b,v)
 | _=>(e0,e0,0)
theorem Zgl {k:List Key}(h:shp k = [false,false,true]):Zau (U3 k)=k:=by
 match k,h with
 | [.inr a,.inr b,.inl v],_=>rfl
theorem Zpz {H:Hp}:∀ {os:List Row}{vs:List V},RepL H (os.map Wb) vs->∃ ps:List (Addr×List Key),vs=ps.map (fun p=>V.ref p.1)/\ps.map (fun p=>U3 p.2)=os/\∀ p∈ps,L2.TupAt H p/\shp p.2 = [false,false,true]
 | [],vs,h=>by cases h; exact ⟨[],rfl,rfl,fun _ z=>nomatch z⟩
 | o::os,vs,⟨v,r,e,h1,h2⟩=>by
  obtain ⟨a,rfl,ha⟩:=Znd h1
  obtain ⟨ps,rfl,e2,h3⟩:=Zpz h2
  subst e
  refine ⟨(a,Zau o)::ps,rfl,by rw [List.map_cons,e2]; rfl,fun p hp=>?_⟩
  rcases List.mem_cons.mp hp with rfl | hp
  ·exact ⟨ha,rfl⟩
  ·exact h3 p hp
theorem Zrn {H:Hp}:∀ ps:List (Addr×List Key),(∀ p∈ps,L2.TupAt H p/\shp p.2 = [false,false,true])->RepL H ((ps.map fun p=>U3 p.2).map Wb) (ps.map fun p=>V.ref p.1)
 | [],_=>rfl
 | p::ps,h=>by
  obtain ⟨h1,h2⟩:=h p List.mem_cons_self
  refine ⟨.ref p.1,_,rfl,Zcc ?_,Zrn ps fun q hq=>h q (List.mem_cons_of_mem _ hq)⟩
  have e:p.2.map kV = [.str (U3 p.2).1,.str (U3 p.2).2.1,.int (U3 p.2).2.2]:=by rw [← Zgl h2]; rfl
  unfold L2.TupAt at h1
  rw [← e]
  exact h1
def Zjm (ds:List Deed) (day:Int) (f:Str->Str):Prop:=∀ n,∃ b,b<=40/\Stands ds day b n (f n)
def Zoa (C:Addr):Sp:=fun vs H Q _=>∃ (L:FL) (ds:List Deed) (le:Addr) (us:List V) (es:List Enr) (day:Int) (f:Str->Str),vs = [.ref le,.ref L.p,.int day]/\FolkAt C H L ds/\H le=some (.lst us)/\RepL H (es.map V6) us/\Zjm ds day f/\es.length < 64 /\
 ∀ (l2:Addr) (ms:List V) (rs:List Row) (H':Hp),H l2=none->H' l2=some (.lst ms)->RepL H' (rs.map Wb) ms->IsOwed (net f day es) rs->rs.length < 64->Same H H'->Q (.ref l2) H'
abbrev Ws:Stmt:=top 15
theorem Zbf:FnScope ["entries", "folk", "day", "sums", "since", "debtor", "creditor", "many"] ["entries", "folk", "day"] (Za Ws):=⟨rfl,rfl,rfl,by decide +kernel,rfl,by decide +kernel,by decide +kernel⟩
theorem Zp0:Nm (Za Ws) "creditor" .local:=by decide +kernel
theorem Zjn:Nm (Za Ws) "day" .local:=by decide +kernel
theorem Zp1:Nm (Za Ws) "debtor" .local:=by decide +kernel
theorem Z3z:Nm (Za Ws) "entries" .local:=by decide +kernel
theorem Zp2:Nm (Za Ws) "folk" .local:=by decide +kernel
theorem Zp3:Nm (Za Ws) "many" .local:=by decide +kernel
theorem Z30:Nm (Za Ws) "set_against" .globalImplicit:=by decide +kernel
theorem Zp4:Nm (Za Ws) "since" .local:=by decide +kernel
theorem Z31:Nm (Za Ws) "sorted" .globalImplicit:=by decide +kernel
theorem Zjo:Nm (Za Ws) "sums" .local:=by decide +kernel
theorem Z32 (Zh5:Has K mg "owed" Ws) (T:Txt mg) (Tc:TxC K C) (M_stand_in:Mt P w K mg base C "stand_in" ["self", "name", "day"] 2 (Zfp C)) (Z33:Fn P w K mg base "set_against" ["sums", "debtor", "creditor", "many"] 1 Zpx)
  (Z34:Fn P w K mg base "triple" ["pair", "many"] 1 Zmj):Fn P w K mg base "owed" ["entries", "folk", "day"] 3 (Zoa C):=by
 refine Zh5.fnQ Zbf (fun _ _ _ _ _ _ us hl=>match us,hl with | [_,_,_],_=>rfl) (fun vs H Q E h=>?_) (fun f cdv A outer s H vs Q E hr h=>?_)
 ·obtain ⟨L,ds,le,us,es,day,f,rfl,_⟩:=h
  rfl
 ·obtain ⟨L,ds,le,us,es,day,f,rfl,F0,hle,hes,hst,hel,k⟩:=h
  refine ⟨_,(Ze (Z2 (i:=3) Zbf.nd Zjo Zv6)
 (Ze (Wo PassesOwn.never rfl (Vu (qvN 0 Z3z)) (Zg0 (by rfl) (Vb (Y8 (i:=4) Zbf.nd Zp4) (Vb (Y8 (i:=5) Zbf.nd Zp1) (Vb (Y8 (i:=6) Zbf.nd Zp0) (Vb (Y8 (i:=7) Zbf.nd Zp3) Zb4)))))
 (Zg (Zs (Zx Wn (qvN 4 Zp4) (qvN 2 Zjn) (Zw _)) (Zg (Zn (Zq Z33 (hr.mono (by lia)) Z30 (Zb (qvN 3 Zjo) (Zb (Zz (qvN 1 Zp2) Tc.cl M_stand_in (hr.mono (by lia)) (Zb (qvN 5 Zp1) (Zb (qvN 2 Zjn) Zd))) (Zb (Zz (qvN 1 Zp2) Tc.cl M_stand_in (hr.mono (by lia)) (Zb (qvN 6 Zp0) (Zb (qvN 2 Zjn) Zd))) (Zb (qvN 7 Zp3) Zd))))))) Zt)))
 (Zg (Zu (Z4 Zry Z31 T.sorted Zdh (Zb (Zv9 (Za0 (locs:=["pair", "many"]) (fr:=[]) ⟨rfl,by decide +kernel,by decide +kernel,by decide +kernel,by decide +kernel,by decide +kernel⟩ .nil rfl (Zun (qvN 3 Zjo)) ⟨fun _ _ _ _ _ _=>by
  have cnd:(inN ["pair", "many"] []).Nodup:=by decide +kernel
  exact ⟨(Zmz 2 (by rfl) (Vb (Uj 0 cnd) (Vb (Uj 1 cnd) Zb4))),(Zgd (Zx Za9 (V3 1) Zf (Zw _))),(Zq Z34 (hr.mono (by lia)) nmC (Zb (V3 0) (Zb (V3 1) Zd)))⟩⟩)) Zd)))))),?_⟩
  have hz:(5000:Nat)<=sizeLine:=by decide
  have hul:us.length=es.length:=Znf hes
  intro g hg
  have S0:Same H (upd H g (.dT [])):=Same.new hg
  refine ⟨_,rfl,le,rfl,⟨_,SqL.of (S0 _ _ hle)⟩,?_⟩
  refine Zag us (fun i σ H'=>∃ (kvs:List (List Key×V)) (v4 v5 v6 v7:Option V),σ = [some (.ref le),some (.ref L.p),some (.int day),some (.ref g),v4,v5,v6,v7]/\H' g=some (.dT kvs)/\Sums kvs (net f day (es.take i))/\kvs.length<=i/\Same H H')
   ⟨[],none,none,none,none,rfl,Zi,Sums.nil,Nat.le_refl _,S0⟩ (fun i σ H' _ ⟨_,_,_,_,_,_,_,_,_,e⟩=>SqL.of (e _ _ hle)) ?_ ?_
  ·rintro i x σ H' hx ⟨kvs,v4,v5,v6,v7,rfl,hg',hS,hkl,sm⟩
   have hi:=(List.getElem?_eq_some_iff.mp hx).1
   obtain ⟨e,he,hre⟩:=Z0a hes hx
   obtain ⟨a,rfl,ha⟩:=Zne hre
   have et:=fun a b=>Zwo (f:=f) (day:=day) he a b
   refine ⟨a,_,rfl,SqT.of (sm _ _ ha),rfl,_,_,rfl,_,_,rfl,_,_,rfl,_,_,rfl,rfl,?_⟩
   refine ⟨_,rfl,_,rfl,_,_,rfl,rfl,_,rfl,Z6 (fun c=>?_) (fun c=>?_)⟩
   ·have F1:=F0.keep (Same.n sm)
    obtain ⟨dx,ob⟩:=F1.ob
    obtain ⟨b1,_,st1⟩:=hst e.d
    obtain ⟨b2,_,st2⟩:=hst e.c
    refine ⟨_,rfl,_,rfl,L.p,dx,_,rfl,ob,Yq _ _ _ _ (by decide +kernel),_,rfl,_,rfl,L,ds,e.d,f e.d,day,b1,rfl,F1,st1,?_⟩
    refine ⟨_,rfl,L.p,dx,_,rfl,ob,Yq _ _ _ _ (by decide +kernel),_,rfl,_,rfl,L,ds,e.c,f e.c,day,b2,rfl,F1,st2,?_⟩
    refine ⟨_,rfl,g,kvs,net f day (es.take i),f e.d,f e.c,e.m,rfl,hg',hS,by lia,fun kvs' H2 hg2 hS2 hl2 sx2=>?_⟩
    refine ⟨kvs',_,_,_,_,rfl,hg2,hS2.eqv fun a b _=>?_,by lia,fun b o e'=>sx2 b o (fun z=>by rw [z,hg] at e'; cases e') (sm _ _ e')⟩
    rw [et a b]
    unfold U2
    rw [if_pos c]
   ·refine ⟨kvs,_,_,_,_,rfl,hg',hS.eqv fun a b _=>?_,by lia,sm⟩
    rw [et a b]
    unfold U2
    rw [if_neg c,Int.add_zero]
  ·rintro σ H1 ⟨kvs,v4,v5,v6,v7,rfl,hg1,hS,hkl,sm1⟩
   rw [hul,List.take_length] at hS
   rw [hul] at hkl
   refine ⟨g,kvs,hg1,fun o=>?_⟩
   refine ⟨_,rfl,g,o,kvs,rfl,Zi,?_⟩
   have fr:∀ b u,b≠g->H1 b=some u->(upd H1 g (.frz o (.dT kvs))) b=some u:=fun b u nb e=>by rw [Zc nb]; exact e
   refine Zsl (fun i ys H'=>H' g=some (.frz o (.dT kvs))/\SameX g H1 H'/\RepL H' (((kvs.take i).filterMap Uw).map Wb) ys) ⟨Zi,fun b u nb e=>fr b u nb e,rfl⟩ (by lia) (fun i ys H' _ h=>h.1) ?_ ?_ ?_
   ·rintro i ys H' ⟨_,_,h⟩
    rw [Znf h]
    refine Nat.le_trans (List.length_filterMap_le _ _) ?_
    rw [List.length_take]; lia
   ·rintro i x a p ys H' hx ha ⟨hg',sx,hr⟩ hp ls hls
    obtain ⟨w1,w2,rfl⟩:=Zrg hls
    obtain ⟨xa,xb,xv,rfl,hab⟩:=hS.key x (List.mem_of_getElem? hx)
    have Sp:=Same.new (o:=.tup [.ref a,.int xv]) hp
    have kp:(upd H' p (.tup [.ref a,.int xv])) p=some (.tup [.ref a,.int xv]):=Zi
    generalize (upd H' p (.tup [.ref a,.int xv]))=H2 at Sp kp ⊢
    have hgp:=Sp _ _ hg'
    have sx2:SameX g H1 H2:=fun b u nb e=>Sp _ _ (sx b u nb e)
    refine ⟨p,_,rfl,SqT.of kp,rfl,_,_,rfl,_,_,rfl,rfl,⟨[_,_],rfl,rfl⟩,?_⟩
    have e9:(kvs.take (i+1)).filterMap Uw=(kvs.take i).filterMap Uw++(if xv=0 then [] else [tri xa xb xv]):=by
     rw [List.take_add_one,hx,List.filterMap_append]
     have:Uw ([.inr xa,.inr xb],.int xv)=if xv=0 then none else some (tri xa xb xv):=rfl
     by_cases c:xv=0
     ·rw [if_pos c] at this ⊢; simp [this]
     ·rw [if_neg c] at this ⊢; simp [this]
    refine ⟨_,rfl,rfl,_,rfl,Y4 (fun c=>?_) (fun c=>?_)⟩
    ·have c':xv≠0:=fun z=>c (by rw [z])
     refine ⟨_,rfl,_,rfl,a,xa,xb,xv,rfl,Sp _ _ ha,fun t H3 ht s3=>?_⟩
     refine ⟨s3 _ _ hgp,fun b u nb e=>s3 _ _ (sx2 b u nb e),?_⟩
     rw [e9,if_neg c',List.map_append]
     exact RepL.snoc (Zcc ht) ((hr.mono' Sp).mono' s3)
    ·have c':xv=0:=by injection c
     refine ⟨hgp,sx2,?_⟩
     rw [e9,if_pos c',List.append_nil]
     exact hr.mono' Sp
   ·rintro ys H2 ⟨hg2,sx2,hr2⟩ l hl
    rw [List.take_length] at hr2
    have ngl:g≠l:=fun z=>by rw [← z,hg2] at hl; cases hl
    refine ⟨by rw [Zc ngl]; exact hg2,?_⟩
    have tt:∀ {rs:List Row}{vs:List V},RepL H2 (rs.map Wb) vs->RepL (upd (upd H2 l (.lst ys)) g (.dT kvs)) (rs.map Wb) vs:=by
     intro rs
     induction rs with
     | nil=>intro vs h; exact h
     | cons r rs ih =>
      rintro vs ⟨v,r',e,h1,h2⟩
      obtain ⟨a,rfl,ha⟩:=Znd h1
      refine ⟨.ref a,r',e,Zcc ?_,ih h2⟩
      rw [Zc (fun z=>by rw [z,hg2] at ha; cases ha),Zc (Zh ha hl)]
      exact ha
    have hr3:=tt hr2
    have S3:Same H (upd (upd H2 l (.lst ys)) g (.dT kvs)):=fun b u e=>by
     have ng:b≠g:=fun z=>by rw [z,hg] at e; cases e
     have e1:=sx2 b u ng (sm1 _ _ e)
     rw [Zc ng,Zc (Zh e1 hl)]
     exact e1
    have kl:(upd (upd H2 l (.lst ys)) g (.dT kvs)) l=some (.lst ys):=by rw [Zc ngl.symm,Zi]
    generalize (upd (upd H2 l (.lst ys)) g (.dT kvs))=H3 at hr3 S3 kl ⊢
    obtain ⟨ps,rfl,eps,hps⟩:=Zpz hr3
    have hpl:ps.length=(kvs.filterMap Uw).length:=by rw [← eps,List.length_map]
    have hfl:=List.length_filterMap_le Uw kvs
    refine ⟨l,ps,[false,false,true],rfl,SqL.of kl,by lia,hps,(fun z=>nomatch z),fun l2 ms hl2 hperm hup=>?_⟩
    have S4:=Same.new (o:=.lst (ms.map fun p=>V.ref p.1)) hl2
    have hms:∀ p∈ms,L2.TupAt H3 p/\shp p.2 = [false,false,true]:=fun p hp=>hps p (hperm.mem_iff.mp hp)
    have hml:=hperm.length_eq
    refine k l2 (ms.map fun p=>V.ref p.1) (ms.map fun p=>U3 p.2) _ (S3.free hl2) Zi (Zrn ms fun p hp=>⟨S4 _ _ (hms p hp).1,(hms p hp).2⟩) ?_ (by rw [List.length_map]; lia) (S3.trans S4)
    refine hS.owed (fun a b=>Zmh f day a b es) ?_ ?_
    ·have:=hperm.map fun p:Addr×List Key=>U3 p.2
     rw [eps] at this
     exact this
    ·unfold UpR
     rw [List.pairwise_map]
     refine List.Pairwise.imp_of_mem ?_ hup
     intro a b ha hb h
     rw [Zgl (hms a ha).2,Zgl (hms b hb).2]
     exact h
end
def Zan (H H':Hp):Prop:=∀ b xs,H b=some (.tup xs)->H' b=some (.tup xs)
theorem Zao {l:Addr}{H:Hp}{xs:List V}{o:HO}(hl:H l=some (.lst xs)):Zan H (upd H l o):=fun b ys e=>by
 rw [Zc (fun z=>by rw [z,hl] at e; cases e)]; exact e
theorem Zgm {a b:Str}(h:a≠b):¬ (V.str a=V.str b):=fun z=>h (by injection z)
section
variable {P:Program}{w:World}{K:PySem.W.Frag}{mg:Str->Option Value}{base:Heap}{C:Addr}
def TR (H:Hp):List (List V)->List V->Prop
 | [],vs=>vs = []
 | x::r,vs=>∃ a vs',vs = .ref a::vs'/\H a=some (.tup x)/\TR H r vs'
theorem TR.mono {H H':Hp}(k:Zan H H'):∀ {xs:List (List V)}{vs:List V},TR H xs vs->TR H' xs vs
 | [],_,h=>h
 | _::_,_,⟨a,vs',e,h1,h2⟩=>⟨a,vs',e,k _ _ h1,TR.mono k h2⟩
theorem TR.length {H:Hp}:∀ {xs:List (List V)}{vs:List V},TR H xs vs->vs.length=xs.length
 | [],_,h=>by cases h; rfl
 | _::_,_,⟨a,vs',e,h1,h2⟩=>by rw [e,List.length_cons,List.length_cons,TR.length h2]
theorem TR.app {H:Hp}:∀ {xs ys:List (List V)}{vs us:List V},TR H xs vs->TR H ys us->TR H (xs++ys) (vs++us)
 | [],_,_,_,h,g=>by cases h; exact g
 | _::_,_,_,_,⟨a,vs',e,h1,h2⟩,g=>by subst e; exact ⟨a,_,rfl,h1,TR.app h2 g⟩
theorem TR.snoc {H:Hp}{x:List V}{a:Addr}(hx:H a=some (.tup x)) {xs:List (List V)}{vs:List V}(h:TR H xs vs):TR H (xs ++ [x]) (vs ++ [.ref a]):=h.app ⟨a,[],rfl,hx,rfl⟩
theorem TR.get {H:Hp}:∀ {xs:List (List V)}{vs:List V}{i:Nat}{v:V},TR H xs vs->vs[i]? = some v->∃ x a,xs[i]? = some x/\v = .ref a/\H a=some (.tup x)
 | [],vs,i,v,h,e=>by cases h; simp at e
 | x::xs,vs,i,v,⟨a,vs',e1,h1,h2⟩,e=>by
  subst e1
  cases i with
  | zero=>simp at e; subst e; exact ⟨x,a,rfl,rfl,h1⟩
  | succ i=>simp at e; exact TR.get (i:=i) h2 e
theorem TR.split {H:Hp}:∀ {xs ys:List (List V)}{vs:List V},TR H (xs++ys) vs->∃ us ws,vs=us++ws/\TR H xs us/\TR H ys ws
 | [],_,vs,h=>⟨[],vs,rfl,rfl,h⟩
 | x::xs,ys,vs,⟨a,vs',e,h1,h2⟩=>by
  obtain ⟨us,ws,e2,h3,h4⟩:=TR.split h2
  exact ⟨.ref a::us,ws,by rw [e,e2]; rfl,⟨a,us,rfl,h1,h3⟩,h4⟩
theorem TR.last {H:Hp}{xs:List (List V)}{x:List V}{vs:List V}(h:TR H (xs ++ [x]) vs):∃ us a,vs=us ++ [.ref a]/\TR H xs us/\H a=some (.tup x):=by
 obtain ⟨us,ws,e,h1,a,w2,e2,h2,h3⟩:=h.split
 cases h3
 subst e2
 exact ⟨us,a,e,h1,h2⟩
theorem TR.pick {H:Hp}{xs:List (List V)}{vs:List V}(h:TR H xs vs):∀ p:List Nat,(∀ i∈p,i < xs.length)->TR H (p.map fun i=>xs.getD i []) (p.map fun i=>vs.getD i .non)
 | [],_=>rfl
 | i::p,hp=>by
  have hi:=hp i List.mem_cons_self
  have hl:=h.length
  obtain ⟨x,a,e1,e2,e3⟩:=h.get (List.getElem?_eq_getElem (show i < vs.length by lia))
  refine ⟨a,_,?_,?_,TR.pick h p fun j hj=>hp j (List.mem_cons_of_mem _ hj)⟩
  ·show vs.getD i .non::_=_
   rw [List.getD_eq_getElem?_getD,List.getElem?_eq_getElem (show i < vs.length by lia),e2]
   rfl
  ·show H a=some (.tup (xs.getD i []))
   rw [List.getD_eq_getElem?_getD,e1]; exact e3
theorem Zb2 {us:List V}{v:V}:atI (us ++ [v]) (-1)=some v:=by
 unfold atI ixN
 have hl:(us ++ [v]).length=us.length+1:=by rw [List.length_append]; rfl
 rw [hl,if_neg (by lia),if_pos (by lia)]
 show (us ++ [v])[((-1:Int)+((us.length+1:Nat):Int)).toNat]? = some v
 rw [show ((-1:Int)+((us.length+1:Nat):Int)).toNat=us.length by lia,List.getElem?_append_right (Nat.le_refl _)]
 simp
structure Ev where
 at_:Int
 g:Option Str
 t:Str
structure Stp where
 at_:Int
 wd:Str
 g:Option Str
 t:Str
def oV:Option Str->V
 | none=>.non
 | some x=>.str x
def oD:Option Str->D
 | none=>.non
 | some x=>.str x
def Ev.wd (e:Ev):Str:=match e.g with
 | none => "won"
 | some _ => "given"
def evV (e:Ev):List V:=[.int e.at_,.str e.wd,oV e.g,.str e.t]
def stV (s:Stp):List V:=[.int s.at_,.str s.wd,oV s.g,.str s.t]
def stD (s:Stp):D:=.tup [.int s.at_,.str s.wd,oD s.g,.str s.t]
theorem Z0b {H:Hp}(o:Option Str):Rep H (oD o) (oV o):=by cases o <;> rfl
theorem Z0c {H:Hp}{s:Stp}{a:Addr}(h:H a=some (.tup (stV s))):Rep H (stD s) (.ref a):=⟨a,_,rfl,h,⟨_,_,rfl,rfl,⟨_,_,rfl,rfl,⟨_,_,rfl,Z0b _,⟨_,_,rfl,rfl,rfl⟩⟩⟩⟩⟩
theorem TR.sts {H:Hp}:∀ {ss:List Stp}{vs:List V},TR H (ss.map stV) vs->RepL H (ss.map stD) vs
 | [],_,h=>h
 | _::_,_,⟨a,vs',e,h1,h2⟩=>⟨.ref a,vs',e,Z0c h1,TR.sts h2⟩
theorem TR.evGet {H:Hp}{es:List Ev}{vs:List V}{i:Nat}{v:V}(h:TR H (es.map evV) vs) (hv:vs[i]? = some v):∃ e a,es[i]? = some e/\v = .ref a/\H a=some (.tup (evV e)):=by
 obtain ⟨x,a,e1,e2,e3⟩:=h.get hv
 rw [List.getElem?_map] at e1
 obtain ⟨e,h1,h2⟩:=Option.map_eq_some_iff.mp e1
 subst h2
 exact ⟨e,a,h1,e2,e3⟩
def Vz (s:Stp) (x:Int×Str):Stp:=⟨if s.at_ > x.1 then s.at_ else x.1, "left", some s.t,x.2⟩
def lvF (ds:List Deed) (day:Int):Nat->Stp->List Stp
 | 0,_=>[]
 | n+1,s=>match Zp ds s.t with
  | some x=>if x.1<=day then Vz s x::lvF ds day n (Vz s x) else []
  | none=>[]
inductive Lv (ds:List Deed) (day:Int):Nat->Stp->List Stp->Prop where
 | here {s:Stp}:Yp ds s.t day=false->Lv ds day 0 s []
 | step {s:Stp}{x:Int×Str}{k:Nat}{l:List Stp}:Zp ds s.t=some x->Yp ds s.t day=true->Lv ds day k (Vz s x) l->Lv ds day (k+1) s (Vz s x::l)
theorem Lv.len {ds:List Deed}{day:Int}{k:Nat}{s:Stp}{l:List Stp}(h:Lv ds day k s l):l.length=k:=by
 induction h with
 | here _=>rfl
 | step _ _ _ ih=>rw [List.length_cons,ih]
theorem Lv.fn {ds:List Deed}{day:Int}{k:Nat}{s:Stp}{l:List Stp}(h:Lv ds day k s l):∀ n,k<=n->lvF ds day n s=l:=by
 induction h with
 | @here s e =>
  intro n _
  cases n with
  | zero=>rfl
  | succ n =>
   rw [lvF]
   unfold Yp at e
   cases e2:Zp ds s.t with
   | none=>rfl
   | some x=>rw [e2] at e; dsimp only at e ⊢; rw [if_neg (of_decide_eq_false e)]
 | @step s x k l e1 e2 _ ih =>
  intro n hn
  cases n with
  | zero=>lia
  | succ n =>
   rw [lvF,e1]
   unfold Yp at e2
   rw [e1] at e2
   dsimp only at e2 ⊢
   rw [if_pos (of_decide_eq_true e2),ih n (by lia)]
theorem Z35 {ds:List Deed}{day:Int}{k:Nat}{n m:Str}(h:Stands ds day k n m):∀ s:Stp,s.t=n->∃ l,Lv ds day k s l:=by
 induction h with
 | here e=>intro s hs; subst hs; exact ⟨[],.here e⟩
 | step e1 e2 _ ih=>intro s hs; subst hs; obtain ⟨l,hl⟩:=ih (Vz s _) rfl; exact ⟨_,.step e1 e2 hl⟩
def Ends' (ds:List Deed):Prop:=∀ (n:Str) (day:Int),∃ k m,Stands ds day k n m/\k<=40
def lv (ds:List Deed) (day:Int) (s:Stp):List Stp:=lvF ds day 40 s
theorem Ends'.lv {ds:List Deed}(h:Ends' ds) (day:Int) (s:Stp):∃ k,Lv ds day k s (lv ds day s)/\k<=40:=by
 obtain ⟨k,m,a,b⟩:=h s.t day
 obtain ⟨l,hl⟩:=Z35 a s rfl
 exact ⟨k,by unfold Law.lv; rw [hl.fn 40 b]; exact hl,b⟩
def s00:Stp:=⟨0,⟨#[]⟩,none,⟨#[]⟩⟩
def Yw (st:List Stp):Stp:=st.getLastD s00
theorem Ztl (st:List Stp) (s:Stp):Yw (st ++ [s])=s:=by unfold Yw; simp
theorem Zfz {st:List Stp}(h:st ≠ []):∃ ss,st=ss ++ [Yw st]:=⟨st.dropLast,by
 unfold Yw
 rw [List.getLastD_eq_getLast?,List.getLast?_eq_some_getLast h]
 exact (List.dropLast_concat_getLast h).symm⟩
def Uf (st:List Stp) (e:Ev):List Stp:=if e.g=none\/e.g=some (Yw st).t then st ++ [⟨e.at_,e.wd,some (Yw st).t,e.t⟩] else st
def Wj (ds:List Deed) (day:Int) (st:List Stp):List Stp:=st++lv ds day (Yw st)
def Y7 (ds:List Deed) (st:List Stp) (e:Ev):List Stp:=Uf (Wj ds e.at_ st) e
theorem Zmk {ds:List Deed}{day:Int}{st:List Stp}(h:st ≠ []):Wj ds day st ≠ []:=by unfold Wj; simp [h]
theorem Zws {st:List Stp}{e:Ev}(h:st ≠ []):Uf st e ≠ []:=by unfold Uf; split <;> simp [h]
theorem Zwt {ds:List Deed}{st:List Stp}{e:Ev}(h:st ≠ []):Y7 ds st e ≠ []:=Zws (Zmk h)
theorem Zgn {ds:List Deed}:∀ {es:List Ev}{st:List Stp},st ≠ []->es.foldl (Y7 ds) st ≠ []
 | [],_,h=>h
 | _::r,_,h=>Zgn (es:=r) (Zwt h)
theorem Z0d {ds:List Deed}(E:Ends' ds) (day:Int) (s:Stp):(lv ds day s).length<=40:=by
 obtain ⟨k,h,hk⟩:=E.lv day s
 rw [h.len]; exact hk
theorem Zlp {ds:List Deed}(E:Ends' ds) (day:Int) (st:List Stp):(Wj ds day st).length<=st.length+40:=by
 unfold Wj
 rw [List.length_append]
 have:=Z0d E day (Yw st)
 lia
theorem Zuw (st:List Stp) (e:Ev):(Uf st e).length<=st.length+1:=by
 unfold Uf
 split
 ·rw [List.length_append]; exact Nat.le_refl _
 ·lia
theorem Zux {ds:List Deed}(E:Ends' ds) (st:List Stp) (e:Ev):(Y7 ds st e).length<=st.length+41:=by
 have:=Zlp E e.at_ st
 have:=Zuw (Wj ds e.at_ st) e
 unfold Y7
 lia
theorem Zf0 {ds:List Deed}(E:Ends' ds):∀ (es:List Ev) (st:List Stp),(es.foldl (Y7 ds) st).length<=st.length+41 * es.length
 | [],st=>by simp
 | e::r,st=>by
  have h1:=Zf0 E r (Y7 ds st e)
  have h2:=Zux E st e
  rw [List.foldl_cons,List.length_cons]
  lia
def byD (lo:Int) (n:Nat) (es:List Ev):List Ev:=(List.range n).flatMap fun (i:Nat)=>es.filter fun e=>decide (e.at_=lo+i)
def Yr (n:Str) (d0:Int):Stp:=⟨d0, "brought", none,n⟩
def Ug (ds:List Deed) (n:Str) (d0:Int) (es:List Ev) (day:Int):List Stp :=
 if day < d0 then [] else Wj ds day ((byD d0 (day+1 - d0).toNat es).foldl (Y7 ds) [Yr n d0])
theorem Zwu {α:Type}(l:List α) (d : α):(List.range l.length).map (fun i=>l.getD i d)=l:=by
 apply List.ext_getElem
 ·simp
 ·intro i h1 h2
  simp [h2]
theorem Zso {α:Type}(l:List α) (d : α) (f : α->Bool):((List.range l.length).filter fun i=>f (l.getD i d)).map (fun i=>l.getD i d)=l.filter f:=by
 have e:l.filter f=((List.range l.length).map fun i=>l.getD i d).filter f:=by rw [Zwu]
 rw [e,List.filter_map]
 rfl
theorem Zsp {es:List Ev}{e0:Ev}{lo:Int}{n:Nat}{p:List Nat}(hp:p.Perm (List.range es.length)) (hs:p.Pairwise (LKb false (es.map (·.at_)))) (hd:∀ e∈es,lo<=e.at_/\e.at_ < lo+n):(p.map fun i=>es.getD i e0)=byD lo n es:=by
 have key:∀ i,i < es.length->kI (es.map (·.at_)) i=(es.getD i e0).at_:=fun i hi=>by
  unfold kI
  rw [List.getD_eq_getElem?_getD,List.getD_eq_getElem?_getD,List.getElem?_map,List.getElem?_eq_getElem hi]
  rfl
 have q:p=(List.range n).flatMap fun (i:Nat)=>(List.range es.length).filter fun j=>decide ((es.getD j e0).at_=lo+i):=by
  have memq:∀ j,j∈((List.range n).flatMap fun (i:Nat)=>(List.range es.length).filter fun j=>decide ((es.getD j e0).at_=lo+i))↔j < es.length:=fun j=>by
   rw [List.mem_flatMap]
   constructor
   ·rintro ⟨i,_,h⟩
    exact List.mem_range.mp (List.mem_filter.mp h).1
   ·intro h
    have hm:es.getD j e0∈es:=by rw [List.getD_eq_getElem?_getD,List.getElem?_eq_getElem h]; exact List.getElem_mem h
    obtain ⟨a,b⟩:=hd _ hm
    refine ⟨((es.getD j e0).at_ - lo).toNat,List.mem_range.mpr (by lia),List.mem_filter.mpr ⟨List.mem_range.mpr h,decide_eq_true (by lia)⟩⟩
  have pwq:((List.range n).flatMap fun (i:Nat)=>(List.range es.length).filter fun j=>decide ((es.getD j e0).at_=lo+i)).Pairwise (LKb false (es.map (·.at_))):=by
   have mem:∀ {i j:Nat},j∈((List.range es.length).filter fun j=>decide ((es.getD j e0).at_=lo+i))->j < es.length/\(es.getD j e0).at_=lo+i:=fun {i j} h =>
    ⟨List.mem_range.mp (List.mem_filter.mp h).1,of_decide_eq_true (List.mem_filter.mp h).2⟩
   rw [List.pairwise_flatMap]
   refine ⟨fun i _=>?_,?_⟩
   ·refine List.Pairwise.imp_of_mem ?_ (List.Pairwise.filter _ List.pairwise_lt_range)
    intro a b ha hb hab
    obtain ⟨a1,a2⟩:=mem ha
    obtain ⟨b1,b2⟩:=mem hb
    exact .inr ⟨by rw [key a a1,key b b1,a2,b2],hab⟩
   ·refine List.Pairwise.imp ?_ List.pairwise_lt_range
    intro i1 i2 h12 a ha b hb
    obtain ⟨a1,a2⟩:=mem ha
    obtain ⟨b1,b2⟩:=mem hb
    refine .inl ?_
    rw [if_neg Bool.false_ne_true,key a a1,key b b1,a2,b2]
    lia
  have irr:∀ a b,LKb false (es.map (·.at_)) a b->LKb false (es.map (·.at_)) b a->a=b:=fun a b h g=>by
   unfold LKb at h g
   rw [if_neg Bool.false_ne_true] at h g
   lia
  have ndq:((List.range n).flatMap fun (i:Nat)=>(List.range es.length).filter fun j=>decide ((es.getD j e0).at_=lo+i)).Nodup:=pwq.imp fun {a b} h z=>by
   subst z
   unfold LKb at h
   rw [if_neg Bool.false_ne_true] at h
   lia
  have ndp:p.Nodup:=hp.symm.nodup List.nodup_range
  refine List.Perm.eq_of_pairwise (fun a b _ _=>irr a b) hs pwq ((List.perm_ext_iff_of_nodup ndp ndq).mpr fun j=>?_)
  rw [memq,hp.mem_iff,List.mem_range]
 rw [q,List.map_flatMap]
 unfold byD
 congr 1
 funext i
 exact Zso es e0 fun e=>decide (e.at_=lo+i)
theorem Zwv {lo hi:Int}{n:Nat}{es:List Ev}(h:lo+n<=hi+1):byD lo n (es.filter fun e=>decide (e.at_<=hi))=byD lo n es:=by
 unfold byD
 have:∀ i∈List.range n,(es.filter fun e=>decide (e.at_<=hi)).filter (fun e=>decide (e.at_=lo+i))=es.filter fun e=>decide (e.at_=lo+i):=fun i hi'=>by
  rw [List.filter_filter]
  refine List.filter_congr fun e _=>?_
  have:=List.mem_range.mp hi'
  by_cases c:e.at_=lo+i
  ·rw [decide_eq_true c,decide_eq_true (by lia)]; rfl
  ·rw [decide_eq_false c]; rfl
 rw [List.flatMap_def,List.flatMap_def,List.map_congr_left this]
abbrev Ux:Str := "by_day" ++ ".<locals>." ++ "<lambda>"
def Zng (T:Addr):Sp:=fun vs H Q _=>∃ (q:Addr) (us:List V) (es:List Ev),vs = [.ref q]/\H q=some (.lst us)/\TR H (es.map evV) us/\es.length < 64/\IsTab H T Ux /\
 ∀ (l:Addr) (us':List V) (p:List Nat) (H':Hp),H l=none->H' l=some (.lst us')->TR H' ((p.map fun i=>es.getD i ⟨0,none,⟨#[]⟩⟩).map evV) us'->p.Perm (List.range es.length)->p.Pairwise (LKb false (es.map (·.at_)))->Same H H'->Q (.ref l) H'
abbrev Zcn:Stmt:=top 41
theorem Z36:FnScope ["events"] ["events"] (Za Zcn):=⟨rfl,rfl,rfl,by decide +kernel,rfl,by decide +kernel,by decide +kernel⟩
theorem Z37:Nm (Za Zcn) "events" .local:=by decide +kernel
theorem Z38:Nm (Za Zcn) "sorted" .globalImplicit:=by decide +kernel
theorem Z39 {c T:Addr}(Zh6:HasL K mg "by_day" Zcn c) (B_by_day:LamB K mg c T) (kb:K.In base) (T0:Txt mg) (C0:∃ t,mg "DAY" = some (.int 0 t)):Fn P w K mg base "by_day" ["events"] 4 (Zng T):=by
 obtain ⟨t0,c_DAY⟩:=C0
 have r_DAY:RelV (.int 0) (.int 0 t0):=⟨t0,rfl⟩
 refine Zh6.fnQ B_by_day kb Z36 (fun _ _ _ _ _ _ us hl=>match us,hl with | [_],_=>rfl) (fun vs H Q E h=>?_) (fun f A outer s H vs Q E hr hL h=>?_)
 ·obtain ⟨q,us,es,rfl,_⟩:=h
  rfl
 ·obtain ⟨q,us,es,rfl,hq,hr',h64,hT,k⟩:=h
  have T:=T0
  refine ⟨_,(Zg (Zu (Zsa (x := "event") hL hT hr (by lia) Z38 T.sorted (Zb (qvN 0 Z37) Zd) ⟨Zsn (by decide +kernel),rfl,⟨rfl,rfl,rfl,by decide +kernel,rfl,by decide +kernel,by decide +kernel⟩,fun _ _ _ _=>rfl,fun _ _ _ _ _=>(Zk Zwg (Z7e) (Zur c_DAY r_DAY) (fun _ _=>rfl))⟩))),?_⟩
  have hl:=hr'.length
  rw [List.length_map] at hl
  refine ⟨_,rfl,q,us,es.map (·.at_),rfl,SqL.of hq,by lia,by rw [List.length_map]; lia,fun i x kk hx hk H2 t2=>?_,fun l p H' sm hln hp hpw=>?_⟩
  ·obtain ⟨e,a,he,rfl,ha⟩:=hr'.evGet hx
   rw [List.getElem?_map,he] at hk
   cases hk
   exact ⟨_,rfl,a,_,0,.int e.at_,rfl,rfl,SqT.of (t2 _ _ ha),rfl,rfl,rfl⟩
  ·have S1:=sm.trans (Same.new (o:=.lst (p.map fun i=>us.getD i .non)) hln)
   rw [hl] at hp
   refine k l _ p _ (sm.free hln) Zi ?_ hp hpw S1
   have hm:∀ i∈p,i < (es.map evV).length:=fun i hi=>by rw [List.length_map]; exact List.mem_range.mp (hp.mem_iff.mp hi)
   have:=(hr'.mono (fun b xs e=>S1 _ _ e)).pick p hm
   rw [List.map_map]
   have e2:(p.map fun i=>(es.map evV).getD i [])=p.map (evV∘fun i=>es.getD i ⟨0,none,⟨#[]⟩⟩):=List.map_congr_left fun i hi=>by
    have:=hm i hi
    rw [List.length_map] at this
    show (es.map evV).getD i []=evV (es.getD i _)
    rw [List.getD_eq_getElem?_getD,List.getD_eq_getElem?_getD,List.getElem?_map,List.getElem?_eq_getElem this]
    rfl
   rw [e2] at this
   exact this
def Znh (C:Addr):Sp:=fun vs H Q _=>∃ (L:FL) (ds:List Deed) (q:Addr) (us:List V) (st:List Stp) (day:Int),vs = [.ref q,.ref L.p,.int day]/\FolkAt C H L ds/\H q=some (.lst us)/\TR H (st.map stV) us/\st ≠ []/\Ends' ds/\st.length<=4000 /\
 ∀ (us':List V) (H':Hp),H' q=some (.lst us')->TR H' ((Wj ds day st).map stV) us'->SameX q H H'->Q .non H'
abbrev Vp:Stmt:=top 42
theorem Zh7:FnScope ["steps", "folk", "day", "dead_one", "left_day"] ["steps", "folk", "day"] (Za Vp):=⟨rfl,rfl,rfl,by decide +kernel,rfl,by decide +kernel,by decide +kernel⟩
theorem Z4a:Nm (Za Vp) "DAY" .globalImplicit:=by decide +kernel
theorem Zp5:Nm (Za Vp) "TAKER" .globalImplicit:=by decide +kernel
theorem Z4b:Nm (Za Vp) "day" .local:=by decide +kernel
theorem Zew:Nm (Za Vp) "dead_one" .local:=by decide +kernel
theorem Zjp:Nm (Za Vp) "folk" .local:=by decide +kernel
theorem Zp6:Nm (Za Vp) "left_day" .local:=by decide +kernel
theorem Z4c:Nm (Za Vp) "max" .globalImplicit:=by decide +kernel
theorem Zex:Nm (Za Vp) "steps" .local:=by decide +kernel
theorem Z4d (Zh8:Has K mg "leave_on" Vp) (T:Txt mg) (Tc:TxC K C) (C0:∃ t,mg "DAY" = some (.int 0 t)) (C1:∃ t,mg "TAKER" = some (.int 3 t)) (M_died_by:Mt P w K mg base C "died_by" ["self", "name", "day"] 1 (Zdm C)) (M_death_day:Mt P w K mg base C "death_day" ["self", "name"] 1 (Zn7 C)) (M_heir_of:Mt P w K mg base C "heir_of" ["self", "name"] 1 (Zmd C)) :
  Fn P w K mg base "leave_on" ["steps", "folk", "day"] 2 (Znh C):=by
 obtain ⟨t0,c_DAY⟩:=C0
 have r_DAY:RelV (.int 0) (.int 0 t0):=⟨t0,rfl⟩
 obtain ⟨t1,c_TAKER⟩:=C1
 have r_TAKER:RelV (.int 3) (.int 3 t1):=⟨t1,rfl⟩
 refine Zh8.fnQ Zh7 (fun _ _ _ _ _ _ us hl=>match us,hl with | [_,_,_],_=>rfl) (fun vs H Q E h=>?_) (fun f cdv A outer s H vs Q E hr h=>?_)
 ·obtain ⟨L,ds,q,us,st,day,rfl,_⟩:=h
  rfl
 ·obtain ⟨L,ds,q,us,st,day,rfl,F0,hq,htr,hne,hE,hlen,k⟩:=h
  refine ⟨_,(Zg (Zl1 PassesOwn.never (Wp (Zz (qvN 1 Zjp) Tc.cl M_died_by (hr.mono (by lia)) (Zb (Zk Yl (Zk Zv (qvN 0 Zex) (Vh Vi Zf) (fun _ _=>rfl)) (Yo Zp5 c_TAKER r_TAKER) (fun _ _=>rfl)) (Zb (qvN 2 Z4b) Zd))))
 (Ze (Z2 (i:=3) Zh7.nd Zew (Zk Yl (Zk Zv (qvN 0 Zex) (Vh Vi Zf) (fun _ _=>rfl)) (Yo Zp5 c_TAKER r_TAKER) (fun _ _=>rfl)))
 (Ze (Z2 (i:=4) Zh7.nd Zp6 (Z4 (Zk0 (by rfl)) Z4c T.max Zov (Zb (Zz (qvN 1 Zjp) Tc.cl M_death_day (hr.mono (by lia)) (Zb (qvN 3 Zew) Zd)) (Zb (Zk Yl (Zk Zv (qvN 0 Zex) (Vh Vi Zf) (fun _ _=>rfl)) (Yo Z4a c_DAY r_DAY) (fun _ _=>rfl)) Zd))))
 (Zg (Zn (Wi F.plainAttrs_list F.slot_list_append F.type_list_append Wu (qvN 0 Zex) (Zb (Yn (Zb (qvN 4 Zp6) (Zb Wm (Zb (qvN 3 Zew) (Zb (Zz (qvN 1 Zjp) Tc.cl M_heir_of (hr.mono (by lia)) (Zb (qvN 3 Zew) Zd)) Zd))))) Zd)))))))),?_⟩
  have hz:(5000:Nat)<=sizeLine:=by decide
  obtain ⟨ss,ess⟩:=Zfz hne
  obtain ⟨k0,hlv,hk0⟩:=hE.lv day (Yw st)
  refine ⟨fun j σ H'=>∃ (v3 v4:Option V) (ss:List Stp) (s:Stp) (l:List Stp) (us:List V),σ = [some (.ref q),some (.ref L.p),some (.int day),v3,v4]/\SameX q H H'/\H' q=some (.lst us)/\TR H' ((ss ++ [s]).map stV) us/\Lv ds day j s l/\ss ++ [s]++l=Wj ds day st/\us.length+j<=4040,
   ⟨k0,none,none,ss,Yw st,lv ds day (Yw st),us,rfl,SameX.refl,hq,by rw [← ess]; exact htr,hlv,by unfold Wj; rw [← ess],by have:=htr.length; rw [List.length_map] at this; lia⟩,?_⟩
  rintro j σ H' ⟨v3,v4,ss,s,l,us,rfl,sx,hq',htr',hl,hall,hln⟩
  have F':=F0.keep (SameX.n sx hq)
  obtain ⟨dx,ob⟩:=F'.ob
  rw [List.map_append] at htr'
  obtain ⟨us0,a,eus,htr0,ha⟩:=TR.last htr'
  have at1:atI us (-1)=some (.ref a):=by rw [eus]; exact Zb2
  refine ⟨_,rfl,L.p,dx,_,rfl,ob,Yq _ _ _ _ (by decide +kernel),_,rfl,_,rfl,q,us,-1,.ref a,rfl,rfl,SqL.of hq',at1,a,_,3,.str s.t,rfl,rfl,SqT.of ha,rfl,_,rfl,L,ds,s.t,day,rfl,F',?_⟩
  refine ⟨_,rfl,?_⟩
  cases hl with
  | here e =>
   rw [e]
   refine Zm (k us H' hq' ?_ sx)
   rw [← hall,List.append_nil,List.map_append]
   exact htr'
  | step e1 e2 e3 =>
   rename_i x j' l'
   rw [e2]
   refine Yc ⟨fun σ' H''=>∃ m',m' < j'+1/\∃ (v3 v4:Option V) (ss:List Stp) (s:Stp) (l:List Stp) (us:List V),σ' = [some (.ref q),some (.ref L.p),some (.int day),v3,v4]/\SameX q H H''/\H'' q=some (.lst us)/\TR H'' ((ss ++ [s]).map stV) us/\Lv ds day m' s l/\ss ++ [s]++l=Wj ds day st/\us.length+m'<=4040,fun _ _ h=>h,?_⟩
   refine ⟨_,rfl,_,rfl,q,us,-1,.ref a,rfl,rfl,SqL.of hq',at1,a,_,3,.str s.t,rfl,rfl,SqT.of ha,rfl,?_⟩
   refine Ye ?_
   dsimp only
   refine ⟨_,rfl,L.p,dx,_,rfl,ob,Yq _ _ _ _ (by decide +kernel),_,rfl,L,ds,s.t,x,rfl,F',e1,?_⟩
   refine ⟨_,rfl,_,rfl,q,us,-1,.ref a,rfl,rfl,SqL.of hq',at1,a,_,0,.int s.at_,rfl,rfl,SqT.of ha,rfl,_,_,rfl,?_⟩
   refine Ye ?_
   dsimp only
   refine ⟨_,rfl,.inl ⟨rfl,_,SqL.of hq'⟩,_,rfl,_,rfl,_,rfl,L.p,dx,_,rfl,ob,Yq _ _ _ _ (by decide +kernel),_,rfl,L,ds,s.t,x,rfl,F',e1,by show 4<=sizeLine; lia,fun p hp=>?_⟩
   have S1:=Same.new (o:=(.tup [.int (if s.at_ > x.1 then s.at_ else x.1),.str "left", .str s.t,.str x.2])) hp
   have k1:(upd H' p (.tup [.int (if s.at_ > x.1 then s.at_ else x.1),.str "left", .str s.t,.str x.2])) p=some (.tup (stV (Vz s x))):=Zi
   generalize (upd H' p (.tup [.int (if s.at_ > x.1 then s.at_ else x.1),.str "left", .str s.t,.str x.2]))=H1 at S1 k1 ⊢
   have hq1:=S1 _ _ hq'
   refine ⟨q,us,.ref p,rfl,rfl,hq1,by lia,j',by lia,_,_,ss ++ [s],Vz s x,l',us ++ [.ref p],rfl,(sx.trans S1.x).trans SameX.upd,Zi,?_,e3,?_,by rw [List.length_append]; show us.length+1+j'<=4040; lia⟩
   ·rw [List.map_append]
    refine TR.snoc (Zao hq1 _ _ k1) ?_
    rw [List.map_append]
    exact htr'.mono fun b xs e=>Zao hq1 _ _ (S1 _ _ e)
   ·rw [← hall]; simp
def Zob:Sp:=fun vs H Q _=>∃ (q a:Addr) (us:List V) (st:List Stp) (e:Ev),vs = [.ref q,.ref a]/\H q=some (.lst us)/\TR H (st.map stV) us/\st ≠ []/\H a=some (.tup (evV e))/\st.length<=4900 /\
 ∀ (us':List V) (H':Hp),H' q=some (.lst us')->TR H' ((Uf st e).map stV) us'->SameX q H H'->Q .non H'
abbrev V7:Stmt:=top 43
theorem Zp7:FnScope ["steps", "event", "keeper"] ["steps", "event"] (Za V7):=⟨rfl,rfl,rfl,by decide +kernel,rfl,by decide +kernel,by decide +kernel⟩
theorem Z4e:Nm (Za V7) "DAY" .globalImplicit:=by decide +kernel
theorem Z4f:Nm (Za V7) "GIVER" .globalImplicit:=by decide +kernel
theorem Zp8:Nm (Za V7) "TAKER" .globalImplicit:=by decide +kernel
theorem Zp9:Nm (Za V7) "WORD" .globalImplicit:=by decide +kernel
theorem Zc2:Nm (Za V7) "event" .local:=by decide +kernel
theorem Zjq:Nm (Za V7) "keeper" .local:=by decide +kernel
theorem Zqa:Nm (Za V7) "steps" .local:=by decide +kernel
theorem Z4g (Zh9:Has K mg "pass_on" V7) (T:Txt mg) (C0:∃ t,mg "DAY" = some (.int 0 t)) (C1:∃ t,mg "WORD" = some (.int 1 t)) (C2:∃ t,mg "GIVER" = some (.int 2 t)) (C3:∃ t,mg "TAKER" = some (.int 3 t)):Fn P w K mg base "pass_on" ["steps", "event"] 1 Zob:=by
 obtain ⟨t0,c_DAY⟩:=C0
 have r_DAY:RelV (.int 0) (.int 0 t0):=⟨t0,rfl⟩
 obtain ⟨t1,c_WORD⟩:=C1
 have r_WORD:RelV (.int 1) (.int 1 t1):=⟨t1,rfl⟩
 obtain ⟨t2,c_GIVER⟩:=C2
 have r_GIVER:RelV (.int 2) (.int 2 t2):=⟨t2,rfl⟩
 obtain ⟨t3,c_TAKER⟩:=C3
 have r_TAKER:RelV (.int 3) (.int 3 t3):=⟨t3,rfl⟩
 refine Zh9.fnQ Zp7 (fun _ _ _ _ _ _ us hl=>match us,hl with | [_,_],_=>rfl) (fun vs H Q E h=>?_) (fun f cdv A outer s H vs Q E hr h=>?_)
 ·obtain ⟨q,a,us,st,e,rfl,_⟩:=h
  rfl
 ·obtain ⟨q,a,us,st,e,rfl,hq,htr,hne,ha,hlen,k⟩:=h
  refine ⟨_,(Ze (Z2 (i:=2) Zp7.nd Zjq (Zk Yl (Zk Zv (qvN 0 Zqa) (Vh Vi Zf) (fun _ _=>rfl)) (Yo Zp8 c_TAKER r_TAKER) (fun _ _=>rfl)))
 (Zg (Zs (QW.pt (Zce (Zx Vw (Zk Yl (qvN 1 Zc2) (Yo Zp9 c_WORD r_WORD) (fun _ _=>rfl)) Wm (Zw _)) (Zcb (Zx Vw (Zk Yl (qvN 1 Zc2) (Yo Z4f c_GIVER r_GIVER) (fun _ _=>rfl)) (qvN 2 Zjq) (Zw _))))) (Zg (Zn (Wi F.plainAttrs_list F.slot_list_append F.type_list_append Wu (qvN 0 Zqa) (Zb (Yn (Zb (Zk Yl (qvN 1 Zc2) (Yo Z4e c_DAY r_DAY) (fun _ _=>rfl)) (Zb (Zk Yl (qvN 1 Zc2) (Yo Zp9 c_WORD r_WORD) (fun _ _=>rfl)) (Zb (qvN 2 Zjq) (Zb (Zk Yl (qvN 1 Zc2) (Yo Zp8 c_TAKER r_TAKER) (fun _ _=>rfl)) Zd))))) Zd)))) Zt))),?_⟩
  have hz:(5000:Nat)<=sizeLine:=by decide
  obtain ⟨ss,ess⟩:=Zfz hne
  have htr2:=htr
  rw [ess,List.map_append] at htr2
  obtain ⟨us0,b,eus,htr0,hb⟩:=TR.last htr2
  have at1:atI us (-1)=some (.ref b):=by rw [eus]; exact Zb2
  have hul:us.length=st.length:=by have:=htr.length; rw [List.length_map] at this; exact this
  refine ⟨_,rfl,_,rfl,q,us,-1,.ref b,rfl,rfl,SqL.of hq,at1,b,_,3,.str (Yw st).t,rfl,rfl,SqT.of hb,rfl,?_⟩
  refine Ye ?_
  dsimp only
  have yes:(e.g=none\/e.g=some (Yw st).t)->∀ (p:Addr),H p=none->∀ us' H',H' q=some (.lst us')->us'=us ++ [.ref p]->H'=upd (upd H p (.tup (stV ⟨e.at_,e.wd,some (Yw st).t,e.t⟩))) q (.lst us')->Q .non H':=fun hc p hp us' H' e1 e2 e3=>by
   have S1:=Same.new (o:=.tup (stV ⟨e.at_,e.wd,some (Yw st).t,e.t⟩)) hp
   have hq1:=S1 _ _ hq
   subst e2 e3
   refine k _ _ e1 ?_ (S1.x.trans SameX.upd)
   unfold Uf
   rw [if_pos hc,List.map_append]
   exact TR.snoc (Zao hq1 _ _ Zi) (htr.mono fun b xs e=>Zao hq1 _ _ (S1 _ _ e))
  cases eg:e.g with
  | none =>
   have ew:e.wd = "won" := by unfold Ev.wd; rw [eg]
   refine ⟨_,rfl,a,_,1,.str e.wd,rfl,rfl,SqT.of ha,rfl,rfl,_,rfl,?_⟩
   rw [ew]
   refine Z6 (fun _=>Yc ?_) (fun z=>absurd rfl z)
   refine ⟨_,rfl,.inl ⟨rfl,_,SqL.of hq⟩,_,rfl,a,_,0,.int e.at_,rfl,rfl,SqT.of ha,rfl,_,rfl,a,_,1,.str e.wd,rfl,rfl,SqT.of ha,rfl,_,rfl,_,rfl,a,_,3,.str e.t,rfl,rfl,SqT.of ha,rfl,by show 4<=sizeLine; lia,fun p hp=>?_⟩
   exact ⟨q,us,.ref p,rfl,rfl,Same.new hp _ _ hq,by lia,yes (.inl eg) p hp _ _ Zi rfl rfl⟩
  | some g =>
   have ew:e.wd = "given" := by unfold Ev.wd; rw [eg]
   refine ⟨_,rfl,a,_,1,.str e.wd,rfl,rfl,SqT.of ha,rfl,rfl,_,rfl,?_⟩
   rw [ew]
   refine Z6 (fun z=>absurd z (Zgm (by decide +kernel))) (fun _=>?_)
   have h2:(evV e)[2]? = some (V.str g):=by unfold evV; rw [eg]; rfl
   refine ⟨_,rfl,a,_,2,.str g,rfl,rfl,SqT.of ha,h2,_,rfl,rfl,_,rfl,Z6 (fun z=>?_) (fun z=>?_)⟩
   ·have eg2:g=(Yw st).t:=by injection z
    refine ⟨_,rfl,.inl ⟨rfl,_,SqL.of hq⟩,_,rfl,a,_,0,.int e.at_,rfl,rfl,SqT.of ha,rfl,_,rfl,a,_,1,.str e.wd,rfl,rfl,SqT.of ha,rfl,_,rfl,_,rfl,a,_,3,.str e.t,rfl,rfl,SqT.of ha,rfl,by show 4<=sizeLine; lia,fun p hp=>?_⟩
    exact ⟨q,us,.ref p,rfl,rfl,Same.new hp _ _ hq,by lia,yes (.inr (by rw [eg,eg2])) p hp _ _ Zi rfl rfl⟩
   ·refine k us H hq ?_ SameX.refl
    unfold Uf
    rw [if_neg (fun y=>by rcases y with y | y <;> rw [eg] at y <;> cases y; exact z rfl)]
    exact htr
def Zg9 (C T:Addr):Sp:=fun vs H Q _=>∃ (L:FL) (ds:List Deed) (b le:Addr) (us:List V) (es:List Ev) (n:Str) (d0 day:Int),vs = [.ref b,.ref le,.ref L.p,.int day]/\FolkAt C H L ds/\H b=some (.tup [.str n,.int d0])/\H le=some (.lst us)/\TR H (es.map evV) us/\es.length<=60/\Ends' ds/\(∀ e∈es,d0<=e.at_)/\IsTab H T Ux /\
 ∀ (l:Addr) (us':List V) (H':Hp),H l=none->H' l=some (.lst us')->TR H' ((Ug ds n d0 es day).map stV) us'->Same H H'->Q (.ref l) H'
abbrev Wk:Stmt:=top 37
theorem Zej:FnScope ["brought", "events", "folk", "day", "first_day", "steps", "event"] ["brought", "events", "folk", "day"] (Za Wk):=⟨rfl,rfl,rfl,by decide +kernel,rfl,by decide +kernel,by decide +kernel⟩
theorem Z4h:Nm (Za Wk) "DAY" .globalImplicit:=by decide +kernel
theorem Zqb:Nm (Za Wk) "brought" .local:=by decide +kernel
theorem Z4i:Nm (Za Wk) "by_day" .globalImplicit:=by decide +kernel
theorem Zjr:Nm (Za Wk) "day" .cell:=by decide +kernel
theorem Zjs:Nm (Za Wk) "event" .local:=by decide +kernel
theorem Z4j:Nm (Za Wk) "events" .local:=by decide +kernel
theorem Zjt:Nm (Za Wk) "first_day" .local:=by decide +kernel
theorem Zqc:Nm (Za Wk) "folk" .local:=by decide +kernel
theorem Zqd:Nm (Za Wk) "leave_on" .globalImplicit:=by decide +kernel
theorem Z4k:Nm (Za Wk) "pass_on" .globalImplicit:=by decide +kernel
theorem Zc3:Nm (Za Wk) "steps" .local:=by decide +kernel
theorem Z4l {T:Addr}(Zia:Has K mg "road" Wk) (T0:Txt mg) (C0:∃ t,mg "DAY" = some (.int 0 t)) (Z4m:Fn P w K mg base "by_day" ["events"] 4 (Zng T)) (Zqe:Fn P w K mg base "leave_on" ["steps", "folk", "day"] 2 (Znh C)) (Z4n:Fn P w K mg base "pass_on" ["steps", "event"] 1 Zob) :
  Fn P w K mg base "road" ["brought", "events", "folk", "day"] 5 (Zg9 C T):=by
 obtain ⟨t0,c_DAY⟩:=C0
 have r_DAY:RelV (.int 0) (.int 0 t0):=⟨t0,rfl⟩
 refine Zia.fnQ Zej (fun _ _ _ _ _ _ us hl=>match us,hl with | [_,_,_,_],_=>rfl) (fun vs H Q E h=>?_) (fun f cdv A outer s H vs Q E hr h=>?_)
 ·obtain ⟨L,ds,b,le,us,es,n,d0,day,rfl,_⟩:=h
  rfl
 ·obtain ⟨L,ds,b,le,us,es,n,d0,day,rfl,F0,hb,hle,htr,hel,hE,hed,hT,k⟩:=h
  have T1:=T0
  refine ⟨_,(Ze (Z2 (i:=4) Zej.nd Zjt (Zk Yl (qvN 0 Zqb) Zf (fun _ _=>rfl)))
 (Ze (Zs (Zx Zaf (qvC 3 Zjr) (qvN 4 Zjt) (Zw _)) (Zg (Zu (Yk Zd))) Zt)
 (Ze (Z2 (i:=5) Zej.nd Zc3 (Yk (Zb (Yn (Zb (qvN 4 Zjt) (Zb Wm (Zb Wd (Zb (Zk Yl (qvN 0 Zqb) Zf (fun _ _=>rfl)) Zd))))) Zd)))
 (Ze (Wo PassesOwn.never rfl (Vu (Zq Z4m (hr.mono (by lia)) Z4i (Zb (Za0 (locs:=["event"]) (fr:=[("day", 3)]) ⟨rfl,by decide +kernel,by decide +kernel,by decide +kernel,by decide +kernel,by decide +kernel⟩ (.consN Zjr .nil) rfl (Vu (qvN 1 Z4j)) ⟨fun _ _ _ _ _ _=>by
  have cnd:(inN ["event"] [("day", 3)]).Nodup:=by decide +kernel
  exact ⟨(Uj 0 cnd),(Zgd (Zx Wn (Zk Zv2 (V3 0) (Yo nmC c_DAY r_DAY) (fun _ _=>rfl)) (Zas 1) (Zw _))),(V3 0)⟩⟩) Zd))) (Y8 (i:=6) Zej.nd Zjs)
 (Ze (Zn (Zq Zqe (hr.mono (by lia)) Zqd (Zb (qvN 5 Zc3) (Zb (qvN 2 Zqc) (Zb (Zk Yl (qvN 6 Zjs) (Yo Z4h c_DAY r_DAY) (fun _ _=>rfl)) Zd)))))
 (Zg (Zn (Zq Z4n (hr.mono (by lia)) Z4k (Zb (qvN 5 Zc3) (Zb (qvN 6 Zjs) Zd)))))))
 (Ze (Zn (Zq Zqe (hr.mono (by lia)) Zqd (Zb (qvN 5 Zc3) (Zb (qvN 2 Zqc) (Zb (qvC 3 Zjr) Zd)))))
 (Zg (Zu (qvN 5 Zc3)))))))),?_⟩
  have hz:(5000:Nat)<=sizeLine:=by decide
  have hul:us.length=es.length:=by have:=htr.length; rw [List.length_map] at this; exact this
  refine ⟨_,rfl,b,_,1,.int d0,rfl,rfl,SqT.of hb,rfl,?_⟩
  refine Ye ?_
  dsimp only
  refine ⟨_,rfl,_,rfl,_,_,rfl,rfl,_,rfl,Z6 (fun c=>?_) (fun c=>?_)⟩
  ·refine ⟨by show 0<=sizeLine; lia,fun l hl=>?_⟩
   refine k l [] _ hl Zi ?_ (Same.new hl)
   unfold Ug
   rw [if_pos c]
   rfl
  ·refine ⟨_,rfl,_,rfl,b,_,0,.str n,rfl,rfl,SqT.of hb,rfl,by show 4<=sizeLine; lia,fun p hp=>?_⟩
   have S1:=Same.new (o:=.tup [.int d0,.str "brought", .non,.str n]) hp
   have k1:(upd H p (.tup [.int d0,.str "brought", .non,.str n])) p=some (.tup (stV (Yr n d0))):=Zi
   generalize (upd H p (.tup [.int d0,.str "brought", .non,.str n]))=H1 at S1 k1 ⊢
   refine ⟨by show 1<=sizeLine; lia,fun q hq=>?_⟩
   have hqH:=S1.free hq
   have S2:=S1.trans (Same.new (o:=.lst [.ref p]) hq)
   have k2:(upd H1 q (.lst [.ref p])) q=some (.lst [.ref p]):=Zi
   have p2:=Same.new (o:=.lst [.ref p]) hq _ _ k1
   generalize (upd H1 q (.lst [.ref p]))=H2 at S2 k2 p2 ⊢
   refine Ye ?_
   dsimp only
   have htr2:=htr.mono fun b xs e=>S2 _ _ e
   refine ⟨_,rfl,le,rfl,⟨_,SqL.of (S2 _ _ hle)⟩,?_⟩
   refine Zfm (xs:=us) (fun i ys H'=>H'=H2/\TR H2 (((es.take i).filter fun e=>decide (e.at_<=day)).map evV) ys) ⟨rfl,rfl⟩ (by lia) (fun i ys H' _ ⟨e,_⟩=>by rw [e]; exact SqL.of (S2 _ _ hle))
    (fun i ys H' ⟨_,e⟩=>by have:=e.length; rw [List.length_map] at this; rw [this]; exact Nat.le_trans (List.length_filter_le _ _) (by rw [List.length_take]; lia)) ?_ ?_
   ·rintro i x ys H' hx ⟨rfl,hys⟩ ls hls
    obtain ⟨w0,rfl⟩:=Zcu hls
    obtain ⟨e,a,he,rfl,ha⟩:=htr2.evGet hx
    refine ⟨⟨[_],rfl,rfl⟩,?_⟩
    refine ⟨_,rfl,a,_,0,.int e.at_,rfl,rfl,SqT.of ha,rfl,_,rfl,_,_,rfl,rfl,_,rfl,Z6 (fun c2=>?_) (fun c2=>?_)⟩
    ·refine ⟨_,rfl,rfl,?_⟩
     rw [List.take_add_one,he,List.filter_append,List.map_append]
     have:([e].filter fun e=>decide (e.at_<=day)) = [e]:=by simp [c2]
     show TR _ (_++([e].filter _).map evV) _
     rw [this]
     exact TR.snoc ha hys
    ·refine ⟨rfl,?_⟩
     rw [List.take_add_one,he,List.filter_append,List.map_append]
     have:([e].filter fun e=>decide (e.at_<=day)) = []:=by simp [c2]
     show TR _ (_++([e].filter _).map evV) _
     rw [this,List.map_nil,List.append_nil]
     exact hys
   ·rintro ys H0 ⟨rfl,hys⟩ lq hlq
    rw [hul,List.take_length] at hys
    have S3:=S2.trans (Same.new (o:=.lst ys) hlq)
    have k3:(upd H0 lq (.lst ys)) lq=some (.lst ys):=Zi
    have q3:=Same.new (o:=.lst ys) hlq _ _ k2
    have p3:=Same.new (o:=.lst ys) hlq _ _ p2
    have hys3:=hys.mono (H':=upd H0 lq (.lst ys)) fun b xs e=>Same.new hlq _ _ e
    generalize (upd H0 lq (.lst ys))=H3 at S3 k3 q3 p3 hys3 ⊢
    have hfl:(es.filter fun e=>decide (e.at_<=day)).length<=60:=Nat.le_trans (List.length_filter_le _ _) hel
    refine ⟨lq,ys,es.filter fun e=>decide (e.at_<=day),rfl,k3,hys3,by lia,hT.same S3,fun l us' pp H4 hlf hl htr4 hp4 hpw4 sm4=>?_⟩
    have nlq:l≠q:=fun z=>by rw [z,q3] at hlf; cases hlf
    have esort:(pp.map fun i=>(es.filter fun e=>decide (e.at_<=day)).getD i ⟨0,none,⟨#[]⟩⟩)=byD d0 (day+1 - d0).toNat es:=by
     rw [Zsp hp4 hpw4 (lo:=d0) (n:=(day+1 - d0).toNat) fun e he=>?_,Zwv (by lia)]
     obtain ⟨h1,h2⟩:=List.mem_filter.mp he
     have:=hed e h1
     have:=of_decide_eq_true h2
     exact ⟨by lia,by lia⟩
    have hln4:(byD d0 (day+1 - d0).toNat es).length<=60:=by
     rw [← esort,List.length_map]
     have:=hp4.length_eq
     rw [List.length_range] at this
     lia
    rw [esort] at htr4
    generalize hEv:byD d0 (day+1 - d0).toNat es=ev at htr4 hln4
    have hul4:us'.length=ev.length:=by have:=htr4.length; rw [List.length_map] at this; exact this
    have S4:=S3.trans sm4
    have q4:=sm4 _ _ q3
    have p4:=sm4 _ _ p3
    refine ⟨l,rfl,⟨_,SqL.of hl⟩,?_⟩
    refine Zag us' (fun i σ H'=>∃ (v6:Option V) (ws:List V),σ = [some (.ref b),some (.ref le),some (.ref L.p),some (.int day),some (.int d0),some (.ref q),v6]/\SameX q H4 H'/\H' q=some (.lst ws)/\TR H' (((ev.take i).foldl (Y7 ds) [Yr n d0]).map stV) ws)
     ⟨none,[.ref p],rfl,SameX.refl,q4,⟨p,[],rfl,p4,rfl⟩⟩ (fun i σ H' _ ⟨_,_,_,sx,_⟩=>SqL.of (sx _ _ nlq hl)) ?_ ?_
    ·rintro i x σ H' hx ⟨v6,ws,rfl,sx,hqw,htw⟩
     obtain ⟨e,a,he,rfl,ha⟩:=htr4.evGet hx
     have ha':H' a=some (.tup (evV e)):=sx _ _ (fun z=>by rw [z,q4] at ha; cases ha) ha
     have hi:=(List.getElem?_eq_some_iff.mp he).1
     have hfn:=Zf0 hE (ev.take i) [Yr n d0]
     have hfe:(ev.take i).foldl (Y7 ds) [Yr n d0] ≠ []:=Zgn (by simp)
     rw [List.length_take] at hfn
     have F':=(F0.keep (Same.n S4)).keep (SameX.n sx q4)
     have estep:(ev.take (i+1)).foldl (Y7 ds) [Yr n d0]=Uf (Wj ds e.at_ ((ev.take i).foldl (Y7 ds) [Yr n d0])) e:=by
      rw [List.take_add_one,he,List.foldl_append]; rfl
     have hfn':((ev.take i).foldl (Y7 ds) [Yr n d0]).length<=2500:=by show _<=2500; have:([Yr n d0]:List Stp).length=1:=rfl; lia
     have hlen':=Zlp hE e.at_ ((ev.take i).foldl (Y7 ds) [Yr n d0])
     rw [estep]
     generalize (ev.take i).foldl (Y7 ds) [Yr n d0]=st at htw hfe hfn' hlen' ⊢
     refine ⟨_,rfl,_,rfl,_,rfl,a,_,0,.int e.at_,rfl,rfl,SqT.of ha',rfl,L,ds,q,ws,st,e.at_,rfl,F',hqw,htw,hfe,hE,by lia,fun ws1 H5 hq5 ht5 sx5=>?_⟩
     refine ⟨_,rfl,_,rfl,q,a,ws1,Wj ds e.at_ st,e,rfl,hq5,ht5,Zmk hfe,sx5 _ _ (fun z=>by rw [z,hqw] at ha'; cases ha') ha',by lia,fun ws2 H6 hq6 ht6 sx6=>?_⟩
     exact ⟨_,ws2,rfl,(sx.trans sx5).trans sx6,hq6,ht6⟩
    ·rintro σ H' ⟨v6,ws,rfl,sx,hqw,htw⟩
     rw [hul4,List.take_length] at htw
     have F':=(F0.keep (Same.n S4)).keep (SameX.n sx q4)
     have hfn:=Zf0 hE ev [Yr n d0]
     have h1:([Yr n d0]:List Stp).length=1:=rfl
     refine ⟨_,rfl,_,rfl,_,rfl,L,ds,q,ws,ev.foldl (Y7 ds) [Yr n d0],day,rfl,F',hqw,htw,Zgn (by simp),hE,by lia,fun ws1 H5 hq5 ht5 sx5=>?_⟩
     refine ⟨_,rfl,k q ws1 H5 hqH hq5 ?_ fun b o e=>(sx.trans sx5) b o (Zh e hqH) (S4 _ _ e)⟩
     unfold Ug
     rw [if_neg c,hEv]
     exact ht5
def Zco (st:List Stp):Option Str:=if st = [] then none else some (Yw st).t
def Zml (C T:Addr):Sp:=fun vs H Q _=>∃ (L:FL) (ds:List Deed) (b le:Addr) (us:List V) (es:List Ev) (n:Str) (d0 day:Int),vs = [.ref b,.ref le,.ref L.p,.int day]/\FolkAt C H L ds/\H b=some (.tup [.str n,.int d0])/\H le=some (.lst us)/\TR H (es.map evV) us/\es.length<=60/\Ends' ds/\(∀ e∈es,d0<=e.at_)/\IsTab H T Ux /\
 ∀ (H':Hp),Same H H'->Q (oV (Zco (Ug ds n d0 es day))) H'
abbrev V0:Stmt:=top 39
theorem Zqf:FnScope ["brought", "events", "folk", "day", "steps"] ["brought", "events", "folk", "day"] (Za V0):=⟨rfl,rfl,rfl,by decide +kernel,rfl,by decide +kernel,by decide +kernel⟩
theorem Z4o:Nm (Za V0) "TAKER" .globalImplicit:=by decide +kernel
theorem Z4p:Nm (Za V0) "brought" .local:=by decide +kernel
theorem Z4q:Nm (Za V0) "day" .local:=by decide +kernel
theorem Z4r:Nm (Za V0) "events" .local:=by decide +kernel
theorem Z4s:Nm (Za V0) "folk" .local:=by decide +kernel
theorem Z4t:Nm (Za V0) "road_goods" .globalImplicit:=by decide +kernel
theorem Zju:Nm (Za V0) "steps" .local:=by decide +kernel
theorem Z4u {T:Addr}(Zib:Has K mg "holder" V0) (C3:∃ t,mg "TAKER" = some (.int 3 t)) (Zic:Fn P w K mg base "road_goods" ["brought", "events", "folk", "day"] 5 (Zg9 C T)) :
  Fn P w K mg base "holder" ["brought", "events", "folk", "day"] 6 (Zml C T):=by
 obtain ⟨t3,c_TAKER⟩:=C3
 have r_TAKER:RelV (.int 3) (.int 3 t3):=⟨t3,rfl⟩
 refine Zib.fnQ Zqf (fun _ _ _ _ _ _ us hl=>match us,hl with | [_,_,_,_],_=>rfl) (fun vs H Q E h=>?_) (fun f cdv A outer s H vs Q E hr h=>?_)
 ·obtain ⟨L,ds,b,le,us,es,n,d0,day,rfl,_⟩:=h
  rfl
 ·obtain ⟨L,ds,b,le,us,es,n,d0,day,rfl,F0,hb,hle,htr,hel,hE,hed,hT,k⟩:=h
  refine ⟨_,(Ze (Z2 (i:=4) Zqf.nd Zju (Zq Zic (hr.mono (by lia)) Z4t (Zb (qvN 0 Z4p) (Zb (qvN 1 Z4r) (Zb (qvN 2 Z4s) (Zb (qvN 3 Z4q) Zd))))))
 (Zg (Zu (Zvz (Zwh (qvN 4 Zju) (fun _=>rfl)) (Zk Yl (Zk Zv (qvN 4 Zju) (Vh Vi Zf) (fun _ _=>rfl)) (Yo Z4o c_TAKER r_TAKER) (fun _ _=>rfl)) Wd)))),?_⟩
  refine ⟨_,rfl,_,rfl,_,rfl,_,rfl,L,ds,b,le,us,es,n,d0,day,rfl,F0,hb,hle,htr,hel,hE,hed,hT,fun l us' H' hlf hl ht sm=>?_⟩
  refine Ye ?_
  dsimp only
  generalize Ug ds n d0 es day=st at ht k
  refine ⟨_,rfl,_,.inl ⟨us',SqL.of hl,rfl⟩,?_⟩
  by_cases c:st = []
  ·subst c
   cases ht
   exact Zm (k H' sm)
  ·obtain ⟨ss,ess⟩:=Zfz c
   have ht2:=ht
   rw [ess,List.map_append] at ht2
   obtain ⟨us0,a,eus,_,ha⟩:=TR.last ht2
   have at1:atI us' (-1)=some (.ref a):=by rw [eus]; exact Zb2
   have hne:(!us'.isEmpty)=true:=by rw [eus]; simp
   rw [hne]
   refine Yc ?_
   refine ⟨_,rfl,_,rfl,l,us',-1,.ref a,rfl,rfl,SqL.of hl,at1,a,_,3,.str (Yw st).t,rfl,rfl,SqT.of ha,rfl,?_⟩
   have:=k H' sm
   unfold Zco at this
   rw [if_neg c] at this
   exact this
end
section
variable {P:Program}{w:World}{K:PySem.W.Frag}{mg:Str->Option Value}{base:Heap}{C CM:Addr}
structure ML where
 p:Addr
 L:FL
 ld:Addr
 lb:Addr
 lh:Addr
 lq:Addr
 lt:Addr
 ly:Addr
 lv:Addr
 dp:Addr
def V1 (M:ML):List (Str×V):=Zj "penances" (.ref M.dp) (Zj "verdicts" (.ref M.lv) (Zj "trial_days" (.ref M.ly) (Zj "trials" (.ref M.lt) (Zj "debts" (.ref M.lq) (Zj "happenings" (.ref M.lh) (Zj "bringings" (.ref M.lb) (Zj "folk" (.ref M.L.p) (Zj "deeds" (.ref M.ld) []))))))))
local macro_rules | `(tactic| walk_at "mf")=>`(tactic| (unfold V1; repeat (first | rw [Z8,if_pos (by decide +kernel)] | rw [Z8,if_neg (by decide +kernel)])))
theorem Zb3 (M:ML):(V1 M).lookup ("deeds" : Str)=some (.ref M.ld):=by walk_at "mf"
theorem Vj (M:ML):(V1 M).lookup ("folk" : Str)=some (.ref M.L.p):=by walk_at "mf"
theorem Za1 (M:ML):(V1 M).lookup ("bringings" : Str)=some (.ref M.lb):=by walk_at "mf"
theorem Zgo (M:ML):(V1 M).lookup ("happenings" : Str)=some (.ref M.lh):=by walk_at "mf"
theorem Zmm (M:ML):(V1 M).lookup ("debts" : Str)=some (.ref M.lq):=by walk_at "mf"
def Zjv (m:Str):Prop:=¬ m = "penances" /\ ¬ m = "verdicts" /\ ¬ m = "trial_days" /\ ¬ m = "trials" /\ ¬ m = "debts" /\ ¬ m = "happenings" /\ ¬ m = "bringings" /\ ¬ m = "folk" /\ ¬ m = "deeds"
instance (m:Str):Decidable (Zjv m):=by unfold Zjv; exact inferInstance
theorem Ys (M:ML) {m:Str}(h:Zjv m):(V1 M).lookup m=none:=by
 obtain ⟨a1,a2,a3,a4,a5,a6,a7,a8,a9⟩:=h
 unfold V1
 rw [Z8,if_neg a1,Z8,if_neg a2,Z8,if_neg a3,Z8,if_neg a4,Z8,if_neg a5,Z8,if_neg a6,Z8,if_neg a7,Z8,if_neg a8,Z8,if_neg a9]
 rfl
abbrev Zys:=TxC
structure TxCMoot (K:PySem.W.Frag) (C:Addr):Prop where
 cl:Cls K C
 nd:NoAttr K C "deeds"
 nf:NoAttr K C "folk"
 nb:NoAttr K C "bringings"
 nh:NoAttr K C "happenings"
 nq:NoAttr K C "debts"
 nt:NoAttr K C "trials"
 ny:NoAttr K C "trial_days"
 nv:NoAttr K C "verdicts"
 np:NoAttr K C "penances"
def QR (H:Hp):List Enr->List V->Prop
 | [],vs=>vs = []
 | x::r,vs=>∃ a b vs',vs = .ref a::vs'/\H a=some (.tup [.non,.ref b])/\H b=some (.tup [.int x.at_,.str x.d,.str x.c,.int x.m])/\QR H r vs'
theorem QR.mono {H H':Hp}(k:Zan H H'):∀ {xs:List Enr}{vs:List V},QR H xs vs->QR H' xs vs
 | [],_,h=>h
 | _::_,_,⟨a,b,vs',e,h1,h2,h3⟩=>⟨a,b,vs',e,k _ _ h1,k _ _ h2,QR.mono k h3⟩
theorem QR.snoc {H:Hp}{x:Enr}{a b:Addr}(h1:H a=some (.tup [.non,.ref b])) (h2:H b=some (.tup [.int x.at_,.str x.d,.str x.c,.int x.m])):∀ {xs:List Enr}{vs:List V},QR H xs vs->QR H (xs ++ [x]) (vs ++ [.ref a])
 | [],_,h=>by cases h; exact ⟨a,b,[],rfl,h1,h2,rfl⟩
 | _::_,_,⟨a',b',vs',e,k1,k2,k3⟩=>by subst e; exact ⟨a',b',_,rfl,k1,k2,QR.snoc h1 h2 k3⟩
theorem QR.get {H:Hp}:∀ {xs:List Enr}{vs:List V}{i:Nat}{v:V},QR H xs vs->vs[i]? = some v->∃ x a b,xs[i]? = some x/\v = .ref a/\H a=some (.tup [.non,.ref b])/\H b=some (.tup [.int x.at_,.str x.d,.str x.c,.int x.m])
 | [],vs,i,v,h,e=>by cases h; simp at e
 | x::xs,vs,i,v,⟨a,b,vs',e1,h1,h2,h3⟩,e=>by
  subst e1
  cases i with
  | zero=>simp at e; subst e; exact ⟨x,a,b,rfl,rfl,h1,h2⟩
  | succ i=>simp at e; exact QR.get (i:=i) h3 e
theorem QR.length {H:Hp}:∀ {xs:List Enr}{vs:List V},QR H xs vs->vs.length=xs.length
 | [],_,h=>by cases h; rfl
 | _::_,_,⟨a,b,vs',e,_,_,h3⟩=>by rw [e,List.length_cons,List.length_cons,QR.length h3]
def bV (x:Str×Int):List V:=[.str x.1,.int x.2]
def ML.ls (M:ML):List Addr:=[M.ld,M.lb,M.lh,M.lq,M.lt,M.ly,M.lv]
structure MootAt (C CM:Addr) (H:Hp) (M:ML) (ds:List Deed) (wa:Str->Addr) (nd:Nat) (bs:List (Str×Int)) (qs:List Addr) (es:List Enr):Prop where
 ob:∃ dx,H M.p=some (.ins CM dx (V1 M))
 fk:Fk C H M.L ds wa
 dl:∃ vs,H M.ld=some (.lst vs)/\vs.length=nd
 bl:∃ vs,H M.lb=some (.lst vs)/\TR H (bs.map bV) vs
 hl:H M.lh=some (.lst (qs.map V.ref))/\qs.length=bs.length/\∀ q∈qs,H q=some (.lst [])
 ql:∃ vs,H M.lq=some (.lst vs)/\QR H es vs
 tl:H M.lt=some (.lst [])/\H M.ly=some (.lst [])/\H M.lv=some (.lst [])
 nl:M.ls.Nodup
 nq:∀ q∈qs,q∉M.ls
 np:M.p≠M.L.p
def mo (M:ML) (ds:List Deed) (wa:Str->Addr) (qs:List Addr) (b:Addr):Prop:=b=M.p\/b∈M.ls\/b∈qs\/own M.L ds wa b
def Uy (M:ML) (ds:List Deed) (wa:Str->Addr) (qs:List Addr) (H H':Hp):Prop:=∀ b o,H b=some o->¬ mo M ds wa qs b->H' b=some o
def MFresh (M:ML) (ds:List Deed) (wa:Str->Addr) (qs:List Addr) (ds':List Deed) (wa':Str->Addr) (qs':List Addr) (H:Hp):Prop:=∀ b,mo M ds' wa' qs' b->mo M ds wa qs b\/H b=none
variable {M:ML}{ds:List Deed}{wa:Str->Addr}{nd:Nat}{bs:List (Str×Int)}{qs:List Addr}{es:List Enr}{H H':Hp}
theorem MootAt.keep (h:MootAt C CM H M ds wa nd bs qs es) (k:∀ b o,mo M ds wa qs b->H b=some o->H' b=some o) (kt:Zan H H'):MootAt C CM H' M ds wa nd bs qs es:=by
 obtain ⟨⟨dx,ob⟩,fk,⟨v1,d1,d2⟩,⟨v2,b1,b2⟩,⟨h1,h2,h3⟩,⟨v4,q1,q2⟩,⟨t1,t2,t3⟩,nl,nq,np⟩:=h
 exact ⟨⟨dx,k _ _ (.inl rfl) ob⟩,fk.at fun b o hb e=>k b o (.inr (.inr (.inr hb))) e,⟨v1,k _ _ (.inr (.inl (by simp [ML.ls]))) d1,d2⟩,⟨v2,k _ _ (.inr (.inl (by simp [ML.ls]))) b1,b2.mono kt⟩,
  ⟨k _ _ (.inr (.inl (by simp [ML.ls]))) h1,h2,fun q hq=>k _ _ (.inr (.inr (.inl hq))) (h3 q hq)⟩,⟨v4,k _ _ (.inr (.inl (by simp [ML.ls]))) q1,q2.mono kt⟩,⟨k _ _ (.inr (.inl (by simp [ML.ls]))) t1,k _ _ (.inr (.inl (by simp [ML.ls]))) t2,k _ _ (.inr (.inl (by simp [ML.ls]))) t3⟩,nl,nq,np⟩
theorem MootAt.same (h:MootAt C CM H M ds wa nd bs qs es) (k:Same H H'):MootAt C CM H' M ds wa nd bs qs es:=h.keep (fun b o _ e=>k b o e) fun b xs e=>k _ _ e
theorem MootAt.x (h:MootAt C CM H M ds wa nd bs qs es) {s:Addr}{xs:List V}(hs:H s=some (.lst xs)) (hn:¬ mo M ds wa qs s) (k:SameX s H H'):MootAt C CM H' M ds wa nd bs qs es :=
 h.keep (fun b o hb e=>k b o (fun z=>hn (z▸hb)) e) fun b ys e=>k b _ (fun z=>by rw [z,hs] at e; cases e) e
theorem MootAt.there (h:MootAt C CM H M ds wa nd bs qs es) {b:Addr}(hb:mo M ds wa qs b):∃ o,H b=some o:=by
 obtain ⟨⟨dx,ob⟩,fk,⟨v1,d1,d2⟩,⟨v2,b1,b2⟩,⟨h1,h2,h3⟩,⟨v4,q1,q2⟩,⟨t1,t2,t3⟩,nl,nq,np⟩:=h
 rcases hb with rfl | hb | hb | hb
 ·exact ⟨_,ob⟩
 ·simp only [ML.ls,List.mem_cons,List.not_mem_nil,or_false] at hb
  rcases hb with rfl | rfl | rfl | rfl | rfl | rfl | rfl
  ·exact ⟨_,d1⟩
  ·exact ⟨_,b1⟩
  ·exact ⟨_,h1⟩
  ·exact ⟨_,q1⟩
  ·exact ⟨_,t1⟩
  ·exact ⟨_,t2⟩
  ·exact ⟨_,t3⟩
 ·exact ⟨_,h3 b hb⟩
 ·obtain ⟨o,e,_⟩:=fk.there hb; exact ⟨o,e⟩
theorem MootAt.nown (h:MootAt C CM H M ds wa nd bs qs es) {b:Addr}{xs:List V}(e:H b=some (.lst xs)):¬ own M.L ds wa b:=fun z=>by
 obtain ⟨o,e',n1,_⟩:=h.fk.there z
 rw [e] at e'; cases e'; exact n1 xs rfl
theorem MootAt.pown (h:MootAt C CM H M ds wa nd bs qs es):¬ own M.L ds wa M.p:=fun z=>by
 obtain ⟨dx,ob⟩:=h.ob
 obtain ⟨⟨_,⟨k1,c1,_⟩,⟨k2,w1,_⟩,⟨k3,d1,_⟩,⟨k4,h1,_⟩,_⟩,⟨⟨k5,x1,x2,x3⟩,_⟩,_⟩:=h.fk
 rcases z with z | z | z | z | z | ⟨n,l,e,z⟩
 ·exact h.np z
 ·rw [z,c1] at ob; cases ob
 ·rw [z,w1] at ob; cases ob
 ·rw [z,d1] at ob; cases ob
 ·rw [z,h1] at ob; cases ob
 ·rw [z,(x3 n l e).2.1] at ob; cases ob
theorem MootAt.folk (h:MootAt C CM H M ds wa nd bs qs es) {ds':List Deed}{wa':Str->Addr}(F:Fk C H' M.L ds' wa') (t:Touch M.L ds wa H H'):MootAt C CM H' M ds' wa' nd bs qs es:=by
 have T:=Touch.lt h.fk t
 have pw:=h.pown
 obtain ⟨⟨dx,ob⟩,fk,⟨v1,d1,d2⟩,⟨v2,b1,b2⟩,⟨h1,h2,h3⟩,⟨v4,q1,q2⟩,⟨t1,t2,t3⟩,nl,nq,np⟩:=h
 exact ⟨⟨dx,t _ _ ob pw⟩,F,⟨v1,T.1 _ _ d1,d2⟩,⟨v2,T.1 _ _ b1,b2.mono T.2⟩,⟨T.1 _ _ h1,h2,fun q hq=>T.1 _ _ (h3 q hq)⟩,⟨v4,T.1 _ _ q1,q2.mono T.2⟩,⟨T.1 _ _ t1,T.1 _ _ t2,T.1 _ _ t3⟩,nl,nq,np⟩
theorem MFresh.folk {ds':List Deed}{wa':Str->Addr}(f:Zhx M.L ds wa ds' wa' H):MFresh M ds wa qs ds' wa' qs H:=fun b hb=>by
 rcases hb with z | z | z | z
 ·exact .inl (.inl z)
 ·exact .inl (.inr (.inl z))
 ·exact .inl (.inr (.inr (.inl z)))
 ·rcases f b z with z | z
  ·exact .inl (.inr (.inr (.inr z)))
  ·exact .inr z
theorem MootAt.lst (h:MootAt C CM H M ds wa nd bs qs es) {l:Addr}(hl:l∈M.ls):∃ xs,H l=some (.lst xs):=by
 obtain ⟨_,_,⟨v1,d1,d2⟩,⟨v2,b1,b2⟩,⟨h1,h2,h3⟩,⟨v4,q1,q2⟩,⟨t1,t2,t3⟩,_⟩:=h
 simp only [ML.ls,List.mem_cons,List.not_mem_nil,or_false] at hl
 rcases hl with rfl | rfl | rfl | rfl | rfl | rfl | rfl <;> exact ⟨_,by assumption⟩
theorem MFresh.refl:MFresh M ds wa qs ds wa qs H:=fun b hb=>.inl hb
theorem MootAt.part (h:MootAt C CM H M ds wa nd bs qs es) {l:Addr}{o:HO}(hl:l∈M.ls):Fk C (upd H l o) M.L ds wa/\(∃ dx,(upd H l o) M.p=some (.ins CM dx (V1 M)))/\Zan H (upd H l o)/\(∀ q∈qs,(upd H l o) q=some (.lst [])):=by
 obtain ⟨xs,e⟩:=h.lst hl
 obtain ⟨dx,ob⟩:=h.ob
 refine ⟨h.fk.at fun b o' hb eb=>?_,⟨dx,?_⟩,Zao e,fun q hq=>?_⟩
 ·rw [Zc (fun z:b=l=>h.nown e (z▸hb))]; exact eb
 ·rw [Zc (fun z=>by rw [z,e] at ob; cases ob)]; exact ob
 ·rw [Zc (fun z:q=l=>h.nq q hq (z▸hl))]; exact h.hl.2.2 q hq
theorem MootAt.deed (h:MootAt C CM H M ds wa nd bs qs es) {vs:List V}{v:V}(e:H M.ld=some (.lst vs)):MootAt C CM (upd H M.ld (.lst (vs ++ [v]))) M ds wa (nd+1) bs qs es:=by
 obtain ⟨p1,p2,p3,p4⟩:=h.part (l:=M.ld) (o:=.lst (vs ++ [v])) (by simp [ML.ls])
 have n:=h.nl
 simp only [ML.ls,List.nodup_cons,List.mem_cons,List.not_mem_nil,or_false,not_or] at n
 obtain ⟨⟨n1,n2,n3,n4,n5,n6⟩,_⟩:=n
 obtain ⟨_,_,⟨v1,d1,d2⟩,⟨v2,b1,b2⟩,⟨h1,h2,h3⟩,⟨v4,q1,q2⟩,⟨t1,t2,t3⟩,nl,nq,np⟩:=h
 rw [e] at d1
 cases d1
 exact ⟨p2,p1,⟨_,Zi,by rw [List.length_append,d2]; rfl⟩,⟨v2,by rw [Zc (Ne.symm n1)]; exact b1,b2.mono p3⟩,⟨by rw [Zc (Ne.symm n2)]; exact h1,h2,p4⟩,⟨v4,by rw [Zc (Ne.symm n3)]; exact q1,q2.mono p3⟩,
  ⟨by rw [Zc (Ne.symm n4)]; exact t1,by rw [Zc (Ne.symm n5)]; exact t2,by rw [Zc (Ne.symm n6)]; exact t3⟩,nl,nq,np⟩
theorem MootAt.debt (h:MootAt C CM H M ds wa nd bs qs es) {vs:List V}{a b:Addr}{x:Enr}(e:H M.lq=some (.lst vs)) (h1:H a=some (.tup [.non,.ref b])) (h2:H b=some (.tup [.int x.at_,.str x.d,.str x.c,.int x.m])) :
  MootAt C CM (upd H M.lq (.lst (vs ++ [.ref a]))) M ds wa nd bs qs (es ++ [x]):=by
 obtain ⟨p1,p2,p3,p4⟩:=h.part (l:=M.lq) (o:=.lst (vs ++ [.ref a])) (by simp [ML.ls])
 have n:=h.nl
 simp only [ML.ls,List.nodup_cons,List.mem_cons,List.not_mem_nil,or_false,not_or] at n
 obtain ⟨⟨_,_,n1,_⟩,⟨_,n2,_⟩,⟨n3,_⟩,⟨n4,n5,n6⟩,_⟩:=n
 obtain ⟨_,_,⟨v1,d1,d2⟩,⟨v2,b1,b2⟩,⟨g1,g2,g3⟩,⟨v4,q1,q2⟩,⟨t1,t2,t3⟩,nl,nq,np⟩:=h
 rw [e] at q1
 cases q1
 exact ⟨p2,p1,⟨v1,by rw [Zc n1]; exact d1,d2⟩,⟨v2,by rw [Zc n2]; exact b1,b2.mono p3⟩,⟨by rw [Zc n3]; exact g1,g2,p4⟩,⟨_,Zi,(q2.mono p3).snoc (p3 _ _ h1) (p3 _ _ h2)⟩,
  ⟨by rw [Zc (Ne.symm n4)]; exact t1,by rw [Zc (Ne.symm n5)]; exact t2,by rw [Zc (Ne.symm n6)]; exact t3⟩,nl,nq,np⟩
theorem MootAt.thing (h:MootAt C CM H M ds wa nd bs qs es) {vs:List V}{a q:Addr}{x:Str×Int}(e:H M.lb=some (.lst vs)) (h1:H a=some (.tup (bV x))) (hq:(upd H M.lb (.lst (vs ++ [.ref a]))) q=none) :
  MootAt C CM (upd (upd (upd H M.lb (.lst (vs ++ [.ref a]))) q (.lst [])) M.lh (.lst (qs.map V.ref ++ [.ref q]))) M ds wa nd (bs ++ [x]) (qs ++ [q]) es:=by
 obtain ⟨p1,p2,p3,p4⟩:=h.part (l:=M.lb) (o:=.lst (vs ++ [.ref a])) (by simp [ML.ls])
 have n:=h.nl
 simp only [ML.ls,List.nodup_cons,List.mem_cons,List.not_mem_nil,or_false,not_or] at n
 obtain ⟨⟨n1,m1,_⟩,⟨n2,n3,n4,n5,n6⟩,⟨m3,m4,m5,m6⟩,_⟩:=n
 have hw:=h
 obtain ⟨_,_,⟨v1,d1,d2⟩,⟨v2,b1,b2⟩,⟨g1,g2,g3⟩,⟨v4,q1,q2⟩,⟨t1,t2,t3⟩,nl,nq,np⟩:=h
 rw [e] at b1
 cases b1
 have S:=Same.new (o:=.lst []) hq
 have kq:(upd (upd H M.lb (.lst (vs ++ [.ref a]))) q (.lst [])) q=some (.lst []):=Zi
 have ql:q∉M.ls:=fun z=>by
  have:∃ o,(upd H M.lb (.lst (vs ++ [.ref a]))) q=some o:=by
   by_cases c:q=M.lb
   ·rw [c,Zi]; exact ⟨_,rfl⟩
   ·rw [Zc c]; obtain ⟨xs,e⟩:=hw.lst z; exact ⟨_,e⟩
  obtain ⟨o,e'⟩:=this
  rw [hq] at e'; cases e'
 have gb:(upd H M.lb (.lst (vs ++ [.ref a]))) M.lb=some (.lst (vs ++ [.ref a])):=Zi
 have gd:(upd H M.lb (.lst (vs ++ [.ref a]))) M.ld=some (.lst v1):=by rw [Zc n1]; exact d1
 have gh:(upd H M.lb (.lst (vs ++ [.ref a]))) M.lh=some (.lst (qs.map V.ref)):=by rw [Zc (Ne.symm n2)]; exact g1
 have gq:(upd H M.lb (.lst (vs ++ [.ref a]))) M.lq=some (.lst v4):=by rw [Zc (Ne.symm n3)]; exact q1
 have gt:(upd H M.lb (.lst (vs ++ [.ref a]))) M.lt=some (.lst []):=by rw [Zc (Ne.symm n4)]; exact t1
 have gy:(upd H M.lb (.lst (vs ++ [.ref a]))) M.ly=some (.lst []):=by rw [Zc (Ne.symm n5)]; exact t2
 have gv:(upd H M.lb (.lst (vs ++ [.ref a]))) M.lv=some (.lst []):=by rw [Zc (Ne.symm n6)]; exact t3
 have tr:=(b2.mono p3).snoc (p3 _ _ h1)
 have qr:=q2.mono p3
 generalize (upd H M.lb (.lst (vs ++ [.ref a])))=H1 at hq S kq p1 p2 p4 gb gd gh gq gt gy gv tr qr ⊢
 have S2:∀ b o,b≠M.lh->H1 b=some o->(L2.upd (L2.upd H1 q (.lst [])) M.lh (.lst (qs.map V.ref ++ [.ref q]))) b=some o:=fun b o nb e=>by rw [Zc nb]; exact S b o e
 have T2:Zan H1 (L2.upd (L2.upd H1 q (.lst [])) M.lh (.lst (qs.map V.ref ++ [.ref q]))):=fun b xs e=>S2 b _ (fun z=>by rw [z,gh] at e; cases e) e
 obtain ⟨dx,ob⟩:=p2
 have hlh:M.lh∈M.ls:=by simp [ML.ls]
 refine ⟨⟨dx,S2 _ _ (fun z=>by rw [z,gh] at ob; cases ob) ob⟩,p1.at fun b o hb e=>S2 _ _ (fun z=>?_) e,⟨v1,S2 _ _ m1 gd,d2⟩,⟨_,S2 _ _ n2 gb,by rw [List.map_append]; exact tr.mono T2⟩,⟨by rw [Zi,List.map_append]; rfl,by rw [List.length_append,List.length_append,g2]; rfl,fun q' hq'=>?_⟩,
  ⟨v4,S2 _ _ (Ne.symm m3) gq,qr.mono T2⟩,⟨S2 _ _ (Ne.symm m4) gt,S2 _ _ (Ne.symm m5) gy,S2 _ _ (Ne.symm m6) gv⟩,nl,fun q' hq'=>?_,np⟩
 ·obtain ⟨o',e',n1',_⟩:=p1.there hb
  rw [z,gh] at e'; cases e'; exact n1' _ rfl
 ·rcases List.mem_append.mp hq' with z | z
  ·exact S2 _ _ (fun y=>nq q' z (y▸hlh)) (p4 q' z)
  ·rw [List.mem_singleton.mp z,Zc (fun y:q=M.lh=>ql (y▸hlh))]; exact kq
 ·rcases List.mem_append.mp hq' with z | z
  ·exact nq q' z
  ·rw [List.mem_singleton.mp z]; exact ql
end
section
variable {P:Program}{w:World}{K:PySem.W.Frag}{mg:Str->Option Value}{base:Heap}{C CM:Addr}
theorem Fn.alias {x y:Str}{ps:List Str}{k:Nat}{sp:Sp}(F:Fn P w K mg base y ps k sp) (e:mg x=mg y):Fn P w K mg base x ps k sp:=let ⟨f,fd,a,b⟩:=F; ⟨f,fd,e.trans a,b⟩
def Zni:Sp:=fun vs H Q _=>∃ d:Int,vs = [.int d]/\1<=d/\d<=1000000/\Q .non H
abbrev Zcp:Stmt:=top 25
theorem Z4v:FnScope ["many"] ["many"] (Za Zcp):=⟨rfl,rfl,rfl,by decide +kernel,rfl,by decide +kernel,by decide +kernel⟩
theorem Z4w:Nm (Za Zcp) "MOST_MONEY" .globalImplicit:=by decide +kernel
theorem Z4x:Nm (Za Zcp) "many" .local:=by decide +kernel
theorem Z4y (Zid:Has K mg "check_money" Zcp) (C0:∃ t,mg "MOST_MONEY" = some (.int 1000000 t)):Fn P w K mg base "check_money" ["many"] 1 Zni:=by
 obtain ⟨t0,c_MOST_MONEY⟩:=C0
 have r_MOST_MONEY:RelV (.int 1000000) (.int 1000000 t0):=⟨t0,rfl⟩
 refine Zid.fnQ Z4v (fun _ _ _ _ _ _ us hl=>match us,hl with | [_],_=>rfl) (fun vs H Q E h=>?_) (fun f cdv A outer s H vs Q E hr h=>?_)
 ·obtain ⟨d,rfl,_⟩:=h
  rfl
 ·obtain ⟨d,rfl,h0,h1,k⟩:=h
  refine ⟨_,(Zg (Zs (Vv (Zdi Wn Wn Zf (qvN 0 Z4x) (Yo Z4w c_MOST_MONEY r_MOST_MONEY))) (Zg Yz) Zt)),?_⟩
  refine ⟨_,rfl,_,_,rfl,rfl,_,rfl,Z6 (fun _=>?_) (fun z=>absurd h0 z)⟩
  refine ⟨_,_,rfl,rfl,_,rfl,Y4 (fun z=>absurd h1 z) (fun _=>k)⟩
def Zbz (C CM:Addr):Sp:=fun vs H Q _=>∃ (M:ML) (ds:List Deed) (wa:Str->Addr) (nd:Nat) (bs:List (Str×Int)) (qs:List Addr) (es:List Enr),vs = [.ref M.p]/\MootAt C CM H M ds wa nd bs qs es/\nd < 400/\Q .non H
abbrev Zbs:Stmt:=Z9 (top 52) 43
theorem Z4z:FnScope ["self"] ["self"] (Za Zbs):=⟨rfl,rfl,rfl,by decide +kernel,rfl,by decide +kernel,by decide +kernel⟩
theorem Z40:Nm (Za Zbs) "MOST_MOMENTS" .globalImplicit:=by decide +kernel
theorem Z41:Nm (Za Zbs) "len" .globalImplicit:=by decide +kernel
theorem Z42:Nm (Za Zbs) "self" .local:=by decide +kernel
theorem Zrr (Zie:HasM K CM "check_moments" "Moot.check_moments" Zbs) (T:Txt mg) (Tm:TxCMoot K CM) (C0:∃ t,mg "MOST_MOMENTS" = some (.int 400 t)):Mt P w K mg base CM "check_moments" ["self"] 1 (Zbz C CM):=by
 obtain ⟨t0,c_MOST_MOMENTS⟩:=C0
 have r_MOST_MOMENTS:RelV (.int 400) (.int 400 t0):=⟨t0,rfl⟩
 refine Zie.mtQ Z4z (fun _ _ _ _ _ _ us hl=>match us,hl with | [_],_=>rfl) (fun vs H Q E h=>?_) (fun f cdv A outer s H vs Q E hr h=>?_)
 ·obtain ⟨M,ds,wa,nd,bs,qs,es,rfl,_⟩:=h
  rfl
 ·obtain ⟨M,ds,wa,nd,bs,qs,es,rfl,W,hn,k⟩:=h
  refine ⟨_,(Zg (Zs (Zx Zd4 (Z4 Vm Z41 T.len Wc (Zb (Zy (qvN 0 Z42)) Zd)) (Yo Z40 c_MOST_MOMENTS r_MOST_MOMENTS) (Zw _)) (Zg Yz) Zt)),?_⟩
  obtain ⟨dx,ob⟩:=W.ob
  obtain ⟨vs,d1,d2⟩:=W.dl
  refine ⟨_,rfl,M.p,CM,dx,_,_,rfl,ob,Tm.cl,Tm.nd,Zb3 _,M.ld,vs,rfl,.inl (SqL.of d1),_,_,rfl,rfl,_,rfl,Z6 (fun z=>absurd z (by lia)) (fun _=>k)⟩
def Zgp (C CM:Addr):Sp:=fun vs H Q _=>∃ (M:ML) (ds:List Deed) (wa:Str->Addr) (nd:Nat) (bs:List (Str×Int)) (qs:List Addr) (es:List Enr) (i:Nat),vs = [.ref M.p,.int i]/\MootAt C CM H M ds wa nd bs qs es/\i < bs.length/\Q .non H
abbrev Zbt:Stmt:=Z9 (top 52) 41
theorem Z43:FnScope ["self", "thing"] ["self", "thing"] (Za Zbt):=⟨rfl,rfl,rfl,by decide +kernel,rfl,by decide +kernel,by decide +kernel⟩
theorem Z44:Nm (Za Zbt) "len" .globalImplicit:=by decide +kernel
theorem Z45:Nm (Za Zbt) "self" .local:=by decide +kernel
theorem Z46:Nm (Za Zbt) "thing" .local:=by decide +kernel
theorem Zrt (Zif:HasM K CM "check_thing" "Moot.check_thing" Zbt) (T:Txt mg) (Tm:TxCMoot K CM):Mt P w K mg base CM "check_thing" ["self", "thing"] 1 (Zgp C CM):=by
 refine Zif.mtQ Z43 (fun _ _ _ _ _ _ us hl=>match us,hl with | [_,_],_=>rfl) (fun vs H Q E h=>?_) (fun f cdv A outer s H vs Q E hr h=>?_)
 ·obtain ⟨M,ds,wa,nd,bs,qs,es,i,rfl,_⟩:=h
  rfl
 ·obtain ⟨M,ds,wa,nd,bs,qs,es,i,rfl,W,hi,k⟩:=h
  refine ⟨_,(Zg (Zs (Vv (Zdi Wn Zaf Zf (qvN 1 Z46) (Z4 Vm Z44 T.len Wc (Zb (Zy (qvN 0 Z45)) Zd)))) (Zg Yz) Zt)),?_⟩
  obtain ⟨dx,ob⟩:=W.ob
  obtain ⟨vs,b1,b2⟩:=W.bl
  have hl:=b2.length
  rw [List.length_map] at hl
  refine ⟨_,rfl,_,_,rfl,rfl,_,rfl,Z6 (fun _=>?_) (fun z=>absurd (by lia) z)⟩
  refine ⟨_,rfl,M.p,CM,dx,_,_,rfl,ob,Tm.cl,Tm.nb,Za1 _,M.lb,vs,rfl,.inl (SqL.of b1),_,_,rfl,rfl,_,rfl,Y4 (fun z=>absurd (show (i:Int) < vs.length by lia) z) (fun _=>k)⟩
def Zgq (C CM:Addr):Sp:=fun vs H Q _=>∃ (M:ML) (ds:List Deed) (wa:Str->Addr) (nd:Nat) (bs:List (Str×Int)) (qs:List Addr) (es:List Enr) (day:Int) (pl:Addr) (ps:List Str),vs = [.ref M.p,.int day,.ref pl,.non,.non]/\MootAt C CM H M ds wa nd bs qs es /\
 H pl=some (.lst (ps.map V.str))/\(∀ n∈ps,∃ d,Zl ds n=some d/\d<=day/\Yp ds n day=false)/\Q .non H
abbrev Ul:Stmt:=Z9 (top 52) 40
theorem Zey:FnScope ["self", "day", "people", "thing", "oath", "name"] ["self", "day", "people", "thing", "oath"] (Za Ul):=⟨rfl,rfl,rfl,by decide +kernel,rfl,by decide +kernel,by decide +kernel⟩
theorem Zez:Nm (Za Ul) "day" .local:=by decide +kernel
theorem Zbu:Nm (Za Ul) "name" .local:=by decide +kernel
theorem Zjw:Nm (Za Ul) "oath" .local:=by decide +kernel
theorem Zjx:Nm (Za Ul) "people" .local:=by decide +kernel
theorem Zc4:Nm (Za Ul) "self" .local:=by decide +kernel
theorem Zjy:Nm (Za Ul) "thing" .local:=by decide +kernel
theorem Zru (Zig:HasM K CM "check_named" "Moot.check_named" Ul) (Tc:TxC K C) (Tm:TxCMoot K CM) (M_check_known:Mt P w K mg base C "check_known" ["self", "name"] 1 (Zdv C)) (M_check_there:Mt P w K mg base C "check_there" ["self", "name", "day"] 1 (Zgk C))
  (M_check_living:Mt P w K mg base C "check_living" ["self", "name", "day"] 2 (Zmf C)):Mt P w K mg base CM "check_named" ["self", "day", "people", "thing", "oath"] 3 (Zgq C CM):=by
 refine Zig.mtQ Zey (fun _ _ _ _ _ _ us hl=>match us,hl with | [_,_,_,_,_],_=>rfl) (fun vs H Q E h=>?_) (fun f cdv A outer s H vs Q E hr h=>?_)
 ·obtain ⟨M,ds,wa,nd,bs,qs,es,day,pl,ps,rfl,_⟩:=h
  rfl
 ·obtain ⟨M,ds,wa,nd,bs,qs,es,day,pl,ps,rfl,W,hpl,hps,k⟩:=h
  refine ⟨_,(Ze (Wo PassesOwn.never rfl (Vu (qvN 2 Zjx)) (Y8 (i:=5) Zey.nd Zbu)
 (Zg (Zn (Zz (Zy (qvN 0 Zc4)) Tc.cl M_check_known (hr.mono (by lia)) (Zb (qvN 5 Zbu) Zd)))))
 (Ze (Zs (Zx Zdj (qvN 3 Zjy) Wd (Zw _)) (Zg Yz) Zt)
 (Ze (Zs (Zx Zdj (qvN 4 Zjw) Wd (Zw _)) (Zg Yz) Zt)
 (Ze (Wo PassesOwn.never rfl (Vu (qvN 2 Zjx)) (Y8 (i:=5) Zey.nd Zbu)
 (Zg (Zn (Zz (Zy (qvN 0 Zc4)) Tc.cl M_check_there (hr.mono (by lia)) (Zb (qvN 5 Zbu) (Zb (qvN 1 Zez) Zd))))))
 (Ze (Zs (QW.pt (Zd2 (Zx Zdj (qvN 3 Zjy) Wd (Zw _)) (Zdp (Zx Zaf (qvN 1 Zez) (Zk Yl (Zk Zv (Zy (qvN 0 Zc4)) (qvN 3 Zjy) (fun _ _=>rfl)) Zf (fun _ _=>rfl)) (Zw _))))) (Zg Yz) Zt)
 (Ze (Zs (QW.pt (Zd2 (Zx Zdj (qvN 4 Zjw) Wd (Zw _)) (Zdp (Zx Zaf (qvN 1 Zez) (Zk Zv (Zy (qvN 0 Zc4)) (Zk Yl (qvN 4 Zjw) Zf (fun _ _=>rfl)) (fun _ _=>rfl)) (Zw _))))) (Zg Yz) Zt)
 (Zg (Wo PassesOwn.never rfl (Vu (qvN 2 Zjx)) (Y8 (i:=5) Zey.nd Zbu)
 (Zg (Zn (Zz (Zy (qvN 0 Zc4)) Tc.cl M_check_living (hr.mono (by lia)) (Zb (qvN 5 Zbu) (Zb (qvN 1 Zez) Zd))))))))))))),?_⟩
  obtain ⟨dm,obm⟩:=W.ob
  have F:=W.fk.f
  obtain ⟨dx,ob⟩:=F.ob
  have hget:∀ {i:Nat}{v:V},(ps.map V.str)[i]? = some v->∃ n,v = .str n/\n∈ps:=fun {i v} hv=>by
   rw [List.getElem?_map] at hv
   obtain ⟨a,h1,h2⟩:=Option.map_eq_some_iff.mp hv
   exact ⟨a,h2.symm,List.mem_of_getElem? h1⟩
  refine ⟨_,rfl,pl,rfl,⟨_,SqL.of hpl⟩,?_⟩
  refine Zag (ps.map V.str) (fun i σ H'=>∃ v5:Option V,σ = [some (.ref M.p),some (.int day),some (.ref pl),some .non,some .non,v5]/\H=H') ⟨none,rfl,rfl⟩ (fun i σ H' _ ⟨_,_,e⟩=>by rw [← e]; exact SqL.of hpl) ?_ ?_
  ·rintro i v σ H' hv ⟨v5,rfl,rfl⟩
   obtain ⟨n,rfl,hn⟩:=hget hv
   obtain ⟨d,h1,h2,h3⟩:=hps n hn
   exact ⟨_,rfl,M.p,CM,dm,_,_,rfl,obm,Tm.cl,Tm.nf,Vj _,M.L.p,dx,_,rfl,ob,Yq _ _ _ _ (by decide +kernel),_,rfl,M.L,ds,n,d,rfl,F,h1,_,rfl,rfl⟩
  rintro σ H' ⟨v5,rfl,rfl⟩
  refine ⟨_,rfl,rfl,_,rfl,Zm ?_⟩
  refine ⟨_,rfl,rfl,_,rfl,Zm ?_⟩
  refine ⟨_,rfl,pl,rfl,⟨_,SqL.of hpl⟩,?_⟩
  refine Zag (ps.map V.str) (fun i σ H'=>∃ v5:Option V,σ = [some (.ref M.p),some (.int day),some (.ref pl),some .non,some .non,v5]/\H=H') ⟨v5,rfl,rfl⟩ (fun i σ H' _ ⟨_,_,e⟩=>by rw [← e]; exact SqL.of hpl) ?_ ?_
  ·rintro i v σ H' hv ⟨v5,rfl,rfl⟩
   obtain ⟨n,rfl,hn⟩:=hget hv
   obtain ⟨d,h1,h2,h3⟩:=hps n hn
   exact ⟨_,rfl,M.p,CM,dm,_,_,rfl,obm,Tm.cl,Tm.nf,Vj _,M.L.p,dx,_,rfl,ob,Yq _ _ _ _ (by decide +kernel),_,rfl,_,rfl,M.L,ds,n,d,day,rfl,F,h1,h2,_,rfl,rfl⟩
  rintro σ H' ⟨v5,rfl,rfl⟩
  refine ⟨_,rfl,rfl,_,rfl,Zm (Zm ?_)⟩
  refine ⟨_,rfl,rfl,_,rfl,Zm (Zm ?_)⟩
  refine ⟨_,rfl,pl,rfl,⟨_,SqL.of hpl⟩,?_⟩
  refine Zag (ps.map V.str) (fun i σ H'=>∃ v5:Option V,σ = [some (.ref M.p),some (.int day),some (.ref pl),some .non,some .non,v5]/\H=H') ⟨v5,rfl,rfl⟩ (fun i σ H' _ ⟨_,_,e⟩=>by rw [← e]; exact SqL.of hpl) ?_ ?_
  ·rintro i v σ H' hv ⟨v5,rfl,rfl⟩
   obtain ⟨n,rfl,hn⟩:=hget hv
   obtain ⟨d,h1,h2,h3⟩:=hps n hn
   exact ⟨_,rfl,M.p,CM,dm,_,_,rfl,obm,Tm.cl,Tm.nf,Vj _,M.L.p,dx,_,rfl,ob,Yq _ _ _ _ (by decide +kernel),_,rfl,_,rfl,M.L,ds,n,day,rfl,F,h3,_,rfl,rfl⟩
  rintro σ H' ⟨v5,rfl,rfl⟩
  exact k
end
section
variable {P:Program}{w:World}{K:PySem.W.Frag}{mg:Str->Option Value}{base:Heap}{C CM:Addr}
theorem ini {H:Hp}{p l dx:Addr}{fs fs':List (Str×V)}{y:HO}(hp:H p=some (.ins CM dx fs)) (hl:H l=none):(upd (upd H l y) p (.ins CM dx fs')) p=some (.ins CM dx fs')/\(upd (upd H l y) p (.ins CM dx fs')) l=some y/\(∀ b o,H b=some o->b≠p->(upd (upd H l y) p (.ins CM dx fs')) b=some o)/\p≠l:=by
 have n:p≠l:=Zh hp hl
 exact ⟨Zi,by rw [Zc n.symm,Zi],fun b o e nb=>by rw [Zc nb,Zc (Zh e hl)]; exact e,n⟩
def Znj (C CM:Addr):Sp:=fun vs H Q _=>∃ (p dx:Addr),vs = [.ref p]/\H p=some (.ins CM dx [])/\∀ (M:ML) (H':Hp),M.p=p->MootAt C CM H' M [] (fun _=>0) 0 [] [] []->(∀ b o,H b=some o->b≠p->H' b=some o)->(∀ b,mo M [] (fun _=>0) [] b->b=p\/H b=none)->Q .non H'
abbrev Zcq:Stmt:=Z9 (top 52) 0
theorem Z47:FnScope ["self"] ["self"] (Za Zcq):=⟨rfl,rfl,rfl,by decide +kernel,rfl,by decide +kernel,by decide +kernel⟩
theorem Z48:Nm (Za Zcq) "Folk" .globalImplicit:=by decide +kernel
theorem Up:Nm (Za Zcq) "self" .local:=by decide +kernel
theorem Zyt (Zih:HasM K CM "__init__" "Moot.__init__" Zcq) (Tm:TxCMoot K CM) (M_Folk:Mks P w K mg base C "Folk" 1 (Zn8 C)):Mt P w K mg base CM "__init__" ["self"] 3 (Znj C CM):=by
 refine Zih.mtQ Z47 (fun _ _ _ _ _ _ us hl=>match us,hl with | [_],_=>rfl) (fun vs H Q E h=>?_) (fun f cdv A outer s H vs Q E hr h=>?_)
 ·obtain ⟨p,dx,rfl,_⟩:=h
  rfl
 ·obtain ⟨p,dx,rfl,hp,k⟩:=h
  refine ⟨_,(Ze (Wq (qvN 0 Up) (Yk Zd))
 (Ze (Wq (qvN 0 Up) (Zn2 M_Folk (hr.mono (by lia)) Z48))
 (Ze (Wq (qvN 0 Up) (Yk Zd))
 (Ze (Wq (qvN 0 Up) (Yk Zd))
 (Ze (Wq (qvN 0 Up) (Yk Zd))
 (Ze (Wq (qvN 0 Up) (Yk Zd))
 (Ze (Wq (qvN 0 Up) (Yk Zd))
 (Ze (Wq (qvN 0 Up) (Yk Zd))
 (Zg (Wq (qvN 0 Up) Zb1)))))))))),?_⟩
  have hz:(5000:Nat)<=sizeLine:=by decide
  refine ⟨by show 0<=sizeLine; lia,fun ld hld=>?_⟩
  have pld:p≠ld:=Zh hp hld
  refine ⟨_,rfl,p,CM,dx,[],rfl,(by rw [Zc pld]; exact hp),Tm.cl,Tm.nd,(by show 0 < 1000; decide),?_⟩
  have i1:=ini (fs':=Zj "deeds" (.ref ld) []) (y:=.lst []) hp hld
  have l1:=Wl "deeds" (V.ref ld) []
  generalize (upd (upd H ld (.lst [])) p (.ins CM dx (Zj "deeds" (.ref ld) [])))=H1 at i1 ⊢
  generalize g1:Zj "deeds" (V.ref ld) []=f1 at i1 l1 ⊢
  obtain ⟨i1p,i1l,i1k,_⟩:=i1
  intro x dx2 nx ndx nex
  have px:p≠x:=Zh i1p nx
  have pdx:p≠dx2:=Zh i1p ndx
  refine ⟨x,dx2,rfl,Zi,fun L H2a eL F2 kp fr=>⟨rfl,?_⟩⟩
  subst eL
  have sm2:Same H1 H2a:=fun b o e=>kp b o (by rw [Zc (Zh e nx),Zc (Zh e ndx)]; exact e) (Zh e nx)
  have fr2:∀ b,b=L.dc\/b=L.dw\/b=L.dd\/b=L.dh->H1 b=none:=fun b hb=>by
   have:=fr b hb
   by_cases c:b=L.p
   ·rw [c]; exact nx
   ·rw [Zc c] at this
    by_cases c2:b=dx2
    ·rw [c2]; exact ndx
    ·rw [Zc c2] at this; exact this
  have i2p0:=sm2 _ _ i1p
  have K2:Fk C H2a L [] (fun _=>0):=by
   obtain ⟨kv,w1,w2⟩:=F2.w
   exact ⟨F2,WtsAt.start F2,kv,w1,fun p hp=>by rw [List.eq_nil_of_length_eq_zero (Nat.le_zero.mp w2)] at hp; cases hp⟩
  refine ⟨_,rfl,p,CM,dx,f1,rfl,i2p0,Tm.cl,Tm.nf,(by simp only [List.length_nil] at *; lia),?_⟩
  have l2:=Wl "folk" (V.ref L.p) f1
  generalize g2:Zj "folk" (V.ref L.p) f1=f2 at l2 ⊢
  have i2p:(upd H2a p (.ins CM dx f2)) p=some (.ins CM dx f2):=Zi
  have i2k:∀ b o,H2a b=some o->b≠p->(upd H2a p (.ins CM dx f2)) b=some o:=fun b o e nb=>by rw [Zc nb]; exact e
  generalize (upd H2a p (.ins CM dx f2))=H2 at i2p i2k ⊢
  refine ⟨by show 0<=sizeLine; lia,fun lb hlb=>?_⟩
  have plb:p≠lb:=Zh i2p hlb
  refine ⟨_,rfl,p,CM,dx,f2,rfl,(by rw [Zc plb]; exact i2p),Tm.cl,Tm.nb,(by simp only [List.length_nil] at *; lia),?_⟩
  have i3:=ini (fs':=Zj "bringings" (.ref lb) f2) (y:=.lst []) i2p hlb
  have l3:=Wl "bringings" (V.ref lb) f2
  generalize (upd (upd H2 lb (.lst [])) p (.ins CM dx (Zj "bringings" (.ref lb) f2)))=H3 at i3 ⊢
  generalize g3:Zj "bringings" (V.ref lb) f2=f3 at i3 l3 ⊢
  obtain ⟨i3p,i3l,i3k,_⟩:=i3
  refine ⟨by show 0<=sizeLine; lia,fun lh hlh=>?_⟩
  have plh:p≠lh:=Zh i3p hlh
  refine ⟨_,rfl,p,CM,dx,f3,rfl,(by rw [Zc plh]; exact i3p),Tm.cl,Tm.nh,(by simp only [List.length_nil] at *; lia),?_⟩
  have i4:=ini (fs':=Zj "happenings" (.ref lh) f3) (y:=.lst []) i3p hlh
  have l4:=Wl "happenings" (V.ref lh) f3
  generalize (upd (upd H3 lh (.lst [])) p (.ins CM dx (Zj "happenings" (.ref lh) f3)))=H4 at i4 ⊢
  generalize g4:Zj "happenings" (V.ref lh) f3=f4 at i4 l4 ⊢
  obtain ⟨i4p,i4l,i4k,_⟩:=i4
  refine ⟨by show 0<=sizeLine; lia,fun lq hlq=>?_⟩
  have plq:p≠lq:=Zh i4p hlq
  refine ⟨_,rfl,p,CM,dx,f4,rfl,(by rw [Zc plq]; exact i4p),Tm.cl,Tm.nq,(by simp only [List.length_nil] at *; lia),?_⟩
  have i5:=ini (fs':=Zj "debts" (.ref lq) f4) (y:=.lst []) i4p hlq
  have l5:=Wl "debts" (V.ref lq) f4
  generalize (upd (upd H4 lq (.lst [])) p (.ins CM dx (Zj "debts" (.ref lq) f4)))=H5 at i5 ⊢
  generalize g5:Zj "debts" (V.ref lq) f4=f5 at i5 l5 ⊢
  obtain ⟨i5p,i5l,i5k,_⟩:=i5
  refine ⟨by show 0<=sizeLine; lia,fun lt hlt=>?_⟩
  have plt:p≠lt:=Zh i5p hlt
  refine ⟨_,rfl,p,CM,dx,f5,rfl,(by rw [Zc plt]; exact i5p),Tm.cl,Tm.nt,(by simp only [List.length_nil] at *; lia),?_⟩
  have i6:=ini (fs':=Zj "trials" (.ref lt) f5) (y:=.lst []) i5p hlt
  have l6:=Wl "trials" (V.ref lt) f5
  generalize (upd (upd H5 lt (.lst [])) p (.ins CM dx (Zj "trials" (.ref lt) f5)))=H6 at i6 ⊢
  generalize g6:Zj "trials" (V.ref lt) f5=f6 at i6 l6 ⊢
  obtain ⟨i6p,i6l,i6k,_⟩:=i6
  refine ⟨by show 0<=sizeLine; lia,fun ly hly=>?_⟩
  have ply:p≠ly:=Zh i6p hly
  refine ⟨_,rfl,p,CM,dx,f6,rfl,(by rw [Zc ply]; exact i6p),Tm.cl,Tm.ny,(by simp only [List.length_nil] at *; lia),?_⟩
  have i7:=ini (fs':=Zj "trial_days" (.ref ly) f6) (y:=.lst []) i6p hly
  have l7:=Wl "trial_days" (V.ref ly) f6
  generalize (upd (upd H6 ly (.lst [])) p (.ins CM dx (Zj "trial_days" (.ref ly) f6)))=H7 at i7 ⊢
  generalize g7:Zj "trial_days" (V.ref ly) f6=f7 at i7 l7 ⊢
  obtain ⟨i7p,i7l,i7k,_⟩:=i7
  refine ⟨by show 0<=sizeLine; lia,fun lv hlv=>?_⟩
  have plv:p≠lv:=Zh i7p hlv
  refine ⟨_,rfl,p,CM,dx,f7,rfl,(by rw [Zc plv]; exact i7p),Tm.cl,Tm.nv,(by simp only [List.length_nil] at *; lia),?_⟩
  have i8:=ini (fs':=Zj "verdicts" (.ref lv) f7) (y:=.lst []) i7p hlv
  have l8:=Wl "verdicts" (V.ref lv) f7
  generalize (upd (upd H7 lv (.lst [])) p (.ins CM dx (Zj "verdicts" (.ref lv) f7)))=H8 at i8 ⊢
  generalize g8:Zj "verdicts" (V.ref lv) f7=f8 at i8 l8 ⊢
  obtain ⟨i8p,i8l,i8k,_⟩:=i8
  intro dp hdp
  have pdp:p≠dp:=Zh i8p hdp
  refine ⟨_,rfl,p,CM,dx,f8,rfl,(by rw [Zc pdp]; exact i8p),Tm.cl,Tm.np,(by simp only [List.length_nil] at *; lia),?_⟩
  have i9:=ini (fs':=Zj "penances" (.ref dp) f8) (y:=.dK []) i8p hdp
  have l9:=Wl "penances" (V.ref dp) f8
  generalize (upd (upd H8 dp (.dK [])) p (.ins CM dx (Zj "penances" (.ref dp) f8)))=H9 at i9 ⊢
  generalize g9:Zj "penances" (V.ref dp) f8=f9 at i9 l9 ⊢
  obtain ⟨i9p,i9l,i9k,_⟩:=i9
  have k1:=i1k
  have k2:∀ b o,H b=some o->b≠p->H2 b=some o:=fun b o e n=>i2k b o (sm2 b o (k1 b o e n)) n
  have k3:∀ b o,H b=some o->b≠p->H3 b=some o:=fun b o e n=>i3k b o (k2 b o e n) n
  have k4:∀ b o,H b=some o->b≠p->H4 b=some o:=fun b o e n=>i4k b o (k3 b o e n) n
  have k5:∀ b o,H b=some o->b≠p->H5 b=some o:=fun b o e n=>i5k b o (k4 b o e n) n
  have k6:∀ b o,H b=some o->b≠p->H6 b=some o:=fun b o e n=>i6k b o (k5 b o e n) n
  have k7:∀ b o,H b=some o->b≠p->H7 b=some o:=fun b o e n=>i7k b o (k6 b o e n) n
  have k8:∀ b o,H b=some o->b≠p->H8 b=some o:=fun b o e n=>i8k b o (k7 b o e n) n
  have k9:∀ b o,H b=some o->b≠p->H9 b=some o:=fun b o e n=>i9k b o (k8 b o e n) n
  have q2:=i2k
  have q3:∀ b o,H2a b=some o->b≠p->H3 b=some o:=fun b o e n=>i3k b o (q2 b o e n) n
  have q4:∀ b o,H2a b=some o->b≠p->H4 b=some o:=fun b o e n=>i4k b o (q3 b o e n) n
  have q5:∀ b o,H2a b=some o->b≠p->H5 b=some o:=fun b o e n=>i5k b o (q4 b o e n) n
  have q6:∀ b o,H2a b=some o->b≠p->H6 b=some o:=fun b o e n=>i6k b o (q5 b o e n) n
  have q7:∀ b o,H2a b=some o->b≠p->H7 b=some o:=fun b o e n=>i7k b o (q6 b o e n) n
  have q8:∀ b o,H2a b=some o->b≠p->H8 b=some o:=fun b o e n=>i8k b o (q7 b o e n) n
  have q9:∀ b o,H2a b=some o->b≠p->H9 b=some o:=fun b o e n=>i9k b o (q8 b o e n) n
  have eld:H9 ld=some (.lst []):=(i9k _ _ (i8k _ _ (i7k _ _ (i6k _ _ (i5k _ _ (i4k _ _ (i3k _ _ (i2k _ _ (sm2 _ _ i1l) pld.symm) pld.symm) pld.symm) pld.symm) pld.symm) pld.symm) pld.symm) pld.symm)
  have zld:H ld=none:=hld
  have elb:H9 lb=some (.lst []):=(i9k _ _ (i8k _ _ (i7k _ _ (i6k _ _ (i5k _ _ (i4k _ _ i3l plb.symm) plb.symm) plb.symm) plb.symm) plb.symm) plb.symm)
  have zlb:H lb=none:=by
   cases eb:H lb with
   | none=>rfl
   | some o=>have:=k2 _ _ eb plb.symm; rw [hlb] at this; cases this
  have elh:H9 lh=some (.lst []):=(i9k _ _ (i8k _ _ (i7k _ _ (i6k _ _ (i5k _ _ i4l plh.symm) plh.symm) plh.symm) plh.symm) plh.symm)
  have zlh:H lh=none:=by
   cases eb:H lh with
   | none=>rfl
   | some o=>have:=k3 _ _ eb plh.symm; rw [hlh] at this; cases this
  have elq:H9 lq=some (.lst []):=(i9k _ _ (i8k _ _ (i7k _ _ (i6k _ _ i5l plq.symm) plq.symm) plq.symm) plq.symm)
  have zlq:H lq=none:=by
   cases eb:H lq with
   | none=>rfl
   | some o=>have:=k4 _ _ eb plq.symm; rw [hlq] at this; cases this
  have elt:H9 lt=some (.lst []):=(i9k _ _ (i8k _ _ (i7k _ _ i6l plt.symm) plt.symm) plt.symm)
  have zlt:H lt=none:=by
   cases eb:H lt with
   | none=>rfl
   | some o=>have:=k5 _ _ eb plt.symm; rw [hlt] at this; cases this
  have ely:H9 ly=some (.lst []):=(i9k _ _ (i8k _ _ i7l ply.symm) ply.symm)
  have zly:H ly=none:=by
   cases eb:H ly with
   | none=>rfl
   | some o=>have:=k6 _ _ eb ply.symm; rw [hly] at this; cases this
  have elv:H9 lv=some (.lst []):=(i9k _ _ i8l plv.symm)
  have zlv:H lv=none:=by
   cases eb:H lv with
   | none=>rfl
   | some o=>have:=k7 _ _ eb plv.symm; rw [hlv] at this; cases this
  have edp:H9 dp=some (.dK []):=i9l
  have zdp:H dp=none:=by
   cases eb:H dp with
   | none=>rfl
   | some o=>have:=k8 _ _ eb pdp.symm; rw [hdp] at this; cases this
  have nldlb:ld≠lb:=Zh (i2k _ _ (sm2 _ _ i1l) pld.symm) hlb
  have nldlh:ld≠lh:=Zh (i3k _ _ (i2k _ _ (sm2 _ _ i1l) pld.symm) pld.symm) hlh
  have nldlq:ld≠lq:=Zh (i4k _ _ (i3k _ _ (i2k _ _ (sm2 _ _ i1l) pld.symm) pld.symm) pld.symm) hlq
  have nldlt:ld≠lt:=Zh (i5k _ _ (i4k _ _ (i3k _ _ (i2k _ _ (sm2 _ _ i1l) pld.symm) pld.symm) pld.symm) pld.symm) hlt
  have nldly:ld≠ly:=Zh (i6k _ _ (i5k _ _ (i4k _ _ (i3k _ _ (i2k _ _ (sm2 _ _ i1l) pld.symm) pld.symm) pld.symm) pld.symm) pld.symm) hly
  have nldlv:ld≠lv:=Zh (i7k _ _ (i6k _ _ (i5k _ _ (i4k _ _ (i3k _ _ (i2k _ _ (sm2 _ _ i1l) pld.symm) pld.symm) pld.symm) pld.symm) pld.symm) pld.symm) hlv
  have nlblh:lb≠lh:=Zh i3l hlh
  have nlblq:lb≠lq:=Zh (i4k _ _ i3l plb.symm) hlq
  have nlblt:lb≠lt:=Zh (i5k _ _ (i4k _ _ i3l plb.symm) plb.symm) hlt
  have nlbly:lb≠ly:=Zh (i6k _ _ (i5k _ _ (i4k _ _ i3l plb.symm) plb.symm) plb.symm) hly
  have nlblv:lb≠lv:=Zh (i7k _ _ (i6k _ _ (i5k _ _ (i4k _ _ i3l plb.symm) plb.symm) plb.symm) plb.symm) hlv
  have nlhlq:lh≠lq:=Zh i4l hlq
  have nlhlt:lh≠lt:=Zh (i5k _ _ i4l plh.symm) hlt
  have nlhly:lh≠ly:=Zh (i6k _ _ (i5k _ _ i4l plh.symm) plh.symm) hly
  have nlhlv:lh≠lv:=Zh (i7k _ _ (i6k _ _ (i5k _ _ i4l plh.symm) plh.symm) plh.symm) hlv
  have nlqlt:lq≠lt:=Zh i5l hlt
  have nlqly:lq≠ly:=Zh (i6k _ _ i5l plq.symm) hly
  have nlqlv:lq≠lv:=Zh (i7k _ _ (i6k _ _ i5l plq.symm) plq.symm) hlv
  have nltly:lt≠ly:=Zh i6l hly
  have nltlv:lt≠lv:=Zh (i7k _ _ i6l plt.symm) hlv
  have nlylv:ly≠lv:=Zh i7l hlv
  have pl:¬ own L [] (fun _=>0) p:=fun z=>by
   rcases z with z | z | z | z | z | ⟨n,l,e,z⟩
   ·exact px z
   ·have:=fr2 p (.inl z); rw [i1p] at this; cases this
   ·have:=fr2 p (.inr (.inl z)); rw [i1p] at this; cases this
   ·have:=fr2 p (.inr (.inr (.inl z))); rw [i1p] at this; cases this
   ·have:=fr2 p (.inr (.inr (.inr z))); rw [i1p] at this; cases this
   ·cases e
  have K9:Fk C H9 L [] (fun _=>0):=K2.at fun b o hb e=>q9 b o e fun z=>pl (z▸hb)
  have h1n:∀ b,H1 b=none->b≠p->H b=none:=fun b hb n=>by
   cases eb:H b with
   | none=>rfl
   | some o=>have:=k1 _ _ eb n; rw [hb] at this; cases this
  subst g9 g8 g7 g6 g5 g4 g3 g2 g1
  refine k ⟨p,L,ld,lb,lh,lq,lt,ly,lv,dp⟩ H9 rfl ⟨⟨dx,i9p⟩,K9,⟨[],eld,rfl⟩,⟨[],elb,rfl⟩,⟨elh,rfl,fun _ z=>nomatch z⟩,⟨[],elq,rfl⟩,⟨elt,ely,elv⟩,?_,(fun _ z=>nomatch z),px⟩ k9 (fun b hb=>?_)
  ·simp only [ML.ls,List.nodup_cons,List.mem_cons,List.not_mem_nil,or_false,not_or,not_false_eq_true,List.nodup_nil,and_true]
   exact ⟨⟨nldlb,nldlh,nldlq,nldlt,nldly,nldlv⟩,⟨nlblh,nlblq,nlblt,nlbly,nlblv⟩,⟨nlhlq,nlhlt,nlhly,nlhlv⟩,⟨nlqlt,nlqly,nlqlv⟩,⟨nltly,nltlv⟩,nlylv⟩
  ·rcases hb with z | z | z | z
   ·exact .inl z
   ·simp only [ML.ls,List.mem_cons,List.not_mem_nil,or_false] at z
    rcases z with rfl | rfl | rfl | rfl | rfl | rfl | rfl <;> exact .inr (by assumption)
   ·cases z
   ·have ne:b≠p:=fun y=>pl (y▸z)
    refine .inr ?_
    rcases z with z | z | z | z | z | ⟨n,l,e,z⟩
    ·exact h1n b (by rw [z]; exact nx) ne
    ·exact h1n b (fr2 b (.inl z)) ne
    ·exact h1n b (fr2 b (.inr (.inl z))) ne
    ·exact h1n b (fr2 b (.inr (.inr (.inl z)))) ne
    ·exact h1n b (fr2 b (.inr (.inr (.inr z)))) ne
    ·cases e
end
section
variable {P:Program}{w:World}{K:PySem.W.Frag}{mg:Str->Option Value}{base:Heap}{C CM:Addr}
def Znk (C CM:Addr):Sp:=fun vs H Q _=>∃ (M:ML) (ds:List Deed) (wa:Str->Addr) (nd:Nat) (bs:List (Str×Int)) (qs:List Addr) (es:List Enr) (n:Str) (day wt:Int),vs = [.ref M.p,.str n,.int day,.int wt]/\MootAt C CM H M ds wa nd bs qs es/\nd < 400/\ds.length < 40/\Wf n/\0<=day/\day<=9999/\1<=wt/\wt<=1000/\Zl ds n=none /\
 ∀ (wa':Str->Addr) (H':Hp),MootAt C CM H' M (ds ++ [.come n day wt]) wa' (nd+1) bs qs es->Uy M ds wa qs H H'->MFresh M ds wa qs (ds ++ [.come n day wt]) wa' qs H->Q .non H'
abbrev Zap:Stmt:=Z9 (top 52) 1
theorem Z49:FnScope ["self", "name", "day", "weight"] ["self", "name", "day", "weight"] (Za Zap):=⟨rfl,rfl,rfl,by decide +kernel,rfl,by decide +kernel,by decide +kernel⟩
theorem Zjz:Nm (Za Zap) "day" .local:=by decide +kernel
theorem Zj0:Nm (Za Zap) "name" .local:=by decide +kernel
theorem Ze0:Nm (Za Zap) "self" .local:=by decide +kernel
theorem Zj1:Nm (Za Zap) "weight" .local:=by decide +kernel
theorem Zyu (Zii:HasM K CM "come" "Moot.come" Zap) (Tc:TxC K C) (Tm:TxCMoot K CM) (M_check_coming:Mt P w K mg base C "check_coming" ["self", "name", "day", "weight"] 2 (Zfq C)) (M_come:Mt P w K mg base C "come" ["self", "name", "day", "weight"] 3 (Znb C))
  (MM_check_moments:Mt P w K mg base CM "check_moments" ["self"] 1 (Zbz C CM)):Mt P w K mg base CM "come" ["self", "name", "day", "weight"] 4 (Znk C CM):=by
 refine Zii.mtQ Z49 (fun _ _ _ _ _ _ us hl=>match us,hl with | [_,_,_,_],_=>rfl) (fun vs H Q E h=>?_) (fun f cdv A outer s H vs Q E hr h=>?_)
 ·obtain ⟨M,ds,wa,nd,bs,qs,es,n,day,wt,rfl,_⟩:=h
  rfl
 ·obtain ⟨M,ds,wa,nd,bs,qs,es,n,day,wt,rfl,W0,hn4,hl,hnm,d0,d1,w0,w1,hc,k⟩:=h
  refine ⟨_,(Ze (Zn (Zz (Zy (qvN 0 Ze0)) Tc.cl M_check_coming (hr.mono (by lia)) (Zb (qvN 1 Zj0) (Zb (qvN 2 Zjz) (Zb (qvN 3 Zj1) Zd)))))
 (Ze (Zn (Zd6 (qvN 0 Ze0) Tm.cl MM_check_moments (hr.mono (by lia))))
 (Ze (Zn (Zz (Zy (qvN 0 Ze0)) Tc.cl M_come (hr.mono (by lia)) (Zb (qvN 1 Zj0) (Zb (qvN 2 Zjz) (Zb (qvN 3 Zj1) Zd)))))
 (Zg (Zn (Wi F.plainAttrs_list F.slot_list_append F.type_list_append Wu (Zy (qvN 0 Ze0)) (Zb (Yn (Zb Wm (Zb (qvN 1 Zj0) (Zb (qvN 2 Zjz) (Zb (qvN 3 Zj1) Zd))))) Zd))))))),?_⟩
  have hz:(5000:Nat)<=sizeLine:=by decide
  obtain ⟨dm,obm⟩:=W0.ob
  obtain ⟨dx,ob⟩:=W0.fk.f.ob
  refine ⟨_,rfl,M.p,CM,dm,_,_,rfl,obm,Tm.cl,Tm.nf,Vj _,M.L.p,dx,_,rfl,ob,Yq _ _ _ _ (by decide +kernel),_,rfl,_,rfl,_,rfl,M.L,ds,n,day,wt,rfl,W0.fk.f,hl,hnm,d0,d1,w0,w1,hc,fun H1 S1=>?_⟩
  have W1:=W0.same S1
  refine ⟨_,rfl,M.p,dm,_,rfl,S1 _ _ obm,Ys _ (by decide +kernel),M,ds,wa,nd,bs,qs,es,rfl,W1,hn4,?_⟩
  refine ⟨_,rfl,M.p,CM,dm,_,_,rfl,S1 _ _ obm,Tm.cl,Tm.nf,Vj _,M.L.p,dx,_,rfl,S1 _ _ ob,Yq _ _ _ _ (by decide +kernel),_,rfl,_,rfl,_,rfl,M.L,ds,wa,n,day,wt,rfl,W1.fk,hl,hnm,d0,d1,w0,w1,hc,fun wa' H2 F2 T2 R2=>?_⟩
  have W2:=W1.folk F2 T2
  obtain ⟨dm2,obm2⟩:=W2.ob
  obtain ⟨vs,e1,e2⟩:=W2.dl
  refine ⟨_,rfl,M.p,CM,dm2,_,_,rfl,obm2,Tm.cl,Tm.nd,Zb3 _,.inl ⟨rfl,_,SqL.of e1⟩,_,rfl,_,rfl,_,rfl,by show 4<=sizeLine; lia,fun p hp=>?_⟩
  have S3:=Same.new (o:=.tup [.str "come", .str n,.int day,.int wt]) hp
  generalize (upd H2 p (.tup [.str "come", .str n,.int day,.int wt]))=H3 at S3 ⊢
  have W3:=W2.same S3
  refine ⟨M.ld,vs,.ref p,rfl,rfl,S3 _ _ e1,by lia,?_⟩
  refine k wa' _ (W3.deed (S3 _ _ e1)) (fun b o e nb=>?_) (fun b hb=>?_)
  ·rw [Zc (fun z:b=M.ld=>nb (.inr (.inl (by rw [z]; simp [ML.ls]))))]
   exact S3 _ _ (T2 b o (S1 _ _ e) fun z=>nb (.inr (.inr (.inr z))))
  ·rcases MFresh.folk (qs:=qs) R2 b hb with z | z
   ·exact .inl z
   ·exact .inr (S1.free z)
def Zoc (C CM:Addr):Sp:=fun vs H Q _=>∃ (M:ML) (ds:List Deed) (wa:Str->Addr) (nd:Nat) (bs:List (Str×Int)) (qs:List Addr) (es:List Enr) (n hr:Str) (day dn dr:Int),vs = [.ref M.p,.str n,.int day,.str hr]/\MootAt C CM H M ds wa nd bs qs es/\nd < 400/\ds.length<=1000/\0<=day/\day<=9999/\Zl ds n=some dn/\dn<=day/\Zl ds hr=some dr/\dr<=day/\Zp ds n=none/\Zp ds hr=none/\hr≠n /\
 ∀ (H':Hp),MootAt C CM H' M (ds ++ [.die n day hr]) wa (nd+1) bs qs es->Uy M ds wa qs H H'->MFresh M ds wa qs (ds ++ [.die n day hr]) wa qs H->Q .non H'
abbrev Zaq:Stmt:=Z9 (top 52) 3
theorem Z5a:FnScope ["self", "name", "day", "heir"] ["self", "name", "day", "heir"] (Za Zaq):=⟨rfl,rfl,rfl,by decide +kernel,rfl,by decide +kernel,by decide +kernel⟩
theorem Zj2:Nm (Za Zaq) "day" .local:=by decide +kernel
theorem Zj3:Nm (Za Zaq) "heir" .local:=by decide +kernel
theorem Zj4:Nm (Za Zaq) "name" .local:=by decide +kernel
theorem Ze1:Nm (Za Zaq) "self" .local:=by decide +kernel
theorem Z0e (Zij:HasM K CM "die" "Moot.die" Zaq) (Tc:TxC K C) (Tm:TxCMoot K CM) (M_check_death:Mt P w K mg base C "check_death" ["self", "name", "day", "heir"] 2 (Zfy C)) (M_die:Mt P w K mg base C "die" ["self", "name", "day", "heir"] 3 (Zpu C))
  (MM_check_moments:Mt P w K mg base CM "check_moments" ["self"] 1 (Zbz C CM)):Mt P w K mg base CM "die" ["self", "name", "day", "heir"] 4 (Zoc C CM):=by
 refine Zij.mtQ Z5a (fun _ _ _ _ _ _ us hl=>match us,hl with | [_,_,_,_],_=>rfl) (fun vs H Q E h=>?_) (fun f cdv A outer s H vs Q E hr h=>?_)
 ·obtain ⟨M,ds,wa,nd,bs,qs,es,n,hr,day,dn,dr,rfl,_⟩:=h
  rfl
 ·obtain ⟨M,ds,wa,nd,bs,qs,es,n,he,day,dn,dr,rfl,W1,hn4,hl,d0,d1,c1,c2,c3,c4,c5,c6,c7,k⟩:=h
  refine ⟨_,(Ze (Zn (Zz (Zy (qvN 0 Ze1)) Tc.cl M_check_death (hr.mono (by lia)) (Zb (qvN 1 Zj4) (Zb (qvN 2 Zj2) (Zb (qvN 3 Zj3) Zd)))))
 (Ze (Zn (Zd6 (qvN 0 Ze1) Tm.cl MM_check_moments (hr.mono (by lia))))
 (Ze (Zn (Zz (Zy (qvN 0 Ze1)) Tc.cl M_die (hr.mono (by lia)) (Zb (qvN 1 Zj4) (Zb (qvN 2 Zj2) (Zb (qvN 3 Zj3) Zd)))))
 (Zg (Zn (Wi F.plainAttrs_list F.slot_list_append F.type_list_append Wu (Zy (qvN 0 Ze1)) (Zb (Yn (Zb Wm (Zb (qvN 1 Zj4) (Zb (qvN 2 Zj2) (Zb (qvN 3 Zj3) Zd))))) Zd))))))),?_⟩
  have hz:(5000:Nat)<=sizeLine:=by decide
  obtain ⟨dm,obm⟩:=W1.ob
  obtain ⟨dx,ob⟩:=W1.fk.f.ob
  refine ⟨_,rfl,M.p,CM,dm,_,_,rfl,obm,Tm.cl,Tm.nf,Vj _,M.L.p,dx,_,rfl,ob,Yq _ _ _ _ (by decide +kernel),_,rfl,_,rfl,_,rfl,M.L,ds,n,he,day,dn,dr,rfl,W1.fk.f,d0,d1,c1,c2,c3,c4,c5,c6,c7,?_⟩
  refine ⟨_,rfl,M.p,dm,_,rfl,obm,Ys _ (by decide +kernel),M,ds,wa,nd,bs,qs,es,rfl,W1,hn4,?_⟩
  refine ⟨_,rfl,M.p,CM,dm,_,_,rfl,obm,Tm.cl,Tm.nf,Vj _,M.L.p,dx,_,rfl,ob,Yq _ _ _ _ (by decide +kernel),_,rfl,_,rfl,_,rfl,M.L,ds,wa,n,he,day,dn,dr,rfl,W1.fk,hl,d0,d1,c1,c2,c3,c4,c5,c6,c7,fun H2 F2 T2 R2=>?_⟩
  have W2:=W1.folk F2 T2
  obtain ⟨dm2,obm2⟩:=W2.ob
  obtain ⟨vs,e1,e2⟩:=W2.dl
  refine ⟨_,rfl,M.p,CM,dm2,_,_,rfl,obm2,Tm.cl,Tm.nd,Zb3 _,.inl ⟨rfl,_,SqL.of e1⟩,_,rfl,_,rfl,_,rfl,by show 4<=sizeLine; lia,fun p hp=>?_⟩
  have S3:=Same.new (o:=.tup [.str "die", .str n,.int day,.str he]) hp
  generalize (upd H2 p (.tup [.str "die", .str n,.int day,.str he]))=H3 at S3 ⊢
  have W3:=W2.same S3
  refine ⟨M.ld,vs,.ref p,rfl,rfl,S3 _ _ e1,by lia,?_⟩
  refine k _ (W3.deed (S3 _ _ e1)) (fun b o e nb=>?_) (MFresh.folk R2)
  rw [Zc (fun z:b=M.ld=>nb (.inr (.inl (by rw [z]; simp [ML.ls]))))]
  exact S3 _ _ (T2 b o e fun z=>nb (.inr (.inr (.inr z))))
def Zmn (C CM:Addr):Sp:=fun vs H Q _=>∃ (M:ML) (ds:List Deed) (wa:Str->Addr) (nd:Nat) (bs:List (Str×Int)) (qs:List Addr) (es:List Enr) (n:Str) (day d:Int),vs = [.ref M.p,.str n,.int day]/\MootAt C CM H M ds wa nd bs qs es/\nd < 400/\bs.length < 40/\0<=day/\day<=9999/\Zl ds n=some d/\d<=day/\Yp ds n day=false /\
 ∀ (q:Addr) (H':Hp),MootAt C CM H' M ds wa (nd+1) (bs ++ [(n,day)]) (qs ++ [q]) es->Uy M ds wa qs H H'->MFresh M ds wa qs ds wa (qs ++ [q]) H->Q (.int bs.length) H'
abbrev Um:Stmt:=Z9 (top 52) 5
theorem Z5b:FnScope ["self", "name", "day"] ["self", "name", "day"] (Za Um):=⟨rfl,rfl,rfl,by decide +kernel,rfl,by decide +kernel,by decide +kernel⟩
theorem Z5c:Nm (Za Um) "MOST_THINGS" .globalImplicit:=by decide +kernel
theorem Z5d:Nm (Za Um) "check_day" .globalImplicit:=by decide +kernel
theorem Ze2:Nm (Za Um) "day" .local:=by decide +kernel
theorem Zqg:Nm (Za Um) "len" .globalImplicit:=by decide +kernel
theorem Zj5:Nm (Za Um) "name" .local:=by decide +kernel
theorem Zaw:Nm (Za Um) "self" .local:=by decide +kernel
theorem Zww (Zik:HasM K CM "bring" "Moot.bring" Um) (T:Txt mg) (Tm:TxCMoot K CM) (C0:∃ t,mg "MOST_THINGS" = some (.int 40 t)) (Wg:Fn P w K mg base "check_day" ["day"] 1 Ud) (MM_check_named:Mt P w K mg base CM "check_named" ["self", "day", "people", "thing", "oath"] 3 (Zgq C CM))
  (MM_check_moments:Mt P w K mg base CM "check_moments" ["self"] 1 (Zbz C CM)):Mt P w K mg base CM "bring" ["self", "name", "day"] 4 (Zmn C CM):=by
 obtain ⟨t0,c_MOST_THINGS⟩:=C0
 have r_MOST_THINGS:RelV (.int 40) (.int 40 t0):=⟨t0,rfl⟩
 refine Zik.mtQ Z5b (fun _ _ _ _ _ _ us hl=>match us,hl with | [_,_,_],_=>rfl) (fun vs H Q E h=>?_) (fun f cdv A outer s H vs Q E hr h=>?_)
 ·obtain ⟨M,ds,wa,nd,bs,qs,es,n,day,d,rfl,_⟩:=h
  rfl
 ·obtain ⟨M,ds,wa,nd,bs,qs,es,n,day,d,rfl,W0,hn4,hl,d0,d1,c1,c2,c3,k⟩:=h
  refine ⟨_,(Ze (Zn (Zq Wg (hr.mono (by lia)) Z5d (Zb (qvN 2 Ze2) Zd)))
 (Ze (Zn (Zz (qvN 0 Zaw) Tm.cl MM_check_named (hr.mono (by lia)) (Zb (qvN 2 Ze2) (Zb (Yk (Zb (qvN 1 Zj5) Zd)) (Zb Wd (Zb Wd Zd))))))
 (Ze (Zs (Zx Zd4 (Z4 Vm Zqg T.len Wc (Zb (Zy (qvN 0 Zaw)) Zd)) (Yo Z5c c_MOST_THINGS r_MOST_THINGS) (Zw _)) (Zg Yz) Zt)
 (Ze (Zn (Zd6 (qvN 0 Zaw) Tm.cl MM_check_moments (hr.mono (by lia))))
 (Ze (Zn (Wi F.plainAttrs_list F.slot_list_append F.type_list_append Wu (Zy (qvN 0 Zaw)) (Zb (Yn (Zb (qvN 1 Zj5) (Zb (qvN 2 Ze2) Zd))) Zd)))
 (Ze (Zn (Wi F.plainAttrs_list F.slot_list_append F.type_list_append Wu (Zy (qvN 0 Zaw)) (Zb (Yk Zd) Zd)))
 (Ze (Zn (Wi F.plainAttrs_list F.slot_list_append F.type_list_append Wu (Zy (qvN 0 Zaw)) (Zb (Yn (Zb Wm (Zb (qvN 1 Zj5) (Zb (qvN 2 Ze2) Zd)))) Zd)))
 (Zg (Zu (Z0 Zb7 (Z4 Vm Zqg T.len Wc (Zb (Zy (qvN 0 Zaw)) Zd)) Zf)))))))))),?_⟩
  have hz:(5000:Nat)<=sizeLine:=by decide
  refine ⟨_,rfl,day,rfl,d0,d1,?_⟩
  obtain ⟨dm,obm⟩:=W0.ob
  refine ⟨_,rfl,M.p,dm,_,rfl,obm,Ys _ (by decide +kernel),_,rfl,_,rfl,by show 1<=sizeLine; lia,fun pl hpl=>?_⟩
  have S1:=Same.new (o:=.lst [.str n]) hpl
  have k1:(upd H pl (.lst [.str n])) pl=some (.lst ([n].map V.str)):=Zi
  generalize (upd H pl (.lst [.str n]))=H1 at S1 k1 ⊢
  have W1:=W0.same S1
  refine ⟨M,ds,wa,nd,bs,qs,es,day,pl,[n],rfl,W1,k1,fun m hm=>by rw [List.mem_singleton.mp hm]; exact ⟨d,c1,c2,c3⟩,?_⟩
  have obm1:=S1 _ _ obm
  obtain ⟨us,e1,e2⟩:=W1.bl
  have hul:=e2.length
  rw [List.length_map] at hul
  refine ⟨_,rfl,M.p,CM,dm,_,_,rfl,obm1,Tm.cl,Tm.nb,Za1 _,M.lb,us,rfl,.inl (SqL.of e1),_,_,rfl,rfl,_,rfl,Z6 (fun z=>absurd z (by lia)) (fun _=>?_)⟩
  refine ⟨_,rfl,M.p,dm,_,rfl,obm1,Ys _ (by decide +kernel),M,ds,wa,nd,bs,qs,es,rfl,W1,hn4,?_⟩
  refine ⟨_,rfl,M.p,CM,dm,_,_,rfl,obm1,Tm.cl,Tm.nb,Za1 _,.inl ⟨rfl,_,SqL.of e1⟩,_,rfl,_,rfl,by show 2<=sizeLine; lia,fun a ha=>?_⟩
  have S2:=Same.new (o:=.tup [.str n,.int day]) ha
  have k2:(upd H1 a (.tup [.str n,.int day])) a=some (.tup (bV (n,day))):=Zi
  generalize (upd H1 a (.tup [.str n,.int day]))=H2 at S2 k2 ⊢
  have W2:=W1.same S2
  refine ⟨M.lb,us,.ref a,rfl,rfl,S2 _ _ e1,by lia,?_⟩
  obtain ⟨_,⟨dm2,obm2⟩,_⟩:=W2.part (l:=M.lb) (o:=.lst (us ++ [.ref a])) (by simp [ML.ls])
  have nlh:M.lh≠M.lb:=by have n:=W2.nl; simp only [ML.ls,List.nodup_cons,List.mem_cons,List.not_mem_nil,or_false,not_or] at n; exact Ne.symm n.2.1.1
  have e3:(upd H2 M.lb (.lst (us ++ [.ref a]))) M.lh=some (.lst (qs.map V.ref)):=by rw [Zc nlh]; exact W2.hl.1
  refine ⟨_,rfl,M.p,CM,dm2,_,_,rfl,obm2,Tm.cl,Tm.nh,Zgo _,.inl ⟨rfl,_,SqL.of e3⟩,by show 0<=sizeLine; lia,fun q hq=>?_⟩
  have e4:=Same.new (o:=.lst []) hq _ _ e3
  refine ⟨M.lh,qs.map V.ref,.ref q,rfl,rfl,e4,by rw [List.length_map]; have:=W2.hl.2.1; lia,?_⟩
  have W4:=W2.thing (S2 _ _ e1) k2 hq
  have hqf:H q=none:=by
   cases e:H q with
   | none=>rfl
   | some o =>
    have e':=S2 _ _ (S1 _ _ e)
    by_cases c:q=M.lb
    ·rw [c,Zi] at hq; cases hq
    ·rw [Zc c,e'] at hq; cases hq
  have T4:Uy M ds wa qs H (upd (upd (upd H2 M.lb (.lst (us ++ [.ref a]))) q (.lst [])) M.lh (.lst (qs.map V.ref ++ [.ref q]))):=fun b o e nb=>by
   rw [Zc (fun z:b=M.lh=>nb (.inr (.inl (by rw [z]; simp [ML.ls])))),Zc (Zh e hqf),Zc (fun z:b=M.lb=>nb (.inr (.inl (by rw [z]; simp [ML.ls]))))]
   exact S2 _ _ (S1 _ _ e)
  generalize (upd (upd (upd H2 M.lb (.lst (us ++ [.ref a]))) q (.lst [])) M.lh (.lst (qs.map V.ref ++ [.ref q])))=H4 at W4 T4 ⊢
  obtain ⟨dm4,obm4⟩:=W4.ob
  obtain ⟨vs,f1,f2⟩:=W4.dl
  refine ⟨_,rfl,M.p,CM,dm4,_,_,rfl,obm4,Tm.cl,Tm.nd,Zb3 _,.inl ⟨rfl,_,SqL.of f1⟩,_,rfl,_,rfl,by show 3<=sizeLine; lia,fun p hp=>?_⟩
  have S5:=Same.new (o:=.tup [.str "bring", .str n,.int day]) hp
  generalize (upd H4 p (.tup [.str "bring", .str n,.int day]))=H5 at S5 ⊢
  have W5:=W4.same S5
  refine ⟨M.ld,vs,.ref p,rfl,rfl,S5 _ _ f1,by lia,?_⟩
  have W6:=W5.deed (v:=.ref p) (S5 _ _ f1)
  have T6:Uy M ds wa qs H (upd H5 M.ld (.lst (vs ++ [.ref p]))):=fun b o e nb=>by
   rw [Zc (fun z:b=M.ld=>nb (.inr (.inl (by rw [z]; simp [ML.ls]))))]
   exact S5 _ _ (T4 b o e nb)
  generalize (upd H5 M.ld (.lst (vs ++ [.ref p])))=H6 at W6 T6 ⊢
  obtain ⟨dm6,obm6⟩:=W6.ob
  obtain ⟨us6,g1,g2⟩:=W6.bl
  have hul6:=g2.length
  rw [List.length_map,List.length_append] at hul6
  refine ⟨_,rfl,M.p,CM,dm6,_,_,rfl,obm6,Tm.cl,Tm.nb,Za1 _,M.lb,us6,rfl,.inl (SqL.of g1),_,_,rfl,rfl,?_⟩
  have ei:((us6.length:Int) - 1)=(bs.length:Int):=by rw [hul6]; simp
  show Q (.int ((us6.length:Int) - 1)) H6
  rw [ei]
  refine k q H6 W6 T6 fun b hb=>?_
  rcases hb with z | z | z | z
  ·exact .inl (.inl z)
  ·exact .inl (.inr (.inl z))
  ·rcases List.mem_append.mp z with z | z
   ·exact .inl (.inr (.inr (.inl z)))
   ·rw [List.mem_singleton.mp z]; exact .inr hqf
  ·exact .inl (.inr (.inr (.inr z)))
def Zod (C CM:Addr):Sp:=fun vs H Q _=>∃ (M:ML) (ds:List Deed) (wa:Str->Addr) (nd:Nat) (bs:List (Str×Int)) (qs:List Addr) (es:List Enr) (x y:Str) (many day:Int),vs = [.ref M.p,.str x,.str y,.int many,.int day]/\MootAt C CM H M ds wa nd bs qs es/\nd < 400/\es.length < 1000/\1<=many/\many<=1000000/\0<=day/\day<=9999/\(∀ n ∈ [x,y],∃ d,Zl ds n=some d/\d<=day/\Yp ds n day=false) /\
 ∀ (H':Hp),MootAt C CM H' M ds wa (nd+1) bs qs (es ++ [⟨day,y,x,many⟩])->Uy M ds wa qs H H'->Q .non H'
abbrev V8:Stmt:=Z9 (top 52) 7
theorem Z5e:FnScope ["self", "payer", "taker", "many", "day"] ["self", "payer", "taker", "many", "day"] (Za V8):=⟨rfl,rfl,rfl,by decide +kernel,rfl,by decide +kernel,by decide +kernel⟩
theorem Z5f:Nm (Za V8) "check_day" .globalImplicit:=by decide +kernel
theorem Z5g:Nm (Za V8) "check_money" .globalImplicit:=by decide +kernel
theorem Ze3:Nm (Za V8) "day" .local:=by decide +kernel
theorem Zj6:Nm (Za V8) "many" .local:=by decide +kernel
theorem Zj7:Nm (Za V8) "payer" .local:=by decide +kernel
theorem Ze4:Nm (Za V8) "self" .local:=by decide +kernel
theorem Zj8:Nm (Za V8) "taker" .local:=by decide +kernel
theorem Z0f (Zil:HasM K CM "pay" "Moot.pay" V8) (Tm:TxCMoot K CM) (Z5h:Fn P w K mg base "check_money" ["many"] 1 Zni) (Wg:Fn P w K mg base "check_day" ["day"] 1 Ud) (MM_check_named:Mt P w K mg base CM "check_named" ["self", "day", "people", "thing", "oath"] 3 (Zgq C CM))
  (MM_check_moments:Mt P w K mg base CM "check_moments" ["self"] 1 (Zbz C CM)):Mt P w K mg base CM "pay" ["self", "payer", "taker", "many", "day"] 4 (Zod C CM):=by
 refine Zil.mtQ Z5e (fun _ _ _ _ _ _ us hl=>match us,hl with | [_,_,_,_,_],_=>rfl) (fun vs H Q E h=>?_) (fun f cdv A outer s H vs Q E hr h=>?_)
 ·obtain ⟨M,ds,wa,nd,bs,qs,es,x,y,many,day,rfl,_⟩:=h
  rfl
 ·obtain ⟨M,ds,wa,nd,bs,qs,es,x,y,many,day,rfl,W0,hn4,hl,m0,m1,d0,d1,hps,k⟩:=h
  refine ⟨_,(Ze (Zn (Zq Z5h (hr.mono (by lia)) Z5g (Zb (qvN 3 Zj6) Zd)))
 (Ze (Zn (Zq Wg (hr.mono (by lia)) Z5f (Zb (qvN 4 Ze3) Zd)))
 (Ze (Zn (Zz (qvN 0 Ze4) Tm.cl MM_check_named (hr.mono (by lia)) (Zb (qvN 4 Ze3) (Zb (Yk (Zb (qvN 1 Zj7) (Zb (qvN 2 Zj8) Zd))) (Zb Wd (Zb Wd Zd))))))
 (Ze (Zn (Zd6 (qvN 0 Ze4) Tm.cl MM_check_moments (hr.mono (by lia))))
 (Ze (Zn (Wi F.plainAttrs_list F.slot_list_append F.type_list_append Wu (Zy (qvN 0 Ze4)) (Zb (Yn (Zb Wd (Zb (Yn (Zb (qvN 4 Ze3) (Zb (qvN 2 Zj8) (Zb (qvN 1 Zj7) (Zb (qvN 3 Zj6) Zd))))) Zd))) Zd)))
 (Zg (Zn (Wi F.plainAttrs_list F.slot_list_append F.type_list_append Wu (Zy (qvN 0 Ze4)) (Zb (Yn (Zb Wm (Zb (qvN 1 Zj7) (Zb (qvN 2 Zj8) (Zb (qvN 3 Zj6) (Zb (qvN 4 Ze3) Zd)))))) Zd))))))))),?_⟩
  have hz:(5000:Nat)<=sizeLine:=by decide
  refine ⟨_,rfl,many,rfl,m0,m1,?_⟩
  refine ⟨_,rfl,day,rfl,d0,d1,?_⟩
  obtain ⟨dm,obm⟩:=W0.ob
  refine ⟨_,rfl,M.p,dm,_,rfl,obm,Ys _ (by decide +kernel),_,rfl,_,rfl,_,rfl,by show 2<=sizeLine; lia,fun pl hpl=>?_⟩
  have S1:=Same.new (o:=.lst [.str x,.str y]) hpl
  have k1:(upd H pl (.lst [.str x,.str y])) pl=some (.lst ([x,y].map V.str)):=Zi
  generalize (upd H pl (.lst [.str x,.str y]))=H1 at S1 k1 ⊢
  have W1:=W0.same S1
  refine ⟨M,ds,wa,nd,bs,qs,es,day,pl,[x,y],rfl,W1,k1,hps,?_⟩
  have obm1:=S1 _ _ obm
  refine ⟨_,rfl,M.p,dm,_,rfl,obm1,Ys _ (by decide +kernel),M,ds,wa,nd,bs,qs,es,rfl,W1,hn4,?_⟩
  obtain ⟨us,e1,e2⟩:=W1.ql
  have hul:=e2.length
  refine ⟨_,rfl,M.p,CM,dm,_,_,rfl,obm1,Tm.cl,Tm.nq,Zmm _,.inl ⟨rfl,_,SqL.of e1⟩,_,rfl,_,rfl,_,rfl,_,rfl,by show 4<=sizeLine; lia,fun b hb=>?_⟩
  have S2:=Same.new (o:=.tup [.int day,.str y,.str x,.int many]) hb
  have k2:(upd H1 b (.tup [.int day,.str y,.str x,.int many])) b=some (.tup [.int day,.str y,.str x,.int many]):=Zi
  generalize (upd H1 b (.tup [.int day,.str y,.str x,.int many]))=H2 at S2 k2 ⊢
  refine ⟨by show 2<=sizeLine; lia,fun a ha=>?_⟩
  have S3:=Same.new (o:=.tup [.non,.ref b]) ha
  have k3:(upd H2 a (.tup [.non,.ref b])) a=some (.tup [.non,.ref b]):=Zi
  generalize (upd H2 a (.tup [.non,.ref b]))=H3 at S3 k3 ⊢
  have W3:=(W1.same S2).same S3
  have e3:=S3 _ _ (S2 _ _ e1)
  refine ⟨M.lq,us,.ref a,rfl,rfl,e3,by lia,?_⟩
  have W4:=W3.debt (x:=⟨day,y,x,many⟩) e3 k3 (S3 _ _ k2)
  have T4:Uy M ds wa qs H (upd H3 M.lq (.lst (us ++ [.ref a]))):=fun c o e nb=>by
   rw [Zc (fun z:c=M.lq=>nb (.inr (.inl (by rw [z]; simp [ML.ls]))))]
   exact S3 _ _ (S2 _ _ (S1 _ _ e))
  generalize (upd H3 M.lq (.lst (us ++ [.ref a])))=H4 at W4 T4 ⊢
  obtain ⟨dm4,obm4⟩:=W4.ob
  obtain ⟨vs,f1,f2⟩:=W4.dl
  refine ⟨_,rfl,M.p,CM,dm4,_,_,rfl,obm4,Tm.cl,Tm.nd,Zb3 _,.inl ⟨rfl,_,SqL.of f1⟩,_,rfl,_,rfl,_,rfl,_,rfl,by show 5<=sizeLine; lia,fun p hp=>?_⟩
  have S5:=Same.new (o:=.tup [.str "pay", .str x,.str y,.int many,.int day]) hp
  generalize (upd H4 p (.tup [.str "pay", .str x,.str y,.int many,.int day]))=H5 at S5 ⊢
  have W5:=W4.same S5
  refine ⟨M.ld,vs,.ref p,rfl,rfl,S5 _ _ f1,by lia,?_⟩
  refine k _ (W5.deed (S5 _ _ f1)) fun c o e nb=>?_
  rw [Zc (fun z:c=M.ld=>nb (.inr (.inl (by rw [z]; simp [ML.ls]))))]
  exact S5 _ _ (T4 c o e nb)
end
section
variable {P:Program}{w:World}{K:PySem.W.Frag}{mg:Str->Option Value}{base:Heap}{C CM:Addr}
def Zlq (C CM:Addr):Sp:=fun vs H Q _=>∃ (M:ML) (ds:List Deed) (wa:Str->Addr) (nd:Nat) (bs:List (Str×Int)) (qs:List Addr) (es:List Enr) (n m:Str) (d day:Int) (b:Nat),vs = [.ref M.p,.str n,.int day]/\MootAt C CM H M ds wa nd bs qs es/\Zl ds n=some d/\0<=day/\day<=9999/\Stands ds day b n m/\Q (.str m) H
abbrev Zbv:Stmt:=Z9 (top 52) 16
theorem Z5i:FnScope ["self", "name", "day"] ["self", "name", "day"] (Za Zbv):=⟨rfl,rfl,rfl,by decide +kernel,rfl,by decide +kernel,by decide +kernel⟩
theorem Z5j:Nm (Za Zbv) "day" .local:=by decide +kernel
theorem Z5k:Nm (Za Zbv) "name" .local:=by decide +kernel
theorem Z5l:Nm (Za Zbv) "self" .local:=by decide +kernel
theorem Zr2 (Zim:HasM K CM "stands_for" "Moot.stands_for" Zbv) (Tc:TxC K C) (Tm:TxCMoot K CM) (M_stands_for:Mt P w K mg base C "stands_for" ["self", "name", "day"] 3 (Zme C)):Mt P w K mg base CM "stands_for" ["self", "name", "day"] 4 (Zlq C CM):=by
 refine Zim.mtQ Z5i (fun _ _ _ _ _ _ us hl=>match us,hl with | [_,_,_],_=>rfl) (fun vs H Q E h=>?_) (fun f cdv A outer s H vs Q E hr h=>?_)
 ·obtain ⟨M,ds,wa,nd,bs,qs,es,n,m,d,day,b,rfl,_⟩:=h
  rfl
 ·obtain ⟨M,ds,wa,nd,bs,qs,es,n,m,d,day,b,rfl,W,c1,d0,d1,st,k⟩:=h
  refine ⟨_,(Zg (Zu (Zz (Zy (qvN 0 Z5l)) Tc.cl M_stands_for (hr.mono (by lia)) (Zb (qvN 1 Z5k) (Zb (qvN 2 Z5j) Zd))))),?_⟩
  obtain ⟨dm,obm⟩:=W.ob
  obtain ⟨dx,ob⟩:=W.fk.f.ob
  exact ⟨_,rfl,M.p,CM,dm,_,_,rfl,obm,Tm.cl,Tm.nf,Vj _,M.L.p,dx,_,rfl,ob,Yq _ _ _ _ (by decide +kernel),_,rfl,_,rfl,M.L,ds,n,m,d,day,b,rfl,W.fk.f,c1,d0,d1,st,k⟩
def Zdx (C CM:Addr):Sp:=fun vs H Q _=>∃ (M:ML) (lr:Addr) (rs:List V) (es:List Enr),vs = [.ref M.p,.ref lr]/\H lr=some (.lst rs)/\QR H es rs/\es.length<=1000 /\
 ∀ (l:Addr) (us:List V) (H':Hp),H l=none->H' l=some (.lst us)->RepL H' (es.map V6) us->Same H H'->Q (.ref l) H'
theorem Zlr {H:Hp}{e:Enr}{a:Addr}(h:H a=some (.tup [.int e.at_,.str e.d,.str e.c,.int e.m])):∀ {es:List Enr}{us:List V},RepL H (es.map V6) us->RepL H ((es ++ [e]).map V6) (us ++ [.ref a])
 | [],_,hu=>by cases hu; exact ⟨_,_,rfl,Zn9 h,rfl⟩
 | _::_,_,⟨v,vs,e1,h1,h2⟩=>by subst e1; exact ⟨v,_,rfl,h1,Zlr h h2⟩
theorem Zls {H H':Hp}(k:Zan H H'):∀ {es:List Enr}{us:List V},RepL H (es.map V6) us->RepL H' (es.map V6) us
 | [],_,h=>h
 | _::_,_,⟨v,vs,e,h1,h2⟩=>by
  obtain ⟨a,rfl,ha⟩:=Zne h1
  exact ⟨_,vs,e,Zn9 (k _ _ ha),Zls k h2⟩
theorem Zmo {H:Hp}:∀ {es:List Enr}{us:List V},RepL H (es.map V6) us->us.length=es.length
 | [],_,h=>by cases h; rfl
 | _::_,_,⟨v,vs,e,h1,h2⟩=>by rw [e,List.length_cons,List.length_cons,Zmo h2]
abbrev Zcr:Stmt:=Z9 (top 52) 36
theorem Z5m:FnScope ["self", "rows"] ["self", "rows"] (Za Zcr):=⟨rfl,rfl,rfl,by decide +kernel,rfl,by decide +kernel,by decide +kernel⟩
theorem Z5n:Nm (Za Zcr) "rows" .local:=by decide +kernel
theorem Z5o:Nm (Za Zcr) "self" .cell:=by decide +kernel
theorem Zsq (Zin:HasM K CM "counting" "Moot.counting" Zcr):Mt P w K mg base CM "counting" ["self", "rows"] 1 (Zdx C CM):=by
 refine Zin.mtQ Z5m (fun _ _ _ _ _ _ us hl=>match us,hl with | [_,_],_=>rfl) (fun vs H Q E h=>?_) (fun f cdv A outer s H vs Q E hr h=>?_)
 ·obtain ⟨M,lr,rs,es,rfl,_⟩:=h
  rfl
 ·obtain ⟨M,lr,rs,es,rfl,hlr,hq,hel,k⟩:=h
  refine ⟨_,(Zg (Zu (Za0 (locs:=["case", "told"]) (fr:=[("self", 0)]) ⟨rfl,by decide +kernel,by decide +kernel,by decide +kernel,by decide +kernel,by decide +kernel⟩ (.consN Z5o .nil) rfl (Vu (qvN 1 Z5n)) ⟨fun _ _ _ _ _ _=>by
  have cnd:(inN ["case", "told"] [("self", 0)]).Nodup:=by decide +kernel
  exact ⟨(Zmz 2 (by rfl) (Vb (Uj 0 cnd) (Vb (Uj 1 cnd) Zb4))),(Zgd (QW.pt (Zce (Zx Zgb (V3 0) Wd (Zw _)) (Zcb (Wp (Zk Zua (Zyp (Zas 2)) (V3 0) (fun _ _=>rfl))))))),(V3 1)⟩⟩))),?_⟩
  have hz:(5000:Nat)<=sizeLine:=by decide
  have hrl:=hq.length
  refine ⟨_,rfl,lr,rfl,⟨_,SqL.of hlr⟩,?_⟩
  refine Zfm (xs:=rs) (fun i ys H'=>H=H'/\RepL H ((es.take i).map V6) ys) ⟨rfl,rfl⟩ (by lia) (fun i ys H' _ ⟨e,_⟩=>by rw [← e]; exact SqL.of hlr) (fun i ys H' ⟨_,e⟩=>by have:=Zmo e; rw [this,List.length_take]; lia) ?_ ?_
  ·rintro i x ys H' hx ⟨rfl,hys⟩ ls hls
   obtain ⟨w1,w2,rfl⟩:=Zrg hls
   obtain ⟨e,a,b,he,rfl,ha,hb⟩:=hq.get hx
   refine ⟨a,_,rfl,SqT.of ha,rfl,_,_,rfl,_,_,rfl,rfl,⟨[_,_],rfl,rfl⟩,?_⟩
   refine ⟨_,rfl,rfl,_,rfl,Yc (Yc ?_)⟩
   refine ⟨_,rfl,rfl,?_⟩
   rw [List.take_add_one,he]
   exact Zlr hb hys
  ·rintro ys H' ⟨rfl,hys⟩ l hl
   rw [hrl,List.take_length] at hys
   exact k l ys _ hl Zi (Zls (fun b xs e=>Same.new hl _ _ e) hys) (Same.new hl)
def Znl (C CM T:Addr):Sp:=fun vs H Q _=>∃ (M:ML) (ds:List Deed) (wa:Str->Addr) (nd:Nat) (bs:List (Str×Int)) (qs:List Addr) (es:List Enr) (i:Nat) (x:Str×Int) (day:Int),vs = [.ref M.p,.int i,.int day]/\MootAt C CM H M ds wa nd bs qs es/\bs[i]? = some x/\0<=day/\day<=9999/\Ends' ds/\IsTab H T Ux /\
 ∀ (l:Addr) (us':List V) (H':Hp),H l=none->H' l=some (.lst us')->TR H' ((Ug ds x.1 x.2 [] day).map stV) us'->Same H H'->Q (.ref l) H'
abbrev U4:Stmt:=Z9 (top 52) 30
theorem Z5p:FnScope ["self", "thing", "day"] ["self", "thing", "day"] (Za U4):=⟨rfl,rfl,rfl,by decide +kernel,rfl,by decide +kernel,by decide +kernel⟩
theorem Z5q:Nm (Za U4) "check_day" .globalImplicit:=by decide +kernel
theorem Zqh:Nm (Za U4) "day" .local:=by decide +kernel
theorem Z5r:Nm (Za U4) "road_goods" .globalImplicit:=by decide +kernel
theorem Zc5:Nm (Za U4) "self" .local:=by decide +kernel
theorem Zj9:Nm (Za U4) "thing" .local:=by decide +kernel
theorem Zyv {T:Addr}(Zio:HasM K CM "road" "Moot.road" U4) (Tm:TxCMoot K CM) (Wg:Fn P w K mg base "check_day" ["day"] 1 Ud) (MM_check_thing:Mt P w K mg base CM "check_thing" ["self", "thing"] 1 (Zgp C CM)) (MM_counting:Mt P w K mg base CM "counting" ["self", "rows"] 1 (Zdx C CM))
  (Zic:Fn P w K mg base "road_goods" ["brought", "events", "folk", "day"] 5 (Zg9 C T)):Mt P w K mg base CM "road" ["self", "thing", "day"] 6 (Znl C CM T):=by
 refine Zio.mtQ Z5p (fun _ _ _ _ _ _ us hl=>match us,hl with | [_,_,_],_=>rfl) (fun vs H Q E h=>?_) (fun f cdv A outer s H vs Q E hr h=>?_)
 ·obtain ⟨M,ds,wa,nd,bs,qs,es,i,x,day,rfl,_⟩:=h
  rfl
 ·obtain ⟨M,ds,wa,nd,bs,qs,es,i,x,day,rfl,W,hx,d0,d1,hE,hT,k⟩:=h
  refine ⟨_,(Ze (Zn (Zq Wg (hr.mono (by lia)) Z5q (Zb (qvN 2 Zqh) Zd)))
 (Ze (Zn (Zz (qvN 0 Zc5) Tm.cl MM_check_thing (hr.mono (by lia)) (Zb (qvN 1 Zj9) Zd)))
 (Zg (Zu (Zq Zic (hr.mono (by lia)) Z5r (Zb (Zk Zv (Zy (qvN 0 Zc5)) (qvN 1 Zj9) (fun _ _=>rfl)) (Zb (Zz (qvN 0 Zc5) Tm.cl MM_counting (hr.mono (by lia)) (Zb (Zk Zv (Zy (qvN 0 Zc5)) (qvN 1 Zj9) (fun _ _=>rfl)) Zd)) (Zb (Zy (qvN 0 Zc5)) (Zb (qvN 2 Zqh) Zd))))))))),?_⟩
  refine ⟨_,rfl,day,rfl,d0,d1,?_⟩
  obtain ⟨dm,obm⟩:=W.ob
  have hi:i < bs.length:=(List.getElem?_eq_some_iff.mp hx).1
  refine ⟨_,rfl,M.p,dm,_,rfl,obm,Ys _ (by decide +kernel),_,rfl,M,ds,wa,nd,bs,qs,es,i,rfl,W,hi,?_⟩
  obtain ⟨us,b1,b2⟩:=W.bl
  have hul:=b2.length
  rw [List.length_map] at hul
  obtain ⟨y,a,y1,y2,ha⟩:=b2.get (List.getElem?_eq_getElem (show i < us.length by lia))
  rw [List.getElem?_map,hx] at y1
  cases y1
  obtain ⟨h1,h2,h3⟩:=W.hl
  have hiq:i < qs.length:=by lia
  have hq:=h3 _ (List.getElem_mem hiq)
  have ea:atI us (i:Int)=some (.ref a):=Y3 (by rw [List.getElem?_eq_getElem (show i < us.length by lia),y2])
  have eq:atI (qs.map V.ref) (i:Int)=some (.ref qs[i]):=Y3 (by rw [List.getElem?_map,List.getElem?_eq_getElem hiq]; rfl)
  refine ⟨_,rfl,M.p,CM,dm,_,_,rfl,obm,Tm.cl,Tm.nb,Za1 _,_,rfl,M.lb,us,i,.ref a,rfl,rfl,SqL.of b1,ea,?_⟩
  refine ⟨_,rfl,M.p,dm,_,rfl,obm,Ys _ (by decide +kernel),_,rfl,M.p,CM,dm,_,_,rfl,obm,Tm.cl,Tm.nh,Zgo _,_,rfl,M.lh,_,i,.ref qs[i],rfl,rfl,SqL.of h1,eq,?_⟩
  refine ⟨M,qs[i],[],[],rfl,hq,rfl,by decide,fun l us' H1 hlf hl hr sm=>?_⟩
  cases hr
  refine ⟨_,rfl,M.p,CM,dm,_,_,rfl,sm _ _ obm,Tm.cl,Tm.nf,Vj _,_,rfl,M.L,ds,a,l,[],[],x.1,x.2,day,rfl,W.fk.f.keep (Same.n sm),sm _ _ ha,hl,rfl,by decide,hE,(fun _ z=>nomatch z),hT.same sm,fun l' us' H' f1 f2 f3 s2=>k l' us' H' (sm.free f1) f2 f3 (sm.trans s2)⟩
def Zlt (C CM T:Addr):Sp:=fun vs H Q _=>∃ (M:ML) (ds:List Deed) (wa:Str->Addr) (nd:Nat) (bs:List (Str×Int)) (qs:List Addr) (es:List Enr) (i:Nat) (x:Str×Int) (day:Int),vs = [.ref M.p,.int i,.int day]/\MootAt C CM H M ds wa nd bs qs es/\bs[i]? = some x/\0<=day/\day<=9999/\Ends' ds/\IsTab H T Ux /\
 ∀ (H':Hp),Same H H'->Q (oV (Zco (Ug ds x.1 x.2 [] day))) H'
abbrev U5:Stmt:=Z9 (top 52) 29
theorem Z5s:FnScope ["self", "thing", "day"] ["self", "thing", "day"] (Za U5):=⟨rfl,rfl,rfl,by decide +kernel,rfl,by decide +kernel,by decide +kernel⟩
theorem Z5t:Nm (Za U5) "check_day" .globalImplicit:=by decide +kernel
theorem Zqi:Nm (Za U5) "day" .local:=by decide +kernel
theorem Z5u:Nm (Za U5) "holder_goods" .globalImplicit:=by decide +kernel
theorem Zc6:Nm (Za U5) "self" .local:=by decide +kernel
theorem Zka:Nm (Za U5) "thing" .local:=by decide +kernel
theorem Zuy {T:Addr}(Zip:HasM K CM "holder" "Moot.holder" U5) (Tm:TxCMoot K CM) (Wg:Fn P w K mg base "check_day" ["day"] 1 Ud) (MM_check_thing:Mt P w K mg base CM "check_thing" ["self", "thing"] 1 (Zgp C CM)) (MM_counting:Mt P w K mg base CM "counting" ["self", "rows"] 1 (Zdx C CM))
  (Z5v:Fn P w K mg base "holder_goods" ["brought", "events", "folk", "day"] 6 (Zml C T)):Mt P w K mg base CM "holder" ["self", "thing", "day"] 7 (Zlt C CM T):=by
 refine Zip.mtQ Z5s (fun _ _ _ _ _ _ us hl=>match us,hl with | [_,_,_],_=>rfl) (fun vs H Q E h=>?_) (fun f cdv A outer s H vs Q E hr h=>?_)
 ·obtain ⟨M,ds,wa,nd,bs,qs,es,i,x,day,rfl,_⟩:=h
  rfl
 ·obtain ⟨M,ds,wa,nd,bs,qs,es,i,x,day,rfl,W,hx,d0,d1,hE,hT,k⟩:=h
  refine ⟨_,(Ze (Zn (Zq Wg (hr.mono (by lia)) Z5t (Zb (qvN 2 Zqi) Zd)))
 (Ze (Zn (Zz (qvN 0 Zc6) Tm.cl MM_check_thing (hr.mono (by lia)) (Zb (qvN 1 Zka) Zd)))
 (Zg (Zu (Zq Z5v (hr.mono (by lia)) Z5u (Zb (Zk Zv (Zy (qvN 0 Zc6)) (qvN 1 Zka) (fun _ _=>rfl)) (Zb (Zz (qvN 0 Zc6) Tm.cl MM_counting (hr.mono (by lia)) (Zb (Zk Zv (Zy (qvN 0 Zc6)) (qvN 1 Zka) (fun _ _=>rfl)) Zd)) (Zb (Zy (qvN 0 Zc6)) (Zb (qvN 2 Zqi) Zd))))))))),?_⟩
  refine ⟨_,rfl,day,rfl,d0,d1,?_⟩
  obtain ⟨dm,obm⟩:=W.ob
  have hi:i < bs.length:=(List.getElem?_eq_some_iff.mp hx).1
  refine ⟨_,rfl,M.p,dm,_,rfl,obm,Ys _ (by decide +kernel),_,rfl,M,ds,wa,nd,bs,qs,es,i,rfl,W,hi,?_⟩
  obtain ⟨us,b1,b2⟩:=W.bl
  have hul:=b2.length
  rw [List.length_map] at hul
  obtain ⟨y,a,y1,y2,ha⟩:=b2.get (List.getElem?_eq_getElem (show i < us.length by lia))
  rw [List.getElem?_map,hx] at y1
  cases y1
  obtain ⟨h1,h2,h3⟩:=W.hl
  have hiq:i < qs.length:=by lia
  have hq:=h3 _ (List.getElem_mem hiq)
  have ea:atI us (i:Int)=some (.ref a):=Y3 (by rw [List.getElem?_eq_getElem (show i < us.length by lia),y2])
  have eq:atI (qs.map V.ref) (i:Int)=some (.ref qs[i]):=Y3 (by rw [List.getElem?_map,List.getElem?_eq_getElem hiq]; rfl)
  refine ⟨_,rfl,M.p,CM,dm,_,_,rfl,obm,Tm.cl,Tm.nb,Za1 _,_,rfl,M.lb,us,i,.ref a,rfl,rfl,SqL.of b1,ea,?_⟩
  refine ⟨_,rfl,M.p,dm,_,rfl,obm,Ys _ (by decide +kernel),_,rfl,M.p,CM,dm,_,_,rfl,obm,Tm.cl,Tm.nh,Zgo _,_,rfl,M.lh,_,i,.ref qs[i],rfl,rfl,SqL.of h1,eq,?_⟩
  refine ⟨M,qs[i],[],[],rfl,hq,rfl,by decide,fun l us' H1 hlf hl hr sm=>?_⟩
  cases hr
  refine ⟨_,rfl,M.p,CM,dm,_,_,rfl,sm _ _ obm,Tm.cl,Tm.nf,Vj _,_,rfl,M.L,ds,a,l,[],[],x.1,x.2,day,rfl,W.fk.f.keep (Same.n sm),sm _ _ ha,hl,rfl,by decide,hE,(fun _ z=>nomatch z),hT.same sm,fun H' s2=>k H' (sm.trans s2)⟩
def Znm (C CM:Addr):Sp:=fun vs H Q _=>∃ (M:ML) (ds:List Deed) (wa:Str->Addr) (nd:Nat) (bs:List (Str×Int)) (qs:List Addr) (es:List Enr) (day:Int) (f:Str->Str),vs = [.ref M.p,.int day]/\MootAt C CM H M ds wa nd bs qs es/\0<=day/\day<=9999/\Zjm ds day f/\es.length < 64 /\
 ∀ (l:Addr) (rs:List Row) (vs:List V) (H':Hp),H' l=some (.lst vs)->RepL H' (rs.map Wb) vs->IsOwed (net f day es) rs->rs.length < 64->Same H H'->Q (.ref l) H'
abbrev Zar:Stmt:=Z9 (top 52) 32
theorem Z5w:FnScope ["self", "day"] ["self", "day"] (Za Zar):=⟨rfl,rfl,rfl,by decide +kernel,rfl,by decide +kernel,by decide +kernel⟩
theorem Z5x:Nm (Za Zar) "check_day" .globalImplicit:=by decide +kernel
theorem Zqj:Nm (Za Zar) "day" .local:=by decide +kernel
theorem Z5y:Nm (Za Zar) "owed_dues" .globalImplicit:=by decide +kernel
theorem Zkb:Nm (Za Zar) "self" .local:=by decide +kernel
theorem Zyw (Ziq:HasM K CM "owed" "Moot.owed" Zar) (Tm:TxCMoot K CM) (Wg:Fn P w K mg base "check_day" ["day"] 1 Ud) (MM_counting:Mt P w K mg base CM "counting" ["self", "rows"] 1 (Zdx C CM))
  (Z5z:Fn P w K mg base "owed_dues" ["entries", "folk", "day"] 3 (Zoa C)):Mt P w K mg base CM "owed" ["self", "day"] 4 (Znm C CM):=by
 refine Ziq.mtQ Z5w (fun _ _ _ _ _ _ us hl=>match us,hl with | [_,_],_=>rfl) (fun vs H Q E h=>?_) (fun f cdv A outer s H vs Q E hr h=>?_)
 ·obtain ⟨M,ds,wa,nd,bs,qs,es,day,f,rfl,_⟩:=h
  rfl
 ·obtain ⟨M,ds,wa,nd,bs,qs,es,day,f,rfl,W,d0,d1,hf,hel,k⟩:=h
  refine ⟨_,(Ze (Zn (Zq Wg (hr.mono (by lia)) Z5x (Zb (qvN 1 Zqj) Zd)))
 (Zg (Zu (Zq Z5z (hr.mono (by lia)) Z5y (Zb (Zz (qvN 0 Zkb) Tm.cl MM_counting (hr.mono (by lia)) (Zb (Zy (qvN 0 Zkb)) Zd)) (Zb (Zy (qvN 0 Zkb)) (Zb (qvN 1 Zqj) Zd))))))),?_⟩
  refine ⟨_,rfl,day,rfl,d0,d1,?_⟩
  obtain ⟨dm,obm⟩:=W.ob
  obtain ⟨us,b1,b2⟩:=W.ql
  refine ⟨_,rfl,M.p,dm,_,rfl,obm,Ys _ (by decide +kernel),_,rfl,M.p,CM,dm,_,_,rfl,obm,Tm.cl,Tm.nq,Zmm _,?_⟩
  refine ⟨M,M.lq,us,es,rfl,b1,b2,by lia,fun l us' H1 hlf hl hr sm=>?_⟩
  refine ⟨_,rfl,M.p,CM,dm,_,_,rfl,sm _ _ obm,Tm.cl,Tm.nf,Vj _,_,rfl,M.L,ds,l,us',es,day,f,rfl,W.fk.f.keep (Same.n sm),hl,hr,hf,hel,fun l2 ms rs H' f1 f2 f3 f4 f5 s2=>k l2 rs ms H' f2 f3 f4 f5 (sm.trans s2)⟩
end
section
variable {P:Program}{w:World}{K:PySem.W.Frag}{mg:Str->Option Value}{base:Heap}
section
variable (nf:Nat->Str) (df:Nat->Int) (m:Nat) (D0:Int)
def lnF:Nat->Str
 | 0=>nf m
 | k+1=>if df (m - (k+1))<=D0 then lnF k else nf (m - (k+1))
def stp:Nat->Stp
 | 0=>Yr (nf 0) 2
 | j+1=>Vz (stp j) (df j,nf (j+1))
end
structure Line (ds:List Deed) (nf:Nat->Str) (df:Nat->Int) (m:Nat):Prop where
 h1:∀ i,i < m->Zp ds (nf i)=some (df i,nf (i+1))
 h3:∀ n x,Zp ds n=some x->∃ i,i < m/\n=nf i
 inj:∀ i j,i<=m->j<=m->nf i=nf j->i=j
variable {ds:List Deed}{nf:Nat->Str}{df:Nat->Int}{m:Nat}{D0:Int}
theorem Line.h2 (h:Line ds nf df m):Zp ds (nf m)=none:=by
 cases e:Zp ds (nf m) with
 | none=>rfl
 | some x =>
  obtain ⟨i,hi,e2⟩:=h.h3 _ _ e
  have:=h.inj m i (Nat.le_refl _) (by lia) e2
  lia
theorem Line.stands (h:Line ds nf df m) (D0:Int):∀ k,k<=m->∃ b,b<=k/\Stands ds D0 b (nf (m - k)) (lnF nf df m D0 k)
 | 0,_=>⟨0,Nat.le_refl _,.here (by unfold Yp; rw [Nat.sub_zero,h.h2])⟩
 | k+1,hk=>by
  have e:=h.h1 (m - (k+1)) (by lia)
  obtain ⟨b,hb,st⟩:=Line.stands h D0 k (by lia)
  rw [lnF]
  by_cases c:df (m - (k+1))<=D0
  ·rw [if_pos c]
   refine ⟨b+1,by lia,.step e (by unfold Yp; rw [e]; exact decide_eq_true c) ?_⟩
   rw [show m - k=m - (k+1)+1 by lia] at st
   exact st
  ·rw [if_neg c]
   exact ⟨0,Nat.zero_le _,.here (by unfold Yp; rw [e]; exact decide_eq_false c)⟩
theorem Line.ends (h:Line ds nf df m) (hm:m<=40):Ends' ds:=fun n day=>by
 cases e:Zp ds n with
 | none=>exact ⟨0,n,.here (by unfold Yp; rw [e]),Nat.zero_le _⟩
 | some x =>
  obtain ⟨i,hi,rfl⟩:=h.h3 _ _ e
  obtain ⟨b,hb,st⟩:=h.stands day (m - i) (by lia)
  rw [show m - (m - i)=i by lia] at st
  exact ⟨b,_,st,by lia⟩
theorem Ztm {day:Int}{b:Nat}{n a:Str}(h:Stands ds day b n a):∀ {b':Nat}{a':Str},Stands ds day b' n a'->a=a':=by
 induction h with
 | here e=>intro b' a' g; cases g with
  | here _=>rfl
  | step _ e2 _=>rw [e] at e2; cases e2
 | step e1 e2 _ ih=>intro b' a' g; cases g with
  | here e=>rw [e] at e2; cases e2
  | step e3 _ g=>rw [e1] at e3; cases e3; exact ih g
theorem Zbg (j:Nat):(stp nf df j).t=nf j:=by cases j <;> rfl
theorem Line.lv (h:Line ds nf df m) {i:Nat}(hi:i<=m) (hd:∀ j,j < i->df j<=D0) (he:i=m\/D0 < df i):∀ k,k<=i->Lv ds D0 k (stp nf df (i - k)) ((List.range k).map fun t=>stp nf df (i - k+1+t))
 | 0,_=>by
  refine .here ?_
  rw [Zbg,Nat.sub_zero]
  unfold Yp
  rcases he with rfl | he
  ·rw [h.h2]
  ·by_cases c:i=m
   ·rw [c,h.h2]
   ·rw [h.h1 i (by lia)]; exact decide_eq_false (by show ¬ df i<=D0; lia)
 | k+1,hk=>by
  have ih:=Line.lv h hi hd he k (by lia)
  have e:=h.h1 (i - (k+1)) (by lia)
  have c:=hd (i - (k+1)) (by lia)
  rw [List.range_succ_eq_map,List.map_cons,List.map_map]
  have e1:i - k=i - (k+1)+1:=by lia
  have e2:stp nf df (i - (k+1)+1+0)=Vz (stp nf df (i - (k+1))) (df (i - (k+1)),nf (i - (k+1)+1)):=rfl
  rw [e2]
  refine .step (by rw [Zbg]; exact e) (by rw [Zbg]; unfold Yp; rw [e]; exact decide_eq_true c) ?_
  rw [e1] at ih
  refine (congrArg (Lv ds D0 k _) ?_).mp ih
  refine List.map_congr_left fun t _=>?_
  show stp nf df _=stp nf df _
  congr 1
  lia
theorem Line.road (h:Line ds nf df m) (hm:m<=40) {i:Nat}(hi:i<=m) (hd:∀ j,j < i->df j<=D0) (he:i=m\/D0 < df i) (hD : 2<=D0):Ug ds (nf 0) 2 [] D0=(List.range (i+1)).map (stp nf df):=by
 have l:=h.lv hi hd he i (Nat.le_refl _)
 rw [Nat.sub_self] at l
 have e0:∀ n,(byD 2 n ([]:List Ev)).foldl (Y7 ds) [Yr (nf 0) 2] = [Yr (nf 0) 2]:=fun n=>by
  have:byD 2 n ([]:List Ev) = []:=by unfold byD; simp
  rw [this]; rfl
 unfold Ug
 rw [if_neg (by lia),e0]
 unfold Wj
 show [Yr (nf 0) 2]++Law.lv ds D0 (Yr (nf 0) 2)=_
 unfold Law.lv
 rw [show Yr (nf 0) 2=stp nf df 0 from rfl,l.fn 40 (by lia),List.range_succ_eq_map,List.map_cons,List.map_map]
 show stp nf df 0::_=_
 congr 1
 refine List.map_congr_left fun t _=>?_
 show stp nf df _=stp nf df _
 congr 1
 lia
def Znn:Sp:=fun vs H Q _=>∃ (s la:Addr) (n:Int),vs = [.ref s,.int n]/\SrcAt H s la/\0<=n/\n<=60 /\
 ∀ (l:Addr) (ys:List Int) (H':Hp),(ys.length:Int)=n->(∀ d∈ys,3<=d/\d<=39)->H l=none->H' l=some (.lst (ys.map V.int))->SrcAt H' s la->SameX s H H'->Q (.ref l) H'
abbrev Vd:Stmt:=top 61
theorem Zir:FnScope ["_law_src_here", "_law_many", "_law_kind", "_law_days_here"] ["_law_src_here", "_law_many"] (Za Vd):=⟨rfl,rfl,rfl,by decide +kernel,rfl,by decide +kernel,by decide +kernel⟩
theorem Ze5:Nm (Za Vd) "_law_days_here" .local:=by decide +kernel
theorem Zkc:Nm (Za Vd) "_law_kind" .local:=by decide +kernel
theorem Z50:Nm (Za Vd) "_law_many" .local:=by decide +kernel
theorem Z51:Nm (Za Vd) "_law_next" .globalImplicit:=by decide +kernel
theorem Zqk:Nm (Za Vd) "_law_src_here" .cell:=by decide +kernel
theorem Z52:Nm (Za Vd) "list" .globalImplicit:=by decide +kernel
theorem Z53:Nm (Za Vd) "range" .globalImplicit:=by decide +kernel
theorem Z54:Nm (Za Vd) "reversed" .globalImplicit:=by decide +kernel
theorem Zql:Nm (Za Vd) "sorted" .globalImplicit:=by decide +kernel
theorem Z55 (Zis:Has K mg "_law_days" Vd) (T:Txt mg) (Y9:Fn P w K mg base "_law_next" ["_law_src_here", "_law_base"] 1 Zbb):Fn P w K mg base "_law_days" ["_law_src_here", "_law_many"] 2 Znn:=by
 refine Zis.fnQ Zir (fun _ _ _ _ _ _ us hl=>match us,hl with | [_,_],_=>rfl) (fun vs H Q E h=>?_) (fun f cdv A outer s H vs Q E hr h=>?_)
 ·obtain ⟨s,la,n,rfl,_⟩:=h
  rfl
 ·obtain ⟨s,la,n,rfl,hs,n0,n1,k⟩:=h
  refine ⟨_,(Ze (Z2 (i:=2) Zir.nd Zkc (Zq Y9 (hr.mono (by lia)) Z51 (Zb (qvC 0 Zqk) (Zb Zf Zd))))
 (Ze (Zyb (locs:=["_law_k"]) (fr:=[("_law_src_here", 0)]) ⟨rfl,by decide +kernel,by decide +kernel,by decide +kernel,by decide +kernel,by decide +kernel⟩ (.consN Zqk .nil) rfl (Zby Z53.1 T.range (Zb (qvN 1 Z50) Zd)) ⟨fun _ _ _ _ _ _=>by
  have cnd:(inN ["_law_k"] [("_law_src_here", 0)]).Nodup:=by decide +kernel
  exact ⟨(Uj 0 cnd),Zdr,(Z0 Yy Zf (Zq Y9 (hr.mono (by lia)) nmC (Zb (Zas 1) (Zb Zf Zd))))⟩⟩ Zir.nd Ze5 (by rfl) (i:=3))
 (Ze (Zs (Zx Vw (qvN 2 Zkc) Zf (Zw _)) (Zg (Zu (Z4 Zkp Zql T.sorted Zdh (Zb (qvN 3 Ze5) Zd)))) Zt)
 (Ze (Zs (Zx Vw (qvN 2 Zkc) Zf (Zw _)) (Zg (Zu (Zm8 (by rfl) Z52 T.list Z54.1 T.reversed (Z4 Zkp Zql T.sorted Zdh (Zb (qvN 3 Ze5) Zd))))) Zt)
 (Zg (Zu (qvN 3 Ze5))))))),?_⟩
  refine ⟨_,rfl,s,la,3,rfl,hs,by decide,by decide,fun kd H1 k0 k1 hs1 sx1=>?_⟩
  refine Ye ?_
  dsimp only
  refine ⟨_,rfl,n,rfl,by lia,by lia,?_⟩
  refine Zkx (n:=n.toNat) (fun i ys H2=>SrcAt H2 s la/\SameX s H1 H2/\∃ cl:List Int,cl.length=i/\ys=cl.map V.int/\∀ c∈cl,3<=c/\c<=39) ⟨hs1,SameX.refl,[],rfl,rfl,(fun _ z=>nomatch z)⟩ (by lia) ?_ ?_ ?_
  ·rintro i ys H2 ⟨_,_,cl,h1,rfl,_⟩
   rw [List.length_map]; lia
  ·rintro i ys H2 hi ⟨hs2,sx2,cl,h1,rfl,hc⟩ ls hls
   obtain ⟨a,rfl⟩:=Zcu hls
   refine ⟨⟨[_],rfl,rfl⟩,?_⟩
   refine ⟨_,rfl,s,la,37,rfl,hs2,by decide,by decide,fun d H3 d0 d1 hs3 sx3=>?_⟩
   refine ⟨_,_,rfl,rfl,hs3,sx2.trans sx3,cl ++ [3+d],by rw [List.length_append,h1]; rfl,by rw [List.map_append]; rfl,fun c hc'=>?_⟩
   rcases List.mem_append.mp hc' with z | z
   ·exact hc c z
   ·have:c=3+d:=by simpa using z
    lia
  ·rintro ys H2 ⟨hs2,sx2,cl,h1,rfl,hc⟩ l hl
   have S3:=Same.new (o:=.lst (cl.map V.int)) hl
   have k3:(upd H2 l (.lst (cl.map V.int))) l=some (.lst (cl.map V.int)):=Zi
   have nls:=(hs2.ne hl).1
   have hlH:H l=none:=by
    cases e:H l with
    | none=>rfl
    | some o=>rw [sx2 l o nls (sx1 l o nls e)] at hl; cases hl
   generalize (upd H2 l (.lst (cl.map V.int)))=H3 at S3 k3 ⊢
   have hs3:=hs2.keep S3
   have sx3:SameX s H H3:=(sx1.trans sx2).trans S3.x
   refine Ye ?_
   dsimp only
   refine ⟨_,rfl,rfl,_,rfl,Z6 (fun _=>?_) (fun _=>?_)⟩
   ·refine ⟨_,rfl,l,cl,rfl,SqL.of k3,by lia,fun l2 ms hl2 pm _=>?_⟩
    have n2:=(hs3.ne hl2).1
    refine k l2 ms _ (by rw [pm.length_eq]; lia) (fun d hd=>hc d (pm.subset hd)) ?_ Zi (hs3.keep (Same.new hl2)) (sx3.trans (Same.new hl2).x)
    cases e:H l2 with
    | none=>rfl
    | some o=>rw [sx3 l2 o n2 e] at hl2; cases hl2
   ·dsimp only [Ur]
    refine ⟨_,rfl,rfl,_,rfl,Z6 (fun _=>?_) (fun _=>?_)⟩
    ·refine ⟨_,rfl,l,cl,rfl,SqL.of k3,by lia,fun l2 ms hl2 pm _=>?_⟩
     have S4:=Same.new (o:=.lst (ms.map V.int)) hl2
     have k4:(upd H3 l2 (.lst (ms.map V.int))) l2=some (.lst (ms.map V.int)):=Zi
     generalize (upd H3 l2 (.lst (ms.map V.int)))=H4 at S4 k4 ⊢
     refine ⟨l2,_,rfl,SqL.of k4,fun l5 hl5=>?_⟩
     have n2:=((hs3.keep S4).ne hl5).1
     rw [← List.map_reverse]
     refine k l5 ms.reverse _ (by rw [List.length_reverse,pm.length_eq]; lia) (fun d hd=>hc d (pm.subset (List.mem_reverse.mp hd))) ?_ Zi ((hs3.keep S4).keep (Same.new hl5)) ((sx3.trans S4.x).trans (Same.new hl5).x)
     cases e:H l5 with
     | none=>rfl
     | some o=>rw [S4 _ _ (sx3 l5 o n2 e)] at hl5; cases hl5
    ·exact ⟨_,rfl,k l cl H3 (by lia) hc hlH k3 hs3 sx3⟩
def Zno:Sp:=fun vs H Q _=>∃ (na dl:Addr) (names:List Str) (days:List Int) (D0:Int),vs = [.ref na,.ref dl,.int D0]/\H na=some (.lst (names.map V.str))/\H dl=some (.lst (days.map V.int))/\names.length=days.length+1/\days.length<=60 /\
 ∀ (l:Addr) (H':Hp),H l=none->H' l=some (.lst (((List.range (days.length+1)).map fun j=>lnF (names.getD · e0) (days.getD · 0) days.length D0 (days.length - j)).map V.str))->Same H H'->Q (.ref l) H'
theorem Zgr {us:List V}{n:Nat}{v:V}(hn:us.length=n+1) (h:us[n]? = some v):atI us (-1)=some v:=by
 unfold atI ixN
 rw [hn,if_neg (by lia),if_pos (by lia)]
 show us[((-1:Int)+((n+1:Nat):Int)).toNat]? = some v
 rw [show ((-1:Int)+((n+1:Nat):Int)).toNat=n by lia]
 exact h
abbrev Ve:Stmt:=top 62
theorem Zit:FnScope ["_law_names_here", "_law_days_here", "_law_day", "_law_line_here", "_law_at"] ["_law_names_here", "_law_days_here", "_law_day"] (Za Ve):=⟨rfl,rfl,rfl,by decide +kernel,rfl,by decide +kernel,by decide +kernel⟩
theorem Zkd:Nm (Za Ve) "_law_at" .local:=by decide +kernel
theorem Z56:Nm (Za Ve) "_law_day" .local:=by decide +kernel
theorem Zqm:Nm (Za Ve) "_law_days_here" .local:=by decide +kernel
theorem Zc7:Nm (Za Ve) "_law_line_here" .local:=by decide +kernel
theorem Zqn:Nm (Za Ve) "_law_names_here" .local:=by decide +kernel
theorem Z57:Nm (Za Ve) "len" .globalImplicit:=by decide +kernel
theorem Z58:Nm (Za Ve) "list" .globalImplicit:=by decide +kernel
theorem Z59:Nm (Za Ve) "range" .globalImplicit:=by decide +kernel
theorem Zqo:Nm (Za Ve) "reversed" .globalImplicit:=by decide +kernel
theorem Z6a (Ziu:Has K mg "_law_line" Ve) (T:Txt mg):Fn P w K mg base "_law_line" ["_law_names_here", "_law_days_here", "_law_day"] 1 Zno:=by
 refine Ziu.fnQ Zit (fun _ _ _ _ _ _ us hl=>match us,hl with | [_,_,_],_=>rfl) (fun vs H Q E h=>?_) (fun f cdv A outer s H vs Q E hr h=>?_)
 ·obtain ⟨na,dl,names,days,D0,rfl,_⟩:=h
  rfl
 ·obtain ⟨na,dl,names,days,D0,rfl,hna,hdl,hlen,h60,k⟩:=h
  refine ⟨_,(Ze (Z2 (i:=3) Zit.nd Zc7 (Yk (Zb (Zk Zv (qvN 0 Zqn) (Vh Vi Zf) (fun _ _=>rfl)) Zd)))
 (Ze (Wo PassesOwn.never rfl (Zth Zqo.1 T.reversed Z59.1 T.range (Zb (Z4 Vm Z57 T.len Wc (Zb (qvN 1 Zqm) Zd)) Zd)) (Y8 (i:=4) Zit.nd Zkd)
 (Zg (Zs (Zx Wn (Zk Zv (qvN 1 Zqm) (qvN 4 Zkd) (fun _ _=>rfl)) (qvN 2 Z56) (Zw _)) (Zg (Zn (Wi F.plainAttrs_list F.slot_list_append F.type_list_append Wu (qvN 3 Zc7) (Zb (Zk Zv (qvN 3 Zc7) (Vh Vi Zf) (fun _ _=>rfl)) Zd)))) (Zg (Zn (Wi F.plainAttrs_list F.slot_list_append F.type_list_append Wu (qvN 3 Zc7) (Zb (Zk Zv (qvN 0 Zqn) (qvN 4 Zkd) (fun _ _=>rfl)) Zd)))))))
 (Zg (Zu (Zm8 (by rfl) Z58 T.list Zqo.1 T.reversed (qvN 3 Zc7)))))),?_⟩
  have hz:(5000:Nat)<=sizeLine:=by decide
  have nget:∀ i,i < names.length->(names.map V.str)[i]? = some (.str (names.getD i e0)):=fun i hi=>by rw [List.getElem?_map,List.getD_eq_getElem?_getD,List.getElem?_eq_getElem hi]; rfl
  have dget:∀ i,i < days.length->(days.map V.int)[i]? = some (.int (days.getD i 0)):=fun i hi=>by rw [List.getElem?_map,List.getD_eq_getElem?_getD,List.getElem?_eq_getElem hi]; rfl
  refine ⟨_,rfl,_,rfl,na,_,-1,.str (names.getD days.length e0),rfl,rfl,SqL.of hna,Zgr (by rw [List.length_map]; exact hlen) (nget _ (by lia)),by show 1<=sizeLine; lia,fun q hq=>?_⟩
  have S1:=Same.new (o:=.lst [.str (names.getD days.length e0)]) hq
  have k1:(upd H q (.lst [.str (names.getD days.length e0)])) q=some (.lst [.str (names.getD days.length e0)]):=Zi
  generalize (upd H q (.lst [.str (names.getD days.length e0)]))=H1 at S1 k1 ⊢
  have nnq:na≠q:=Zh hna hq
  have ndq:dl≠q:=Zh hdl hq
  refine Ye ?_
  dsimp only
  refine ⟨_,rfl,dl,_,rfl,.inl (SqL.of (S1 _ _ hdl)),_,rfl,by rw [List.length_map]; lia,?_⟩
  refine Zuf days.length (by rw [List.length_map]) (fun i σ H'=>∃ (v4:Option V),σ = [some (.ref na),some (.ref dl),some (.int D0),some (.ref q),v4]/\SameX q H1 H'/\H' q=some (.lst (((List.range (i+1)).map fun j=>lnF (names.getD · e0) (days.getD · 0) days.length D0 j).map V.str)))
   ⟨none,rfl,SameX.refl,k1⟩ ?_ ?_
  ·rintro i σ H' hi ⟨v4,rfl,sx,hq'⟩
   have hna':=sx _ _ nnq (S1 _ _ hna)
   have hdl':=sx _ _ ndq (S1 _ _ hdl)
   have ei:(((days.map V.int).length:Nat):Int) - 1 - (i:Int)=((days.length - (i+1):Nat):Int):=by rw [List.length_map]; lia
   rw [ei]
   have cur:(((List.range (i+1)).map fun j=>lnF (names.getD · e0) (days.getD · 0) days.length D0 j).map V.str)[i]? = some (.str (lnF (names.getD · e0) (days.getD · 0) days.length D0 i)):=by
    rw [List.getElem?_map,List.getElem?_map,List.getElem?_range (by lia)]; rfl
   have grow:∀ v:Str,v=lnF (names.getD · e0) (days.getD · 0) days.length D0 (i+1)->((((List.range (i+1)).map fun j=>lnF (names.getD · e0) (days.getD · 0) days.length D0 j).map V.str) ++ [.str v])=(((List.range (i+1+1)).map fun j=>lnF (names.getD · e0) (days.getD · 0) days.length D0 j).map V.str):=fun v hv=>by
    rw [List.range_succ (n:=i+1),List.map_append,List.map_append,hv]; rfl
   have ln:(((List.range (i+1)).map fun j=>lnF (names.getD · e0) (days.getD · 0) days.length D0 j).map V.str).length=i+1:=by rw [List.length_map,List.length_map,List.length_range]
   refine ⟨_,rfl,_,rfl,dl,_,_,.int (days.getD (days.length - (i+1)) 0),rfl,rfl,SqL.of hdl',Y3 (dget _ (by lia)),_,rfl,_,_,rfl,rfl,_,rfl,Z6 (fun c=>?_) (fun c=>?_)⟩
   ·refine ⟨_,rfl,.inl ⟨rfl,_,SqL.of hq'⟩,_,rfl,_,rfl,q,_,-1,_,rfl,rfl,SqL.of hq',Zgr ln cur,?_⟩
    refine ⟨q,_,_,rfl,rfl,hq',by lia,?_⟩
    refine ⟨_,rfl,sx.trans SameX.upd,?_⟩
    rw [Zi,grow _ (by rw [lnF,if_pos c])]
   ·refine ⟨_,rfl,.inl ⟨rfl,_,SqL.of hq'⟩,_,rfl,_,rfl,na,_,_,.str (names.getD (days.length - (i+1)) e0),rfl,rfl,SqL.of hna',Y3 (nget _ (by lia)),?_⟩
    refine ⟨q,_,_,rfl,rfl,hq',by lia,?_⟩
    refine ⟨_,rfl,sx.trans SameX.upd,?_⟩
    rw [Zi,grow _ (by rw [lnF,if_neg c])]
  ·rintro σ H' ⟨v4,rfl,sx,hq'⟩
   refine ⟨_,rfl,q,_,rfl,SqL.of hq',fun l hl=>?_⟩
   have sm:Same H H':=fun b o e=>sx b o (Zh e hq) (S1 _ _ e)
   refine k l _ (sm.free hl) ?_ (sm.trans (Same.new hl))
   rw [Zi,← List.map_reverse]
   congr 3
   apply List.ext_getElem
   ·simp
   ·intro j h1 h2
    simp at h1
    simp [List.getElem_reverse]
def Znp:Sp:=fun vs H Q _=>∃ (na dl:Addr) (names:List Str) (days:List Int) (D0:Int),vs = [.ref na,.ref dl,.int D0]/\H na=some (.lst (names.map V.str))/\H dl=some (.lst (days.map V.int))/\names.length=days.length+1/\days.length<=60 /\
 ∀ (i:Nat) (l:Addr) (us:List V) (H':Hp),i<=days.length->(∀ j,j < i->days.getD j 0<=D0)->(i=days.length\/D0 < days.getD i 0)->H l=none->H' l=some (.lst us)->TR H' (((List.range (i+1)).map (stp (names.getD · e0) (days.getD · 0))).map stV) us->Same H H'->Q (.ref l) H'
abbrev Vq:Stmt:=top 63
theorem Ziv:FnScope ["_law_names_here", "_law_days_here", "_law_day", "_law_steps", "_law_at"] ["_law_names_here", "_law_days_here", "_law_day"] (Za Vq):=⟨rfl,rfl,rfl,by decide +kernel,rfl,by decide +kernel,by decide +kernel⟩
theorem Zc8:Nm (Za Vq) "_law_at" .local:=by decide +kernel
theorem Z6b:Nm (Za Vq) "_law_day" .local:=by decide +kernel
theorem Zke:Nm (Za Vq) "_law_days_here" .local:=by decide +kernel
theorem Zkf:Nm (Za Vq) "_law_names_here" .local:=by decide +kernel
theorem Zc9:Nm (Za Vq) "_law_steps" .local:=by decide +kernel
theorem Z6c:Nm (Za Vq) "len" .globalImplicit:=by decide +kernel
theorem Z6d:Nm (Za Vq) "max" .globalImplicit:=by decide +kernel
theorem Z6e:Nm (Za Vq) "range" .globalImplicit:=by decide +kernel
theorem Z6f (Ziw:Has K mg "_law_road" Vq) (T:Txt mg):Fn P w K mg base "_law_road" ["_law_names_here", "_law_days_here", "_law_day"] 1 Znp:=by
 refine Ziw.fnQ Ziv (fun _ _ _ _ _ _ us hl=>match us,hl with | [_,_,_],_=>rfl) (fun vs H Q E h=>?_) (fun f cdv A outer s H vs Q E hr h=>?_)
 ·obtain ⟨na,dl,names,days,D0,rfl,_⟩:=h
  rfl
 ·obtain ⟨na,dl,names,days,D0,rfl,hna,hdl,hlen,h60,k⟩:=h
  refine ⟨_,(Ze (Z2 (i:=3) Ziv.nd Zc9 (Yk (Zb (Yn (Zb Zf (Zb Wm (Zb Wd (Zb (Zk Zv (qvN 0 Zkf) Zf (fun _ _=>rfl)) Zd))))) Zd)))
 (Ze (Wo PassesOwn.never rfl (Zby Z6e.1 T.range (Zb (Z4 Vm Z6c T.len Wc (Zb (qvN 1 Zke) Zd)) Zd)) (Y8 (i:=4) Ziv.nd Zc8)
 (Ze (Zs (Zx Zd3 (Zk Zv (qvN 1 Zke) (qvN 4 Zc8) (fun _ _=>rfl)) (qvN 2 Z6b) (Zw _)) (Zg (Zu (qvN 3 Zc9))) Zt)
 (Zg (Zn (Wi F.plainAttrs_list F.slot_list_append F.type_list_append Wu (qvN 3 Zc9) (Zb (Yn (Zb (Z4 (Zk0 (by rfl)) Z6d T.max Zov (Zb (Zk Zv (qvN 1 Zke) (qvN 4 Zc8) (fun _ _=>rfl)) (Zb (Zk Yl (Zk Zv (qvN 3 Zc9) (Vh Vi Zf) (fun _ _=>rfl)) Zf (fun _ _=>rfl)) Zd))) (Zb Wm (Zb (Zk Zv (qvN 0 Zkf) (qvN 4 Zc8) (fun _ _=>rfl)) (Zb (Zk Zv (qvN 0 Zkf) (Z0 Yy (qvN 4 Zc8) Zf) (fun _ _=>rfl)) Zd))))) Zd))))))
 (Zg (Zu (qvN 3 Zc9))))),?_⟩
  have hz:(5000:Nat)<=sizeLine:=by decide
  have nget:∀ i,i < names.length->(names.map V.str)[i]? = some (.str (names.getD i e0)):=fun i hi=>by rw [List.getElem?_map,List.getD_eq_getElem?_getD,List.getElem?_eq_getElem hi]; rfl
  have dget:∀ i,i < days.length->(days.map V.int)[i]? = some (.int (days.getD i 0)):=fun i hi=>by rw [List.getElem?_map,List.getD_eq_getElem?_getD,List.getElem?_eq_getElem hi]; rfl
  refine ⟨_,rfl,na,_,0,.str (names.getD 0 e0),rfl,rfl,SqL.of hna,Y3 (nget 0 (by lia)),by show 4<=sizeLine; lia,fun p hp=>?_⟩
  have S0:=Same.new (o:=.tup [.int 2,.str "brought", .non,.str (names.getD 0 e0)]) hp
  have k0:(upd H p (.tup [.int 2,.str "brought", .non,.str (names.getD 0 e0)])) p=some (.tup (stV (stp (names.getD · e0) (days.getD · 0) 0))):=Zi
  generalize (upd H p (.tup [.int 2,.str "brought", .non,.str (names.getD 0 e0)]))=H0 at S0 k0 ⊢
  refine ⟨by show 1<=sizeLine; lia,fun q hq=>?_⟩
  have S1:=S0.trans (Same.new (o:=.lst [.ref p]) hq)
  have k1:(upd H0 q (.lst [.ref p])) q=some (.lst [.ref p]):=Zi
  have p1:=Same.new (o:=.lst [.ref p]) hq _ _ k0
  have hqH:=S0.free hq
  generalize (upd H0 q (.lst [.ref p]))=H1 at S1 k1 p1 ⊢
  have nnq:na≠q:=Zh hna hqH
  have ndq:dl≠q:=Zh hdl hqH
  refine Ye ?_
  dsimp only
  refine ⟨_,rfl,dl,_,rfl,.inl (SqL.of (S1 _ _ hdl)),_,rfl,by rw [List.length_map]; lia,by rw [List.length_map]; lia,?_⟩
  rw [List.length_map,Int.toNat_natCast]
  refine Zfg days.length (by lia) (fun i σ H'=>∃ (v4:Option V) (us:List V),σ = [some (.ref na),some (.ref dl),some (.int D0),some (.ref q),v4]/\SameX q H1 H'/\H' q=some (.lst us)/\TR H' (((List.range (i+1)).map (stp (names.getD · e0) (days.getD · 0))).map stV) us/\∀ j,j < i->days.getD j 0<=D0)
   ⟨none,[.ref p],rfl,SameX.refl,k1,⟨p,[],rfl,p1,rfl⟩,fun j hj=>by lia⟩ ?_ ?_
  ·rintro i σ H' hi ⟨v4,us,rfl,sx,hq',htr,hd⟩
   rw [Int.zero_add]
   have hna':=sx _ _ nnq (S1 _ _ hna)
   have hdl':=sx _ _ ndq (S1 _ _ hdl)
   have sm:Same H H':=fun b o e=>sx b o (Zh e hqH) (S1 _ _ e)
   have hul:us.length=i+1:=by have:=htr.length; rw [List.length_map,List.length_map,List.length_range] at this; exact this
   refine ⟨_,rfl,_,rfl,dl,_,_,.int (days.getD i 0),rfl,rfl,SqL.of hdl',Y3 (dget _ hi),_,rfl,_,_,rfl,rfl,_,rfl,Z6 (fun c=>?_) (fun c=>?_)⟩
   ·exact ⟨_,rfl,k i q us H' (by lia) hd (.inr c) hqH hq' htr sm⟩
   ·have htr2:=htr
    rw [List.range_succ,List.map_append,List.map_append] at htr2
    obtain ⟨us0,a,eus,htr0,ha⟩:=TR.last htr2
    have at1:atI us (-1)=some (.ref a):=by rw [eus]; exact Zb2
    dsimp only [Ur]
    refine ⟨_,rfl,.inl ⟨rfl,_,SqL.of hq'⟩,_,rfl,_,rfl,dl,_,_,.int (days.getD i 0),rfl,rfl,SqL.of hdl',Y3 (dget _ hi),?_⟩
    refine ⟨_,rfl,_,rfl,q,us,-1,.ref a,rfl,rfl,SqL.of hq',at1,a,_,0,.int (stp (names.getD · e0) (days.getD · 0) i).at_,rfl,rfl,SqT.of ha,rfl,_,_,rfl,?_⟩
    refine ⟨_,rfl,_,rfl,na,_,_,.str (names.getD i e0),rfl,rfl,SqL.of hna',Y3 (nget _ (by lia)),?_⟩
    refine ⟨_,rfl,_,rfl,_,_,rfl,rfl,na,_,((i+1:Nat):Int),.str (names.getD (i+1) e0),rfl,congrArg V.int (by lia),SqL.of hna',Y3 (nget _ (by lia)),by show 4<=sizeLine; lia,fun p2 hp2=>?_⟩
    have S2:=Same.new (o:=(.tup [.int (if (stp (names.getD · e0) (days.getD · 0) i).at_ > days.getD i 0 then (stp (names.getD · e0) (days.getD · 0) i).at_ else days.getD i 0),.str "left", .str (names.getD i e0),.str (names.getD (i+1) e0)])) hp2
    have k2:(upd H' p2 (.tup [.int (if (stp (names.getD · e0) (days.getD · 0) i).at_ > days.getD i 0 then (stp (names.getD · e0) (days.getD · 0) i).at_ else days.getD i 0),.str "left", .str (names.getD i e0),.str (names.getD (i+1) e0)])) p2=some (.tup (stV (stp (names.getD · e0) (days.getD · 0) (i+1)))):=by
     rw [Zi,stp]
     unfold Vz stV
     rw [Zbg]
     rfl
    generalize (upd H' p2 (.tup [.int (if (stp (names.getD · e0) (days.getD · 0) i).at_ > days.getD i 0 then (stp (names.getD · e0) (days.getD · 0) i).at_ else days.getD i 0),.str "left", .str (names.getD i e0),.str (names.getD (i+1) e0)]))=H2 at S2 k2 ⊢
    have hq2:=S2 _ _ hq'
    refine ⟨q,us,.ref p2,rfl,rfl,hq2,by lia,?_⟩
    refine ⟨_,us ++ [.ref p2],rfl,(sx.trans S2.x).trans SameX.upd,Zi,?_,fun j hj=>?_⟩
    ·rw [List.range_succ (n:=i+1),List.map_append,List.map_append]
     exact TR.snoc (Zao hq2 _ _ k2) (htr.mono fun b xs e=>Zao hq2 _ _ (S2 _ _ e))
    ·by_cases e:j=i
     ·rw [e]; lia
     ·exact hd j (by lia)
  ·rintro σ H' ⟨v4,us,rfl,sx,hq',htr,hd⟩
   have sm:Same H H':=fun b o e=>sx b o (Zh e hqH) (S1 _ _ e)
   exact ⟨_,rfl,k _ q us H' (Nat.le_refl _) hd (.inl rfl) hqH hq' htr sm⟩
end
section
variable {P:Program}{w:World}{K:PySem.W.Frag}{mg:Str->Option Value}{base:Heap}{C CM:Addr}
theorem IsTab.src {H H':Hp}{T s la:Addr}{nm:Str}(h:IsTab H T nm) (hs:SrcAt H s la) (k:SameX s H H'):IsTab H' T nm:=by
 obtain ⟨ns,i,b,st,c,h1,_⟩:=hs
 exact h.x h1 k
theorem MootAt.ntab {M:ML}{ds:List Deed}{wa:Str->Addr}{nd:Nat}{bs:List (Str×Int)}{qs:List Addr}{es:List Enr}{H:Hp}(h:MootAt C CM H M ds wa nd bs qs es) {b:Addr}{ps:Array Value}(e:H b=some (.tbl ps)):¬ mo M ds wa qs b:=fun z=>by
 obtain ⟨⟨dx,ob⟩,⟨⟨⟨dy,ob2⟩,⟨k1,c1,_⟩,⟨k2,w1,_⟩,⟨k3,d1,_⟩,⟨k4,h1,_⟩,_⟩,⟨⟨k5,x1,x2,x3⟩,_⟩,_⟩,⟨v1,d1',_⟩,⟨v2,b1,_⟩,⟨g1,g2,g3⟩,⟨v4,q1,_⟩,⟨t1,t2,t3⟩,_⟩:=h
 rcases z with rfl | z | z | z | z | z | z | z | ⟨n,l,e2,z⟩
 ·rw [ob] at e; cases e
 ·simp only [ML.ls,List.mem_cons,List.not_mem_nil,or_false] at z
  rcases z with rfl | rfl | rfl | rfl | rfl | rfl | rfl <;> simp_all
 ·rw [g3 b z] at e; cases e
 ·rw [z,ob2] at e; cases e
 ·rw [z,c1] at e; cases e
 ·rw [z,w1] at e; cases e
 ·rw [z,d1] at e; cases e
 ·rw [z,h1] at e; cases e
 ·rw [z,(x3 n l e2).2.1] at e; cases e
structure W60 (C CM T:Addr) (H:Hp) (M:ML) (ds:List Deed) (wa:Str->Addr) (nd:Nat) (bs:List (Str×Int)) (qs:List Addr) (es:List Enr) (s la na:Addr) (names:List Str):Prop where
 m:MootAt C CM H M ds wa nd bs qs es
 sr:SrcAt H s la
 nm:H na=some (.lst (names.map V.str))
 n1:¬ mo M ds wa qs s
 n2:¬ mo M ds wa qs la
 n3:¬ mo M ds wa qs na
 n4:na≠s
 tb:IsTab H T Ux
variable {T0:Addr}{H H':Hp}{M:ML}{ds:List Deed}{wa:Str->Addr}{nd:Nat}{bs:List (Str×Int)}{qs:List Addr}{es:List Enr}{s la na:Addr}{names:List Str}
theorem SrcAt.at {H H':Hp}(h:SrcAt H s la) (k1:∀ o,H s=some o->H' s=some o) (k2:∀ o,H la=some o->H' la=some o):SrcAt H' s la:=by
 obtain ⟨ns,i,big,st,cnt,h1,h2,h3,h4⟩:=h
 exact ⟨ns,i,big,st,cnt,k1 _ h1,k2 _ h2,h3,h4⟩
theorem W60.same (h:W60 C CM T0 H M ds wa nd bs qs es s la na names) (k:Same H H'):W60 C CM T0 H' M ds wa nd bs qs es s la na names :=
 ⟨h.m.same k,h.sr.keep k,k _ _ h.nm,h.n1,h.n2,h.n3,h.n4,h.tb.same k⟩
theorem W60.x (h:W60 C CM T0 H M ds wa nd bs qs es s la na names) (k:SameX s H H') (hs:SrcAt H' s la):W60 C CM T0 H' M ds wa nd bs qs es s la na names:=by
 obtain ⟨ns,i,big,st,cnt,h1,_⟩:=id h.sr
 exact ⟨h.m.x h1 h.n1 k,hs,k _ _ h.n4 h.nm,h.n1,h.n2,h.n3,h.n4,IsTab.src h.tb h.sr k⟩
theorem W60.told (h:W60 C CM T0 H M ds wa nd bs qs es s la na names) {ds':List Deed}{wa':Str->Addr}{nd':Nat}{bs':List (Str×Int)}{qs':List Addr}{es':List Enr}(m:MootAt C CM H' M ds' wa' nd' bs' qs' es') (t:Uy M ds wa qs H H') (f:MFresh M ds wa qs ds' wa' qs' H) :
  W60 C CM T0 H' M ds' wa' nd' bs' qs' es' s la na names:=by
 obtain ⟨ns,i,big,st,cnt,h1,h2,_⟩:=id h.sr
 have no:∀ b o,H b=some o->¬ mo M ds wa qs b->¬ mo M ds' wa' qs' b:=fun b o e n z=>by
  rcases f b z with y | y
  ·exact n y
  ·rw [e] at y; cases y
 obtain ⟨ps,tk,t1,t2⟩:=id h.tb
 exact ⟨m,SrcAt.at h.sr (fun o e=>t _ _ e h.n1) (fun o e=>t _ _ e h.n2),t _ _ h.nm h.n3,no _ _ h1 h.n1,no _ _ h2 h.n2,no _ _ h.nm h.n3,h.n4,⟨ps,tk,t _ _ t1 (h.m.ntab t1),t2⟩⟩
def Wx (a b:Str) (m:Int):List Row:=if a≠b/\m > 0 then [(a,b,m)] else if a≠b/\m < 0 then [(b,a,0 - m)] else []
theorem Z0g {f:Str->Str}{D0 c0 c1:Int}{x y a:Str}(hx:f x=a) (hy:f y=y) (hD : 2<=D0):IsOwed (net f D0 [⟨2,y,x,c0⟩,⟨2,x,y,c1⟩]) (Wx a y (c1 - c0)):=by
 have hg:∀ p q,net f D0 [⟨2,y,x,c0⟩,⟨2,x,y,c1⟩] p q=Y6 p q y a c0+Y6 p q a y c1:=fun p q=>by
  unfold net U2
  simp only [List.map_cons,List.map_nil,List.sum_cons,List.sum_nil,hx,hy,if_pos hD,Int.add_zero]
 by_cases e:a=y
 ·subst e
  have:Wx a a (c1 - c0) = []:=by unfold Wx; simp
  rw [this]
  refine ⟨.nil,.nil,fun r=>⟨(fun z=>nomatch z),fun ⟨h1,h2,h3⟩=>?_⟩⟩
  rw [hg] at h3
  unfold Y6 at h3
  have n1:¬ (a=r.1/\a=r.2.1):=fun z=>h1 (z.1.symm.trans z.2)
  have n2:¬ (a=r.2.1/\a=r.1):=fun z=>h1 (z.2.symm.trans z.1)
  simp only [if_neg n1,if_neg n2] at h3
  lia
 ·have gv:∀ r:Row,Due (net f D0 [⟨2,y,x,c0⟩,⟨2,x,y,c1⟩]) r↔(r=(a,y,c1 - c0)/\c1 - c0 > 0)\/(r=(y,a,0 - (c1 - c0))/\c1 - c0 < 0):=fun r=>by
   obtain ⟨p,q,v⟩:=r
   unfold Due
   rw [hg]
   unfold Y6
   constructor
   ·rintro ⟨h1,h2,h3⟩
    dsimp only at h1 h2 h3
    by_cases c1':a=p/\y=q
    ·obtain ⟨rfl,rfl⟩:=c1'
     rw [if_neg (fun z=>e z.2),if_pos ⟨rfl,rfl⟩,if_pos ⟨rfl,rfl⟩,if_neg (fun z=>e z.1)] at h3
     exact .inl ⟨by rw [show v=c1 - c0 by lia],by lia⟩
    ·by_cases c2':y=p/\a=q
     ·obtain ⟨rfl,rfl⟩:=c2'
      rw [if_pos ⟨rfl,rfl⟩,if_neg (fun z=>e z.2),if_neg (fun z=>e z.1),if_pos ⟨rfl,rfl⟩] at h3
      exact .inr ⟨by rw [show v=0 - (c1 - c0) by lia],by lia⟩
     ·rw [if_neg c2',if_neg (fun z=>c1' ⟨z.2,z.1⟩),if_neg c1',if_neg (fun z=>c2' ⟨z.2,z.1⟩)] at h3
      lia
   ·rintro (⟨z,h⟩ | ⟨z,h⟩)
    ·cases z
     dsimp only
     rw [if_neg (fun z=>e z.2),if_pos ⟨rfl,rfl⟩,if_pos ⟨rfl,rfl⟩,if_neg (fun z=>e z.1)]
     exact ⟨e,by lia,by lia⟩
    ·cases z
     dsimp only
     rw [if_pos ⟨rfl,rfl⟩,if_neg (fun z=>e z.2),if_neg (fun z=>e z.1),if_pos ⟨rfl,rfl⟩]
     exact ⟨Ne.symm e,by lia,by lia⟩
  unfold Wx
  by_cases c:c1 - c0 > 0
  ·rw [if_pos ⟨e,c⟩]
   refine ⟨.cons (fun _ z=>nomatch z) .nil,by simp,fun r=>?_⟩
   rw [gv,List.mem_singleton]
   exact ⟨fun z=>.inl ⟨z,c⟩,fun z=>by rcases z with ⟨z,_⟩ | ⟨_,z⟩; exact z; lia⟩
  ·rw [if_neg (fun z=>c z.2)]
   by_cases c2:c1 - c0 < 0
   ·rw [if_pos ⟨e,c2⟩]
    refine ⟨.cons (fun _ z=>nomatch z) .nil,by simp,fun r=>?_⟩
    rw [gv,List.mem_singleton]
    exact ⟨fun z=>.inr ⟨z,c2⟩,fun z=>by rcases z with ⟨_,z⟩ | ⟨z,_⟩; lia; exact z⟩
   ·rw [if_neg (fun z=>c2 z.2)]
    refine ⟨.nil,.nil,fun r=>⟨(fun z=>nomatch z),fun z=>?_⟩⟩
    rw [gv] at z
    lia
def Yg (l:List Str):List Deed:=l.map fun n=>.come n 1 5
theorem Zfj:∀ (l:List Str) (n:Str),Zl (Yg l) n=if n∈l then some 1 else none
 | [],n=>by simp [Yg,Zl]
 | x::l,n=>by
  show Zl (.come x 1 5::Yg l) n=_
  rw [Zl,Zfj l n]
  by_cases c:x=n
  ·rw [if_pos c,if_pos (by rw [c]; exact List.mem_cons_self)]
  ·rw [if_neg c]
   by_cases d:n∈l
   ·rw [if_pos d,if_pos (List.mem_cons_of_mem _ d)]
   ·rw [if_neg d,if_neg (fun z=>by rcases List.mem_cons.mp z with z | z; exact c z.symm; exact d z)]
theorem Zfk:∀ (l:List Str) (n:Str),Zp (Yg l) n=none
 | [],n=>rfl
 | x::l,n=>by show Zp (.come x 1 5::Yg l) n=_; rw [Zp]; exact Zfk l n
theorem Zsr (l:List Str) (x:Str):Yg (l ++ [x])=Yg l ++ [.come x 1 5]:=by unfold Yg; rw [List.map_append]; rfl
theorem Zlu:∀ l:List Str,Y2 (l.map D.str)<=0
 | []=>Nat.zero_le _
 | b::r=>by rw [List.map_cons,Y2]; have:=Zlu r; show max 0 _<=0; lia
theorem Zwx (rs:List Stp):(D.lst (rs.map stD)).deep<=4:=by
 have:∀ rs:List Stp,Y2 (rs.map stD)<=1:=by
  intro rs
  induction rs with
  | nil=>exact Nat.zero_le _
  | cons b r ih =>
   rw [List.map_cons,Y2]
   have e:(stD b).deep=1:=by unfold stD; cases b.g <;> rfl
   lia
 show Y2 _+1<=4
 have:=this rs
 lia
theorem Zuz (rs:List Row):(D.lst (rs.map Wb)).deep<=4:=by
 have:∀ rs:List Row,Y2 (rs.map Wb)<=1:=by
  intro rs
  induction rs with
  | nil=>exact Nat.zero_le _
  | cons b r ih=>rw [List.map_cons,Y2]; show max (max 0 (max 0 (max 0 0))+1) _<=1; lia
 show Y2 _+1<=4
 have:=this rs
 lia
theorem Zgs {H:Hp}:∀ l:List Str,RepL H (l.map D.str) (l.map V.str)
 | []=>rfl
 | x::r=>⟨.str x,_,rfl,rfl,Zgs r⟩
abbrev Z5:Stmt:=top 64
theorem sc_law:FnScope ["_law_script", "_law_src_here", "_law_moot", "_law_names_here", "_law_first", "_law_last", "_law_coins", "_law_name", "_law_days_here", "_law_at", "_law_day", "_law_line_here", "_law_due", "_law_one", "_law_many", "_law_rows"] ["_law_script"] (Za Z5):=⟨rfl,rfl,rfl,by decide +kernel,rfl,by decide +kernel,by decide +kernel⟩
theorem Z6g:Nm (Za Z5) "Moot" .globalImplicit:=by decide +kernel
theorem Zkg:Nm (Za Z5) "_law_at" .local:=by decide +kernel
theorem Zda:Nm (Za Z5) "_law_coins" .local:=by decide +kernel
theorem Uq:Nm (Za Z5) "_law_day" .cell:=by decide +kernel
theorem Z6h:Nm (Za Z5) "_law_days" .globalImplicit:=by decide +kernel
theorem Ze6:Nm (Za Z5) "_law_days_here" .local:=by decide +kernel
theorem Zkh:Nm (Za Z5) "_law_due" .local:=by decide +kernel
theorem Ze7:Nm (Za Z5) "_law_first" .local:=by decide +kernel
theorem Zax:Nm (Za Z5) "_law_last" .local:=by decide +kernel
theorem Z6i:Nm (Za Z5) "_law_line" .globalImplicit:=by decide +kernel
theorem Zki:Nm (Za Z5) "_law_line_here" .local:=by decide +kernel
theorem Zdb:Nm (Za Z5) "_law_many" .local:=by decide +kernel
theorem V9:Nm (Za Z5) "_law_moot" .cell:=by decide +kernel
theorem Zqp:Nm (Za Z5) "_law_name" .local:=by decide +kernel
theorem Z6j:Nm (Za Z5) "_law_names" .globalImplicit:=by decide +kernel
theorem Ua:Nm (Za Z5) "_law_names_here" .local:=by decide +kernel
theorem Zdc:Nm (Za Z5) "_law_next" .globalImplicit:=by decide +kernel
theorem Zdd:Nm (Za Z5) "_law_one" .local:=by decide +kernel
theorem Z6k:Nm (Za Z5) "_law_road" .globalImplicit:=by decide +kernel
theorem Ze8:Nm (Za Z5) "_law_rows" .local:=by decide +kernel
theorem Ze9:Nm (Za Z5) "_law_same" .globalImplicit:=by decide +kernel
theorem Z6l:Nm (Za Z5) "_law_script" .local:=by decide +kernel
theorem Z6m:Nm (Za Z5) "_law_src" .globalImplicit:=by decide +kernel
theorem U7:Nm (Za Z5) "_law_src_here" .local:=by decide +kernel
theorem Z6n:Nm (Za Z5) "enumerate" .globalImplicit:=by decide +kernel
theorem Z6o:Nm (Za Z5) "len" .globalImplicit:=by decide +kernel
theorem Z6p {f Tt:Addr}{fd:FuncData}{ts:List Tb}(hts:∃ c,(⟨c,Tt,Ux⟩:Tb)∈ts) (F_law:Fun K "law" "law" Z5 f fd) (T:Txt mg) (Tm:TxCMoot K CM) (Z6q:Fn P w K mg base "_law_src" ["_law_script"] 1 (Zpc K)) (Y9:Fn P w K mg base "_law_next" ["_law_src_here", "_law_base"] 1 Zbb)
  (Z6r:Fn P w K mg base "_law_names" ["_law_src_here", "_law_many"] 3 Zm9) (M_Moot:Mks P w K mg base CM "Moot" 3 (Znj C CM)) (MM_come:Mt P w K mg base CM "come" ["self", "name", "day", "weight"] 4 (Znk C CM)) (MM_bring:Mt P w K mg base CM "bring" ["self", "name", "day"] 4 (Zmn C CM))
  (MM_pay:Mt P w K mg base CM "pay" ["self", "payer", "taker", "many", "day"] 4 (Zod C CM)) (MM_die:Mt P w K mg base CM "die" ["self", "name", "day", "heir"] 4 (Zoc C CM)) (Z6s:Fn P w K mg base "_law_days" ["_law_src_here", "_law_many"] 2 Znn)
  (Z6t:Fn P w K mg base "_law_line" ["_law_names_here", "_law_days_here", "_law_day"] 1 Zno) (Z6u:Fn P w K mg base "_law_road" ["_law_names_here", "_law_days_here", "_law_day"] 1 Znp) (MM_stands_for:Mt P w K mg base CM "stands_for" ["self", "name", "day"] 4 (Zlq C CM))
  (MM_road:Mt P w K mg base CM "road" ["self", "thing", "day"] 6 (Znl C CM Tt)) (MM_holder:Mt P w K mg base CM "holder" ["self", "thing", "day"] 7 (Zlt C CM Tt)) (MM_owed:Mt P w K mg base CM "owed" ["self", "day"] 4 (Znm C CM)) (Zbe:Fn P w K mg base "_law_same" ["_law_found", "_law_due"] 6 (Zd9 4)) :
  FnOk P w K mg base CX0 9 f fd ["_law_script"] (Zd8 K ts):=by
 refine F_law.okQ sc_law (fun vs H Q E h=>?_) (fun cdv A outer s H vs Q E hr h=>?_)
 ·obtain ⟨a,ns,rfl,_⟩:=h
  rfl
 ·obtain ⟨a,ns,rfl,hS,hlen,hTs,k⟩:=h
  obtain ⟨cT,hcT⟩:=hts
  refine ⟨_,(Ze (Z2 (i:=1) sc_law.nd U7 (Zq Z6q (hr.mono (by lia)) Z6m (Zb (qvN 0 Z6l) Zd)))
 (Ze (Zl0 (i:=2) sc_law.nd V9 (Zn2 M_Moot (hr.mono (by lia)) Z6g))
 (Ze (Z2 (i:=3) sc_law.nd Ua (Zq Z6r (hr.mono (by lia)) Z6j (Zb (qvN 1 U7) (Zb (Z0 Yy Zf (Zq Y9 (hr.mono (by lia)) Zdc (Zb (qvN 1 U7) (Zb Zf Zd)))) Zd))))
 (Ze (Z2 (i:=4) sc_law.nd Ze7 (Zk Zv (qvN 3 Ua) Zf (fun _ _=>rfl)))
 (Ze (Z2 (i:=5) sc_law.nd Zax (Zk Zv (qvN 3 Ua) (Vh Vi Zf) (fun _ _=>rfl)))
 (Ze (Z2 (i:=6) sc_law.nd Zda (Yk (Zb (Z0 Yy Zf (Zq Y9 (hr.mono (by lia)) Zdc (Zb (qvN 1 U7) (Zb Zf Zd)))) (Zb (Z0 Yy Zf (Zq Y9 (hr.mono (by lia)) Zdc (Zb (qvN 1 U7) (Zb Zf Zd)))) Zd))))
 (Ze (Wo PassesOwn.never rfl (Vu (qvN 3 Ua)) (Y8 (i:=7) sc_law.nd Zqp)
 (Zg (Zn (Zz (qvC 2 V9) Tm.cl MM_come (hr.mono (by lia)) (Zb (qvN 7 Zqp) (Zb Zf (Zb Zf Zd)))))))
 (Ze (Zn (Zz (qvC 2 V9) Tm.cl MM_bring (hr.mono (by lia)) (Zb (qvN 4 Ze7) (Zb Zf Zd))))
 (Ze (Zn (Zz (qvC 2 V9) Tm.cl MM_pay (hr.mono (by lia)) (Zb (qvN 4 Ze7) (Zb (qvN 5 Zax) (Zb (Zk Zv (qvN 6 Zda) Zf (fun _ _=>rfl)) (Zb Zf Zd))))))
 (Ze (Zn (Zz (qvC 2 V9) Tm.cl MM_pay (hr.mono (by lia)) (Zb (qvN 5 Zax) (Zb (qvN 4 Ze7) (Zb (Zk Zv (qvN 6 Zda) Zf (fun _ _=>rfl)) (Zb Zf Zd))))))
 (Ze (Z2 (i:=8) sc_law.nd Ze6 (Zq Z6s (hr.mono (by lia)) Z6h (Zb (qvN 1 U7) (Zb (Z0 Zb7 (Z4 Vm Z6o T.len Wc (Zb (qvN 3 Ua) Zd)) Zf) Zd))))
 (Ze (Wo PassesOwn.never rfl (Zyg Z6n.1 T.enumerate (Zb (qvN 8 Ze6) Zd)) (Zg0 (by rfl) (Vb (Y8 (i:=9) sc_law.nd Zkg) (Vb (Zlh (i:=10) sc_law.nd Uq) Zb4)))
 (Zg (Zn (Zz (qvC 2 V9) Tm.cl MM_die (hr.mono (by lia)) (Zb (Zk Zv (qvN 3 Ua) (qvN 9 Zkg) (fun _ _=>rfl)) (Zb (qvC 10 Uq) (Zb (Zk Zv (qvN 3 Ua) (Z0 Yy (qvN 9 Zkg) Zf) (fun _ _=>rfl)) Zd)))))))
 (Ze (Wo PassesOwn.never rfl (Vu (Yk (Zb (Z0 Yy Zf (Zq Y9 (hr.mono (by lia)) Zdc (Zb (qvN 1 U7) (Zb Zf Zd)))) (Zb (Z0 Yy Zf (Zq Y9 (hr.mono (by lia)) Zdc (Zb (qvN 1 U7) (Zb Zf Zd)))) (Zb Zf (Zb Zf Zd)))))) (Zlh (i:=10) sc_law.nd Uq)
 (Ze (Z2 (i:=11) sc_law.nd Zki (Zq Z6t (hr.mono (by lia)) Z6i (Zb (qvN 3 Ua) (Zb (qvN 8 Ze6) (Zb (qvC 10 Uq) Zd)))))
 (Ze (Zs (Vv (Wp (Zq Zbe (hr.mono (by lia)) Ze9 (Zb (Za0 (locs:=["_law_name"]) (fr:=[("_law_moot", 2),("_law_day", 10)]) ⟨rfl,by decide +kernel,by decide +kernel,by decide +kernel,by decide +kernel,by decide +kernel⟩ (.consN V9 (.consN Uq .nil)) rfl (Vu (qvN 3 Ua)) ⟨fun _ _ _ _ _ _=>by
  have cnd:(inN ["_law_name"] [("_law_moot", 2),("_law_day", 10)]).Nodup:=by decide +kernel
  exact ⟨(Uj 0 cnd),Zdr,(Zz (Zas 1) Tm.cl MM_stands_for (hr.mono (by lia)) (Zb (V3 0) (Zb (Zas 2) Zd)))⟩⟩) (Zb (qvN 11 Zki) Zd))))) (Zg (Zu Uu)) Zt)
 (Ze (Z2 (i:=12) sc_law.nd Zkh (Zq Z6u (hr.mono (by lia)) Z6k (Zb (qvN 3 Ua) (Zb (qvN 8 Ze6) (Zb (qvC 10 Uq) Zd)))))
 (Ze (Zs (QW.pt (Zce (Vv (Wp (Zq Zbe (hr.mono (by lia)) Ze9 (Zb (Zz (qvC 2 V9) Tm.cl MM_road (hr.mono (by lia)) (Zb Zf (Zb (qvC 10 Uq) Zd))) (Zb (qvN 12 Zkh) Zd))))) (Zcb (Vv (Wp (Zq Zbe (hr.mono (by lia)) Ze9 (Zb (Zz (qvC 2 V9) Tm.cl MM_holder (hr.mono (by lia)) (Zb Zf (Zb (qvC 10 Uq) Zd))) (Zb (Zk Yl (Zk Zv (qvN 12 Zkh) (Vh Vi Zf) (fun _ _=>rfl)) Zf (fun _ _=>rfl)) Zd)))))))) (Zg (Zu Uu)) Zt)
 (Ze (Z2 (i:=13) sc_law.nd Zdd (Zk Zv (qvN 11 Zki) Zf (fun _ _=>rfl)))
 (Ze (Z2 (i:=14) sc_law.nd Zdb (Z0 Zb7 (Zk Zv (qvN 6 Zda) Zf (fun _ _=>rfl)) (Zk Zv (qvN 6 Zda) Zf (fun _ _=>rfl))))
 (Ze (Z2 (i:=15) sc_law.nd Ze8 (Yk Zd))
 (Ze (Zs (QW.pt (Zd2 (Zx Za9 (qvN 13 Zdd) (qvN 5 Zax) (Zw _)) (Zdp (Zx Zd3 (qvN 14 Zdb) Zf (Zw _))))) (Zg (Z2 (i:=15) sc_law.nd Ze8 (Yk (Zb (Yn (Zb (qvN 13 Zdd) (Zb (qvN 5 Zax) (Zb (qvN 14 Zdb) Zd)))) Zd)))) Zt)
 (Ze (Zs (QW.pt (Zd2 (Zx Za9 (qvN 13 Zdd) (qvN 5 Zax) (Zw _)) (Zdp (Zx Zaf (qvN 14 Zdb) Zf (Zw _))))) (Zg (Z2 (i:=15) sc_law.nd Ze8 (Yk (Zb (Yn (Zb (qvN 5 Zax) (Zb (qvN 13 Zdd) (Zb (Z0 Zb7 Zf (qvN 14 Zdb)) Zd)))) Zd)))) Zt)
 (Zg (Zs (Vv (Wp (Zq Zbe (hr.mono (by lia)) Ze9 (Zb (Zz (qvC 2 V9) Tm.cl MM_owed (hr.mono (by lia)) (Zb (qvC 10 Uq) Zd)) (Zb (qvN 15 Ze8) Zd))))) (Zg (Zu Uu)) Zt))))))))))))
 (Zg (Zu Uu))))))))))))))),?_⟩
  have hz:(5000:Nat)<=sizeLine:=by decide
  have hT0:IsTab H Tt Ux:=hTs _ hcT
  refine ⟨_,rfl,a,ns,rfl,hS,fun s la H1 hs hla hs1 sm1=>?_⟩
  intro x dx nx ndx nex
  refine ⟨x,dx,rfl,Zi,fun M H2 eM M2 kp fr=>⟨rfl,?_⟩⟩
  subst eM
  have sm2:Same H1 H2:=fun b o e=>kp b o (by rw [Zc (Zh e nx),Zc (Zh e ndx)]; exact e) (Zh e nx)
  have fr2:∀ b o,H1 b=some o->¬ mo M [] (fun _=>0) [] b:=fun b o e z=>by
   rcases fr b z with y | y
   ·rw [y,nx] at e; cases e
   ·have nb:b≠M.p:=fun z=>by rw [z,nx] at e; cases e
    rw [Zc nb,Zc (Zh e ndx),e] at y; cases y
  refine ⟨_,rfl,_,rfl,s,la,32,rfl,hs1.keep sm2,by decide,by decide,fun d3 H3 d30 d31 hs3 sx3=>?_⟩
  refine ⟨_,_,rfl,rfl,?_⟩
  refine ⟨s,la,9+d3,rfl,hs3,by lia,by lia,fun na names H4 hnl hnd hnm hnf hna hs4 sx4=>?_⟩
  obtain ⟨ns1,i1,big1,st1,cnt1,hq1,hq2,_⟩:=id hs1
  have W4:W60 C CM Tt H4 M [] (fun _=>0) 0 [] [] [] s la na names:=by
   have m3:=M2.x (sm2 _ _ hq1) (fr2 _ _ hq1) sx3
   obtain ⟨ns3,i3,big3,st3,cnt3,hq3,_⟩:=id hs3
   have m4:=m3.x hq3 (fr2 _ _ hq1) sx4
   have hT4:=IsTab.src (IsTab.src ((hT0.same sm1).same sm2) (hs1.keep sm2) sx3) hs3 sx4
   exact ⟨m4,hs4,hna,fr2 _ _ hq1,fr2 _ _ hq2,(fun z=>by obtain ⟨o,e⟩:=m3.there z; rw [hnf] at e; cases e),(hs3.ne hnf).1,hT4⟩
  clear M2 kp fr fr2 hs3 sx3 sx4 sm2 sm1 hs1 hT0 hTs hS hq1 hq2 hs4
  have hn9 : 9<=names.length:=by lia
  have hn40:names.length<=40:=by lia
  have nget:∀ i,i < names.length->(names.map V.str)[i]? = some (.str (names.getD i e0)):=fun i hi=>by rw [List.getElem?_map,List.getD_eq_getElem?_getD,List.getElem?_eq_getElem hi]; rfl
  have nmem:∀ i,i < names.length->names.getD i e0∈names:=fun i hi=>by rw [List.getD_eq_getElem?_getD,List.getElem?_eq_getElem hi]; exact List.getElem_mem hi
  have ninj:∀ i j,i < names.length->j < names.length->names.getD i e0=names.getD j e0->i=j:=fun i j hi hj e=>by
   rw [List.getD_eq_getElem?_getD,List.getElem?_eq_getElem hi,List.getD_eq_getElem?_getD,List.getElem?_eq_getElem hj] at e
   exact (List.getElem_inj hnd).mp e
  refine Ye ?_
  dsimp only
  refine ⟨_,rfl,na,_,0,.str (names.getD 0 e0),rfl,rfl,SqL.of W4.nm,Y3 (nget 0 (by lia)),?_⟩
  refine Ye ?_
  dsimp only
  refine ⟨_,rfl,_,rfl,na,_,-1,.str (names.getD (names.length - 1) e0),rfl,rfl,SqL.of W4.nm,Zgr (n:=names.length - 1) (by rw [List.length_map]; lia) (nget _ (by lia)),?_⟩
  refine Ye ?_
  dsimp only
  refine ⟨_,rfl,s,la,1000000,rfl,W4.sr,by decide,by decide,fun c0 H5 c00 c01 hs5 sx5=>⟨_,_,rfl,rfl,?_⟩⟩
  refine ⟨_,rfl,s,la,1000000,rfl,hs5,by decide,by decide,fun c1 H6 c10 c11 hs6 sx6=>⟨_,_,rfl,rfl,?_⟩⟩
  have W6:=(W4.x sx5 hs5).x sx6 hs6
  refine ⟨by show 2<=sizeLine; lia,fun lc hlc=>?_⟩
  have S7:=Same.new (o:=.lst [.int (1+c0),.int (1+c1)]) hlc
  have k7:(upd H6 lc (.lst [.int (1+c0),.int (1+c1)])) lc=some (.lst [.int (1+c0),.int (1+c1)]):=Zi
  have W7:=W6.same S7
  have ncs:=(W6.sr.ne hlc).1
  have ncn:na≠lc:=Zh W6.nm hlc
  have nco:¬ mo M [] (fun _=>0) [] lc:=fun z=>by obtain ⟨o,e⟩:=W6.m.there z; rw [hlc] at e; cases e
  generalize (upd H6 lc (.lst [.int (1+c0),.int (1+c1)]))=H7 at S7 k7 W7 ⊢
  clear W4 W6 S7 hs5 sx5 hs6 sx6 hna hnf
  generalize ek0 : 1+c0=k0 at k7 ⊢
  generalize ek1 : 1+c1=k1 at k7 ⊢
  have k00 : 1<=k0:=by lia
  have k01:k0<=1000000:=by lia
  have k10 : 1<=k1:=by lia
  have k11:k1<=1000000:=by lia
  clear ek0 ek1 c00 c01 c10 c11
  refine Ye ?_
  dsimp only
  refine ⟨_,rfl,na,rfl,⟨_,SqL.of W7.nm⟩,?_⟩
  refine Zag (names.map V.str) (fun i σ H'=>∃ (v7:Option V) (wa:Str->Addr),σ = [some (.ref a),some (.ref s),some (.ref M.p),some (.ref na),some (.str (names.getD 0 e0)),some (.str (names.getD (names.length - 1) e0)),some (.ref lc),v7,none,none,none,none,none,none,none,none] /\
    W60 C CM Tt H' M (Yg (names.take i)) wa i [] [] [] s la na names/\H' lc=some (.lst [.int k0,.int k1])/\¬ mo M (Yg (names.take i)) wa [] lc)
   ⟨none,_,rfl,W7,k7,nco⟩ (fun i σ H' _ ⟨_,_,_,W,_⟩=>SqL.of W.nm) ?_ ?_
  ·rintro i v σ H' hv ⟨v7,wa,rfl,W,klc,nlc⟩
   have hi:i < names.length:=by have:=(List.getElem?_eq_some_iff.mp hv).1; rw [List.length_map] at this; exact this
   rw [nget i hi] at hv
   cases hv
   have hnin:names.getD i e0∉names.take i:=fun z=>by
    obtain ⟨j,hj,e⟩:=List.getElem_of_mem z
    rw [List.getElem_take] at e
    have hj2:j < i:=by rw [List.length_take] at hj; lia
    have:=ninj j i (by lia) hi (by rw [List.getD_eq_getElem?_getD,List.getElem?_eq_getElem (show j < names.length by lia)]; exact e)
    lia
   have etk:names.take (i+1)=names.take i ++ [names.getD i e0]:=by
    rw [List.take_add_one,List.getElem?_eq_getElem hi,List.getD_eq_getElem?_getD,List.getElem?_eq_getElem hi]; rfl
   obtain ⟨dm,obm⟩:=W.m.ob
   refine ⟨_,rfl,M.p,dm,_,rfl,obm,Ys _ (by decide +kernel),_,rfl,?_⟩
   refine ⟨M,Yg (names.take i),wa,i,[],[],[],names.getD i e0,1,5,rfl,W.m,by lia,by unfold Yg; rw [List.length_map,List.length_take]; lia,hnm _ (nmem i hi),by decide,by decide,by decide,by decide,by rw [Zfj,if_neg hnin],fun wa' H8 m8 t8 f8=>?_⟩
   rw [← Zsr,← etk] at m8 f8
   refine ⟨_,wa',rfl,W.told m8 t8 f8,t8 _ _ klc nlc,fun z=>?_⟩
   rcases f8 lc z with y | y
   ·exact nlc y
   ·rw [klc] at y; cases y
  rintro σ H8 ⟨v7,wa,rfl,W8,klc,nlc⟩
  rw [List.length_map,List.take_length] at W8 nlc
  have hcom:∀ n∈names,Zl (Yg names) n=some 1:=fun n hn=>by rw [Zfj,if_pos hn]
  have hdd:∀ n (D0:Int),Yp (Yg names) n D0=false:=fun n D0=>by unfold Yp; rw [Zfk]
  have hfst:=nmem 0 (by lia)
  have hlst:=nmem (names.length - 1) (by lia)
  obtain ⟨dm8,obm8⟩:=W8.m.ob
  refine ⟨_,rfl,M.p,dm8,_,rfl,obm8,Ys _ (by decide +kernel),_,rfl,?_⟩
  refine ⟨M,Yg names,wa,names.length,[],[],[],names.getD 0 e0,2,1,rfl,W8.m,by lia,by decide,by decide,by decide,hcom _ hfst,by decide,hdd _ _,fun q H9 m9 t9 f9=>?_⟩
  have W9:=W8.told m9 t9 f9
  have klc9:=t9 _ _ klc nlc
  have nlc9:¬ mo M (Yg names) wa ([] ++ [q]) lc:=fun z=>by
   rcases f9 lc z with y | y
   ·exact nlc y
   ·rw [klc] at y; cases y
  obtain ⟨dm9,obm9⟩:=W9.m.ob
  refine ⟨_,rfl,M.p,dm9,_,rfl,obm9,Ys _ (by decide +kernel),_,rfl,_,rfl,_,rfl,lc,_,0,.int k0,rfl,rfl,SqL.of klc9,rfl,?_⟩
  refine ⟨M,Yg names,wa,_,_,_,_,names.getD 0 e0,names.getD (names.length - 1) e0,k0,2,rfl,W9.m,by lia,by decide,k00,k01,by decide,by decide,fun n hn=>⟨1,hcom n (by simp only [List.mem_cons,List.not_mem_nil,or_false] at hn; rcases hn with z | z <;> rw [z] <;> assumption),by decide,hdd _ _⟩,fun H10 m10 t10=>?_⟩
  have W10:=W9.told m10 t10 MFresh.refl
  have klc10:=t10 _ _ klc9 nlc9
  obtain ⟨dm10,obm10⟩:=W10.m.ob
  refine ⟨_,rfl,M.p,dm10,_,rfl,obm10,Ys _ (by decide +kernel),_,rfl,_,rfl,_,rfl,lc,_,1,.int k1,rfl,rfl,SqL.of klc10,rfl,?_⟩
  refine ⟨M,Yg names,wa,_,_,_,_,names.getD (names.length - 1) e0,names.getD 0 e0,k1,2,rfl,W10.m,by lia,by simp,k10,k11,by decide,by decide,fun n hn=>⟨1,hcom n (by simp only [List.mem_cons,List.not_mem_nil,or_false] at hn; rcases hn with z | z <;> rw [z] <;> assumption),by decide,hdd _ _⟩,fun H11 m11 t11=>?_⟩
  have W11:=W10.told m11 t11 MFresh.refl
  have klc11:=t11 _ _ klc10 nlc9
  clear W8 W9 W10 m9 m10 m11 t9 t10 t11 f9 klc klc9 klc10 obm8 obm9 obm10 nlc
  refine ⟨_,rfl,_,rfl,na,_,rfl,.inl (SqL.of W11.nm),_,_,rfl,rfl,?_⟩
  refine ⟨s,la,((names.length - 1:Nat):Int),?_,W11.sr,by lia,by lia,fun dl days H12 hdl hdays hdf hdl12 hs12 sx12=>?_⟩
  ·rw [List.length_map]
   show [V.ref s,V.int ((names.length:Int) - 1)]=_
   rw [show ((names.length:Int) - 1)=((names.length - 1:Nat):Int) by lia]
  have hdl':names.length=days.length+1:=by lia
  have W12:=W11.x sx12 hs12
  have klc12:=sx12 _ _ ncs klc11
  have ndo:¬ mo M (Yg names) wa ([] ++ [q]) dl:=fun z=>by obtain ⟨o,e⟩:=W11.m.there z; rw [hdf] at e; cases e
  have ndl:dl≠lc:=fun z=>by rw [z,klc11] at hdf; cases hdf
  refine Ye ?_
  dsimp only
  have dget:∀ i,i < days.length->(days.map V.int)[i]? = some (.int (days.getD i 0)):=fun i hi=>by rw [List.getElem?_map,List.getD_eq_getElem?_getD,List.getElem?_eq_getElem hi]; rfl
  have dmem:∀ i,i < days.length->3<=days.getD i 0/\days.getD i 0<=39:=fun i hi=>by rw [List.getD_eq_getElem?_getD,List.getElem?_eq_getElem hi]; exact hdays _ (List.getElem_mem hi)
  generalize hes:(([]:List Enr) ++ [⟨2,names.getD (names.length - 1) e0,names.getD 0 e0,k0⟩] ++ [⟨2,names.getD 0 e0,names.getD (names.length - 1) e0,k1⟩])=es at W12
  generalize hbs:(([]:List (Str×Int)) ++ [(names.getD 0 e0,2)])=bs at W12
  generalize hqs:(([]:List Addr) ++ [q])=qs at W12 ndo nlc9
  clear W11 klc11 hdf sx12 hs12
  refine ⟨_,rfl,dl,_,rfl,SqL.of hdl12,?_⟩
  refine Zuk (days.map V.int) (fun i σ H'=>∃ (v9 v10:Option V) (ds:List Deed) (nd:Nat),σ = [some (.ref a),some (.ref s),some (.ref M.p),some (.ref na),some (.str (names.getD 0 e0)),some (.str (names.getD (names.length - 1) e0)),some (.ref lc),v7,some (.ref dl),v9,v10,none,none,none,none,none] /\
    W60 C CM Tt H' M ds wa nd bs qs es s la na names/\H' lc=some (.lst [.int k0,.int k1])/\H' dl=some (.lst (days.map V.int))/\¬ mo M ds wa qs lc/\¬ mo M ds wa qs dl/\nd<=100+i/\ds.length<=40+i/\(∀ n,Zl ds n=Zl (Yg names) n) /\
    (∀ j,j < i->Zp ds (names.getD j e0)=some (days.getD j 0,names.getD (j+1) e0))/\(∀ n x,Zp ds n=some x->∃ j,j < i/\n=names.getD j e0))
   ⟨none,none,Yg names,_,rfl,W12,klc12,hdl12,nlc9,ndo,by lia,by unfold Yg; rw [List.length_map]; lia,fun _=>rfl,(fun j hj=>by lia),(fun n x e=>by rw [Zfk] at e; cases e)⟩ (fun i σ H' _ ⟨_,_,_,_,_,_,_,e,_⟩=>SqL.of e) ?_ ?_
  ·rintro i v p σ H' hv ⟨v9,v10,ds,nd,rfl,W,klc,kdl,nlc,ndo,hnd',hdsl,hco,hd1,hd3⟩ hp
   have hi:i < days.length:=by have:=(List.getElem?_eq_some_iff.mp hv).1; rw [List.length_map] at this; exact this
   rw [dget i hi] at hv
   cases hv
   have Sp:=Same.new (o:=.tup [.int i,.int (days.getD i 0)]) hp
   have kp:(upd H' p (.tup [.int i,.int (days.getD i 0)])) p=some (.tup [.int i,.int (days.getD i 0)]):=Zi
   generalize (upd H' p (.tup [.int i,.int (days.getD i 0)]))=H1 at Sp kp ⊢
   have W1:=W.same Sp
   refine ⟨p,_,rfl,SqT.of kp,rfl,_,_,rfl,_,_,rfl,rfl,?_⟩
   obtain ⟨dm,obm⟩:=W1.m.ob
   obtain ⟨g1,g2⟩:=dmem i hi
   have hfree:∀ j,i<=j->j < names.length->Zp ds (names.getD j e0)=none:=fun j hj hj2=>by
    cases e:Zp ds (names.getD j e0) with
    | none=>rfl
    | some x =>
     obtain ⟨j',h1,h2⟩:=hd3 _ _ e
     have:=ninj j j' hj2 (by lia) h2
     lia
   refine ⟨_,rfl,M.p,dm,_,rfl,obm,Ys _ (by decide +kernel),_,rfl,_,rfl,na,_,_,.str (names.getD i e0),rfl,rfl,SqL.of W1.nm,Y3 (nget i (by lia)),_,rfl,?_⟩
   refine ⟨_,rfl,_,rfl,_,_,rfl,rfl,na,_,((i+1:Nat):Int),.str (names.getD (i+1) e0),rfl,congrArg V.int (by lia),SqL.of W1.nm,Y3 (nget (i+1) (by lia)),?_⟩
   have hne:names.getD (i+1) e0≠names.getD i e0:=fun z=>by have:=ninj _ _ (by lia) (by lia) z; lia
   refine ⟨M,ds,wa,nd,bs,qs,es,names.getD i e0,names.getD (i+1) e0,days.getD i 0,1,1,rfl,W1.m,by lia,by lia,by lia,by lia,by rw [hco]; exact hcom _ (nmem i (by lia)),by lia,by rw [hco]; exact hcom _ (nmem (i+1) (by lia)),by lia,hfree i (Nat.le_refl _) (by lia),hfree (i+1) (by lia) (by lia),hne,fun H2 m2 t2 f2=>?_⟩
   have nofresh:∀ b o,H' b=some o->¬ mo M ds wa qs b->¬ mo M (ds ++ [.die (names.getD i e0) (days.getD i 0) (names.getD (i+1) e0)]) wa qs b:=fun b o e n z=>by
    rcases f2 b z with y | y
    ·exact n y
    ·rw [Sp _ _ e] at y; cases y
   refine ⟨_,_,_,nd+1,rfl,W1.told m2 t2 f2,t2 _ _ (Sp _ _ klc) nlc,t2 _ _ (Sp _ _ kdl) ndo,nofresh _ _ klc nlc,nofresh _ _ kdl ndo,by lia,by rw [List.length_append]; show _+1<=_; lia,fun n=>by rw [Zlo]; exact hco n,fun j hj=>?_,fun n x e=>?_⟩
   ·rw [Zdg (hfree i (Nat.le_refl _) (by lia))]
    by_cases c:j=i
    ·rw [c,if_pos rfl]
    ·rw [if_neg (fun z=>c (ninj j i (by lia) (by lia) z))]
     exact hd1 j (by lia)
   ·rw [Zdg (hfree i (Nat.le_refl _) (by lia))] at e
    by_cases c:n=names.getD i e0
    ·exact ⟨i,by lia,c⟩
    ·rw [if_neg c] at e
     obtain ⟨j,h1,h2⟩:=hd3 n x e
     exact ⟨j,by lia,h2⟩
  rintro σ H13 ⟨v9,v10,ds,nd,rfl,W13,klc,kdl,nlc,ndo,hnd',hdsl,hco,hd1,hd3⟩
  rw [List.length_map] at hd1 hd3
  have LN:Line ds (names.getD · e0) (days.getD · 0) days.length:=⟨hd1,hd3,fun i j hi hj e=>ninj i j (by lia) (by lia) e⟩
  have hE:=LN.ends (by lia)
  clear W12 klc12 hdl12 hd1 hd3
  have hl1:names.length - 1=days.length:=by lia
  rw [hl1] at hes
  refine ⟨_,rfl,s,la,37,rfl,W13.sr,by decide,by decide,fun a1 H14 a10 a11 hs14 sx14=>⟨_,_,rfl,rfl,?_⟩⟩
  refine ⟨_,rfl,s,la,37,rfl,hs14,by decide,by decide,fun a2 H15 a20 a21 hs15 sx15=>⟨_,_,rfl,rfl,?_⟩⟩
  have W15:=(W13.x sx14 hs14).x sx15 hs15
  have klc15:=sx15 _ _ ncs (sx14 _ _ ncs klc)
  have nds:dl≠s:=fun z=>by obtain ⟨ns,i,b,st,c,h1,h2,_⟩:=id W13.sr; rw [z,h1] at kdl; have e:=congrArg List.length (HO.lst.inj (Option.some.inj kdl)); simp at e; lia
  have kdl15:=sx15 _ _ nds (sx14 _ _ nds kdl)
  refine ⟨by show 4<=sizeLine; lia,fun qd hqd=>?_⟩
  have S16:=Same.new (o:=.lst [.int (3+a1),.int (3+a2),.int 20,.int 9999]) hqd
  have k16:(upd H15 qd (.lst [.int (3+a1),.int (3+a2),.int 20,.int 9999])) qd=some (.lst [.int (3+a1),.int (3+a2),.int 20,.int 9999]):=Zi
  have W16:=W15.same S16
  have klc16:=S16 _ _ klc15
  have kdl16:=S16 _ _ kdl15
  generalize (upd H15 qd (.lst [.int (3+a1),.int (3+a2),.int 20,.int 9999]))=H16 at S16 k16 W16 klc16 kdl16 ⊢
  have hdv:∀ (j:Nat) (v:V),([.int (3+a1),.int (3+a2),.int 20,.int 9999]:List V)[j]? = some v->∃ D0:Int,v = .int D0/\3<=D0/\D0<=9999:=fun j v e=>by
   match j,e with
   | 0,e=>cases e; exact ⟨_,rfl,by lia,by lia⟩
   | 1,e=>cases e; exact ⟨_,rfl,by lia,by lia⟩
   | 2,e=>cases e; exact ⟨_,rfl,by lia,by lia⟩
   | 3,e=>cases e; exact ⟨_,rfl,by lia,by lia⟩
   | j+4,e=>simp at e
  generalize ([.int (3+a1),.int (3+a2),.int 20,.int 9999]:List V)=dys at k16 hdv ⊢
  clear W13 W15 klc kdl klc15 kdl15 S16 hs14 sx14 hs15 sx15 hqd
  refine ⟨qd,rfl,⟨_,SqL.of k16⟩,?_⟩
  refine Zag dys (fun i σ H'=>∃ (u9 u10 u11 u12 u13 u14 u15:Option V),σ = [some (.ref a),some (.ref s),some (.ref M.p),some (.ref na),some (.str (names.getD 0 e0)),some (.str (names.getD (names.length - 1) e0)),some (.ref lc),v7,some (.ref dl),u9,u10,u11,u12,u13,u14,u15]/\Same H16 H')
   ⟨_,_,none,none,none,none,none,rfl,fun _ _ e=>e⟩ (fun i σ H' _ ⟨_,_,_,_,_,_,_,_,e⟩=>SqL.of (e _ _ k16)) ?_ (fun σ H' _=>k H')
  rintro i v σ H17 hv ⟨u9,u10,u11,u12,u13,u14,u15,rfl,S17⟩
  obtain ⟨D0,rfl,hD3,hD9⟩:=hdv i v hv
  have W17:=W16.same S17
  have klc17:=S17 _ _ klc16
  have kdl17:=S17 _ _ kdl16
  refine ⟨_,rfl,_,rfl,_,rfl,na,dl,names,days,D0,rfl,W17.nm,kdl17,hdl',by lia,fun ll H18 hllf kll S18=>?_⟩
  refine Ye ?_
  dsimp only
  have W18:=W17.same S18
  generalize hlnl:((List.range (days.length+1)).map fun j=>lnF (names.getD · e0) (days.getD · 0) days.length D0 (days.length - j))=ln at kll
  have lget:∀ j,j<=days.length->ln[j]? = some (lnF (names.getD · e0) (days.getD · 0) days.length D0 (days.length - j)):=fun j hj=>by rw [← hlnl,List.getElem?_map,List.getElem?_range (by lia)]; rfl
  have hlnlen:ln.length=names.length:=by rw [← hlnl,List.length_map,List.length_range]; lia
  refine ⟨_,rfl,na,rfl,⟨_,SqL.of W18.nm⟩,?_⟩
  refine Zfm (xs:=names.map V.str) (fun j ys H'=>H18=H'/\ys=(ln.take j).map V.str) ⟨rfl,rfl⟩ (by rw [List.length_map]; lia) (fun j ys H' _ ⟨e,_⟩=>by rw [← e]; exact SqL.of W18.nm) (fun j ys H' ⟨_,e⟩=>by rw [e,List.length_map,List.length_take]; lia) ?_ ?_
  ·rintro j x ys H' hx ⟨rfl,rfl⟩ ls hls
   obtain ⟨w0,rfl⟩:=Zcu hls
   have hj:j < names.length:=by have:=(List.getElem?_eq_some_iff.mp hx).1; rw [List.length_map] at this; exact this
   rw [nget j hj] at hx
   cases hx
   refine ⟨⟨[_],rfl,rfl⟩,?_⟩
   obtain ⟨dm,obm⟩:=W18.m.ob
   obtain ⟨b,hb,st⟩:=LN.stands D0 (days.length - j) (by lia)
   rw [show days.length - (days.length - j)=j by lia] at st
   refine ⟨_,rfl,M.p,dm,_,rfl,obm,Ys _ (by decide +kernel),_,rfl,_,rfl,M,ds,wa,nd,bs,qs,es,names.getD j e0,_,1,D0,b,rfl,W18.m,by rw [hco]; exact hcom _ (nmem j hj),by lia,by lia,st,rfl,?_⟩
   rw [List.take_add_one,lget j (by lia),List.map_append]
   rfl
  rintro ys H' ⟨rfl,rfl⟩ lq hlq
  have etl:ln.take (names.map V.str).length=ln:=by rw [List.length_map,← hlnlen,List.take_length]
  rw [etl]
  have S19:=Same.new (o:=.lst (ln.map V.str)) hlq
  have k19:(upd H18 lq (.lst (ln.map V.str))) lq=some (.lst (ln.map V.str)):=Zi
  generalize (upd H18 lq (.lst (ln.map V.str)))=H19 at S19 k19 ⊢
  refine ⟨_,rfl,.ref lq,.ref ll,.lst (ln.map D.str),.lst (ln.map D.str),rfl,⟨lq,_,rfl,k19,Zgs _⟩,⟨ll,_,rfl,S19 _ _ kll,Zgs _⟩,by have:=Zlu ln; show Y2 _+1<=4; lia,fun H20 S20=>⟨_,rfl,?_⟩⟩
  rw [Zbw]
  refine Zm ?_
  have S180:=S19.trans S20
  have W20:=W18.same S180
  dsimp only [Ur]
  refine ⟨_,rfl,_,rfl,_,rfl,na,dl,names,days,D0,rfl,W20.nm,S180 _ _ (S18 _ _ kdl17),hdl',by lia,fun i2 lr us H21 hi2 hd2 he2 hlrf klr htr S21=>?_⟩
  refine Ye ?_
  dsimp only
  have W21:=W20.same S21
  have ern:=LN.road (by lia) hi2 hd2 he2 (show 2<=D0 by lia)
  obtain ⟨dm21,obm21⟩:=W21.m.ob
  have hbs0:bs[0]? = some (names.getD 0 e0,2):=by rw [← hbs]; rfl
  have hT21:=W21.tb
  refine ⟨_,rfl,M.p,dm21,_,rfl,obm21,Ys _ (by decide +kernel),_,rfl,M,ds,wa,nd,bs,qs,es,0,(names.getD 0 e0,2),D0,rfl,W21.m,hbs0,by lia,by lia,hE,hT21,fun l2 us2 H22 hl2f kl2 htr2 S22=>?_⟩
  rw [ern] at htr2
  have htr22:=htr.mono (H':=H22) fun b xs e=>S22 _ _ e
  refine ⟨_,rfl,.ref l2,.ref lr,.lst (((List.range (i2+1)).map (stp (names.getD · e0) (days.getD · 0))).map stD),.lst (((List.range (i2+1)).map (stp (names.getD · e0) (days.getD · 0))).map stD),rfl,⟨l2,_,rfl,kl2,htr2.sts⟩,⟨lr,_,rfl,S22 _ _ klr,htr22.sts⟩,Zwx _,fun H23 S23=>⟨_,rfl,?_⟩⟩
  rw [Zbw]
  refine Zm ?_
  have S213:=S22.trans S23
  have W23:=W21.same S213
  obtain ⟨dm23,obm23⟩:=W23.m.ob
  have hT23:=W23.tb
  refine ⟨_,rfl,M.p,dm23,_,rfl,obm23,Ys _ (by decide +kernel),_,rfl,M,ds,wa,nd,bs,qs,es,0,(names.getD 0 e0,2),D0,rfl,W23.m,hbs0,by lia,by lia,hE,hT23,fun H24 S24=>?_⟩
  rw [ern]
  have elast:Zco ((List.range (i2+1)).map (stp (names.getD · e0) (days.getD · 0)))=some (names.getD i2 e0):=by
   unfold Zco
   rw [if_neg (by simp),List.range_succ,List.map_append]
   show some (Yw (_ ++ [_])).t=_
   rw [Ztl,Zbg]
  rw [elast]
  have S214:=S213.trans S24
  have htrL:=htr
  rw [List.range_succ,List.map_append,List.map_append] at htrL
  obtain ⟨us0,al,eus,_,hal⟩:=TR.last htrL
  have at1:atI us (-1)=some (.ref al):=by rw [eus]; exact Zb2
  have hal':H24 al=some (.tup [.int (stp (names.getD · e0) (days.getD · 0) i2).at_,.str (stp (names.getD · e0) (days.getD · 0) i2).wd,oV (stp (names.getD · e0) (days.getD · 0) i2).g,.str (names.getD i2 e0)]):=by
   have:=S214 _ _ hal
   unfold stV at this
   rw [Zbg] at this
   exact this
  refine ⟨_,rfl,_,rfl,lr,us,-1,.ref al,rfl,rfl,SqL.of (S214 _ _ klr),at1,al,_,3,.str (names.getD i2 e0),rfl,rfl,SqT.of hal',rfl,?_⟩
  refine ⟨_,_,.str (names.getD i2 e0),.str (names.getD i2 e0),rfl,rfl,rfl,by show 0<=4; lia,fun H25 S25=>⟨_,rfl,?_⟩⟩
  rw [Zbw]
  refine Zm ?_
  have S255:=S214.trans S25
  have W25:=W21.same S255
  dsimp only [Ur]
  have kll25:=S255 _ _ (S21 _ _ (S180 _ _ kll))
  have klc25:=S255 _ _ (S21 _ _ (S180 _ _ (S18 _ _ klc17)))
  have S1625:Same H16 H25:=((S17.trans S18).trans S180).trans (S21.trans S255)
  clear W16 W17 W18 W20 W21 W23 S22 S23 S24 S25 S213 S214 S255 htr htr2 htr22 htrL hal hal' kll S19 S20 S180 k19
  obtain ⟨one,hone⟩:∃ one,one=lnF (names.getD · e0) (days.getD · 0) days.length D0 (days.length - 0):=⟨_,rfl⟩
  have l0:(ln.map V.str)[0]? = some (.str one):=by rw [List.getElem?_map,lget 0 (by lia),hone]; rfl
  refine ⟨_,rfl,ll,_,0,.str one,rfl,rfl,SqL.of kll25,Y3 l0,?_⟩
  refine Ye ?_
  dsimp only
  refine ⟨_,rfl,lc,_,1,.int k1,rfl,rfl,SqL.of klc25,rfl,_,rfl,lc,_,0,.int k0,rfl,rfl,SqL.of klc25,rfl,_,_,rfl,rfl,?_⟩
  refine Ye ?_
  dsimp only
  refine ⟨by show 0<=sizeLine; lia,fun lw hlw=>?_⟩
  have S26:=Same.new (o:=.lst []) hlw
  have k26:(upd H25 lw (.lst [])) lw=some (.lst []):=Zi
  generalize (upd H25 lw (.lst []))=H26 at S26 k26 ⊢
  refine Ye ?_
  dsimp only [Ur]
  obtain ⟨lastn,hlastn⟩:∃ x,x=names.getD (names.length - 1) e0:=⟨_,rfl⟩
  rw [← hlastn]
  refine Zmy (fun σ' H'=>∃ (lw:Addr) (us:List V),σ' = [some (.ref a),some (.ref s),some (.ref M.p),some (.ref na),some (.str (names.getD 0 e0)),some (.str lastn),some (.ref lc),v7,some (.ref dl),u9,some (.int D0),some (.ref ll),some (.ref lr),some (.str one),some (.int (k1 - k0)),some (.ref lw)]/\Same H25 H'/\H' lw=some (.lst us) /\
    RepL H' ((if one≠lastn/\k1 - k0 > 0 then [((one,lastn,k1 - k0):Row)] else []).map Wb) us) ?_ ?_
  ·rintro σ' H27 ⟨lw2,us27,rfl,S27,k27,r27⟩
   refine Zmy (fun σ' H'=>∃ (lw:Addr) (us:List V),σ' = [some (.ref a),some (.ref s),some (.ref M.p),some (.ref na),some (.str (names.getD 0 e0)),some (.str lastn),some (.ref lc),v7,some (.ref dl),u9,some (.int D0),some (.ref ll),some (.ref lr),some (.str one),some (.int (k1 - k0)),some (.ref lw)]/\Same H25 H'/\H' lw=some (.lst us) /\
    RepL H' ((Wx one lastn (k1 - k0)).map Wb) us) ?_ ?_
   ·rintro σ' H28 ⟨lw3,us28,rfl,S28,k28,r28⟩
    have W28:=W25.same S28
    obtain ⟨dm28,obm28⟩:=W28.m.ob
    have hst:∀ n,∃ b m,b<=40/\Stands ds D0 b n m:=fun n=>let ⟨b,m,h1,h2⟩:=hE n D0; ⟨b,m,h2,h1⟩
    let fS:Str->Str:=fun n=>Classical.choose (Classical.choose_spec (hst n))
    have hfS:Zjm ds D0 fS:=fun n=>⟨Classical.choose (hst n),Classical.choose_spec (Classical.choose_spec (hst n))⟩
    have fat:∀ j,j<=days.length->fS (names.getD j e0)=lnF (names.getD · e0) (days.getD · 0) days.length D0 (days.length - j):=fun j hj=>by
     obtain ⟨b,hb,st⟩:=LN.stands D0 (days.length - j) (by lia)
     rw [show days.length - (days.length - j)=j by lia] at st
     obtain ⟨b2,_,st2⟩:=hfS (names.getD j e0)
     exact (Ztm st st2).symm
    have f0:fS (names.getD 0 e0)=one:=by rw [fat 0 (by lia),hone]
    have fL:fS (names.getD days.length e0)=names.getD days.length e0:=by rw [fat days.length (Nat.le_refl _),Nat.sub_self]; rfl
    have hel:es.length < 64:=by rw [← hes]; simp
    refine ⟨_,rfl,M.p,dm28,_,rfl,obm28,Ys _ (by decide +kernel),_,rfl,M,ds,wa,nd,bs,qs,es,D0,fS,rfl,W28.m,by lia,by lia,hfS,hel,fun lo rs vs H29 klo rlo ho hrl S29=>?_⟩
    have hrs:rs=Wx one lastn (k1 - k0):=by
     refine ho.eq ?_
     rw [← hes,hlastn,hl1]
     exact Z0g f0 fL (by lia)
    subst hrs
    have r29:RepL H29 ((Wx one lastn (k1 - k0)).map Wb) us28:=r28.mono' S29
    refine ⟨_,rfl,.ref lo,.ref lw3,.lst ((Wx one lastn (k1 - k0)).map Wb),.lst ((Wx one lastn (k1 - k0)).map Wb),rfl,⟨lo,_,rfl,klo,rlo⟩,⟨lw3,_,rfl,S29 _ _ k28,r29⟩,Zuz _,fun H30 S30=>⟨_,rfl,?_⟩⟩
    rw [Zbw]
    refine Zm ?_
    exact ⟨_,_,_,_,_,_,_,by rw [hlastn],((S1625.trans S28).trans S29).trans S30⟩
   ·intro D' hn _ _ _
    refine ⟨_,rfl,_,rfl,rfl,_,rfl,?_⟩
    by_cases e:one=lastn
    ·rw [decide_eq_true (congrArg V.str e)]
     refine Zm (Zm ?_)
     refine hn _ _ ⟨lw2,us27,rfl,S27,k27,?_⟩
     rw [if_neg (fun z=>z.1 e)] at r27
     unfold Wx
     rw [if_neg (fun z=>z.1 e),if_neg (fun z=>z.1 e)]
     exact r27
    ·rw [decide_eq_false (Zgm e)]
     refine Yc ?_
     refine ⟨_,rfl,_,_,rfl,rfl,_,rfl,Z6 (fun c=>?_) (fun c=>?_)⟩
     ·refine ⟨_,rfl,_,rfl,_,rfl,_,_,rfl,rfl,by show 3<=sizeLine; lia,fun p hp=>?_⟩
      have S1:=Same.new (o:=.tup [.str lastn,.str one,.int (0 - (k1 - k0))]) hp
      have kp:(upd H27 p (.tup [.str lastn,.str one,.int (0 - (k1 - k0))])) p=some (.tup [.str lastn,.str one,.int (0 - (k1 - k0))]):=Zi
      generalize (upd H27 p (.tup [.str lastn,.str one,.int (0 - (k1 - k0))]))=Ha at S1 kp ⊢
      refine ⟨by show 1<=sizeLine; lia,fun l hl=>?_⟩
      have S2:=Same.new (o:=.lst [.ref p]) hl
      have kl:(upd Ha l (.lst [.ref p])) l=some (.lst [.ref p]):=Zi
      generalize (upd Ha l (.lst [.ref p]))=Hb at S2 kl ⊢
      refine Ye ?_
      refine hn _ _ ⟨l,_,rfl,(S27.trans S1).trans S2,kl,?_⟩
      unfold Wx
      rw [if_neg (fun z=>by lia),if_pos ⟨e,c⟩]
      exact ⟨.ref p,[],rfl,Zcc (S2 _ _ kp),rfl⟩
     ·refine hn _ _ ⟨lw2,us27,rfl,S27,k27,?_⟩
      unfold Wx
      rw [if_neg (fun z:one≠lastn/\k1 - k0 < 0=>c z.2)]
      exact r27
  ·intro D' hn _ _ _
   refine ⟨_,rfl,_,rfl,rfl,_,rfl,?_⟩
   by_cases e:one=lastn
   ·rw [decide_eq_true (congrArg V.str e)]
    refine Zm (Zm ?_)
    refine hn _ _ ⟨lw,[],rfl,S26,k26,?_⟩
    rw [if_neg (fun z=>z.1 e)]
    rfl
   ·rw [decide_eq_false (Zgm e)]
    refine Yc ?_
    refine ⟨_,rfl,_,_,rfl,rfl,_,rfl,Z6 (fun c=>?_) (fun c=>?_)⟩
    ·refine ⟨_,rfl,_,rfl,_,rfl,by show 3<=sizeLine; lia,fun p hp=>?_⟩
     have S1:=Same.new (o:=.tup [.str one,.str lastn,.int (k1 - k0)]) hp
     have kp:(upd H26 p (.tup [.str one,.str lastn,.int (k1 - k0)])) p=some (.tup [.str one,.str lastn,.int (k1 - k0)]):=Zi
     generalize (upd H26 p (.tup [.str one,.str lastn,.int (k1 - k0)]))=Ha at S1 kp ⊢
     refine ⟨by show 1<=sizeLine; lia,fun l hl=>?_⟩
     have S2:=Same.new (o:=.lst [.ref p]) hl
     have kl:(upd Ha l (.lst [.ref p])) l=some (.lst [.ref p]):=Zi
     generalize (upd Ha l (.lst [.ref p]))=Hb at S2 kl ⊢
     refine Ye ?_
     refine hn _ _ ⟨l,_,rfl,(S26.trans S1).trans S2,kl,?_⟩
     rw [if_pos ⟨e,c⟩]
     exact ⟨.ref p,[],rfl,Zcc (S2 _ _ kp),rfl⟩
    ·refine hn _ _ ⟨lw,[],rfl,S26,k26,?_⟩
     rw [if_neg (fun z=>c z.2)]
     rfl
end
def tabs:List Tb:=[⟨472,468, "by_day" ++ ".<locals>." ++ "<lambda>"⟩]
theorem tabs_ok (p:Params):∀ t∈tabs,(KTK p).lookup t.P=some {cls:=.none,data:=.fields #[] }/\PySem.W.codeHdIn (KK p) t.c t.P=true/\(KK p).lookup t.P=none:=by
 intro t ht
 simp only [tabs,List.mem_cons,List.not_mem_nil,or_false] at ht
 rcases ht with rfl <;> exact ⟨by kernel_rfl,by kernel_rfl,by kernel_rfl⟩
theorem all_mk {w:World}{h:Heap}{mg:Str->Option Value}{fa:Addr}(X:(KK w.params).In h) (G:h.Ns mainGlobals mg) (hfa:mg "law" = some (.ref fa)) :
  ∃ fd:FuncData,(∀ (s:Shared) (v:Value),BindsTo s fd ⟨[v],[]⟩ [("_law_script", v)])/\∀ base:Heap,(KK w.params).In base->base.Ns mainGlobals mg->FnOk (PySem.Challenge.rw_forsworn_k60_long_lines_of_heirs).prog w (KK w.params) mg base CX0 40 fa fd ["_law_script"] (Zd8 (KK w.params) tabs):=by
 have e:some (Value.ref fa)=some (.ref 888):=hfa.symm.trans (PySem.W.mg_of X G (by kernel_rfl))
 cases e
 have Zh5:Has (KK w.params) mg "owed" Ws:=Yj (f:=255) (oc:=.type "function") (od:=none) (an:=none) (osl:=#[]) (kV:=.none) (doc:=.none) (pm:=(.str "forsworn.dues" 474)) (cdv:=(.ref 254)) (ct:=.none) X G (by kernel_rfl) (by kernel_rfl) (by kernel_rfl) (by kernel_rfl)
 have Zh3:Has (KK w.params) mg "set_against" Zav:=Yj (f:=262) (oc:=.type "function") (od:=none) (an:=none) (osl:=#[]) (kV:=.none) (doc:=.none) (pm:=(.str "forsworn.dues" 474)) (cdv:=(.ref 261)) (ct:=.none) X G (by kernel_rfl) (by kernel_rfl) (by kernel_rfl) (by kernel_rfl)
 have Zh4:Has (KK w.params) mg "triple" Zcm:=Yj (f:=269) (oc:=.type "function") (od:=none) (an:=none) (osl:=#[]) (kV:=.none) (doc:=.none) (pm:=(.str "forsworn.dues" 474)) (cdv:=(.ref 268)) (ct:=.none) X G (by kernel_rfl) (by kernel_rfl) (by kernel_rfl) (by kernel_rfl)
 have Zhm:Has (KK w.params) mg "check_day" Zcj:=Yj (f:=276) (oc:=.type "function") (od:=none) (an:=none) (osl:=#[]) (kV:=.none) (doc:=.none) (pm:=(.str "forsworn.measures" 501)) (cdv:=(.ref 275)) (ct:=.none) X G (by kernel_rfl) (by kernel_rfl) (by kernel_rfl) (by kernel_rfl)
 have Zhn:Has (KK w.params) mg "check_weight" Zck:=Yj (f:=283) (oc:=.type "function") (od:=none) (an:=none) (osl:=#[]) (kV:=.none) (doc:=.none) (pm:=(.str "forsworn.measures" 501)) (cdv:=(.ref 282)) (ct:=.none) X G (by kernel_rfl) (by kernel_rfl) (by kernel_rfl) (by kernel_rfl)
 have Zid:Has (KK w.params) mg "check_money" Zcp:=Yj (f:=290) (oc:=.type "function") (od:=none) (an:=none) (osl:=#[]) (kV:=.none) (doc:=.none) (pm:=(.str "forsworn.measures" 501)) (cdv:=(.ref 289)) (ct:=.none) X G (by kernel_rfl) (by kernel_rfl) (by kernel_rfl) (by kernel_rfl)
 have Zhl:Has (KK w.params) mg "is_name" Zak:=Yj (f:=295) (oc:=.type "function") (od:=none) (an:=none) (osl:=#[]) (kV:=.none) (doc:=.none) (pm:=(.str "forsworn.oaths" 530)) (cdv:=(.ref 294)) (ct:=.none) X G (by kernel_rfl) (by kernel_rfl) (by kernel_rfl) (by kernel_rfl)
 have Zia:Has (KK w.params) mg "road" Wk:=Yj (f:=459) (oc:=.type "function") (od:=none) (an:=none) (osl:=#[]) (kV:=.none) (doc:=.none) (pm:=(.str "forsworn.goods" 749)) (cdv:=(.ref 458)) (ct:=.none) X G (by kernel_rfl) (by kernel_rfl) (by kernel_rfl) (by kernel_rfl)
 have Zib:Has (KK w.params) mg "holder" V0:=Yj (f:=466) (oc:=.type "function") (od:=none) (an:=none) (osl:=#[]) (kV:=.none) (doc:=.none) (pm:=(.str "forsworn.goods" 749)) (cdv:=(.ref 465)) (ct:=.none) X G (by kernel_rfl) (by kernel_rfl) (by kernel_rfl) (by kernel_rfl)
 have Zh6:HasL (KK w.params) mg "by_day" Zcn 472:=Zym (f:=473) (oc:=.type "function") (od:=none) (an:=none) (osl:=#[]) (kV:=.none) (doc:=.none) (pm:=(.str "forsworn.goods" 749)) (ct:=.none) X G (by kernel_rfl) (by kernel_rfl) (by kernel_rfl) (by kernel_rfl)
 have B_by_day:LamB (KK w.params) mg 472 468:=⟨by kernel_rfl,⟨4,⟨.type "module", some 0,.plain,#[]⟩,PySem.W.mg_of X G (by kernel_rfl),by decide,by decide,by decide,by kernel_rfl,rfl,rfl,rfl⟩,by decide⟩
 have Zh8:Has (KK w.params) mg "leave_on" Vp:=Yj (f:=480) (oc:=.type "function") (od:=none) (an:=none) (osl:=#[]) (kV:=.none) (doc:=.none) (pm:=(.str "forsworn.goods" 749)) (cdv:=(.ref 479)) (ct:=.none) X G (by kernel_rfl) (by kernel_rfl) (by kernel_rfl) (by kernel_rfl)
 have Zh9:Has (KK w.params) mg "pass_on" V7:=Yj (f:=487) (oc:=.type "function") (od:=none) (an:=none) (osl:=#[]) (kV:=.none) (doc:=.none) (pm:=(.str "forsworn.goods" 749)) (cdv:=(.ref 486)) (ct:=.none) X G (by kernel_rfl) (by kernel_rfl) (by kernel_rfl) (by kernel_rfl)
 have Zhf:Has (KK w.params) mg "_law_src" Zch:=Yj (f:=824) (oc:=.type "function") (od:=none) (an:=none) (osl:=#[]) (kV:=.none) (doc:=.none) (pm:=(.str "law_forsworn_k60_long_lines_of_heirs" 1247)) (cdv:=(.ref 823)) (ct:=.none) X G (by kernel_rfl) (by kernel_rfl) (by kernel_rfl) (by kernel_rfl)
 have Zhg:Has (KK w.params) mg "_law_next" Uv:=Yj (f:=831) (oc:=.type "function") (od:=none) (an:=none) (osl:=#[]) (kV:=.none) (doc:=.none) (pm:=(.str "law_forsworn_k60_long_lines_of_heirs" 1247)) (cdv:=(.ref 830)) (ct:=.none) X G (by kernel_rfl) (by kernel_rfl) (by kernel_rfl) (by kernel_rfl)
 have Zhd:Has (KK w.params) mg "_law_whole" Zai:=Yj (f:=838) (oc:=.type "function") (od:=none) (an:=none) (osl:=#[]) (kV:=.none) (doc:=.none) (pm:=(.str "law_forsworn_k60_long_lines_of_heirs" 1247)) (cdv:=(.ref 837)) (ct:=.none) X G (by kernel_rfl) (by kernel_rfl) (by kernel_rfl) (by kernel_rfl)
 have V4:Has (KK w.params) mg "_law_same" Yv:=Yj (f:=845) (oc:=.type "function") (od:=none) (an:=none) (osl:=#[]) (kV:=.none) (doc:=.none) (pm:=(.str "law_forsworn_k60_long_lines_of_heirs" 1247)) (cdv:=(.ref 844)) (ct:=.none) X G (by kernel_rfl) (by kernel_rfl) (by kernel_rfl) (by kernel_rfl)
 have Zhi:Has (KK w.params) mg "_law_unlike" V5:=Yj (f:=852) (oc:=.type "function") (od:=none) (an:=none) (osl:=#[]) (kV:=.none) (doc:=.none) (pm:=(.str "law_forsworn_k60_long_lines_of_heirs" 1247)) (cdv:=(.ref 851)) (ct:=.none) X G (by kernel_rfl) (by kernel_rfl) (by kernel_rfl) (by kernel_rfl)
 have Zhh:Has (KK w.params) mg "_law_word" Zaj:=Yj (f:=857) (oc:=.type "function") (od:=none) (an:=none) (osl:=#[]) (kV:=.none) (doc:=.none) (pm:=(.str "law_forsworn_k60_long_lines_of_heirs" 1247)) (cdv:=(.ref 856)) (ct:=.none) X G (by kernel_rfl) (by kernel_rfl) (by kernel_rfl) (by kernel_rfl)
 have Zhj:Has (KK w.params) mg "_law_names" Wa:=Yj (f:=864) (oc:=.type "function") (od:=none) (an:=none) (osl:=#[]) (kV:=.none) (doc:=.none) (pm:=(.str "law_forsworn_k60_long_lines_of_heirs" 1247)) (cdv:=(.ref 863)) (ct:=.none) X G (by kernel_rfl) (by kernel_rfl) (by kernel_rfl) (by kernel_rfl)
 have Zis:Has (KK w.params) mg "_law_days" Vd:=Yj (f:=869) (oc:=.type "function") (od:=none) (an:=none) (osl:=#[]) (kV:=.none) (doc:=.none) (pm:=(.str "law_forsworn_k60_long_lines_of_heirs" 1247)) (cdv:=(.ref 868)) (ct:=.none) X G (by kernel_rfl) (by kernel_rfl) (by kernel_rfl) (by kernel_rfl)
 have Ziu:Has (KK w.params) mg "_law_line" Ve:=Yj (f:=876) (oc:=.type "function") (od:=none) (an:=none) (osl:=#[]) (kV:=.none) (doc:=.none) (pm:=(.str "law_forsworn_k60_long_lines_of_heirs" 1247)) (cdv:=(.ref 875)) (ct:=.none) X G (by kernel_rfl) (by kernel_rfl) (by kernel_rfl) (by kernel_rfl)
 have Ziw:Has (KK w.params) mg "_law_road" Vq:=Yj (f:=883) (oc:=.type "function") (od:=none) (an:=none) (osl:=#[]) (kV:=.none) (doc:=.none) (pm:=(.str "law_forsworn_k60_long_lines_of_heirs" 1247)) (cdv:=(.ref 882)) (ct:=.none) X G (by kernel_rfl) (by kernel_rfl) (by kernel_rfl) (by kernel_rfl)
 have F_law:=Zgx (K:=KK w.params) (x := "law") (qual := "law") (st:=Z5) (f:=888) (oc:=.type "function") (od:=none) (an:=none) (osl:=#[]) (kV:=.none) (doc:=.none) (pm:=(.str "law_forsworn_k60_long_lines_of_heirs" 1247)) (cdv:=(.ref 887)) (ct:=.none) (by kernel_rfl) (by kernel_rfl) (by kernel_rfl)
 have Zhv:HasM (KK w.params) 450 "__init__" "Folk.__init__" Zei:=Yb (f:=309) (oc:=.type "function") (od:=none) (an:=none) (osl:=#[]) (kV:=.none) (doc:=.none) (pm:=(.str "forsworn.folk" 540)) (cdv:=(.ref 308)) (ct:=.none) (by kernel_rfl) (by kernel_rfl) (by kernel_rfl) (by kernel_rfl) (by kernel_rfl)
 have Zhy:HasM (KK w.params) 450 "come" "Folk.come" Zal:=Yb (f:=316) (oc:=.type "function") (od:=none) (an:=none) (osl:=#[]) (kV:=.none) (doc:=.none) (pm:=(.str "forsworn.folk" 540)) (cdv:=(.ref 315)) (ct:=.none) (by kernel_rfl) (by kernel_rfl) (by kernel_rfl) (by kernel_rfl) (by kernel_rfl)
 have Zh2:HasM (KK w.params) 450 "die" "Folk.die" Zam:=Yb (f:=330) (oc:=.type "function") (od:=none) (an:=none) (osl:=#[]) (kV:=.none) (doc:=.none) (pm:=(.str "forsworn.folk" 540)) (cdv:=(.ref 329)) (ct:=.none) (by kernel_rfl) (by kernel_rfl) (by kernel_rfl) (by kernel_rfl) (by kernel_rfl)
 have Zhu:HasM (KK w.params) 450 "stands_for" "Folk.stands_for" Zat:=Yb (f:=363) (oc:=.type "function") (od:=none) (an:=none) (osl:=#[]) (kV:=.none) (doc:=.none) (pm:=(.str "forsworn.folk" 540)) (cdv:=(.ref 362)) (ct:=.none) (by kernel_rfl) (by kernel_rfl) (by kernel_rfl) (by kernel_rfl) (by kernel_rfl)
 have Zht:HasM (KK w.params) 450 "stand_in" "Folk.stand_in" Zbn:=Yb (f:=377) (oc:=.type "function") (od:=none) (an:=none) (osl:=#[]) (kV:=.none) (doc:=.none) (pm:=(.str "forsworn.folk" 540)) (cdv:=(.ref 376)) (ct:=.none) (by kernel_rfl) (by kernel_rfl) (by kernel_rfl) (by kernel_rfl) (by kernel_rfl)
 have Zhq:HasM (KK w.params) 450 "died_by" "Folk.died_by" Zbm:=Yb (f:=384) (oc:=.type "function") (od:=none) (an:=none) (osl:=#[]) (kV:=.none) (doc:=.none) (pm:=(.str "forsworn.folk" 540)) (cdv:=(.ref 383)) (ct:=.none) (by kernel_rfl) (by kernel_rfl) (by kernel_rfl) (by kernel_rfl) (by kernel_rfl)
 have Zhr:HasM (KK w.params) 450 "death_day" "Folk.death_day" Zc0:=Yb (f:=391) (oc:=.type "function") (od:=none) (an:=none) (osl:=#[]) (kV:=.none) (doc:=.none) (pm:=(.str "forsworn.folk" 540)) (cdv:=(.ref 390)) (ct:=.none) (by kernel_rfl) (by kernel_rfl) (by kernel_rfl) (by kernel_rfl) (by kernel_rfl)
 have Zhs:HasM (KK w.params) 450 "heir_of" "Folk.heir_of" Zcl:=Yb (f:=398) (oc:=.type "function") (od:=none) (an:=none) (osl:=#[]) (kV:=.none) (doc:=.none) (pm:=(.str "forsworn.folk" 540)) (cdv:=(.ref 397)) (ct:=.none) (by kernel_rfl) (by kernel_rfl) (by kernel_rfl) (by kernel_rfl) (by kernel_rfl)
 have Zhw:HasM (KK w.params) 450 "check_coming" "Folk.check_coming" Vc:=Yb (f:=405) (oc:=.type "function") (od:=none) (an:=none) (osl:=#[]) (kV:=.none) (doc:=.none) (pm:=(.str "forsworn.folk" 540)) (cdv:=(.ref 404)) (ct:=.none) (by kernel_rfl) (by kernel_rfl) (by kernel_rfl) (by kernel_rfl) (by kernel_rfl)
 have Zh1:HasM (KK w.params) 450 "check_death" "Folk.check_death" U1:=Yb (f:=419) (oc:=.type "function") (od:=none) (an:=none) (osl:=#[]) (kV:=.none) (doc:=.none) (pm:=(.str "forsworn.folk" 540)) (cdv:=(.ref 418)) (ct:=.none) (by kernel_rfl) (by kernel_rfl) (by kernel_rfl) (by kernel_rfl) (by kernel_rfl)
 have Zho:HasM (KK w.params) 450 "check_known" "Folk.check_known" Zcz:=Yb (f:=426) (oc:=.type "function") (od:=none) (an:=none) (osl:=#[]) (kV:=.none) (doc:=.none) (pm:=(.str "forsworn.folk" 540)) (cdv:=(.ref 425)) (ct:=.none) (by kernel_rfl) (by kernel_rfl) (by kernel_rfl) (by kernel_rfl) (by kernel_rfl)
 have Zhp:HasM (KK w.params) 450 "check_there" "Folk.check_there" Zbl:=Yb (f:=433) (oc:=.type "function") (od:=none) (an:=none) (osl:=#[]) (kV:=.none) (doc:=.none) (pm:=(.str "forsworn.folk" 540)) (cdv:=(.ref 432)) (ct:=.none) (by kernel_rfl) (by kernel_rfl) (by kernel_rfl) (by kernel_rfl) (by kernel_rfl)
 have Zhz:HasM (KK w.params) 450 "check_living" "Folk.check_living" Zbo:=Yb (f:=440) (oc:=.type "function") (od:=none) (an:=none) (osl:=#[]) (kV:=.none) (doc:=.none) (pm:=(.str "forsworn.folk" 540)) (cdv:=(.ref 439)) (ct:=.none) (by kernel_rfl) (by kernel_rfl) (by kernel_rfl) (by kernel_rfl) (by kernel_rfl)
 have Zh0:HasM (KK w.params) 450 "check_untold" "Folk.check_untold" Zc1:=Yb (f:=447) (oc:=.type "function") (od:=none) (an:=none) (osl:=#[]) (kV:=.none) (doc:=.none) (pm:=(.str "forsworn.folk" 540)) (cdv:=(.ref 446)) (ct:=.none) (by kernel_rfl) (by kernel_rfl) (by kernel_rfl) (by kernel_rfl) (by kernel_rfl)
 have pgFolk:PySem.W.plainGet (KK w.params) 450 Str.empty=true:=by kernel_rfl
 have hdFolk:PySem.W.hasDictIn (KK w.params) 450=true:=by kernel_rfl
 have poFolk:PySem.W.plainOver (KK w.params) 450=true:=by kernel_rfl
 have saFolk:PySem.W.findIn (KK w.params) (.ref 450) "__setattr__" = some (some (.builtin "object.__setattr__")):=by kernel_rfl
 have nFolk_comings:PySem.W.findIn (KK w.params) (.ref 450) "comings" = some none:=by kernel_rfl
 have nFolk_weights:PySem.W.findIn (KK w.params) (.ref 450) "weights" = some none:=by kernel_rfl
 have nFolk_deaths:PySem.W.findIn (KK w.params) (.ref 450) "deaths" = some none:=by kernel_rfl
 have nFolk_heirs:PySem.W.findIn (KK w.params) (.ref 450) "heirs" = some none:=by kernel_rfl
 have TcFolk:Zys (KK w.params) 450:=⟨⟨pgFolk,hdFolk,poFolk,saFolk⟩,nFolk_comings,nFolk_weights,nFolk_deaths,nFolk_heirs⟩
 have mkFolk:PySem.W.makesIn (KK w.params) 450=true:=by kernel_rfl
 have kcFolk:PySem.W.keepIn (KK w.params) (.ref 450)=true:=by kernel_rfl
 have gCFolk:mg "Folk" = some (.ref 450):=PySem.W.mg_of X G (by kernel_rfl)
 have Zih:HasM (KK w.params) 813 "__init__" "Moot.__init__" Zcq:=Yb (f:=513) (oc:=.type "function") (od:=none) (an:=none) (osl:=#[]) (kV:=.none) (doc:=.none) (pm:=(.str "forsworn.moot" 825)) (cdv:=(.ref 512)) (ct:=.none) (by kernel_rfl) (by kernel_rfl) (by kernel_rfl) (by kernel_rfl) (by kernel_rfl)
 have Zii:HasM (KK w.params) 813 "come" "Moot.come" Zap:=Yb (f:=520) (oc:=.type "function") (od:=none) (an:=none) (osl:=#[]) (kV:=.none) (doc:=.none) (pm:=(.str "forsworn.moot" 825)) (cdv:=(.ref 519)) (ct:=.none) (by kernel_rfl) (by kernel_rfl) (by kernel_rfl) (by kernel_rfl) (by kernel_rfl)
 have Zij:HasM (KK w.params) 813 "die" "Moot.die" Zaq:=Yb (f:=534) (oc:=.type "function") (od:=none) (an:=none) (osl:=#[]) (kV:=.none) (doc:=.none) (pm:=(.str "forsworn.moot" 825)) (cdv:=(.ref 533)) (ct:=.none) (by kernel_rfl) (by kernel_rfl) (by kernel_rfl) (by kernel_rfl) (by kernel_rfl)
 have Zik:HasM (KK w.params) 813 "bring" "Moot.bring" Um:=Yb (f:=548) (oc:=.type "function") (od:=none) (an:=none) (osl:=#[]) (kV:=.none) (doc:=.none) (pm:=(.str "forsworn.moot" 825)) (cdv:=(.ref 547)) (ct:=.none) (by kernel_rfl) (by kernel_rfl) (by kernel_rfl) (by kernel_rfl) (by kernel_rfl)
 have Zil:HasM (KK w.params) 813 "pay" "Moot.pay" V8:=Yb (f:=562) (oc:=.type "function") (od:=none) (an:=none) (osl:=#[]) (kV:=.none) (doc:=.none) (pm:=(.str "forsworn.moot" 825)) (cdv:=(.ref 561)) (ct:=.none) (by kernel_rfl) (by kernel_rfl) (by kernel_rfl) (by kernel_rfl) (by kernel_rfl)
 have Zim:HasM (KK w.params) 813 "stands_for" "Moot.stands_for" Zbv:=Yb (f:=625) (oc:=.type "function") (od:=none) (an:=none) (osl:=#[]) (kV:=.none) (doc:=.none) (pm:=(.str "forsworn.moot" 825)) (cdv:=(.ref 624)) (ct:=.none) (by kernel_rfl) (by kernel_rfl) (by kernel_rfl) (by kernel_rfl) (by kernel_rfl)
 have Zip:HasM (KK w.params) 813 "holder" "Moot.holder" U5:=Yb (f:=714) (oc:=.type "function") (od:=none) (an:=none) (osl:=#[]) (kV:=.none) (doc:=.none) (pm:=(.str "forsworn.moot" 825)) (cdv:=(.ref 713)) (ct:=.none) (by kernel_rfl) (by kernel_rfl) (by kernel_rfl) (by kernel_rfl) (by kernel_rfl)
 have Zio:HasM (KK w.params) 813 "road" "Moot.road" U4:=Yb (f:=721) (oc:=.type "function") (od:=none) (an:=none) (osl:=#[]) (kV:=.none) (doc:=.none) (pm:=(.str "forsworn.moot" 825)) (cdv:=(.ref 720)) (ct:=.none) (by kernel_rfl) (by kernel_rfl) (by kernel_rfl) (by kernel_rfl) (by kernel_rfl)
 have Ziq:HasM (KK w.params) 813 "owed" "Moot.owed" Zar:=Yb (f:=735) (oc:=.type "function") (od:=none) (an:=none) (osl:=#[]) (kV:=.none) (doc:=.none) (pm:=(.str "forsworn.moot" 825)) (cdv:=(.ref 734)) (ct:=.none) (by kernel_rfl) (by kernel_rfl) (by kernel_rfl) (by kernel_rfl) (by kernel_rfl)
 have Zin:HasM (KK w.params) 813 "counting" "Moot.counting" Zcr:=Yb (f:=761) (oc:=.type "function") (od:=none) (an:=none) (osl:=#[]) (kV:=.none) (doc:=.none) (pm:=(.str "forsworn.moot" 825)) (cdv:=(.ref 760)) (ct:=.none) (by kernel_rfl) (by kernel_rfl) (by kernel_rfl) (by kernel_rfl) (by kernel_rfl)
 have Zig:HasM (KK w.params) 813 "check_named" "Moot.check_named" Ul:=Yb (f:=789) (oc:=.type "function") (od:=none) (an:=none) (osl:=#[]) (kV:=.none) (doc:=.none) (pm:=(.str "forsworn.moot" 825)) (cdv:=(.ref 788)) (ct:=.none) (by kernel_rfl) (by kernel_rfl) (by kernel_rfl) (by kernel_rfl) (by kernel_rfl)
 have Zif:HasM (KK w.params) 813 "check_thing" "Moot.check_thing" Zbt:=Yb (f:=796) (oc:=.type "function") (od:=none) (an:=none) (osl:=#[]) (kV:=.none) (doc:=.none) (pm:=(.str "forsworn.moot" 825)) (cdv:=(.ref 795)) (ct:=.none) (by kernel_rfl) (by kernel_rfl) (by kernel_rfl) (by kernel_rfl) (by kernel_rfl)
 have Zie:HasM (KK w.params) 813 "check_moments" "Moot.check_moments" Zbs:=Yb (f:=810) (oc:=.type "function") (od:=none) (an:=none) (osl:=#[]) (kV:=.none) (doc:=.none) (pm:=(.str "forsworn.moot" 825)) (cdv:=(.ref 809)) (ct:=.none) (by kernel_rfl) (by kernel_rfl) (by kernel_rfl) (by kernel_rfl) (by kernel_rfl)
 have pgMoot:PySem.W.plainGet (KK w.params) 813 Str.empty=true:=by kernel_rfl
 have hdMoot:PySem.W.hasDictIn (KK w.params) 813=true:=by kernel_rfl
 have poMoot:PySem.W.plainOver (KK w.params) 813=true:=by kernel_rfl
 have saMoot:PySem.W.findIn (KK w.params) (.ref 813) "__setattr__" = some (some (.builtin "object.__setattr__")):=by kernel_rfl
 have nMoot_deeds:PySem.W.findIn (KK w.params) (.ref 813) "deeds" = some none:=by kernel_rfl
 have nMoot_folk:PySem.W.findIn (KK w.params) (.ref 813) "folk" = some none:=by kernel_rfl
 have nMoot_bringings:PySem.W.findIn (KK w.params) (.ref 813) "bringings" = some none:=by kernel_rfl
 have nMoot_happenings:PySem.W.findIn (KK w.params) (.ref 813) "happenings" = some none:=by kernel_rfl
 have nMoot_debts:PySem.W.findIn (KK w.params) (.ref 813) "debts" = some none:=by kernel_rfl
 have nMoot_trials:PySem.W.findIn (KK w.params) (.ref 813) "trials" = some none:=by kernel_rfl
 have nMoot_trial_days:PySem.W.findIn (KK w.params) (.ref 813) "trial_days" = some none:=by kernel_rfl
 have nMoot_verdicts:PySem.W.findIn (KK w.params) (.ref 813) "verdicts" = some none:=by kernel_rfl
 have nMoot_penances:PySem.W.findIn (KK w.params) (.ref 813) "penances" = some none:=by kernel_rfl
 have TcMoot:TxCMoot (KK w.params) 813:=⟨⟨pgMoot,hdMoot,poMoot,saMoot⟩,nMoot_deeds,nMoot_folk,nMoot_bringings,nMoot_happenings,nMoot_debts,nMoot_trials,nMoot_trial_days,nMoot_verdicts,nMoot_penances⟩
 have mkMoot:PySem.W.makesIn (KK w.params) 813=true:=by kernel_rfl
 have kcMoot:PySem.W.keepIn (KK w.params) (.ref 813)=true:=by kernel_rfl
 have gCMoot:mg "Moot" = some (.ref 813):=PySem.W.mg_of X G (by kernel_rfl)
 have al_owed_dues:mg "owed_dues" = mg "owed" := (PySem.W.mg_of X G (by kernel_rfl):mg "owed_dues" = some (.ref 255)).trans (PySem.W.mg_of X G (by kernel_rfl):mg "owed" = some (.ref 255)).symm
 have al_road_goods:mg "road_goods" = mg "road" := (PySem.W.mg_of X G (by kernel_rfl):mg "road_goods" = some (.ref 459)).trans (PySem.W.mg_of X G (by kernel_rfl):mg "road" = some (.ref 459)).symm
 have al_holder_goods:mg "holder_goods" = mg "holder" := (PySem.W.mg_of X G (by kernel_rfl):mg "holder_goods" = some (.ref 466)).trans (PySem.W.mg_of X G (by kernel_rfl):mg "holder" = some (.ref 466)).symm
 have c_LAST_DAY:mg "LAST_DAY" = some (.int 9999 503):=PySem.W.mg_of X G (by kernel_rfl)
 have c_MOST_WEIGHT:mg "MOST_WEIGHT" = some (.int 1000 505):=PySem.W.mg_of X G (by kernel_rfl)
 have c_MOST_MONEY:mg "MOST_MONEY" = some (.int 1000000 507):=PySem.W.mg_of X G (by kernel_rfl)
 have c_LONGEST_NAME:mg "LONGEST_NAME" = some (.int 12 532):=PySem.W.mg_of X G (by kernel_rfl)
 have c_MOST_FOLK:mg "MOST_FOLK" = some (.int 40 542):=PySem.W.mg_of X G (by kernel_rfl)
 have c_DAY:mg "DAY" = some (.int 0 751):=PySem.W.mg_of X G (by kernel_rfl)
 have c_WORD:mg "WORD" = some (.int 1 753):=PySem.W.mg_of X G (by kernel_rfl)
 have c_GIVER:mg "GIVER" = some (.int 2 755):=PySem.W.mg_of X G (by kernel_rfl)
 have c_TAKER:mg "TAKER" = some (.int 3 757):=PySem.W.mg_of X G (by kernel_rfl)
 have c_MOST_THINGS:mg "MOST_THINGS" = some (.int 40 827):=PySem.W.mg_of X G (by kernel_rfl)
 have c_MOST_MOMENTS:mg "MOST_MOMENTS" = some (.int 400 829):=PySem.W.mg_of X G (by kernel_rfl)
 have T:Txt mg:=⟨PySem.W.mg_none_of X G (by kernel_rfl),PySem.W.mg_none_of X G (by kernel_rfl),PySem.W.mg_none_of X G (by kernel_rfl),PySem.W.mg_none_of X G (by kernel_rfl),PySem.W.mg_none_of X G (by kernel_rfl),PySem.W.mg_none_of X G (by kernel_rfl),PySem.W.mg_none_of X G (by kernel_rfl),PySem.W.mg_none_of X G (by kernel_rfl),PySem.W.mg_none_of X G (by kernel_rfl),PySem.W.mg_none_of X G (by kernel_rfl),PySem.W.mg_none_of X G (by kernel_rfl),PySem.W.mg_none_of X G (by kernel_rfl),PySem.W.mg_none_of X G (by kernel_rfl),PySem.W.mg_none_of X G (by kernel_rfl)⟩
 exact ⟨PySem.W.fnOf "law" "law" (Wt Z5) (Yt Z5) (Za Z5) .none .none .none (.str "law_forsworn_k60_long_lines_of_heirs" 1247) none (.ref 887) .none,fun s v=>.of_eq rfl,fun base kb _=>by
  have F1:=Z1k (P:=(PySem.Challenge.rw_forsworn_k60_long_lines_of_heirs).prog) (w:=w) (base:=base) Zhf T
  have F2:=Z1m (P:=(PySem.Challenge.rw_forsworn_k60_long_lines_of_heirs).prog) (w:=w) (base:=base) Zhg T
  have F3:=Z1q Zhh T F2
  have F4:=Z1t (P:=(PySem.Challenge.rw_forsworn_k60_long_lines_of_heirs).prog) (w:=w) (base:=base) Zhi T
  have F5:=Z1y Zhj T F2 F3 F4
  have F8:=Zpb V4 T (Z1c (P:=(PySem.Challenge.rw_forsworn_k60_long_lines_of_heirs).prog) (w:=w) (base:=base) Zhd T) 4
  have F9:=Z14 (P:=(PySem.Challenge.rw_forsworn_k60_long_lines_of_heirs).prog) (w:=w) (base:=base) Zhl T ⟨_,c_LONGEST_NAME⟩
  have F10:=Z18 (P:=(PySem.Challenge.rw_forsworn_k60_long_lines_of_heirs).prog) (w:=w) (base:=base) Zhm ⟨_,c_LAST_DAY⟩
  have F11:=Z2c (P:=(PySem.Challenge.rw_forsworn_k60_long_lines_of_heirs).prog) (w:=w) (base:=base) Zhn ⟨_,c_MOST_WEIGHT⟩
  have F12:=Z4y (P:=(PySem.Challenge.rw_forsworn_k60_long_lines_of_heirs).prog) (w:=w) (base:=base) Zid ⟨_,c_MOST_MONEY⟩
  have M1:=Z2g (P:=(PySem.Challenge.rw_forsworn_k60_long_lines_of_heirs).prog) (w:=w) (mg:=mg) (base:=base) Zho TcFolk
  have M2:=Z2l (P:=(PySem.Challenge.rw_forsworn_k60_long_lines_of_heirs).prog) (w:=w) (mg:=mg) (base:=base) Zhp TcFolk
  have M3:=Z2o (P:=(PySem.Challenge.rw_forsworn_k60_long_lines_of_heirs).prog) (w:=w) (mg:=mg) (base:=base) Zhq TcFolk
  have M3b:=Z2y Zht TcFolk M3
  have M3c:=Z21 Zhu TcFolk F10 M1 M3b
  have M4:=Z2s (P:=(PySem.Challenge.rw_forsworn_k60_long_lines_of_heirs).prog) (w:=w) (mg:=mg) (base:=base) Zhr TcFolk
  have M5:=Z2w (P:=(PySem.Challenge.rw_forsworn_k60_long_lines_of_heirs).prog) (w:=w) (mg:=mg) (base:=base) Zhs TcFolk
  have M6:=Z3c Zhw T TcFolk ⟨_,c_MOST_FOLK⟩ F9 F10 F11
  have M7:=Z3g Zhy TcFolk M6
  have M2b:=Z3p (P:=(PySem.Challenge.rw_forsworn_k60_long_lines_of_heirs).prog) (w:=w) (mg:=mg) (base:=base) Zh0 TcFolk
  have M2c:=Z3l Zhz TcFolk M3
  have M8:=Z3s Zh1 TcFolk F10 M1 M2 M2b
  have M9:=Z3u Zh2 TcFolk M8
  have M0:=(Z23 (P:=(PySem.Challenge.rw_forsworn_k60_long_lines_of_heirs).prog) (w:=w) (mg:=mg) (base:=base) Zhv TcFolk).mks mkFolk kcFolk gCFolk
  have F16:=Z39 (P:=(PySem.Challenge.rw_forsworn_k60_long_lines_of_heirs).prog) (w:=w) Zh6 B_by_day kb T ⟨_,c_DAY⟩
  have F17:=Z4d Zh8 T TcFolk ⟨_,c_DAY⟩ ⟨_,c_TAKER⟩ M3 M4 M5
  have F18:=Z4g (P:=(PySem.Challenge.rw_forsworn_k60_long_lines_of_heirs).prog) (w:=w) (base:=base) Zh9 T ⟨_,c_DAY⟩ ⟨_,c_WORD⟩ ⟨_,c_GIVER⟩ ⟨_,c_TAKER⟩
  have F19:=Z4l Zia T ⟨_,c_DAY⟩ F16 F17 F18
  have F20:=Z4u Zib ⟨_,c_TAKER⟩ (Fn.alias F19 al_road_goods)
  have F21:=Z3w (P:=(PySem.Challenge.rw_forsworn_k60_long_lines_of_heirs).prog) (w:=w) (base:=base) Zh3
  have F22:=Z3y (P:=(PySem.Challenge.rw_forsworn_k60_long_lines_of_heirs).prog) (w:=w) (base:=base) Zh4
  have F23:=Z32 Zh5 T TcFolk M3b F21 F22
  have N1:=fun C=>Zrr (P:=(PySem.Challenge.rw_forsworn_k60_long_lines_of_heirs).prog) (w:=w) (base:=base) (C:=C) Zie T TcMoot ⟨_,c_MOST_MOMENTS⟩
  have N2:=fun C=>Zrt (P:=(PySem.Challenge.rw_forsworn_k60_long_lines_of_heirs).prog) (w:=w) (mg:=mg) (base:=base) (C:=C) Zif T TcMoot
  have N3:=Zru Zig TcFolk TcMoot M1 M2 M2c
  have N0:=(Zyt Zih TcMoot M0).mks mkMoot kcMoot gCMoot
  have N4:=Zyu Zii TcFolk TcMoot M6 M7 (N1 _)
  have N5:=Z0e Zij TcFolk TcMoot M8 M9 (N1 _)
  have N6:=Zww Zik T TcMoot ⟨_,c_MOST_THINGS⟩ F10 N3 (N1 _)
  have N7:=Z0f Zil TcMoot F12 F10 N3 (N1 _)
  have N8:=Zr2 Zim TcFolk TcMoot M3c
  have N9:=fun C=>Zsq (P:=(PySem.Challenge.rw_forsworn_k60_long_lines_of_heirs).prog) (w:=w) (mg:=mg) (base:=base) (C:=C) Zin
  have N10:=Zyv Zio TcMoot F10 (N2 _) (N9 _) (Fn.alias F19 al_road_goods)
  have N11:=Zuy Zip TcMoot F10 (N2 _) (N9 _) (Fn.alias F20 al_holder_goods)
  have N12:=Zyw Ziq TcMoot F10 (N9 _) (Fn.alias F23 al_owed_dues)
  have F30:=Z55 Zis T F2
  have F31:=Z6a (P:=(PySem.Challenge.rw_forsworn_k60_long_lines_of_heirs).prog) (w:=w) (base:=base) Ziu T
  have F32:=Z6f (P:=(PySem.Challenge.rw_forsworn_k60_long_lines_of_heirs).prog) (w:=w) (base:=base) Ziw T
  exact (Z6p (ts:=tabs) ⟨_,List.mem_cons_self⟩ F_law T TcMoot F1 F2 F5 N0 N4 N6 N7 N5 F30 F31 F32 N8 N10 N11 N12 F8).mono (by decide)⟩
end Law
open PySem PySem.W PyProof.Rows
set_option maxRecDepth 100000 in
set_option maxHeartbeats 0 in
theorem PySem.Challenge.cw_forsworn_k60_long_lines_of_heirs_holds : PySem.Challenge.rw_forsworn_k60_long_lines_of_heirs.Holds := by
 w_on; o_law
 refine holds_open (q:=Law.q) (loose:=["owed_dues", "road_goods", "holder_goods"]) (Xt:=fun s=>xlAt Law.q [] s && recOk (RowW.records PySem.Challenge.rw_forsworn_k60_long_lines_of_heirs.row.toRowW) s) (XP:=XL Law.q []) (Yf:=Law.HK.obs) (Ya:=Law.HK.val) (YP:=Law.HK.says) (N:=10091) Law.left Law.HK.of Law.HK.keeps (fun s e=>xl_of s (Bool.and_eq_true_iff.mp e).1) XL.keeps (by rfl) (by rfl) (by rfl) (fun s e=>recFacts_of (Bool.and_eq_true_iff.mp e).2) (by rfl) (by first | assumption | decide +kernel) (by decide +kernel) ⟨rfl,rfl,rfl,rfl,rfl,by decide +kernel⟩ ?hw ?hc
 case hw=>w_witness2
 refine L2.walkLawT (l:=PySem.Challenge.rw_forsworn_k60_long_lines_of_heirs) (K:=Law.KK) (KT:=Law.KTK) (ts:=Law.tabs) rfl rfl (fun w h Y=>PySem.W.kIn_of (K:=Law.KTK) Y) (fun p h x=>L2.Frag.In.left x) (fun p t ht=>Law.tabs_ok p t ht) (by decide) fun w mg fa h KX G hmg=>Law.all_mk KX G hmg
namespace Law
end Law
