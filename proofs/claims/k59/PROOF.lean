import PyProof.Rows.All
import Wide.All
import OpenK.AllK
import Wide.FinOn
import Lean
import PyProof.EqAt
import PyProof.EqKinds
import PyProof.TupleCall
import KE.KSortTup
import PyProof.NeKinds
import KE.KDictSum
import KE.KLam
import KE.KNestM
import KE.KSortKey
import PyProof.ExcArgsOwn
import PyProof.ExcAttrAll.ValueError
import KE.KIsAll
import KE.KIntText
import PyProof.Rows.StrNews
import PyProof.Rows.StrSplitCount
import PyProof.ToksMono
import PyProof.StrCalls6
import PySem.Challenge.RW_forsworn_k59_whole_long_pasts
set_option Elab.async false
set_option linter.all false
set_option maxRecDepth 100000
set_option maxHeartbeats 4000000
abbrev xA := @PySem.Heap.get?_push_of_some
abbrev xB := @Nat.le_refl
abbrev xC := @List.mem_cons
abbrev xD := @List.length_map
abbrev xE := @Bool.false_ne_true
abbrev xF := @PySem.Heap.lt_size
abbrev xG := @List.length_cons
abbrev xH := @List.getElem?_eq_getElem
abbrev xI := @PySem.Heap.get?_push_size
abbrev xJ := @List.length_append
abbrev xK := @List.mem_of_getElem?
abbrev xL := @List.size_toArray
abbrev xM := @decide_eq_true
abbrev xN := @List.mem_append_right
abbrev xO := @List.length_take
abbrev xP := @List.map_cons
abbrev xQ := @List.not_mem_nil
abbrev xR := @List.mem_cons_self
abbrev xS := @List.mem_append
abbrev xT := @List.mem_cons_of_mem
abbrev xU := @decide_eq_false
abbrev xV := @List.getElem?_eq_some_iff
abbrev xW := @List.getElem?_map
abbrev xX := @List.map_append
abbrev xY := @Nat.lt_of_lt_of_le
abbrev xZ := @List.nodup_cons
abbrev yC := @List.mem_singleton
abbrev yD := @Nat.ne_of_lt
abbrev yE := @List.getD_eq_getElem?_getD
abbrev yF := @List.length_nil
abbrev yG := @List.take_add_one
abbrev yH := @List.append_assoc
abbrev yI := @Option.map_eq_some_iff
abbrev yJ := @List.take_of_length_le
abbrev yK := @Nat.le_trans
abbrev yL := @List.take_length
abbrev yM := @List.lookup_cons
abbrev yN := @List.cons_append
abbrev yO := @List.mem_map
abbrev yP := @Bool.and_eq_true
abbrev yQ := @Nat.zero_le
abbrev uFg := PySem.W.Frag
section
namespace L2
open PySem PySem.W
def topRunT (tb:String->Option Builtin) (p:Program) (w:World) (m:Nat) (ann:Option Value):Nat->SharedT->Thread->Option SharedT
 | 0,_,_=>none
 | n+1,s,t=>match through t with
  | true=>some s
  | false=>match stepOk m ann t with
   | false=>none
   | true=>match stepT (denote tb) p w s t with
    | some x=>topRunT tb p w m ann n x.1 x.2
    | none=>none
theorem Zgi {tb:String->Option Builtin}{p:Program}{w:World}{m:Nat}{ann:Option Value}:∀ {n:Nat}{s r:SharedT}{t:Thread},topRunT tb p w m ann n s t=some r->topRun tb p w m ann n s.abs t=some r.abs
 | 0,s,r,t,h=>by cases h
 | n+1,s,r,t,h=>by
  unfold topRunT at h
  unfold topRun
  cases a:through t with
  | true=>rw [a] at h; cases h; rfl
  | false =>
   rw [a] at h
   cases b:stepOk m ann t with
   | false=>rw [b] at h; cases h
   | true =>
    rw [b] at h
    cases c:stepT (denote tb) p w s t with
    | none=>rw [c] at h; cases h
    | some x=>obtain ⟨s2,t2⟩:=x; rw [c] at h; dsimp only at h ⊢; rw [stepT_spec c]; exact Zgi h
def Zfm:List Obj->Nat->BT->BT
 | [],_,t=>t
 | o::r,i,t=>Zfm r (i+1) (t.ins i o)
noncomputable def s0T (P:Params) (os:OsState):SharedT:=⟨Zfm (boot_heap P).objs.toList 0 .nil,11,(boot_heap P).life,#[],boot_drawn,boot_toks,os⟩
noncomputable def seenT {α:Type}(p q:Program) (loose:List Str) (Xt:Shared->Bool) (Yf:Shared->α) (P:Params) (s:Shared) :=
 (staticsOk (importedModules p.main.body) (boot_heap P) s.heap && namesBound p s.heap && gensDone s && laidKept (boot_heap P) s.heap,openSeen q loose (importedModules p.main.body) Xt true s,Yf s)
theorem Zok (P:Params) (os:OsState):(s0T P os).abs=⟨boot_heap P,#[],boot_drawn,boot_toks,os⟩:=by kernel_rfl
theorem Znd (P:Params):((boot_heap P).isNs mainGlobals && (#[]:Array GenState).size == 0,(boot_heap P).objs.size,(boot_heap P).nsMap mainGlobals "__annotations__")=(true,11,some (.ref 6)):=by kernel_rfl
theorem Yaw {p q:Program}{loose:List Str}{Xt:Shared->Bool}{α:Type}{Yf:Shared->α}{Ya:World->α}{N:Nat}(e:opening p=plainProg p.main.scope.names) (hN:Nat.ble 600 N=true) (f:∀ s,fenceModules? p s=some s)
  (run:∀ (w:World) (os:OsState),(topRunT treeTable p w 11 (some (.ref 6)) N (s0T w.params os) (topStub p)).map (fun s=>seenT p q loose Xt Yf w.params s.abs)=some (true,openGood q loose,Ya w)):LeftO p q loose Xt Yf Ya N:=fun w=>by
 obtain ⟨⟨h,gs,d,k,os⟩,e1,e2⟩:=yI.mp (boot_open e hN f w)
 obtain ⟨rfl,rfl,rfl,rfl⟩:h=boot_heap w.params/\gs = #[]/\d=boot_drawn/\k=boot_toks:=by simpa using e2
 obtain ⟨s,r1,r2⟩:=yI.mp (run w os)
 unfold seenT at r2
 obtain ⟨l1,l2,l3⟩:_/\_/\_:=by simpa only [Prod.mk.injEq] using r2
 have r:=Zgi r1
 rw [Zok] at r
 obtain ⟨z1,z2,z3⟩:_/\_/\_:=by simpa only [Prod.mk.injEq] using Znd w.params
 have t:topFrom treeTable p w N ⟨boot_heap w.params,#[],boot_drawn,boot_toks,os⟩=some s.abs:=by
  unfold topFrom
  dsimp only
  rw [z1,z2,z3,r]
  show (match staticsOk (importedModules p.main.body) (boot_heap w.params) s.abs.heap && namesBound p s.abs.heap && gensDone s.abs && laidKept (boot_heap w.params) s.abs.heap with | true=>some s.abs | false=>none)=_
  rw [l1]
 unfold openEnds
 rw [e1]
 show (topFrom treeTable p w N _).map _=_
 rw [t]
 exact congrArg some (Prod.ext l2 l3)
def Zs (p:Program) (i:Nat):Stmt:=p.main.body.getD i (.Pass ⟨0,0,0,0⟩)
def hIn (s:Stmt) (j:Nat):Stmt:=match s with
 | .ClassDef _ _ _ b _ _ _ _ _ _ _=>b.getD j (.Pass ⟨0,0,0,0⟩)
 | _=>s
def Zqt (s:Stmt):Arguments:=match s with
 | .FunctionDef _ a _ _ _ _ _ _ _ _=>a
 | _=>⟨[],[],none,[],[],none,[]⟩
def Zqu (s:Stmt):List Stmt:=match s with
 | .FunctionDef _ _ b _ _ _ _ _ _ _=>b
 | _=>[]
def Zpl (s:Stmt):Scope:=match s with
 | .FunctionDef _ _ _ _ _ _ c _ _ _=>c
 | _=>{kind:=.function,names:=[],isGenerator:=false,isCoroutine:=false }
def de (P:Params) (n:Str) (t:Tok) (v:Value):DictEntry:=⟨PyData.keyHash P n,.str n t,v⟩
def kFn (n q:Str) (st:Stmt) (pm:Value) (c:Addr):Obj:=⟨.type "function", none,.func (PySem.W.fnOf n q (Zqt st) (Zqu st) (Zpl st) .none .none .none pm none (.ref c) .none),#[]⟩
def kC (n q:Str) (t l a u:Nat) (r s v x y:Value):Obj:=⟨.type "code", none,.fields #[.str n t,.str q (t+1),.str "/claim/cut.py" (t+2),.int l 0,.int a 0,.int 0 0,.int 0 0,.int 3 0,r,.bool true,.int 181 0,s,.none,v,x,y,.int u 0,.int l 0,.str "/claim/cut.py" (u+1)],#[]⟩
def kg (c:Nat) (n q:Str) (t l a u:Nat) (st:Stmt) (pm:Value) (r:uFg):uFg:=(c,kC n q t l a u (.ref (c - 5)) (.ref (c - 4)) (.ref (c - 3)) (.ref (c - 2)) (.ref (c - 1)))::(c+1,kFn n q st pm c)::r
def kg0 (c:Nat) (n q:Str) (t l a u:Nat) (st:Stmt) (pm:Value) (r:uFg):uFg:=(c,kC n q t l a u (.ref (c - 3)) (.ref (c - 2)) .none .none (.ref (c - 1)))::(c+1,kFn n q st pm c)::r
def kE (P:Params) (a:Nat) (n:Str) (l t:Nat) (r:uFg):uFg:=(a,⟨.type "dict", none,.dict #[de P "__module__" t (.str "forsworn.errors" 194),de P "__firstlineno__" (t+4) (.int l (t+3)),de P "called" (t+11) (.ref (a - 2)),de P "__static_attributes__" (t+12) (.ref (a - 1)),de P "__doc__" (t+13) .none] 2,#[]⟩)::(a+1,⟨.type "type", none,.cls {name:=n,bases:=[.ref 38],mro:=[.ref (a+1),.ref 38,.type "ValueError", .type "Exception", .type "BaseException", .type "object"],ns:=a,qualname:=n,hasDict:=true,slotNames:=[],subclasses:=[],abstract:=false,collection:=none,hasDel:=false },#[some (.ref (a - 15)),none,some (.str n (t - 7)),some (.str n (t+1)),some (.builtin "ValueError.__new__"),some (.bool true)]⟩)::r
def kpO (x:Addr×Obj) (r:uFg):uFg:=x::r
def kf (c:Nat) (n:Str):=kg c n n
def kf0 (c:Nat) (n:Str):=kg0 c n n
end L2
namespace PySem.W.Fast
noncomputable def tw14598715356260435866:PySem.Params->PySem.Obj:=PySem.W.boot_o_0
theorem te14598715356260435866:PySem.W.boot_o_0=tw14598715356260435866:=rfl
end PySem.W.Fast
lay_quick L2.topRunT L2.s0T L2.seenT
end
section
namespace L2
open PySem PySem.W PyProof.Rows
abbrev p0:Pos:=⟨0,0,0,0⟩
def Zds (p:Program):Env:={scope:=p.main.scope,locals:=mainNs,globals:=mainNs,cells:=[],code:=.ref 13,frame:=some 14 }
def cP (p:Program):Code:=.body (behindTheImports p) (Zds p)
def Zeq (tb:String->Option Builtin) (p:Program) (w:World) (m:Nat) (ann:Option Value):Nat->SharedT->Thread->Option (SharedT×Thread)
 | 0,s,t=>some (s,t)
 | n+1,s,t=>match through t with
  | true=>none
  | false=>match stepOk m ann t with
   | false=>none
   | true=>match stepT (denote tb) p w s t with
    | some x=>Zeq tb p w m ann n x.1 x.2
    | none=>none
theorem Zne {tb:String->Option Builtin}{p:Program}{w:World}{m:Nat}{ann:Option Value}:∀ {n:Nat}{s r:SharedT}{t u:Thread},Zeq tb p w m ann n s t=some (r,u)->topGo tb p w m ann n s.abs t=some (r.abs,u)
 | 0,s,r,t,u,h=>by cases h; rfl
 | n+1,s,r,t,u,h=>by
  unfold Zeq at h
  unfold topGo
  cases a:through t with
  | true=>rw [a] at h; cases h
  | false =>
   rw [a] at h
   cases b:stepOk m ann t with
   | false=>rw [b] at h; cases h
   | true =>
    rw [b] at h
    cases c:stepT (denote tb) p w s t with
    | none=>rw [c] at h; cases h
    | some x=>obtain ⟨s2,t2⟩:=x; rw [c] at h; dsimp only at h ⊢; rw [stepT_spec c]; exact Zne h
def preP (p:Program) (w:World) (s:SharedT):Option (SharedT×Thread):=Zeq treeTable p w 11 (some (.ref 6)) 12 s (topStub p)
def stubT (p:Program):Thread:=⟨denote treeTable (cP p),cP p,p0,[topFrame p0]⟩
def blkP (p:Program) (w:World) (s:SharedT):Option (Flow×SharedT×Code×Pos):=segRunT treeTable p w 11 (some (.ref 6)) 1 1 s (blockOf (behindTheImports p) (Zds p) (cP p) p0 [topFrame p0])
def segP (p:Program) (w:World) (n k j:Nat) (pos:Pos) (s:SharedT):Option (Flow×SharedT×Code×Pos):=segRunT treeTable p w 11 (some (.ref 6)) 1 n s (piecesOf (((behindTheImports p).drop k).take j) (Zds p) (cP p) pos [topFrame p0])
def topQ (p:Program) (w:World) (n k:Nat) (pos:Pos) (s:SharedT):Option SharedT:=topRunT treeTable p w 11 (some (.ref 6)) n s (restOf ((behindTheImports p).drop k) (Zds p) (cP p) pos [topFrame p0])
def vI (n:Nat):Value:=.int n 0
def tuO (l:List Value):Obj:=⟨.type "tuple", none,.seq l.toArray 0,#[]⟩
def fdO (c:Value) (l:List Value):Obj:=⟨c,none,.fields l.toArray,#[]⟩
def diO (l:List DictEntry) (n:Nat):Obj:=⟨.type "dict", none,.dict l.toArray n,#[]⟩
def cut (t:Nat):Value:=.str "/claim/cut.py" t
def mdl:Value:=.str "forsworn.errors" 194
def cdO (n q:Str) (b l:Nat) (ar fl:Nat) (fn:Bool) (a:Nat) (r:List Value):Obj:=fdO (.type "code") ([.str n b,.str q (b+1),cut (b+2),vI l,vI ar,vI 0,vI 0,vI fl,.ref a,.bool fn,vI 181,.ref (a+1)]++r ++ [vI (if fn then b+4 else b+3),vI l,cut (if fn then b+5 else b+4)])
def fn0 (n q:Str) (st:Stmt):Obj:=⟨.none,none,.func {name:=n,qualname:=q,params:=Zqt st,body:=.stmts (Zqu st),scope:=Zpl st,globals:=0,closure:=[],defaults:=.none,kwdefaults:=.none },#[]⟩
def Ztk (P:Params) (a b l:Nat) (st:Stmt) (bs:Value) (dc:Nat) (more:List DictEntry) (cl:Obj) (n q:Str) (hd:List Obj) (tl:List Obj):List Obj :=
 let one:=[de P "__module__" (b+7) mdl]
 let two:=[de P "__firstlineno__" (b+11) (.int l (b+10)),de P "called" (b+18) (.ref (a+13)),de P "__static_attributes__" (b+19) (.ref (a+14))]
 hd ++ [tuO [bs],fdO (.type "builtin_function_or_method") [.builtin "type.__prepare__", .type "type"],diO (one ++ [de P "__qualname__" (b+9) (.str n (b+8))]++two) 5,tuO [],fdO .none [vI (l+2),vI 4,.ref (a+12)],
  cdO n n (b+2) l 0 0 false (a+3) [.none,.none,.none,.none],⟨.type "frame", none,.plain,#[some (.ref (a+5)),some (.ref 3),some (.ref (a+2)),none,some mdl,none,some (.ref 0)]⟩,
  tuO [],fdO .none [],tuO [.str "self" (b+15)],tuO [],fn0 "called" q st,cdO "called" q (b+12) (l+2) 1 3 true (a+7) [.none,.ref (a+9),.ref (a+10),.ref (a+11)],
  kFn "called" q st mdl (a+12),tuO [],diO (one++two++more) dc,cl]++tl ++ [fdO (.type "super") [.ref (a+16),.ref (a+16),.ref (a+16)],fdO (.type "builtin_function_or_method") [.builtin "object.__init_subclass__", .ref (a+16)]]
def tyO (a b:Nat) (n:Str) (bs:List Value) (mro:List Value) (sub:List Value):Obj:=⟨.type "type", none,.cls {name:=n,bases:=bs,mro:=.ref (a+16)::mro,ns:=a+15,qualname:=n,hasDict:=true,slotNames:=[],subclasses:=sub,abstract:=false,collection:=none,hasDel:=false },
 #[some (.ref a),none,some (.str n b),some (.str n (b+8)),some (.builtin "ValueError.__new__"),some (.bool true)]⟩
def Ztl:List Value:=[.type "ValueError", .type "Exception", .type "BaseException", .type "object"]
def Z91 (P:Params) (p:Program) (j:Nat) (x:Str×Str):List Obj:=let a:=42+19 * j; let b:=221+23 * j; let l:=9+4 * j
 Ztk P a b l (hIn (Zs p (3+j)) 0) (.ref 38) 2 [de P "__doc__" (b+20) .none] (tyO a b x.1 [.ref 38] (.ref 38::Ztl) []) x.1 x.2 [] []
def num {α:Type}:Nat->List α->List (Nat × α)
 | _,[]=>[]
 | i,x::r=>(i,x)::num (i+1) r
noncomputable def Z92 (p:Program) (P:Params) (ns:List (Str×Str)):List Obj:=let w:=Zs p 0
  [boot_o_0 P,boot_o_1 P,boot_o_2 P,
   diO ([de P "__name__" 165 mdl,de P "__doc__" 166 .none,de P "__package__" 167 .none,de P "__loader__" 168 (.builtin "__main__.__loader__#opaque"),de P "__spec__" 169 .none,de P "__annotations__" 170 (.ref 6),de P "__builtins__" 171 (.ref 4),de P "__file__" 173 (cut 172),de P "__cached__" 174 .none,de P "_wall" 193 (.ref 21),de P "MootError" 220 (.ref 38)]++(num 0 ns).map fun x=>de P x.2.1 (243+23 * x.1) (.ref (58+19 * x.1))) (11+ns.length),
   boot_o_4 P,boot_o_5 P,boot_o_6 P,boot_o_7 P,boot_o_8 P,boot_o_9 P,boot_o_10 P,tuO [],fdO .none ([vI 1,vI 0,.ref 20,vI 5,vI 0,.ref 27]++((num 0 ns).map fun x=>[vI (9+4 * x.1),vI 0,.ref (47+19 * x.1)]).flatten),
   cdO "<module>" "<module>" 182 1 0 0 false 11 [.none,.none,.none,.none],⟨.type "frame", none,.plain,#[some (.ref 13),some (.ref 3),some (.ref 3),none,some (.str "__main__" 164),none,some (.ref 0)]⟩,
   tuO [],fdO .none [],tuO [.str "k" 190],tuO [],fn0 "_wall" "_wall" w,cdO "_wall" "_wall" 187 1 1 3 true 15 [.none,.ref 17,.ref 18,.ref 19],kFn "_wall" "_wall" w (.str "__main__" 164) 20] ++
  Ztk P 22 196 5 (hIn (Zs p 2) 0) (.type "ValueError") 3 [de P "__weakref__" 217 (.ref 39),de P "__doc__" 218 .none] (tyO 22 196 "MootError" [.type "ValueError"] Ztl ((num 0 ns).map fun x=>.ref (58+19 * x.1))) "MootError" "MootError.called" [] [fdO (.type "getset_descriptor") [.str "__weakref__" 216,.ref 38,.builtin "ExceptionGroup.__weakref__", .none]] ++
  ((num 0 ns).map fun x=>Z91 P p x.1 x.2).flatten
noncomputable def errS (p:Program) (ns:List (Str×Str)) (P:Params) (os:OsState):SharedT:=⟨Zfm (Z92 p P ns) 0 .nil,42+19 * ns.length,(boot_heap P).life,#[],boot_drawn,221+23 * ns.length,os⟩
noncomputable def stubS (P:Params) (os:OsState):SharedT:=⟨Zfm ((boot_heap P).objs.toList ++ [tuO [],fdO .none [],cdO "<module>" "<module>" 182 1 0 0 false 11 [.none,.none,.none,.none],⟨.type "frame", none,.plain,#[some (.ref 13),some (.ref 3),some (.ref 3),none,some (.str "__main__" 164),none,some (.ref 0)]⟩]) 0 .nil,15,(boot_heap P).life,#[],boot_drawn,187,os⟩
def Reach (p:Program) (w:World) (os:OsState) (M:Nat) (s:SharedT) (k:Nat) (pos:Pos):Prop:=∀ (N:Nat) (r:Shared),
 topRun treeTable p w 11 (some (.ref 6)) N s.abs (restOf ((behindTheImports p).drop k) (Zds p) (cP p) pos [topFrame p0])=some r->topRun treeTable p w 11 (some (.ref 6)) (M+N) (s0T w.params os).abs (topStub p)=some r
theorem Reach.zero {p:Program}{w:World}{os:OsState}(h:preP p w (s0T w.params os)=some (stubS w.params os,stubT p)) (b:blkP p w (stubS w.params os)=some (.next,stubS w.params os,cP p,p0)):Reach p w os 13 (stubS w.params os) 0 p0:=fun N r k=>by
 have k':=go_top (Zne h) (piece_block (segRun_of b) k)
 rwa [← Nat.add_assoc] at k'
theorem Reach.step {p:Program}{w:World}{os:OsState}{M k:Nat}{s s':SharedT}{pos pos':Pos}(R:Reach p w os M s k pos) (n j:Nat) (h:segP p w n k j pos s=some (.next,s',cP p,pos')):Reach p w os (M+n) s' (k+j) pos':=fun N r x=>by
 rw [Nat.add_assoc]
 refine R _ r ?_
 rw [← List.take_append_drop j ((behindTheImports p).drop k),List.drop_drop]
 exact piece_app (segRun_of h) x
section
variable (p q:Program) (loose:List Str) (Xt:Shared->Bool)
noncomputable def sn0 (P:Params) (s:SharedT):Bool:=staticsOk (importedModules p.main.body) (boot_heap P) s.abs.heap && namesBound p s.abs.heap && gensDone s.abs && laidKept (boot_heap P) s.abs.heap
def sn1 (s:SharedT):=(seen ((recsOf q).map (·.name)) (ownsOf q) [] {s.abs with gens:=#[] },s.abs.heap.bltView)
def sn2 (s:SharedT):Bool:=s.abs.heap.keysOk (looseW q loose) ((recsOf q).map (·.name)) ((litsOf q).map (·.1)) ((clssOf q (looseW q loose)).map (·.name)) && s.abs.heap.accountedOkI (importedModules p.main.body) && s.abs.heap.isNs mainGlobals && s.abs.heap.isNs builtinsNs && tablesOk q s.abs.heap && Xt s.abs && (if true then s.abs.gens.size == 0 else !leftWithCleanup s.abs.gens)
def sn3 (s:SharedT):Bool:=tabsOk q s.abs
def sn4 (s:SharedT):=pinSeenD q (drecsOf q) s.abs
def sn9 (i:Nat) (s:SharedT):=(((plainsOf q (looseW q loose)).drop i).take 1).map fun c=>s.abs.heap.plainShapeAt c.withCmp
def snA (i:Nat) (s:SharedT):=((plainsOf q (looseW q loose)).drop i).map fun c=>s.abs.heap.plainShapeAt c.withCmp
def sn5 (s:SharedT):=plainSeenD q loose s.abs
def sn8 (s:SharedT):=wideSeen q s.abs
def sn6 (s:SharedT):=clsSeenW q loose s.abs
end
def gd9 (q:Program) (loose:List Str) (i:Nat):=(((plainsOf q (looseW q loose)).drop i).take 1).map fun c=>some c.withCmp.plainShape
def gdA (q:Program) (loose:List Str) (i:Nat):=((plainsOf q (looseW q loose)).drop i).map fun c=>some c.withCmp.plainShape
theorem Ztm {α β:Type}(f : α->β) (l:List α):l.map f=((l.drop 0).take 1).map f++(((l.drop 1).take 1).map f++(l.drop 2).map f):=by
 rcases l with _ | ⟨a,_ | ⟨b,l⟩⟩ <;> rfl
theorem Zxr {p q:Program}{loose:List Str}{Xt:Shared->Bool}{α:Type}{Yf:Shared->α}{Ya:World->α}{M N k:Nat}{s:World->OsState->SharedT}{pos:Pos}(e:opening p=plainProg p.main.scope.names) (hN:Nat.ble 600 (M+N)=true) (f:∀ s,fenceModules? p s=some s)
  (R:∀ (w:World) (os:OsState),Reach p w os M (s w os) k pos)
  (r0:∀ (w:World) (os:OsState),(topQ p w N k pos (s w os)).map (sn0 p w.params)=some true)
  (r1:∀ (w:World) (os:OsState),(topQ p w N k pos (s w os)).map (sn1 q)=some (expectedOf q,bltViewBooted))
  (r2:∀ (w:World) (os:OsState),(topQ p w N k pos (s w os)).map (sn2 p q loose Xt)=some true)
  (r3:∀ (w:World) (os:OsState),(topQ p w N k pos (s w os)).map (sn3 q)=some true)
  (r4:∀ (w:World) (os:OsState),(topQ p w N k pos (s w os)).map (sn4 q)=some (pinGoodD (drecsOf q)))
  (r9:∀ (w:World) (os:OsState),(topQ p w N k pos (s w os)).map (sn9 q loose 0)=some (gd9 q loose 0))
  (rB:∀ (w:World) (os:OsState),(topQ p w N k pos (s w os)).map (sn9 q loose 1)=some (gd9 q loose 1))
  (rA:∀ (w:World) (os:OsState),(topQ p w N k pos (s w os)).map (snA q loose 2)=some (gdA q loose 2))
  (r5:∀ (w:World) (os:OsState),(topQ p w N k pos (s w os)).map (sn5 q loose)=some (plainGoodD q loose))
  (r8:∀ (w:World) (os:OsState),(topQ p w N k pos (s w os)).map (sn8 q)=some (wideGood q))
  (r6:∀ (w:World) (os:OsState),(topQ p w N k pos (s w os)).map (sn6 q loose)=some (clsGoodW q loose))
  (r7:∀ (w:World) (os:OsState),(topQ p w N k pos (s w os)).map (fun s=>Yf s.abs)=some (Ya w)):LeftO p q loose Xt Yf Ya (M+N):=fun w=>by
 obtain ⟨⟨h,gs,d,k,os⟩,e1,e2⟩:=yI.mp (boot_open e hN f w)
 obtain ⟨rfl,rfl,rfl,rfl⟩:h=boot_heap w.params/\gs = #[]/\d=boot_drawn/\k=boot_toks:=by simpa using e2
 obtain ⟨s,x,y0⟩:=yI.mp (r0 w os)
 have y1:=r1 w os
 have y2:=r2 w os
 have y3:=r3 w os
 have y4:=r4 w os
 have y5:=r5 w os
 have y9:=r9 w os
 have yA:=rA w os
 have yB:=rB w os
 have y8:=r8 w os
 have y6:=r6 w os
 have y7:=r7 w os
 rw [x,Option.map_some,Option.some_inj] at y1 y2 y3 y4 y5 y6 y7 y8 y9 yA yB
 have r:=R w os N _ (Zgi x)
 rw [Zok] at r
 obtain ⟨z1,z2,z3⟩:_/\_/\_:=by simpa only [Prod.mk.injEq] using Znd w.params
 have t:topFrom treeTable p w (M+N) ⟨boot_heap w.params,#[],boot_drawn,boot_toks,os⟩=some s.abs:=by
  unfold topFrom
  dsimp only
  rw [z1,z2,z3,r]
  show (match staticsOk (importedModules p.main.body) (boot_heap w.params) s.abs.heap && namesBound p s.abs.heap && gensDone s.abs && laidKept (boot_heap w.params) s.abs.heap with | true=>some s.abs | false=>none)=_
  unfold sn0 at y0
  rw [y0]
 unfold openEnds
 rw [e1]
 show (topFrom treeTable p w (M+N) _).map _=_
 rw [t]
 refine congrArg some (Prod.ext ?_ y7)
 have a1:=congrArg Prod.fst y1
 have b1:=congrArg Prod.snd y1
 exact Prod.ext a1 (Prod.ext b1 (Prod.ext y2 (Prod.ext y3 (Prod.ext y4 (Prod.ext ((Ztm _ _).trans ((congr (congrArg _ y9) (congr (congrArg _ yB) yA)).trans (Ztm _ _).symm)) (Prod.ext y5 (Prod.ext y8 y6)))))))
end L2
lay_quick L2.preP L2.blkP L2.segP L2.topQ L2.errS L2.stubS L2.stubT L2.sn0 L2.sn1 L2.sn2 L2.sn3 L2.sn4 L2.sn5 L2.sn6 L2.sn8 L2.sn9 L2.snA L2.gd9 L2.gdA
end
namespace Law
open PySem L2
def pm0:Value:=(.str "forsworn.deeds" 658)
def pm1:Value:=(.str "forsworn.dues" 675)
def pm2:Value:=(.str "forsworn.measures" 702)
def pm3:Value:=(.str "forsworn.oaths" 740)
def pm4:Value:=(.str "forsworn.folk" 756)
def pm5:Value:=(.str "forsworn.moot" 1051)
def pm6:Value:=(.str "forsworn.past" 1483)
def pm7:Value:=(.str "forsworn.notes" 1545)
def pm8:Value:=(.str "law_forsworn_k59_whole_long_pasts" 1579)
def Kp (p:Program) (P:Params):uFg :=
 kpO (3,⟨(.type "dict"),none,(.dict #[de P "__name__" 165 (.str "law_forsworn_k59_whole_long_pasts" 1579),de P "__doc__" 166 .none,de P "__package__" 167 .none,de P "__loader__" 168 (.builtin "__main__.__loader__#opaque"),de P "__spec__" 169 .none,de P "__annotations__" 170 (.ref 6),de P "__builtins__" 171 (.ref 4),de P "__file__" 173 (.str "/claim/cut.py" 172),de P "__cached__" 174 .none,de P "_wall" 193 (.ref 21),de P "MootError" 220 (.ref 38),de P "NoName" 243 (.ref 58),de P "NoMeasure" 266 (.ref 77),de P "Unknown" 289 (.ref 96),de P "Taken" 312 (.ref 115),de P "NoThing" 335 (.ref 134),de P "NoCase" 358 (.ref 153),de P "NoOath" 381 (.ref 172),de P "NotYet" 404 (.ref 191),de P "Dead" 427 (.ref 210),de P "NoHeir" 450 (.ref 229),de P "TooMany" 473 (.ref 248),de P "SwornTwice" 496 (.ref 267),de P "Forsworn" 519 (.ref 286),de P "TooLight" 542 (.ref 305),de P "Broken" 565 (.ref 324),de P "NoMoment" 588 (.ref 343),de P "NothingBack" 611 (.ref 362),de P "NothingForth" 634 (.ref 381),de P "NoDeed" 657 (.ref 400),de P "done" 668 (.ref 409),de P "copied" 674 (.ref 414),de P "owed" 682 (.ref 419),de P "owed_dues" 683 (.ref 419),de P "set_against" 693 (.ref 426),de P "triple" 701 (.ref 433),de P "LAST_DAY" 705 (.int (9999) 704),de P "MOST_WEIGHT" 707 (.int (1000) 706),de P "MOST_NEED" 709 (.int (12000) 708),de P "MOST_MONEY" 711 (.int (1000000) 710),de P "check_day" 718 (.ref 440),de P "check_weight" 725 (.ref 447),de P "check_need" 732 (.ref 454),de P "check_money" 739 (.ref 461),de P "LONGEST_NAME" 743 (.int (12) 742),de P "is_name" 749 (.ref 466),de P "total" 755 (.ref 471),de P "MOST_FOLK" 759 (.int (40) 758),de P "Folk" 964 (.ref 626),de P "ONES" 968 (.int (0) 967),de P "OTHERS" 970 (.int (1) 969),de P "NEED" 972 (.int (2) 971),de P "NAMED" 974 (.int (3) 973),de P "settled" 981 (.ref 637),de P "settled_with" 993 (.ref 644),de P "breakers" 1002 (.ref 651),de P "breakers_stands" 1003 (.ref 651),de P "breaking" 1009 (.ref 656),de P "naming" 1020 (.ref 663),de P "check_case" 1028 (.ref 670),de P "check_oath" 1034 (.ref 675),de P "margin_without" 1044 (.ref 682),de P "kept_weight" 1050 (.ref 687),de P "MOST_THINGS" 1054 (.int (40) 1053),de P "MOST_CASES" 1056 (.int (60) 1055),de P "MOST_SWEARERS" 1058 (.int (12) 1057),de P "MOST_MOMENTS" 1060 (.int (400) 1059),de P "Moot" 1482 (.ref 997),de P "Past" 1544 (.ref 1046),de P "SWORN" 1566 (.ref 1051),de P "shown_deed" 1572 (.ref 1059),de P "lines" 1578 (.ref 1064),de P "_law_src" 1587 (.ref 1071),de P "_law_next" 1597 (.ref 1078),de P "_law_whole" 1604 (.ref 1085),de P "_law_same" 1614 (.ref 1092),de P "_law_unlike" 1625 (.ref 1099),de P "_law_word" 1631 (.ref 1104),de P "_law_names" 1645 (.ref 1111),de P "_law_shown" 1656 (.ref 1118),de P "_law_past_kind" 1665 (.ref 1125),de P "_law_kind" 1674 (.ref 1132),de P "_law_rows" 1690 (.ref 1139),de P "_law_owed_of" 1696 (.ref 1144),de P "_law_fits" 1702 (.ref 1149),de P "law" 1717 (.ref 1156)] 86),#[]⟩)<|
 kpO (37,⟨(.type "dict"),none,(.dict #[de P "__module__" 203 (.str "forsworn.errors" 194),de P "__firstlineno__" 207 (.int (5) 206),de P "called" 214 (.ref 35),de P "__static_attributes__" 215 (.ref 36),de P "__weakref__" 217 (.ref 39),de P "__doc__" 218 .none] 3),#[]⟩)<|
 kpO (38,⟨(.type "type"),none,(.cls {name := "MootError", bases:=[(.type "ValueError")],mro:=[(.ref 38),(.type "ValueError"),(.type "Exception"),(.type "BaseException"),(.type "object")],ns:=37,qualname := "MootError", hasDict:=true,slotNames:=[],subclasses:=[(.ref 58),(.ref 77),(.ref 96),(.ref 115),(.ref 134),(.ref 153),(.ref 172),(.ref 191),(.ref 210),(.ref 229),(.ref 248),(.ref 267),(.ref 286),(.ref 305),(.ref 324),(.ref 343),(.ref 362),(.ref 381),(.ref 400)],abstract:=false,collection:=none,hasDel:=false }),#[some (.ref 22),none,some (.str "MootError" 196),some (.str "MootError" 204),some (.builtin "ValueError.__new__"),some (.bool true)]⟩)<|
 kE P 247 "TooMany" 49 458<|
 kE P 361 "NothingBack" 73 596<|
 kE P 380 "NothingForth" 77 619<|
 kE P 399 "NoDeed" 81 642<|
 kf 408 "done" 660 86 2 666 (Zs p 23) pm0<|
 kf0 413 "copied" 669 109 1 672 (Zs p 24) pm0<|
 kf0 418 "owed" 677 112 3 680 (Zs p 26) pm1<|
 kf 425 "set_against" 684 119 4 691 (Zs p 28) pm1<|
 kf 432 "triple" 694 124 2 699 (Zs p 29) pm1<|
 kf 439 "check_day" 712 133 1 716 (Zs p 35) pm2<|
 kf 446 "check_weight" 719 136 1 723 (Zs p 36) pm2<|
 kf 460 "check_money" 733 142 1 737 (Zs p 38) pm2<|
 kf0 465 "is_name" 744 147 1 747 (Zs p 41) pm3<|
 kg 484 "__init__" "Folk.__init__" 772 155 1 776 (hIn (Zs p 45) 0) pm4<|
 kg 491 "come" "Folk.come" 779 161 4 786 (hIn (Zs p 45) 1) pm4<|
 kg 498 "rise" "Folk.rise" 789 166 4 796 (hIn (Zs p 45) 2) pm4<|
 kg 552 "stand_in" "Folk.stand_in" 855 199 3 861 (hIn (Zs p 45) 10) pm4<|
 kg 559 "died_by" "Folk.died_by" 864 204 3 870 (hIn (Zs p 45) 11) pm4<|
 kg 580 "check_coming" "Folk.check_coming" 889 213 4 896 (hIn (Zs p 45) 14) pm4<|
 kg 587 "check_rise" "Folk.check_rise" 899 223 4 906 (hIn (Zs p 45) 15) pm4<|
 kg 601 "check_known" "Folk.check_known" 919 240 2 924 (hIn (Zs p 45) 17) pm4<|
 kg 608 "check_there" "Folk.check_there" 927 244 3 933 (hIn (Zs p 45) 18) pm4<|
 kg 615 "check_living" "Folk.check_living" 936 248 3 942 (hIn (Zs p 45) 19) pm4<|
 kg 622 "check_untold" "Folk.check_untold" 945 252 2 950 (hIn (Zs p 45) 20) pm4<|
 kpO (625,⟨(.type "dict"),none,(.dict #[de P "__module__" 767 (.str "forsworn.folk" 756),de P "__firstlineno__" 771 (.int (153) 770),de P "__init__" 778 (.ref 485),de P "come" 788 (.ref 492),de P "rise" 798 (.ref 499),de P "die" 808 (.ref 506),de P "names" 815 (.ref 513),de P "came" 823 (.ref 520),de P "weight" 829 (.ref 525),de P "dead" 838 (.ref 532),de P "stands_for" 847 (.ref 539),de P "twin" 854 (.ref 546),de P "stand_in" 863 (.ref 553),de P "died_by" 872 (.ref 560),de P "death_day" 880 (.ref 567),de P "heir_of" 888 (.ref 574),de P "check_coming" 898 (.ref 581),de P "check_rise" 908 (.ref 588),de P "check_death" 918 (.ref 595),de P "check_known" 926 (.ref 602),de P "check_there" 935 (.ref 609),de P "check_living" 944 (.ref 616),de P "check_untold" 952 (.ref 623),de P "__static_attributes__" 957 (.ref 624),de P "__dict__" 959 (.ref 627),de P "__weakref__" 961 (.ref 628),de P "__doc__" 962 .none] 4),#[]⟩)<|
 kpO (626,⟨(.type "type"),none,(.cls {name := "Folk", bases:=[(.type "object")],mro:=[(.ref 626),(.type "object")],ns:=625,qualname := "Folk", hasDict:=true,slotNames:=[],subclasses:=[],abstract:=false,collection:=none,hasDel:=false }),#[none,none,some (.str "Folk" 760),some (.str "Folk" 768),some (.builtin "object.__new__"),some (.bool true)]⟩)<|
 kg 700 "__init__" "Moot.__init__" 1073 304 1 1077 (hIn (Zs p 66) 0) pm5<|
 kg 707 "come" "Moot.come" 1080 315 4 1087 (hIn (Zs p 66) 1) pm5<|
 kg 714 "rise" "Moot.rise" 1090 321 4 1097 (hIn (Zs p 66) 2) pm5<|
 kg 728 "penance" "Moot.penance" 1110 333 2 1115 (hIn (Zs p 66) 4) pm5<|
 kg 735 "bring" "Moot.bring" 1118 340 3 1124 (hIn (Zs p 66) 5) pm5<|
 kg 742 "give" "Moot.give" 1127 351 5 1135 (hIn (Zs p 66) 6) pm5<|
 kg 749 "pay" "Moot.pay" 1138 358 5 1146 (hIn (Zs p 66) 7) pm5<|
 kg 777 "now" "Moot.now" 1191 397 1 1195 (hIn (Zs p 66) 11) pm5<|
 kg0 782 "roll" "Moot.roll" 1198 400 1 1201 (hIn (Zs p 66) 12) pm5<|
 kg 920 "owed" "Moot.owed" 1357 462 2 1362 (hIn (Zs p 66) 32) pm5<|
 kg 941 "then" "Moot.then" 1381 472 2 1388 (hIn (Zs p 66) 35) pm5<|
 kg0 946 "counting" "Moot.counting" 1391 480 2 1394 (hIn (Zs p 66) 36) pm5<|
 kg 972 "check_named" "Moot.check_named" 1426 500 5 1435 (hIn (Zs p 66) 40) pm5<|
 kg 979 "check_thing" "Moot.check_thing" 1438 516 2 1443 (hIn (Zs p 66) 41) pm5<|
 kg 993 "check_moments" "Moot.check_moments" 1459 535 1 1463 (hIn (Zs p 66) 43) pm5<|
 kpO (996,⟨(.type "dict"),none,(.dict #[de P "__module__" 1068 (.str "forsworn.moot" 1051),de P "__firstlineno__" 1072 (.int (302) 1071),de P "__init__" 1079 (.ref 701),de P "come" 1089 (.ref 708),de P "rise" 1099 (.ref 715),de P "die" 1109 (.ref 722),de P "penance" 1117 (.ref 729),de P "bring" 1126 (.ref 736),de P "give" 1137 (.ref 743),de P "pay" 1148 (.ref 750),de P "claim" 1162 (.ref 757),de P "wergild" 1177 (.ref 764),de P "accuse" 1190 (.ref 771),de P "now" 1197 (.ref 778),de P "roll" 1203 (.ref 783),de P "names" 1210 (.ref 790),de P "weight" 1219 (.ref 797),de P "dead" 1228 (.ref 804),de P "stands_for" 1237 (.ref 811),de P "things" 1244 (.ref 818),de P "cases" 1251 (.ref 825),de P "suits" 1257 (.ref 830),de P "standing" 1264 (.ref 837),de P "stands" 1272 (.ref 844),de P "margin" 1280 (.ref 851),de P "breakers" 1289 (.ref 858),de P "chain" 1297 (.ref 865),de P "bearing" 1305 (.ref 872),de P "paper" 1313 (.ref 879),de P "fewest" 1321 (.ref 886),de P "forsworn" 1329 (.ref 893),de P "holder" 1338 (.ref 900),de P "road" 1347 (.ref 907),de P "holds" 1356 (.ref 914),de P "owed" 1364 (.ref 921),de P "balance" 1373 (.ref 928),de P "twin" 1380 (.ref 935),de P "then" 1390 (.ref 942),de P "counting" 1396 (.ref 947),de P "forsworn_names" 1407 (.ref 954),de P "weighed" 1413 (.ref 959),de P "try_case" 1425 (.ref 966),de P "check_named" 1437 (.ref 973),de P "check_thing" 1445 (.ref 980),de P "check_sides" 1458 (.ref 987),de P "check_moments" 1465 (.ref 994),de P "__static_attributes__" 1475 (.ref 995),de P "__dict__" 1477 (.ref 998),de P "__weakref__" 1479 (.ref 999),de P "__doc__" 1480 .none] 4),#[]⟩)<|
 kpO (997,⟨(.type "type"),none,(.cls {name := "Moot", bases:=[(.type "object")],mro:=[(.ref 997),(.type "object")],ns:=996,qualname := "Moot", hasDict:=true,slotNames:=[],subclasses:=[],abstract:=false,collection:=none,hasDel:=false }),#[none,none,some (.str "Moot" 1061),some (.str "Moot" 1069),some (.builtin "object.__new__"),some (.bool true)]⟩)<|
 kg 1014 "__init__" "Past.__init__" 1497 541 1 1501 (hIn (Zs p 68) 0) pm6<|
 kg 1021 "does" "Past.does" 1504 545 2 1510 (hIn (Zs p 68) 1) pm6<|
 kg 1028 "undo" "Past.undo" 1513 550 1 1518 (hIn (Zs p 68) 2) pm6<|
 kg 1035 "redo" "Past.redo" 1521 557 1 1525 (hIn (Zs p 68) 3) pm6<|
 kg 1042 "waiting" "Past.waiting" 1528 563 1 1532 (hIn (Zs p 68) 4) pm6<|
 kpO (1045,⟨(.type "dict"),none,(.dict #[de P "__module__" 1492 (.str "forsworn.past" 1483),de P "__firstlineno__" 1496 (.int (539) 1495),de P "__init__" 1503 (.ref 1015),de P "does" 1512 (.ref 1022),de P "undo" 1520 (.ref 1029),de P "redo" 1527 (.ref 1036),de P "waiting" 1534 (.ref 1043),de P "__static_attributes__" 1537 (.ref 1044),de P "__dict__" 1539 (.ref 1047),de P "__weakref__" 1541 (.ref 1048),de P "__doc__" 1542 .none] 4),#[]⟩)<|
 kpO (1046,⟨(.type "type"),none,(.cls {name := "Past", bases:=[(.type "object")],mro:=[(.ref 1046),(.type "object")],ns:=1045,qualname := "Past", hasDict:=true,slotNames:=[],subclasses:=[],abstract:=false,collection:=none,hasDel:=false }),#[none,none,some (.str "Past" 1485),some (.str "Past" 1493),some (.builtin "object.__new__"),some (.bool true)]⟩)<|
 kpO (1051,⟨(.type "dict"),none,(.dict #[de P "claim" 1547 (.ref 1052),de P "wergild" 1552 (.ref 1053),de P "accuse" 1558 (.ref 1054)] 3),#[]⟩)<|
 kpO (1052,⟨(.type "tuple"),none,(.seq #[(.str "name" 1548),(.str "number" 1549),(.str "number" 1550),(.str "number" 1551)] 0),#[]⟩)<|
 kpO (1053,⟨(.type "tuple"),none,(.seq #[(.str "name" 1553),(.str "name" 1554),(.str "number" 1555),(.str "number" 1556),(.str "number" 1557)] 0),#[]⟩)<|
 kpO (1054,⟨(.type "tuple"),none,(.seq #[(.str "number" 1559),(.str "name" 1560),(.str "number" 1561),(.str "number" 1562)] 0),#[]⟩)<|
 kf0 1058 "shown_deed" 1567 567 1 1570 (Zs p 71) pm7<|
 kf0 1063 "lines" 1573 571 1 1576 (Zs p 72) pm7<|
 kf 1070 "_law_src" 1581 574 1 1585 (Zs p 74) pm8<|
 kf 1077 "_law_next" 1588 576 2 1595 (Zs p 75) pm8<|
 kf 1084 "_law_whole" 1598 591 1 1602 (Zs p 76) pm8<|
 kf 1091 "_law_same" 1605 593 2 1612 (Zs p 77) pm8<|
 kf 1098 "_law_unlike" 1615 610 2 1623 (Zs p 78) pm8<|
 kf0 1103 "_law_word" 1626 618 2 1629 (Zs p 79) pm8<|
 kf 1110 "_law_names" 1632 621 2 1643 (Zs p 80) pm8<|
 kf 1117 "_law_shown" 1646 634 1 1654 (Zs p 81) pm8<|
 kf 1124 "_law_past_kind" 1657 646 2 1663 (Zs p 82) pm8<|
 kf 1131 "_law_kind" 1666 658 2 1672 (Zs p 83) pm8<|
 kf 1138 "_law_rows" 1675 667 2 1688 (Zs p 84) pm8<|
 kf0 1143 "_law_owed_of" 1691 677 1 1694 (Zs p 85) pm8<|
 kf0 1148 "_law_fits" 1697 683 3 1700 (Zs p 86) pm8<|
 kf 1155 "law" 1703 689 1 1715 (Zs p 87) pm8<|[]
def KK (P:Params):uFg:=Kp PySem.Challenge.pw_forsworn_k59_whole_long_pasts P
def askd:List Addr:=[3,37,38,247,248,361,362,380,381,399,400,408,409,413,414,418,419,425,426,432,433,439,440,446,447,460,461,465,466,484,485,491,492,498,499,552,553,559,560,580,581,587,588,601,602,608,609,615,616,622,623,625,626,700,701,707,708,714,715,728,729,735,736,742,743,749,750,777,778,782,783,920,921,941,942,946,947,972,973,979,980,993,994,996,997,1014,1015,1021,1022,1028,1029,1035,1036,1042,1043,1045,1046,1051,1052,1053,1054,1058,1059,1063,1064,1070,1071,1077,1078,1084,1085,1091,1092,1098,1099,1103,1104,1110,1111,1117,1118,1124,1125,1131,1132,1138,1139,1143,1144,1148,1149,1155,1156]
def HK:PySem.W.Hook:=PySem.W.kHook KK askd fun _=>by kernel_rfl
def q:Program:=PySem.W.view PySem.Challenge.pw_forsworn_k59_whole_long_pasts [0,2,3,4,5,6,7,8,9,10,11,12,13,14,15,16,17,18,19,20,21,23,24,26,27,28,29,31,32,33,34,35,36,37,38,40,41,42,44,45,47,48,49,50,51,52,53,54,55,56,57,58,59,60,62,63,64,65,66,68,70,71,72,74,75,76,77,78,79,80,81,82,83,84,85,86,87]
def ens:List (Str×Str):=[("NoName", "NoName.called"),("NoMeasure", "NoMeasure.called"),("Unknown", "Unknown.called"),("Taken", "Taken.called"),("NoThing", "NoThing.called"),("NoCase", "NoCase.called"),("NoOath", "NoOath.called"),("NotYet", "NotYet.called"),("Dead", "Dead.called"),("NoHeir", "NoHeir.called"),("TooMany", "TooMany.called"),("SwornTwice", "SwornTwice.called"),("Forsworn", "Forsworn.called"),("TooLight", "TooLight.called"),("Broken", "Broken.called"),("NoMoment", "NoMoment.called"),("NothingBack", "NothingBack.called"),("NothingForth", "NothingForth.called"),("NoDeed", "NoDeed.called")]
end Law
namespace PySem.W.Fast
noncomputable def tw15598095061365249522:PySem.Program:=PySem.Challenge.pw_forsworn_k59_whole_long_pasts
theorem te15598095061365249522:PySem.Challenge.pw_forsworn_k59_whole_long_pasts=tw15598095061365249522:=rfl
end PySem.W.Fast
lay_quick PySem.Challenge.rw_forsworn_k59_whole_long_pasts Law.q Law.ens
namespace Law
open PySem L2 PySem.W.Fast
def Zid (b:Bool):Prop:=∀ (w:World) (os:PySem.OsState),tw14574945829899846032 (tw2368527892694137696 tw17038623737263057977).prog (w.withFollow "special-get-raises" b) (tw15095419895629540892 (w.withFollow "special-get-raises" b).params os)=some (tw17173385231801463501 (w.withFollow "special-get-raises" b).params os,tw17649063868247884333 (tw2368527892694137696 tw17038623737263057977).prog)
set_option maxRecDepth 1000000 in
theorem Z1t:Zid false:=by
 intro w os; kernel_rfl
set_option maxRecDepth 1000000 in
theorem Z1u:Zid true:=by
 intro w os; kernel_rfl
theorem Z93:∀ b,Zid b
 | false=>Z1t
 | true=>Z1u
def Zie (b:Bool):Prop:=∀ (w:World) (os:PySem.OsState),tw897522592586576512 (tw2368527892694137696 tw17038623737263057977).prog (w.withFollow "special-get-raises" b) (tw17173385231801463501 (w.withFollow "special-get-raises" b).params os)=some (.next,tw17173385231801463501 (w.withFollow "special-get-raises" b).params os,cP (tw2368527892694137696 tw17038623737263057977).prog,p0)
set_option maxRecDepth 1000000 in
theorem Z1v:Zie false:=by
 intro w os; kernel_rfl
set_option maxRecDepth 1000000 in
theorem Z1w:Zie true:=by
 intro w os; kernel_rfl
theorem Z94:∀ b,Zie b
 | false=>Z1v
 | true=>Z1w
def Zif (b:Bool):Prop:=∀ (w:World) (os:PySem.OsState),tw3364177927453363911 (tw2368527892694137696 tw17038623737263057977).prog (w.withFollow "special-get-raises" b) 1956 0 10 p0 (tw17173385231801463501 (w.withFollow "special-get-raises" b).params os)=some (.next,(tw15053072615319938550 (tw2368527892694137696 tw17038623737263057977).prog (tw2665081048563830263.take 7) (w.withFollow "special-get-raises" b).params os),cP (tw2368527892694137696 tw17038623737263057977).prog,⟨33,0,36,23⟩)
set_option maxRecDepth 1000000 in
theorem Z1x:Zif false:=by
 intro w os; kernel_rfl
set_option maxRecDepth 1000000 in
theorem Z1y:Zif true:=by
 intro w os; kernel_rfl
theorem Z95:∀ b,Zif b
 | false=>Z1x
 | true=>Z1y
def Zig (b:Bool):Prop:=∀ (w:World) (os:PySem.OsState),tw3364177927453363911 (tw2368527892694137696 tw17038623737263057977).prog (w.withFollow "special-get-raises" b) 1702 10 7 ⟨33,0,36,23⟩ (tw15053072615319938550 (tw2368527892694137696 tw17038623737263057977).prog (tw2665081048563830263.take 7) (w.withFollow "special-get-raises" b).params os)=some (.next,(tw15053072615319938550 (tw2368527892694137696 tw17038623737263057977).prog (tw2665081048563830263.take 14) (w.withFollow "special-get-raises" b).params os),cP (tw2368527892694137696 tw17038623737263057977).prog,⟨61,0,64,25⟩)
set_option maxRecDepth 1000000 in
theorem Z1z:Zig false:=by
 intro w os; kernel_rfl
set_option maxRecDepth 1000000 in
theorem Z10:Zig true:=by
 intro w os; kernel_rfl
theorem Z96:∀ b,Zig b
 | false=>Z1z
 | true=>Z10
def Zih (b:Bool):Prop:=∀ (w:World) (os:PySem.OsState),tw3364177927453363911 (tw2368527892694137696 tw17038623737263057977).prog (w.withFollow "special-get-raises" b) 1216 17 5 ⟨61,0,64,25⟩ (tw15053072615319938550 (tw2368527892694137696 tw17038623737263057977).prog (tw2665081048563830263.take 14) (w.withFollow "special-get-raises" b).params os)=some (.next,(tw15053072615319938550 (tw2368527892694137696 tw17038623737263057977).prog (tw2665081048563830263.take 19) (w.withFollow "special-get-raises" b).params os),cP (tw2368527892694137696 tw17038623737263057977).prog,⟨81,0,84,23⟩)
set_option maxRecDepth 1000000 in
theorem Z11:Zih false:=by
 intro w os; kernel_rfl
set_option maxRecDepth 1000000 in
theorem Z12:Zih true:=by
 intro w os; kernel_rfl
theorem Z97:∀ b,Zih b
 | false=>Z11
 | true=>Z12
def Zgp (b:Bool):Prop:=∀ (w:World) (os:PySem.OsState),Option.map (tw5166864615210023351 (tw2368527892694137696 tw17038623737263057977).prog (w.withFollow "special-get-raises" b).params) (tw9491608239551792999 (tw2368527892694137696 tw17038623737263057977).prog (w.withFollow "special-get-raises" b) 8678 22 ⟨81,0,84,23⟩ (tw15053072615319938550 (tw2368527892694137696 tw17038623737263057977).prog (tw2665081048563830263.take 19) (w.withFollow "special-get-raises" b).params os))=some true
set_option maxRecDepth 1000000 in
theorem Zv4:Zgp false:=by
 intro w os; kernel_rfl
set_option maxRecDepth 1000000 in
theorem Zv5:Zgp true:=by
 intro w os; kernel_rfl
theorem Zzk:∀ b,Zgp b
 | false=>Zv4
 | true=>Zv5
def Zgq (b:Bool):Prop:=∀ (w:World) (os:PySem.OsState),Option.map (tw9146811602139678113 tw2797900513057943271) (tw9491608239551792999 (tw2368527892694137696 tw17038623737263057977).prog (w.withFollow "special-get-raises" b) 8678 22 ⟨81,0,84,23⟩ (tw15053072615319938550 (tw2368527892694137696 tw17038623737263057977).prog (tw2665081048563830263.take 19) (w.withFollow "special-get-raises" b).params os))=some (PyProof.Rows.expectedOf tw2797900513057943271,bltViewBooted)
set_option maxRecDepth 1000000 in
theorem Zv6:Zgq false:=by
 intro w os; kernel_rfl
set_option maxRecDepth 1000000 in
theorem Zv7:Zgq true:=by
 intro w os; kernel_rfl
theorem Zzl:∀ b,Zgq b
 | false=>Zv6
 | true=>Zv7
def Zgr (b:Bool):Prop:=∀ (w:World) (os:PySem.OsState),Option.map (tw4330636226384752446 (tw2368527892694137696 tw17038623737263057977).prog tw2797900513057943271 ["owed_dues", "breakers_stands", "SWORN"] (fun s=>PySem.W.xlAt tw2797900513057943271 [] s && PySem.W.recOk (tw2368527892694137696 tw17038623737263057977).records s)) (tw9491608239551792999 (tw2368527892694137696 tw17038623737263057977).prog (w.withFollow "special-get-raises" b) 8678 22 ⟨81,0,84,23⟩ (tw15053072615319938550 (tw2368527892694137696 tw17038623737263057977).prog (tw2665081048563830263.take 19) (w.withFollow "special-get-raises" b).params os))=some true
set_option maxRecDepth 1000000 in
theorem Zv8:Zgr false:=by
 intro w os; kernel_rfl
set_option maxRecDepth 1000000 in
theorem Zv9:Zgr true:=by
 intro w os; kernel_rfl
theorem Zzm:∀ b,Zgr b
 | false=>Zv8
 | true=>Zv9
def Zgs (b:Bool):Prop:=∀ (w:World) (os:PySem.OsState),Option.map (tw290884773970851577 tw2797900513057943271) (tw9491608239551792999 (tw2368527892694137696 tw17038623737263057977).prog (w.withFollow "special-get-raises" b) 8678 22 ⟨81,0,84,23⟩ (tw15053072615319938550 (tw2368527892694137696 tw17038623737263057977).prog (tw2665081048563830263.take 19) (w.withFollow "special-get-raises" b).params os))=some true
set_option maxRecDepth 1000000 in
theorem Zwa:Zgs false:=by
 intro w os; kernel_rfl
set_option maxRecDepth 1000000 in
theorem Zwb:Zgs true:=by
 intro w os; kernel_rfl
theorem Zzn:∀ b,Zgs b
 | false=>Zwa
 | true=>Zwb
def Zgt (b:Bool):Prop:=∀ (w:World) (os:PySem.OsState),Option.map (tw9020109020722589832 tw2797900513057943271) (tw9491608239551792999 (tw2368527892694137696 tw17038623737263057977).prog (w.withFollow "special-get-raises" b) 8678 22 ⟨81,0,84,23⟩ (tw15053072615319938550 (tw2368527892694137696 tw17038623737263057977).prog (tw2665081048563830263.take 19) (w.withFollow "special-get-raises" b).params os))=some (pinGoodD (PyProof.Rows.drecsOf tw2797900513057943271))
set_option maxRecDepth 1000000 in
theorem Zwc:Zgt false:=by
 intro w os; kernel_rfl
set_option maxRecDepth 1000000 in
theorem Zwd:Zgt true:=by
 intro w os; kernel_rfl
theorem Zzo:∀ b,Zgt b
 | false=>Zwc
 | true=>Zwd
def Zgu (b:Bool):Prop:=∀ (w:World) (os:PySem.OsState),Option.map (tw1658975667393823239 tw2797900513057943271 ["owed_dues", "breakers_stands", "SWORN"] 0) (tw9491608239551792999 (tw2368527892694137696 tw17038623737263057977).prog (w.withFollow "special-get-raises" b) 8678 22 ⟨81,0,84,23⟩ (tw15053072615319938550 (tw2368527892694137696 tw17038623737263057977).prog (tw2665081048563830263.take 19) (w.withFollow "special-get-raises" b).params os))=some (tw10258256380655884400 tw2797900513057943271 ["owed_dues", "breakers_stands", "SWORN"] 0)
set_option maxRecDepth 1000000 in
theorem Zwe:Zgu false:=by
 intro w os; kernel_rfl
set_option maxRecDepth 1000000 in
theorem Zwf:Zgu true:=by
 intro w os; kernel_rfl
theorem Zzp:∀ b,Zgu b
 | false=>Zwe
 | true=>Zwf
def Zgv (b:Bool):Prop:=∀ (w:World) (os:PySem.OsState),Option.map (tw1658975667393823239 tw2797900513057943271 ["owed_dues", "breakers_stands", "SWORN"] 1) (tw9491608239551792999 (tw2368527892694137696 tw17038623737263057977).prog (w.withFollow "special-get-raises" b) 8678 22 ⟨81,0,84,23⟩ (tw15053072615319938550 (tw2368527892694137696 tw17038623737263057977).prog (tw2665081048563830263.take 19) (w.withFollow "special-get-raises" b).params os))=some (tw10258256380655884400 tw2797900513057943271 ["owed_dues", "breakers_stands", "SWORN"] 1)
set_option maxRecDepth 1000000 in
theorem Zwg:Zgv false:=by
 intro w os; kernel_rfl
set_option maxRecDepth 1000000 in
theorem Zwh:Zgv true:=by
 intro w os; kernel_rfl
theorem Zzq:∀ b,Zgv b
 | false=>Zwg
 | true=>Zwh
def Zgw (b:Bool):Prop:=∀ (w:World) (os:PySem.OsState),Option.map (tw1671388014868620310 tw2797900513057943271 ["owed_dues", "breakers_stands", "SWORN"] 2) (tw9491608239551792999 (tw2368527892694137696 tw17038623737263057977).prog (w.withFollow "special-get-raises" b) 8678 22 ⟨81,0,84,23⟩ (tw15053072615319938550 (tw2368527892694137696 tw17038623737263057977).prog (tw2665081048563830263.take 19) (w.withFollow "special-get-raises" b).params os))=some (tw2047387775680494199 tw2797900513057943271 ["owed_dues", "breakers_stands", "SWORN"] 2)
set_option maxRecDepth 1000000 in
theorem Zwi:Zgw false:=by
 intro w os; kernel_rfl
set_option maxRecDepth 1000000 in
theorem Zwj:Zgw true:=by
 intro w os; kernel_rfl
theorem Zzr:∀ b,Zgw b
 | false=>Zwi
 | true=>Zwj
def Zgx (b:Bool):Prop:=∀ (w:World) (os:PySem.OsState),Option.map (tw11153056314078912757 tw2797900513057943271 ["owed_dues", "breakers_stands", "SWORN"]) (tw9491608239551792999 (tw2368527892694137696 tw17038623737263057977).prog (w.withFollow "special-get-raises" b) 8678 22 ⟨81,0,84,23⟩ (tw15053072615319938550 (tw2368527892694137696 tw17038623737263057977).prog (tw2665081048563830263.take 19) (w.withFollow "special-get-raises" b).params os))=some (PyProof.Rows.plainGoodD tw2797900513057943271 ["owed_dues", "breakers_stands", "SWORN"])
set_option maxRecDepth 1000000 in
theorem Zwk:Zgx false:=by
 intro w os; kernel_rfl
set_option maxRecDepth 1000000 in
theorem Zwl:Zgx true:=by
 intro w os; kernel_rfl
theorem Zzs:∀ b,Zgx b
 | false=>Zwk
 | true=>Zwl
def Zgy (b:Bool):Prop:=∀ (w:World) (os:PySem.OsState),Option.map (tw1743938642414776662 tw2797900513057943271) (tw9491608239551792999 (tw2368527892694137696 tw17038623737263057977).prog (w.withFollow "special-get-raises" b) 8678 22 ⟨81,0,84,23⟩ (tw15053072615319938550 (tw2368527892694137696 tw17038623737263057977).prog (tw2665081048563830263.take 19) (w.withFollow "special-get-raises" b).params os))=some (PySem.W.wideGood tw2797900513057943271)
set_option maxRecDepth 1000000 in
theorem Zwm:Zgy false:=by
 intro w os; kernel_rfl
set_option maxRecDepth 1000000 in
theorem Zwn:Zgy true:=by
 intro w os; kernel_rfl
theorem Zzt:∀ b,Zgy b
 | false=>Zwm
 | true=>Zwn
def Zgz (b:Bool):Prop:=∀ (w:World) (os:PySem.OsState),Option.map (tw15055011524645977279 tw2797900513057943271 ["owed_dues", "breakers_stands", "SWORN"]) (tw9491608239551792999 (tw2368527892694137696 tw17038623737263057977).prog (w.withFollow "special-get-raises" b) 8678 22 ⟨81,0,84,23⟩ (tw15053072615319938550 (tw2368527892694137696 tw17038623737263057977).prog (tw2665081048563830263.take 19) (w.withFollow "special-get-raises" b).params os))=some (PySem.W.clsGoodW tw2797900513057943271 ["owed_dues", "breakers_stands", "SWORN"])
set_option maxRecDepth 1000000 in
theorem Zwo:Zgz false:=by
 intro w os; kernel_rfl
set_option maxRecDepth 1000000 in
theorem Zwp:Zgz true:=by
 intro w os; kernel_rfl
theorem Zzu:∀ b,Zgz b
 | false=>Zwo
 | true=>Zwp
def Zg0 (b:Bool):Prop:=∀ (w:World) (os:PySem.OsState),Option.map (fun s=>askd.map s.abs.heap.get?) (tw9491608239551792999 (tw2368527892694137696 tw17038623737263057977).prog (w.withFollow "special-get-raises" b) 8678 22 ⟨81,0,84,23⟩ (tw15053072615319938550 (tw2368527892694137696 tw17038623737263057977).prog (tw2665081048563830263.take 19) (w.withFollow "special-get-raises" b).params os))=some ((Kp tw15598095061365249522 (w.withFollow "special-get-raises" b).params).map fun p=>some p.2)
set_option maxRecDepth 1000000 in
theorem Zwq:Zg0 false:=by
 intro w os; kernel_rfl
set_option maxRecDepth 1000000 in
theorem Zwr:Zg0 true:=by
 intro w os; kernel_rfl
theorem Zzv:∀ b,Zg0 b
 | false=>Zwq
 | true=>Zwr
local macro_rules | `(tactic| walk_at "q")=>`(tactic| (intro h; rw [World.withFollow_self] at h; simp only [← te14574945829899846032,← te897522592586576512,← te3364177927453363911,← te9491608239551792999,← te15053072615319938550,← te17173385231801463501,← te17649063868247884333,← te2665081048563830263,← te5166864615210023351,← te9146811602139678113,← te4330636226384752446,← te290884773970851577,← te9020109020722589832,← te11153056314078912757,← te15055011524645977279,← te1743938642414776662,← te1658975667393823239,← te1671388014868620310,← te10258256380655884400,← te2047387775680494199,← te15095419895629540892,← te2797900513057943271,← te2368527892694137696,← te17038623737263057977,← te14364793385576792824,← te15598095061365249522] at h; exact h))
theorem left:PySem.W.LeftO PySem.Challenge.rw_forsworn_k59_whole_long_pasts.row.prog q ["owed_dues", "breakers_stands", "SWORN"] (fun s=>PySem.W.xlAt q [] s && PySem.W.recOk (PySem.W.RowW.records PySem.Challenge.rw_forsworn_k59_whole_long_pasts.row.toRowW) s) HK.obs HK.val 13565:=by
 refine Zxr (M:=4887) (N:=8678) (k:=22) (pos:=⟨81,0,84,23⟩) (s:=fun w os=>errS PySem.Challenge.rw_forsworn_k59_whole_long_pasts.row.prog (ens.take 19) w.params os) (by kernel_rfl) (by decide) (fun s=>by kernel_rfl) (fun w os=>?_)
  (fun w os=>(by have h:=Zzk (w.params.followText "special-get-raises") w os; revert h; walk_at "q"))
  (fun w os=>(by have h:=Zzl (w.params.followText "special-get-raises") w os; revert h; walk_at "q"))
  (fun w os=>(by have h:=Zzm (w.params.followText "special-get-raises") w os; revert h; walk_at "q"))
  (fun w os=>(by have h:=Zzn (w.params.followText "special-get-raises") w os; revert h; walk_at "q"))
  (fun w os=>(by have h:=Zzo (w.params.followText "special-get-raises") w os; revert h; walk_at "q"))
  (fun w os=>(by have h:=Zzp (w.params.followText "special-get-raises") w os; revert h; walk_at "q"))
  (fun w os=>(by have h:=Zzq (w.params.followText "special-get-raises") w os; revert h; walk_at "q"))
  (fun w os=>(by have h:=Zzr (w.params.followText "special-get-raises") w os; revert h; walk_at "q"))
  (fun w os=>(by have h:=Zzs (w.params.followText "special-get-raises") w os; revert h; walk_at "q"))
  (fun w os=>(by have h:=Zzt (w.params.followText "special-get-raises") w os; revert h; walk_at "q"))
  (fun w os=>(by have h:=Zzu (w.params.followText "special-get-raises") w os; revert h; walk_at "q"))
  (fun w os=>(by have h:=Zzv (w.params.followText "special-get-raises") w os; revert h; walk_at "q"))
 have R:=Reach.zero (p:=PySem.Challenge.rw_forsworn_k59_whole_long_pasts.row.prog) (w:=w) (os:=os) (by have h:=Z93 (w.params.followText "special-get-raises") w os; revert h; walk_at "q") (by have h:=Z94 (w.params.followText "special-get-raises") w os; revert h; walk_at "q")
 have R:=R.step 1956 10 (by have h:=Z95 (w.params.followText "special-get-raises") w os; revert h; walk_at "q")
 have R:=R.step 1702 7 (by have h:=Z96 (w.params.followText "special-get-raises") w os; revert h; walk_at "q")
 have R:=R.step 1216 5 (by have h:=Z97 (w.params.followText "special-get-raises") w os; revert h; walk_at "q")
 exact R
end Law
section
namespace L2
open PySem PySem.Spec PyProof.Rows
abbrev Key:=Sum Int Str
def Zb3:Key->Value->Bool
 | .inl k,v=>Value.isInt k v
 | .inr x,v=>Value.isStrOf x v
def Z98 (w:World):Key->Int
 | .inl k=>hashInt k
 | .inr x=>hashStr w x
theorem Uj:∀ {k:Key}{v:Value},Zb3 k v=true->(∃ i t,k=Sum.inl i/\v=Value.int i t)\/(∃ x t,k=Sum.inr x/\v=Value.str x t)
 | .inl i,v,h=>by
  obtain ⟨t,e⟩:=Value.isInt_shape (k:=i) (v:=v) h
  exact .inl ⟨i,t,rfl,e⟩
 | .inr x,v,h=>by
  obtain ⟨t,e⟩:=Value.isStrOf_shape (x:=x) (v:=v) h
  exact .inr ⟨x,t,rfl,e⟩
theorem Zws (i:Int) (t:Tok):Zb3 (.inl i) (.int i t)=true:=by simp [Zb3,Value.isInt]
theorem Zg1 (x:Str) (t:Tok):Zb3 (.inr x) (.str x t)=true:=by simp [Zb3,Value.isStrOf]
theorem Z13 (a b:Int):decide ((Sum.inl a:Key)=Sum.inl b)=(a == b):=by
 by_cases e:a=b
 ·subst e; simp
 ·have h:¬ (Sum.inl a:Key)=Sum.inl b:=fun q=>e (Sum.inl.inj q)
  rw [xU h]
  exact (beq_eq_false_iff_ne.mpr e).symm
theorem Zpm (a b:Str):decide ((Sum.inr a:Key)=Sum.inr b)=decide (a=b):=by
 by_cases e:a=b
 ·subst e; simp
 ·have h:¬ (Sum.inr a:Key)=Sum.inr b:=fun q=>e (Sum.inr.inj q)
  rw [xU h,xU e]
theorem Z14 (a:Int) (b:Str):decide ((Sum.inl a:Key)=Sum.inr b)=false:=xU (fun q=>nomatch q)
theorem Z15 (a:Str) (b:Int):decide ((Sum.inr a:Key)=Sum.inl b)=false:=xU (fun q=>nomatch q)
def Ys (prog:Program) (w:World):PySem.KeyKind prog w Key where
 is:=Zb3
 hash:=Z98 w
 inj:=fun v a b ha hb=>by
  rcases Uj ha with ⟨i,t,rfl,rfl⟩ | ⟨x,t,rfl,rfl⟩
  ·rcases Uj hb with ⟨j,u,rfl,e⟩ | ⟨y,u,rfl,e⟩
   ·injection e with e1 _; rw [e1]
   ·exact nomatch e
  ·rcases Uj hb with ⟨j,u,rfl,e⟩ | ⟨y,u,rfl,e⟩
   ·exact nomatch e
   ·injection e with e1 _; rw [e1]
 byValue:=fun k v h=>by
  rcases Uj h with ⟨i,t,rfl,rfl⟩ | ⟨x,t,rfl,rfl⟩ <;> rfl
 pyHash:=fun hv h=>by
  rcases Uj hv with ⟨i,t,rfl,rfl⟩ | ⟨x,t,rfl,rfl⟩
  ·exact wpAny_pyHash_int h
  ·exact wpAny_pyHash_str h
 eqBool:=fun hu hv h=>by
  rcases Uj hu with ⟨i,t,rfl,rfl⟩ | ⟨x,t,rfl,rfl⟩
  ·rcases Uj hv with ⟨j,u,rfl,rfl⟩ | ⟨y,u,rfl,rfl⟩
   ·rw [Z13] at h; exact wpAny_eqBool_int h
   ·rw [Z14] at h; exact SeqAt.EqAt.int_str i t y u _ _ _ _ h
  ·rcases Uj hv with ⟨j,u,rfl,rfl⟩ | ⟨y,u,rfl,rfl⟩
   ·rw [Z15] at h; exact SeqAt.EqAt.str_int x t j u _ _ _ _ h
   ·rw [Zpm] at h; exact wpAny_eqBool_str h
 «strs»:=fun k x t v h=>by
  rcases Uj h with ⟨i,u,rfl,e⟩ | ⟨y,u,rfl,e⟩
  ·exact nomatch e
  ·injection e with e1 _
   subst e1
   cases v <;> rfl
theorem Zu5 (prog:Program) (w:World) (i:Int) (t:Tok):(Ys prog w).is (.inl i) (.int i t)=true:=Zws i t
theorem Zu6 (prog:Program) (w:World) (x:Str) (t:Tok):(Ys prog w).is (.inr x) (.str x t)=true:=Zg1 x t
end L2
namespace L2
open PySem PySem.Spec PyProof.Rows
inductive V where
 | non | bl (b:Bool) | int (i:Int) | str (x:Str) | byt (b:Array UInt8) | flt (b:UInt64) | ref (a:Addr) | ty (n:String)
 deriving DecidableEq
def RelV:V->Value->Prop
 | .non,u=>u=Value.none
 | .bl b,u=>u=Value.bool b
 | .int i,u=>∃ t,u=Value.int i t
 | .str x,u=>∃ t,u=Value.str x t
 | .byt b,u=>∃ t,u=Value.bytes b t
 | .flt b,u=>∃ t,u=Value.float b t
 | .ref a,u=>u=Value.ref a
 | .ty n,u=>u=Value.type n
abbrev Vals:List V->List Value->Prop:=Paired RelV
theorem Vals.length {xs:List V}{us:List Value}(r:Vals xs us):xs.length=us.length:=Paired.length r
theorem Vals.get:∀ {xs:List V}{us:List Value}{i:Nat}{x:V},Vals xs us->xs[i]? = some x->∃ u,us[i]? = some u/\RelV x u
 | _,_,_,_,.nil,e=>by simp at e
 | _,_,0,_,.cons r _,e=>by simp at e; subst e; exact ⟨_,rfl,r⟩
 | _,_,i+1,x,.cons _ t,e=>by
  obtain ⟨u,h1,h2⟩:=Vals.get (i:=i) (x:=x) t (by simpa using e)
  exact ⟨u,by simpa using h1,h2⟩
theorem Vals.set {x:V}{u:Value}(r:RelV x u):∀ {xs:List V}{us:List Value}(i:Nat),Vals xs us->Vals (xs.set i x) (us.set i u)
 | _,_,_,.nil=>.nil
 | _,_,0,.cons _ t=>.cons r t
 | _,_,i+1,.cons q t=>.cons q (Vals.set r i t)
theorem Vals.append:∀ {xs ys:List V}{us ws:List Value},Vals xs us->Vals ys ws->Vals (xs++ys) (us++ws)
 | _,_,_,_,.nil,s=>s
 | _,_,_,_,.cons r t,s=>.cons r (Vals.append t s)
theorem Vals.take:∀ {xs:List V}{us:List Value}(n:Nat),Vals xs us->Vals (xs.take n) (us.take n)
 | _,_,0,_=>.nil
 | _,_,_+1,.nil=>.nil
 | _,_,n+1,.cons r t=>.cons r (Vals.take n t)
theorem Vals.drop:∀ {xs:List V}{us:List Value}(n:Nat),Vals xs us->Vals (xs.drop n) (us.drop n)
 | _,_,0,r=>r
 | _,_,_+1,.nil=>.nil
 | _,_,n+1,.cons _ t=>Vals.drop n t
def RelO:Option V->Option Value->Prop
 | some v,some u=>RelV v u
 | none,none=>True
 | _,_=>False
def KV {κ:Type}:List (κ×V)->List (κ×Value)->Prop:=Paired fun (p : κ×V) (q : κ×Value)=>p.1=q.1/\RelV p.2 q.2
def kV:Key->V
 | .inl i=>.int i
 | .inr x=>.str x
inductive HO where
 | lst (xs:List V)
 | tup (xs:List V)
 | dK (kvs:List (Key×V)) | dT (kvs:List (List Key×V))
 | set (S:Int->Bool) (n:Nat)
 | ins (C dx:Addr) (fs:List (Str×V))
 | own (x:Addr)
 | xd (fs:List (Str×V))
 | met (f x:Addr)
 | rng (lo hi:Int)
 | frz (o:Obj) (u:HO)
 | tbl (ps:Array Value)
 | ext (φ:Heap->Prop)
abbrev Hp:=Addr->Option HO
def upd (H:Hp) (a:Addr) (o:HO):Hp:=fun b=>if b=a then some o else H b
theorem Zi {H:Hp}{a:Addr}{o:HO}:upd H a o a=some o:=by unfold upd; rw [if_pos rfl]
theorem Zd {H:Hp}{a b:Addr}{o:HO}(h:b≠a):upd H a o b=H b:=by unfold upd; rw [if_neg h]
theorem Z3r {H:Hp}{a b:Addr}{o u:HO}(h:H a=some o) (h':H b=some u) (d:o≠u):a≠b:=by
 intro e; subst e; rw [h] at h'; exact d (Option.some.inj h')
theorem Zj {H:Hp}{a b:Addr}{o:HO}(h:H a=some o) (h':H b=none):a≠b:=by
 intro e; subst e; rw [h] at h'; cases h'
section
variable (P:Program) (w:World)
def ObjOk (H:Hp) (h:Heap) (a:Addr):HO->Prop
 | .lst xs=>xs.length<=sizeLine/\∃ (its:List Value) (n:Nat),Vals xs its/\h.get? a=some {cls:=.type "list", data:=.seq its.toArray n }
 | .tup xs=>xs.length<=sizeLine/\∃ its:List Value,Vals xs its/\IsTup h a its.toArray
 | .dK kvs=>kvs.length<=sizeLine/\(a == sysModules)=false/\∃ vs,KV kvs vs/\h.DictOf (Ys P w) a vs
 | .dT kvs=>kvs.length<=sizeLine/\(a == sysModules)=false/\∃ xs:List (List Key×Addr×Value),
   Paired (fun (p:List Key×V) (q:List Key×Addr×Value)=>p.1=q.1/\H q.2.1=some (.tup (p.1.map kV))/\RelV p.2 q.2.2) kvs xs /\
   ∃ o es ep,h.get? a=some o/\o.ExactDict/\o.data = .dict es ep/\es.toList=xs.map (entryOfKey (tupleKind (Ys P w)))/\(xs.map (·.1)).Nodup
 | .set S n=>h.SetOf (intKind P w) a S n
 | .ins C dx fs=>H dx=some (.own a)/\fs.length<=1000/\dx≠a/\h.get? a=some (PySem.W.instObj C dx) /\
   ∃ mA,h.Ns1 dx mA/\(∀ f,RelO (fs.lookup f) (mA f))/\PySem.Within mA (fs.map (·.1))
 | .own _=>∃ o,h.get? a=some o
 | .xd fs=>∃ mA,h.Ns1 a mA/\∀ f,RelO (fs.lookup f) (mA f)
 | .rng lo hi=>∃ t u v,h.get? a=some {cls:=.type "range", data:=.fields #[.int lo t,.int hi u,.int 1 v] }
 | .frz o u=>h.get? a=some o/\ObjOk H h a u
 | .tbl ps=>∃ (qs:Array Value) (nm:Str) (t:Tok),h.get? a=some {cls:=.none,data:=.fields qs }/\TriplesOk qs.toList/\ps[0]? = some (.str nm t)/\∀ pos cv,codeAmong pos qs.toList=some cv->∃ c,cv = .ref c/\H c=some (.own a)/\h.CodeRec (.ref c) nm
 | .met f x=>h.get? a=some (PySem.W.methodObj (.ref f) (.ref x))
 | .ext φ=>φ h/\(∃ o,h.get? a=some o)/\∀ h1 h2:Heap,φ h1->(∀ o,h1.get? a=some o->h2.get? a=some o)->φ h2
def HOk (H:Hp) (h:Heap):Prop:=∀ a o,H a=some o->ObjOk P w H h a o
end
section
variable {P:Program}{w:World}{H H':Hp}{h h':Heap}{a:Addr}{o:HO}
theorem ObjOk.lt (x:ObjOk P w H h a o):a < h.objs.size:=by
 cases o with
 | lst xs=>obtain ⟨_,_,_,_,e⟩:=x; exact xF e
 | tup xs=>obtain ⟨_,_,_,p⟩:=x; exact p.lt
 | dK kvs=>obtain ⟨_,_,_,_,o,_,_,e,_⟩:=x; exact xF e
 | dT kvs=>obtain ⟨_,_,_,_,o,_,_,e,_⟩:=x; exact xF e
 | set S n=>obtain ⟨o,_,_,_,e,_⟩:=x; exact xF e
 | ins C dx fs=>obtain ⟨_,_,_,e,_⟩:=x; exact xF e
 | own y=>obtain ⟨_,e⟩:=x; exact xF e
 | xd fs=>obtain ⟨_,⟨_,_,_,e,_⟩,_⟩:=x; exact xF e
 | rng lo hi=>obtain ⟨_,_,_,e⟩:=x; exact xF e
 | frz ob u=>obtain ⟨e,_⟩:=x; exact xF e
 | tbl ps=>obtain ⟨_,_,_,e,_⟩:=x; exact xF e
 | met f y=>exact xF (show h.get? a=some _ from x)
 | ext φ=>obtain ⟨_,⟨_,e⟩,_⟩:=x; exact xF e
theorem Paired.mapP {α β:Type}{F G : α->β->Prop}:∀ {l₁:List α}{l₂:List β},Paired F l₁ l₂->(∀ a b,F a b->G a b)->Paired G l₁ l₂
 | _,_,.nil,_=>.nil
 | _,_,.cons r t,f=>.cons (f _ _ r) (Paired.mapP t f)
theorem ObjOk.stay (x:ObjOk P w H h a o) (k:∀ b u,(b=a\/H b=some (.own a))->h.get? b=some u->h'.get? b=some u)
  (ho:∀ b,H b=some (.own a)->H' b=some (.own a)) (ht:∀ b xs,H b=some (.tup xs)->H' b=some (.tup xs)):ObjOk P w H' h' a o:=by
 induction o with
 | lst xs=>obtain ⟨z,its,n,r,e⟩:=x; exact ⟨z,its,n,r,k _ _ (.inl rfl) e⟩
 | tup xs=>obtain ⟨z,its,r,ob,e,c⟩:=x; exact ⟨z,its,r,ob,k _ _ (.inl rfl) e,c⟩
 | dK kvs=>obtain ⟨z,y,vs,r,ob,es,ep,e,c⟩:=x; exact ⟨z,y,vs,r,ob,es,ep,k _ _ (.inl rfl) e,c⟩
 | dT kvs =>
  obtain ⟨z,y,xs,r,ob,es,ep,e,c⟩:=x
  exact ⟨z,y,xs,Paired.mapP r fun p q z=>⟨z.1,ht _ _ z.2.1,z.2.2⟩,ob,es,ep,k _ _ (.inl rfl) e,c⟩
 | set S n=>obtain ⟨ob,es,ep,t,e,c⟩:=x; exact ⟨ob,es,ep,t,k _ _ (.inl rfl) e,c⟩
 | ins C dx fs =>
  obtain ⟨d,z,ne,e,mA,⟨od,es,ep,e2,c⟩,r⟩:=x
  exact ⟨ho _ d,z,ne,k _ _ (.inl rfl) e,mA,⟨od,es,ep,k _ _ (.inr d) e2,c⟩,r⟩
 | own y=>obtain ⟨ob,e⟩:=x; exact ⟨ob,k _ _ (.inl rfl) e⟩
 | xd fs=>obtain ⟨mA,⟨od,es,ep,e,c⟩,r⟩:=x; exact ⟨mA,⟨od,es,ep,k _ _ (.inl rfl) e,c⟩,r⟩
 | rng lo hi=>obtain ⟨t,u,v,e⟩:=x; exact ⟨t,u,v,k _ _ (.inl rfl) e⟩
 | frz ob u ih=>obtain ⟨e,q⟩:=x; exact ⟨k _ _ (.inl rfl) e,ih q⟩
 | tbl ps =>
  obtain ⟨qs,nm,t,e,z1,z2,z3⟩:=x
  refine ⟨qs,nm,t,k a _ (.inl rfl) e,z1,z2,fun pos cv ec=>?_⟩
  obtain ⟨c,e1,e2,c2,oc,vs,tt,e3,e4,e5⟩:=z3 pos cv ec
  cases e3
  exact ⟨c,e1,ho _ e2,c,oc,vs,tt,rfl,k _ _ (.inr e2) e4,e5⟩
 | met f y =>
  have e:h.get? a=some (PySem.W.methodObj (.ref f) (.ref y)):=x
  show h'.get? a=some (PySem.W.methodObj (.ref f) (.ref y))
  exact k a _ (.inl rfl) e
 | ext φ=>obtain ⟨p,⟨o,e⟩,st⟩:=x; exact ⟨st _ _ p fun o q=>k _ _ (.inl rfl) q,⟨o,k _ _ (.inl rfl) e⟩,st⟩
theorem HOk.lt (x:HOk P w H h) (e:H a=some o):a < h.objs.size:=(x a o e).lt
theorem HOk.fresh (x:HOk P w H h) (e:h.objs.size<=a):H a=none:=by
 cases q:H a with
 | none=>rfl
 | some u=>exact absurd (xY (x.lt q) e) (Nat.lt_irrefl _)
theorem HOk.kept (x:HOk P w H h) (k:∀ b u,h.get? b=some u->h'.get? b=some u):HOk P w H h':=fun a o e =>
 (x a o e).stay (fun b u _ q=>k b u q) (fun _ q=>q) fun _ _ q=>q
theorem HOk.laid (x:HOk P w H h) (k:∀ b u,h.get? b=some u->h'.get? b=some u) (hp:h.objs.size<=a) (new:ObjOk P w (upd H a o) h' a o):HOk P w (upd H a o) h':=fun b u e=>by
 have hn:=x.fresh hp
 by_cases hb:b=a
 ·subst hb; rw [Zi] at e; cases e; exact new
 ·rw [Zd hb] at e
  exact (x b u e).stay (fun c v _ q=>k c v q) (fun c q=>by rw [Zd (Zj q hn)]; exact q) fun c xs q=>by rw [Zd (Zj q hn)]; exact q
end
def Rd (H:Hp) (a:Addr) (u:HO):Prop:=H a=some u\/∃ o,H a=some (.frz o u)
theorem Rd.ok {P:Program}{w:World}{H:Hp}{h:Heap}{a:Addr}{u:HO}(r:Rd H a u) (x:HOk P w H h):ObjOk P w H h a u:=by
 rcases r with r | ⟨o,r⟩
 ·exact x a u r
 ·obtain ⟨_,q⟩:=x a _ r
  exact q
def Mut:Option HO->Prop
 | some (.lst _)=>True
 | some (.dK _)=>True
 | some (.dT _)=>True
 | some (.set _ _)=>True
 | some (.ins _ _ _)=>True
 | some (.ext _)=>True
 | _=>False
section
variable {P:Program}{w:World}{H:Hp}{h h':Heap}{x e:Addr}{o':HO}
theorem HOk.write (ok:HOk P w H h) (mu:Mut (H x)) (he:e=x\/H e=some (.own x)) (k:∀ b u,b≠e->h.get? b=some u->h'.get? b=some u) (heo:∃ u,h'.get? e=some u)
  (new:ObjOk P w (upd H x o') h' x o'):HOk P w (upd H x o') h':=fun b u q=>by
 have nown:∀ c y,H c=some (.own y)->c≠x:=fun c y r z=>by subst z; rw [r] at mu; exact mu
 have ntup:∀ c xs,H c=some (.tup xs)->c≠x:=fun c xs r z=>by subst z; rw [r] at mu; exact mu
 by_cases hb:b=x
 ·subst hb; rw [Zi] at q; cases q; exact new
 ·rw [Zd hb] at q
  by_cases hbe:b=e
  ·have q':H b=some (.own x):=by
    rcases he with z | z
    ·exact absurd (hbe.trans z) hb
    ·rw [hbe]; exact z
   rw [q] at q'; cases q'
   obtain ⟨v,hv⟩:=heo
   exact ⟨v,by rw [hbe]; exact hv⟩
  ·refine (ok b u q).stay (fun c v hc r=>k c v ?_ r) (fun c r=>by rw [Zd (nown c b r)]; exact r) fun c xs r=>by rw [Zd (ntup c xs r)]; exact r
   rcases hc with rfl | hc
   ·exact hbe
   ·rintro rfl
    rcases he with z | z
    ·exact nown c b hc z
    ·rw [hc] at z; cases z; exact hb rfl
end
structure Un (fs ex:List Addr) (H H':Hp) (h h':Heap):Prop where
 keep:∀ b o,h.get? b=some o->H b=none->b∉fs->b∉ex->h'.get? b=some o
 slot:∀ b o,h.get? b=some o->H b=none->b∈fs->b∉ex->∃ sl,h'.get? b=some {o with slots:=sl }
 free:∀ b o,h.get? b=some o->H b=none->b∉ex->H' b=none
 there:∀ b o,h.get? b=some o->b∉ex->∃ o',h'.get? b=some o'
 tups:∀ b xs,H b=some (.tup xs)->H' b=some (.tup xs)
 frzs:∀ b o u,H b=some (.frz o u)->H' b=some (.frz o u)
 tbls:∀ b ps,H b=some (.tbl ps)->∃ more,H' b=some (.tbl (ps++more))
section
variable {fs fs' ex ex':List Addr}{H H1 H2:Hp}{h h1 h2 h':Heap}{a x e:Addr}{o:HO}
theorem Un.any (u:Un fs ex H H1 h h1) {b:Addr}{ob:Obj}(q:h.get? b=some ob) (n:H b=none) (hx:b∉ex):∃ sl,h1.get? b=some {ob with slots:=sl }:=by
 by_cases hb:b∈fs
 ·exact u.slot b ob q n hb hx
 ·exact ⟨ob.slots,u.keep b ob q n hb hx⟩
theorem Un.kept (k:∀ b u,h.get? b=some u->h'.get? b=some u):Un fs ex H H h h' :=
 ⟨fun b ob q _ _ _=>k b ob q,fun b ob q _ _ _=>⟨ob.slots,k b ob q⟩,fun _ _ _ n _=>n,fun b ob q _=>⟨ob,k b ob q⟩,fun _ _ q=>q,fun _ _ _ q=>q,fun _ ps q=>⟨#[],by rw [q]; simp⟩⟩
theorem Un.refl:Un fs ex H H h h:=Un.kept fun _ _ q=>q
theorem Un.laid (k:∀ b u,h.get? b=some u->h'.get? b=some u) (hp:h.objs.size<=a) (hn:H a=none):Un fs ex H (upd H a o) h h' where
 keep:=fun b u q _ _ _=>k b u q
 slot:=fun b u q _ _ _=>⟨u.slots,k b u q⟩
 free:=fun b u q n _=>by rw [Zd (yD (xY (xF q) hp))]; exact n
 there:=fun b u q _=>⟨u,k b u q⟩
 tups:=fun b xs q=>by rw [Zd (Zj q hn)]; exact q
 frzs:=fun b u xs q=>by rw [Zd (Zj q hn)]; exact q
 tbls:=fun b ps q=>⟨#[],by rw [Zd (Zj q hn),q]; simp⟩
theorem Un.write (mu:Mut (H x)) (he:e=x\/H e=some (.own x)) (k:∀ b u,b≠e->h.get? b=some u->h'.get? b=some u) (heo:∃ u,h'.get? e=some u):Un fs ex H (upd H x o) h h':=by
 have hx:∀ b,H b=none->b≠x:=fun b n z=>by subst z; rw [n] at mu; exact mu
 have hb:∀ b,H b=none->b≠e:=fun b n z=>by
  subst z
  rcases he with r | r
  ·exact hx b n r
  ·rw [n] at r; cases r
 have hm:∀ b u,H b=some u->¬ Mut (some u)->b≠x:=fun b u q nm z=>by subst z; rw [q] at mu; exact nm mu
 refine ⟨fun b u q n _ _=>k b u (hb b n) q,fun b u q n _ _=>⟨u.slots,k b u (hb b n) q⟩,fun b u q n _=>by rw [Zd (hx b n)]; exact n,fun b u q _=>?_,
  fun b xs q=>by rw [Zd (hm b _ q fun z=>z)]; exact q,fun b u xs q=>by rw [Zd (hm b _ q fun z=>z)]; exact q,fun b ps q=>⟨#[],by rw [Zd (hm b _ q fun z=>z),q]; simp⟩⟩
 by_cases hbe:b=e
 ·subst hbe; exact heo
 ·exact ⟨u,k b u hbe q⟩
end
def trk (h:Heap) (H:Hp):List Addr:=(List.range h.objs.size).filter fun a=>(H a).isSome
def Uk (h:Heap) (H:Hp):Heap:=PySem.W.hideAll h (trk h H)
theorem Zwt (h:Heap) (H:Hp):(Uk h H).objs.size=h.objs.size:=PySem.W.hideAll_size _ _
theorem Zxs {h:Heap}{H:Hp}{b:Addr}{o:Obj}(e:h.get? b=some o) (n:H b=none):(Uk h H).get? b=some o :=
 PySem.W.hideAll_get _ e fun hm=>by
  have q:(H b).isSome=true:=(List.mem_filter.mp hm).2
  rw [n] at q; simp at q
theorem Zzw {h:Heap}{H:Hp}{b:Addr}{o:Obj}(e:(Uk h H).get? b=some o):h.get? b=some o/\H b=none:=by
 have e':h.get? b=some o:=PySem.W.of_hideAll (trk h H) e
 refine ⟨e',?_⟩
 cases q:H b with
 | none=>rfl
 | some x =>
  have hm:b∈trk h H:=List.mem_filter.mpr ⟨List.mem_range.mpr (xF e'),by simp [q]⟩
  have z:(Uk h H).get? b=none:=PySem.W.hideAll_none (trk h H) hm
  rw [z] at e; cases e
end L2
namespace L2
open PySem PySem.Spec PyProof.Rows
structure Mod (K:uFg) (mg:Str->Option Value) (base:Heap):Prop where
 kin:K.In base
 glob:base.Ns mainGlobals mg
 blt:∃ mb,base.Ns builtinsNs mb/\∀ x:Str,x ≠ "__name__" -> mb x=bootBuiltins x
 nolimit:base.NoLimit
/-- the context: a def's body (or a comprehension's block) running. base: fixed through the whole law; s₀,H₀: the entry; outer: the frames whose slots others may change (a def's callers); stack: all frames that run;
   ex: iterators that were made ahead of the entry and are walked here (a comprehension's); fn: the names whose cells were made at the entry (a def: all; a comprehension's block: its own); calm: not within an except suite; pn: pins that every state bears; xe: what is wanted of an exception that leaves the code -/
structure Cx where
 prog:Program
 w:World
 K:uFg
 mg:Str->Option Value
 base:Heap
 A:Around
 N:List Str
 s₀:Shared
 H₀:Hp
 env:Env
 outer:List Env
 stack:List Env
 ex:List Addr
 fn:Str->Bool
 calm:Bool
 pn:List (Addr×Obj)
 xe:Value->Shared->Prop
def frs (l:List Env):List Addr:=l.filterMap (·.frame)
abbrev Cx.fs (X:Cx):List Addr:=frs X.outer
def Vis (sc:Scope) (x:Str):Prop:=sc.names.lookup x=some .local\/sc.names.lookup x=some .cell\/sc.names.lookup x=some .free
def Loc (sc:Scope) (x:Str):Prop:=sc.names.lookup x=some .local\/sc.names.lookup x=some .cell
def Z99 (env:Env) (h:Heap) (m:Str->Option Value) (x:Str) (u:Value):Prop :=
 (env.kindOf x=some .local/\m x=some u)\/((env.kindOf x=some .cell\/env.kindOf x=some .free)/\∃ c,env.cells.lookup x=some c/\h.IsCell c (some u))
structure Cx.Ok (X:Cx):Prop where
 mod:Mod X.K X.mg X.base
 kind:X.env.scope.kind = .function
 glob:X.env.globals=mainGlobals
 blt:X.env.builtins=builtinsNs
 above:X.s₀.heap.objs.size<=X.env.locals
 inj:∀ x y c,X.env.cells.lookup x=some c->X.env.cells.lookup y=some c->x=y
 has:∀ x,(X.env.kindOf x=some .cell\/X.env.kindOf x=some .free)->∃ c,X.env.cells.lookup x=some c
 cab:∀ x c,X.fn x=true->X.env.cells.lookup x=some c->X.s₀.heap.objs.size<=c
 hd:X.calm=true->X.A.handled=none
 frames:X.A.frames=some X.stack
 stk:X.stack=X.outer\/(X.stack=X.env::X.outer/\X.env.frame=some X.env.locals)
 exf:∀ b∈X.ex,b≠X.env.locals/\∀ x c,X.env.cells.lookup x=some c->c≠b
 bs:∀ b o,X.base.get? b=some o->X.s₀.heap.get? b=some o/\X.H₀ b=none
 bsz:X.base.objs.size<=X.s₀.heap.objs.size
 noex:∀ b o,X.base.get? b=some o->b∉X.ex
 exfs:∀ b∈X.ex,b∉X.fs
 funs:X.s₀.heap.FunFrames X.base X.outer
 frf:∀ b∈X.fs,X.H₀ b=none
structure Inv (X:Cx) (pins:List (Addr×Obj)) (σ:List (Option V)) (H:Hp) (s:Shared):Prop where
 ok:X.Ok
 os:s.os=X.s₀.os
 bare:AllBare s.gens
 base:Un X.fs X.ex X.H₀ H X.s₀.heap s.heap
 loc:∃ m,s.heap.Ns X.env.locals m/\∀ (i:Nat) (x:Str) (v:V),X.N[i]? = some x->σ[i]? = some (some v)->Vis X.env.scope x->∃ u,RelV v u/\Z99 X.env s.heap m x u
 cell:∀ x c,X.env.cells.lookup x=some c->∃ v,s.heap.IsCell c v
 free:H X.env.locals=none
 freeC:∀ x c,X.env.cells.lookup x=some c->H c=none
 pin:∀ p∈X.pn++pins,s.heap.get? p.1=some p.2/\H p.1=none/\p.1≠X.env.locals/\p.1∉X.fs/\∀ v,p.2.data ≠ .cell v
 hok:HOk X.prog X.w H s.heap
 len : σ.length=X.N.length
section
variable {X:Cx}{pins:List (Addr×Obj)}{σ:List (Option V)}{H H':Hp}{s:Shared}{h':Heap}
theorem Cx.Ok.nofr (ok:X.Ok) {b:Addr}{o:Obj}(e:X.base.get? b=some o):b∉X.fs:=fun hb=>by
 have:=(ok.funs.mem hb).1
 rw [e] at this; cases this
theorem Inv.bs (I:Inv X pins σ H s):∀ b o,X.base.get? b=some o->s.heap.get? b=some o/\H b=none:=fun b o e =>
 ⟨I.base.keep b o (I.ok.bs b o e).1 (I.ok.bs b o e).2 (I.ok.nofr e) (I.ok.noex b o e),I.base.free b o (I.ok.bs b o e).1 (I.ok.bs b o e).2 (I.ok.noex b o e)⟩
theorem Inv.bk (I:Inv X pins σ H s):∀ b o,X.base.get? b=some o->s.heap.get? b=some o:=fun b o e=>(I.bs b o e).1
theorem Inv.mod (I:Inv X pins σ H s):Mod X.K X.mg X.base:=I.ok.mod
theorem Inv.kIn (I:Inv X pins σ H s):X.K.In s.heap:=I.ok.mod.kin.keeps I.bk
theorem Inv.lt (I:Inv X pins σ H s):X.env.locals < s.heap.objs.size:=let ⟨_,hn,_⟩:=I.loc; hn.lt
theorem Inv.sz (I:Inv X pins σ H s):X.s₀.heap.objs.size<=s.heap.objs.size:=yK I.ok.above (Nat.le_of_lt I.lt)
theorem Inv.nofs (I:Inv X pins σ H s) {a:Addr}(h:s.heap.objs.size<=a):a∉X.fs:=fun hb=>by
 obtain ⟨_,o,ho,_⟩:=I.ok.funs.mem hb
 exact absurd (xY (xF ho) (yK I.sz h)) (Nat.lt_irrefl _)
theorem Inv.cne (I:Inv X pins σ H s):∀ x c,X.env.cells.lookup x=some c->c≠X.env.locals:=fun x c e z=>by
 obtain ⟨v,o,ho,hd⟩:=I.cell x c e
 obtain ⟨m,⟨o',es,ep,ho',hd',_⟩,_⟩:=I.loc
 rw [z,ho'] at ho; cases ho; rw [hd'] at hd; cases hd
theorem Inv.funs (I:Inv X pins σ H s):s.heap.FunFrames X.base X.outer:=by
 have all:∀ (l:List Env),(∀ b∈frs l,b∈X.fs)->X.s₀.heap.FunFrames X.base l->s.heap.FunFrames X.base l:=by
  intro l
  induction l with
  | nil=>intro _ _; trivial
  | cons env r ih =>
   intro hs hl
   obtain ⟨hk,⟨L,o,hf,hn,ho,hd⟩,hr⟩:=hl
   have hL:L∈X.fs:=hs L (by unfold frs; rw [List.filterMap_cons,hf]; exact xR)
   obtain ⟨sl,e⟩:=I.base.slot L o ho (I.ok.frf L hL) hL fun z=>I.ok.exfs L z hL
   exact ⟨hk,⟨L,_,hf,hn,e,hd⟩,ih (fun b hb=>hs b (by unfold frs; rw [List.filterMap_cons,hf]; exact xT _ hb)) hr⟩
 exact all X.outer (fun _ hb=>hb) I.ok.funs
theorem Inv.stack (I:Inv X pins σ H s):s.heap.FunFrames X.base X.stack:=by
 rcases I.ok.stk with e | ⟨e,hf⟩
 ·rw [e]; exact I.funs
 ·rw [e]
  obtain ⟨m,hn,_⟩:=I.loc
  refine .cons (by rw [I.ok.kind]; decide) hf hn ?_ I.funs
  exact Heap.get?_none_of_le (yK I.ok.bsz I.ok.above)
theorem Inv.stkSub (I:Inv X pins σ H s):∀ b∈frs X.stack,b∈X.env.locals::X.fs:=fun b hb=>by
 rcases I.ok.stk with e | ⟨e,hf⟩
 ·rw [e] at hb; exact xT _ hb
 ·rw [e] at hb
  unfold frs at hb
  rw [List.filterMap_cons,hf] at hb
  exact hb
theorem Inv.stkFree (I:Inv X pins σ H s):∀ b∈frs X.stack,H b=none:=fun b hb=>by
 rcases xC.mp (I.stkSub b hb) with e | hb
 ·rw [e]; exact I.free
 ·obtain ⟨_,o,ho,_⟩:=I.ok.funs.mem hb
  exact I.base.free b o ho (I.ok.frf b hb) fun z=>I.ok.exfs b z hb
theorem Inv.step {g':Array GenState}{t':Nat}{d':Drawn}{ch:List Addr}(I:Inv X pins σ H s)
  (hch:∀ b∈ch,(b∈X.ex\/X.s₀.heap.objs.size<=b)/\b≠X.env.locals/\(∀ x c,X.env.cells.lookup x=some c->c≠b)/\∀ p∈X.pn++pins,p.1≠b)
  (keep:∀ b o,b≠X.env.locals->b∉X.fs->b∉ch->s.heap.get? b=some o->H b=none->h'.get? b=some o)
  (slot:∀ b o,b≠X.env.locals->b∈X.fs->b∉ch->s.heap.get? b=some o->H b=none->∃ sl,h'.get? b=some {o with slots:=sl }) (free:∀ b o,b∉ch->s.heap.get? b=some o->H b=none->H' b=none)
  (there:∀ b o,b∉ch->s.heap.get? b=some o->∃ o',h'.get? b=some o')
  (tups:∀ b xs,H b=some (.tup xs)->H' b=some (.tup xs)) (frzs:∀ b o u,H b=some (.frz o u)->H' b=some (.frz o u)) (tbls:∀ b ps,H b=some (.tbl ps)->∃ more,H' b=some (.tbl (ps++more)))
  (ns:∀ m,s.heap.Ns X.env.locals m->h'.Ns X.env.locals m) (hok:HOk X.prog X.w H' h') (hg:AllBare g') :
  Inv X pins σ H' {s with heap:=h',gens:=g',drawn:=d',toks:=t' }:=by
 have neL:∀ b o,X.s₀.heap.get? b=some o->b≠X.env.locals:=fun b o e=>yD (xY (xF e) I.ok.above)
 have neC:∀ b o,X.s₀.heap.get? b=some o->b∉X.ex->b∉ch:=fun b o e hx hb=>by
  rcases (hch b hb).1 with z | z
  ·exact hx z
  ·exact absurd (xY (xF e) z) (Nat.lt_irrefl _)
 have cellK:∀ x c,X.env.cells.lookup x=some c->∀ v,s.heap.IsCell c v->h'.IsCell c v:=fun x c e v ⟨o,ho,hd⟩=>by
  have nch:c∉ch:=fun z=>(hch c z).2.2.1 x c e rfl
  by_cases hc:c∈X.fs
  ·obtain ⟨sl,q⟩:=slot c o (I.cne x c e) hc nch ho (I.freeC x c e)
   exact ⟨_,q,hd⟩
  ·exact ⟨o,keep c o (I.cne x c e) hc nch ho (I.freeC x c e),hd⟩
 refine ⟨I.ok,I.os,hg,⟨fun b o e n hb hx=>?_,fun b o e n hb hx=>?_,fun b o e n hx=>?_,fun b o e hx=>?_,fun b xs e=>tups b xs (I.base.tups b xs e),fun b o xs e=>frzs b o xs (I.base.frzs b o xs e),fun b ps e=>?_⟩,?_,fun x c e=>?_,?_,fun x c e=>?_,fun p hp=>?_,hok,I.len⟩
 ·exact keep b o (neL b o e) hb (neC b o e hx) (I.base.keep b o e n hb hx) (I.base.free b o e n hx)
 ·obtain ⟨sl,e1⟩:=I.base.slot b o e n hb hx
  obtain ⟨sl',e2⟩:=slot b _ (neL b o e) hb (neC b o e hx) e1 (I.base.free b o e n hx)
  exact ⟨sl',e2⟩
 ·obtain ⟨o',e1⟩:=I.base.there b o e hx
  exact free b o' (neC b o e hx) e1 (I.base.free b o e n hx)
 ·obtain ⟨o',e1⟩:=I.base.there b o e hx
  exact there b o' (neC b o e hx) e1
 ·obtain ⟨m1,e1⟩:=I.base.tbls b ps e
  obtain ⟨m2,e2⟩:=tbls b _ e1
  exact ⟨m1++m2,by rw [e2,Array.append_assoc]⟩
 ·obtain ⟨m,hn,hl⟩:=I.loc
  refine ⟨m,ns m hn,fun i x v e1 e2 e3=>?_⟩
  obtain ⟨u,r,l⟩:=hl i x v e1 e2 e3
  refine ⟨u,r,?_⟩
  rcases l with l | ⟨k,c,e,z⟩
  ·exact .inl l
  ·exact .inr ⟨k,c,e,cellK x c e _ z⟩
 ·obtain ⟨v,z⟩:=I.cell x c e
  exact ⟨v,cellK x c e v z⟩
 ·obtain ⟨m,⟨o,_,_,ho,_⟩,_⟩:=I.loc
  exact free _ o (fun z=>(hch _ z).2.1 rfl) ho I.free
 ·obtain ⟨v,o,ho,hd⟩:=I.cell x c e
  exact free c o (fun z=>(hch c z).2.2.1 x c e rfl) ho (I.freeC x c e)
 ·obtain ⟨e,n,ne,nf,d⟩:=I.pin p hp
  have nch:p.1∉ch:=fun z=>(hch p.1 z).2.2.2 p hp rfl
  exact ⟨keep p.1 p.2 ne nf nch e n,free p.1 p.2 nch e n,ne,nf,d⟩
theorem Inv.un {t':Nat}(I:Inv X pins σ H s) (u:Un X.fs [] H H' s.heap h') (hok:HOk X.prog X.w H' h'):Inv X pins σ H' {s with heap:=h',toks:=t' }:=by
 obtain ⟨m,⟨o,es,ep,ho,r⟩,_⟩:=id I.loc
 obtain ⟨sl,hL⟩:=u.any ho I.free (by simp)
 exact I.step (g':=s.gens) (d':=s.drawn) (ch:=[]) (fun _ z=>nomatch z) (fun b o _ hb _ e n=>u.keep b o e n hb (by simp)) (fun b o _ hb _ e n=>u.slot b o e n hb (by simp)) (fun b o _ e n=>u.free b o e n (by simp)) (fun b o _ e=>u.there b o e (by simp)) u.tups u.frzs u.tbls (fun m' hm=>by
  obtain ⟨o',es',ep',ho',r'⟩:=hm
  rw [ho] at ho'; cases ho'
  exact ⟨_,es',ep',hL,r'⟩) hok I.bare
theorem Inv.call {g':Array GenState}{t':Nat}{d':Drawn}{ch:List Addr}(I:Inv X pins σ H s) (u:Un (frs X.stack) ch H H' s.heap h') (hok:HOk X.prog X.w H' h') (hg:AllBare g')
  (hch:∀ b∈ch,(b∈X.ex\/X.s₀.heap.objs.size<=b)/\b≠X.env.locals/\(∀ x c,X.env.cells.lookup x=some c->c≠b)/\∀ p∈X.pn++pins,p.1≠b) :
  Inv X pins σ H' {s with heap:=h',gens:=g',drawn:=d',toks:=t' }:=by
 obtain ⟨m,⟨o,es,ep,ho,r⟩,_⟩:=id I.loc
 obtain ⟨sl,hL⟩:=u.any ho I.free fun z=>(hch _ z).2.1 rfl
 exact I.step (ch:=ch) hch (fun b o hL hb hc e n=>u.keep b o e n (fun z=>(xC.mp (I.stkSub b z)).elim hL hb) hc) (fun b o _ _ hc e n=>u.any e n hc) (fun b o hc e n=>u.free b o e n hc) (fun b o hc e=>u.there b o e hc) u.tups u.frzs u.tbls (fun m' hm=>by
  obtain ⟨o',es',ep',ho',r'⟩:=hm
  rw [ho] at ho'; cases ho'
  exact ⟨_,es',ep',hL,r'⟩) hok hg
theorem Inv.turned {t':Nat}{it:Addr}(I:Inv X pins σ H s) (k:∀ b o,b≠it->s.heap.get? b=some o->h'.get? b=some o) (hn:H it=none) (hL:it≠X.env.locals)
  (h1:it∈X.ex\/X.s₀.heap.objs.size<=it) (h2:∀ x c,X.env.cells.lookup x=some c->c≠it) (h3:∀ p∈X.pn++pins,p.1≠it):Inv X pins σ H {s with heap:=h',toks:=t' }:=by
 have nit:∀ b u,H b=some u->b≠it:=fun b u e z=>by rw [z,hn] at e; cases e
 refine I.step (g':=s.gens) (d':=s.drawn) (ch:=[it]) (fun b hb=>?_) (fun b o _ _ hc e _=>k b o (fun z=>hc (by simp [z])) e) (fun b o _ _ hc e _=>⟨o.slots,k b o (fun z=>hc (by simp [z])) e⟩) (fun _ _ _ _ n=>n)
  (fun b o hc e=>⟨o,k b o (fun z=>hc (by simp [z])) e⟩) (fun _ _ e=>e) (fun _ _ _ e=>e) (fun b ps e=>⟨#[],by rw [e]; simp⟩) (fun m hm=>?_) (fun b u e=>?_) I.bare
 ·have e:b=it:=by simpa using hb
  subst e
  exact ⟨h1,hL,h2,h3⟩
 ·obtain ⟨o,es,ep,ho,r⟩:=hm
  exact ⟨o,es,ep,k _ o (Ne.symm hL) ho,r⟩
 ·refine (I.hok b u e).stay (fun c v hc q=>k c v ?_ q) (fun _ q=>q) fun _ _ q=>q
  rcases hc with z | z
  ·rw [z]; exact nit b u e
  ·exact nit c _ z
theorem Inv.tok (I:Inv X pins σ H s) (t:Nat):Inv X pins σ H {s with toks:=t }:=I.un (h':=s.heap) (t':=t) Un.refl I.hok
theorem Inv.kept {t':Nat}(I:Inv X pins σ H s) (k:∀ b u,s.heap.get? b=some u->h'.get? b=some u):Inv X pins σ H {s with heap:=h',toks:=t' }:=I.un (Un.kept k) (I.hok.kept k)
theorem Inv.laid {a:Addr}{o:HO}{t':Nat}(I:Inv X pins σ H s) (k:∀ b u,s.heap.get? b=some u->h'.get? b=some u) (hp:s.heap.objs.size<=a) (new:ObjOk X.prog X.w (upd H a o) h' a o) :
  Inv X pins σ (upd H a o) {s with heap:=h',toks:=t' }:=I.un (Un.laid k hp (I.hok.fresh hp)) (I.hok.laid k hp new)
theorem Inv.write {x e:Addr}{o:HO}{t':Nat}(I:Inv X pins σ H s) (mu:Mut (H x)) (he:e=x\/H e=some (.own x)) (k:∀ b u,b≠e->s.heap.get? b=some u->h'.get? b=some u) (heo:∃ u,h'.get? e=some u)
  (new:ObjOk X.prog X.w (upd H x o) h' x o):Inv X pins σ (upd H x o) {s with heap:=h',toks:=t' }:=I.un (Un.write mu he k heo) (I.hok.write mu he k heo new)
theorem Inv.pins_of {pins':List (Addr×Obj)}(I:Inv X pins σ H s) (h:∀ p∈pins',s.heap.get? p.1=some p.2/\H p.1=none/\p.1≠X.env.locals/\p.1∉X.fs/\∀ v,p.2.data ≠ .cell v):Inv X pins' σ H s :=
 ⟨I.ok,I.os,I.bare,I.base,I.loc,I.cell,I.free,I.freeC,fun p hp=>(xS.mp hp).elim (fun z=>I.pin p (List.mem_append_left _ z)) (h p),I.hok,I.len⟩
theorem Zny {N:List Str}(hN:N.Nodup) {i j:Nat}{x:Str}(a:N[i]? = some x) (b:N[j]? = some x):i=j:=by
 obtain ⟨h1,e1⟩:=xV.mp a
 obtain ⟨h2,e2⟩:=xV.mp b
 exact (List.getElem_inj hN).mp (e1.trans e2.symm)
theorem Zwu {M:Model}{A:Around}{E:Value->Shared->Prop}{i:Nat}{x:Str}{v:V}{u:Value}{Q:Unit->Shared->Prop}(I:Inv X pins σ H s) (hN:X.N.Nodup) (hi:X.N[i]? = some x) (hx:Loc X.env.scope x) (r:RelV v u)
  (h:∀ s',Inv X pins (σ.set i (some v)) H s'->(∃ a,Heap.SameBut a s.heap s'.heap/\(a=X.env.locals\/X.env.cells.lookup x=some a))->Q () s') (hf:X.fn x=true\/X.env.scope.names.lookup x=some .local:=by first | exact .inl rfl | exact .inr rfl | assumption):wpAny M A (storeName X.env x u) Q E s:=by
 obtain ⟨m,hn,hl⟩:=id I.loc
 have hcls:(X.env.scope.kind == .class || (X.env.scope.kind == .module && X.env.locals != X.env.globals))=false:=by rw [I.ok.kind]; rfl
 have hiσ:i < σ.length:=by rw [I.len]; exact (xV.mp hi).1
 have cne:=I.cne
 have tracked:∀ {a:Addr}{h':Heap},(∃ o,s.heap.get? a=some o/\H a=none)->Heap.SameBut a s.heap h'->HOk X.prog X.w H h':=fun {a h'} ha hs b ob e=>by
  obtain ⟨_,_,hfree⟩:=ha
  refine (I.hok b ob e).stay (fun c w' hc q=>(hs.2 c ?_).trans q) (fun _ q=>q) fun _ _ q=>q
  rintro rfl
  rcases hc with rfl | hc
  ·rw [hfree] at e; cases e
  ·rw [hfree] at hc; cases hc
 rcases hx with hk | hk
 ·refine wpAny_storeName_local hk hn (fun h' hn' hs=>?_) hcls
  obtain ⟨oL,_,_,hoL,_⟩:=id hn
  refine h _ ⟨I.ok,I.os,I.bare,⟨fun b o e n hb hx=>?_,fun b o e n hb hx=>?_,I.base.free,fun b o e hx=>?_,I.base.tups,I.base.frzs,I.base.tbls⟩,⟨_,hn',fun j y v' e1 e2 e3=>?_⟩,fun y c e=>?_,I.free,I.freeC,fun p hp=>?_,tracked ⟨oL,hoL,I.free⟩ hs,by simpa using I.len⟩ ⟨_,hs,.inl rfl⟩
  ·exact (hs.2 b (yD (xY (xF e) I.ok.above))).trans (I.base.keep b o e n hb hx)
  ·obtain ⟨sl,e1⟩:=I.base.slot b o e n hb hx
   exact ⟨sl,(hs.2 b (yD (xY (xF e) I.ok.above))).trans e1⟩
  ·obtain ⟨o',e1⟩:=I.base.there b o e hx
   exact ⟨o',(hs.2 b (yD (xY (xF e) I.ok.above))).trans e1⟩
  ·by_cases hj:j=i
   ·subst hj
    rw [hi] at e1; cases e1
    rw [List.getElem?_set_self hiσ] at e2
    cases e2
    exact ⟨u,r,.inl ⟨hk,by simp⟩⟩
   ·rw [List.getElem?_set_ne (Ne.symm hj)] at e2
    obtain ⟨u',r',q⟩:=hl j y v' e1 e2 e3
    refine ⟨u',r',?_⟩
    rcases q with ⟨k,e⟩ | ⟨k,c,e,z⟩
    ·refine .inl ⟨k,?_⟩
     have:y≠x:=fun e=>hj (Zny hN e1 (e▸hi))
     simp [this,e]
    ·exact .inr ⟨k,c,e,z.sameBut hs (cne y c e)⟩
  ·obtain ⟨w',z⟩:=I.cell y c e
   exact ⟨w',z.sameBut hs (cne y c e)⟩
  ·obtain ⟨e,n,ne,nf,d⟩:=I.pin p hp
   exact ⟨(hs.2 p.1 ne).trans e,n,ne,nf,d⟩
 ·have hfn:X.fn x=true:=by
   rcases hf with z | z
   ·exact z
   ·rw [z] at hk; cases hk
  obtain ⟨c,hc⟩:=I.ok.has x (.inl hk)
  obtain ⟨w',z⟩:=I.cell x c hc
  refine wpAny_storeName_cell I.ok.kind hk hc z (fun h' hc' hs=>?_)
  obtain ⟨oc,hoc,hocd⟩:=id z
  refine h {s with heap:=h' } ⟨I.ok,I.os,I.bare,⟨fun b o e n hb hx=>?_,fun b o e n hb hx=>?_,I.base.free,fun b o e hx=>?_,I.base.tups,I.base.frzs,I.base.tbls⟩,⟨m,hn.sameBut hs (Ne.symm (cne x c hc)),fun j y v' e1 e2 e3=>?_⟩,fun y c' e=>?_,I.free,I.freeC,fun p hp=>?_,tracked ⟨oc,hoc,I.freeC x c hc⟩ hs,by simpa using I.len⟩ ⟨c,hs,.inr hc⟩
  ·exact (hs.2 b (yD (xY (xF e) (I.ok.cab x c hfn hc)))).trans (I.base.keep b o e n hb hx)
  ·obtain ⟨sl,e1⟩:=I.base.slot b o e n hb hx
   exact ⟨sl,(hs.2 b (yD (xY (xF e) (I.ok.cab x c hfn hc)))).trans e1⟩
  ·obtain ⟨o',e1⟩:=I.base.there b o e hx
   exact ⟨o',(hs.2 b (yD (xY (xF e) (I.ok.cab x c hfn hc)))).trans e1⟩
  ·by_cases hj:j=i
   ·subst hj
    rw [hi] at e1; cases e1
    rw [List.getElem?_set_self hiσ] at e2
    cases e2
    exact ⟨u,r,.inr ⟨.inl hk,c,hc,hc'⟩⟩
   ·rw [List.getElem?_set_ne (Ne.symm hj)] at e2
    obtain ⟨u',r',q⟩:=hl j y v' e1 e2 e3
    refine ⟨u',r',?_⟩
    rcases q with q | ⟨k,c',e,z'⟩
    ·exact .inl q
    ·refine .inr ⟨k,c',e,z'.sameBut hs ?_⟩
     rintro rfl
     exact hj (Zny hN e1 (I.ok.inj _ _ _ e hc▸hi))
  ·by_cases hcc:c'=c
   ·subst hcc; exact ⟨_,hc'⟩
   ·obtain ⟨w2,z2⟩:=I.cell y c' e
    exact ⟨w2,z2.sameBut hs hcc⟩
  ·obtain ⟨e,n,ne,nf,d⟩:=I.pin p hp
   refine ⟨(hs.2 p.1 ?_).trans e,n,ne,nf,d⟩
   intro q
   rw [q,hoc] at e
   have q':oc=p.2:=Option.some.inj e
   exact d w' (by rw [← q']; exact hocd)
theorem Znz {M:Model}{A:Around}{E:Value->Shared->Prop}{i:Nat}{x:Str}{v:V}{u:Value}{Q:Unit->Shared->Prop}(I:Inv X pins σ H s) (hN:X.N.Nodup) (hi:X.N[i]? = some x) (hx:Loc X.env.scope x) (r:RelV v u)
  (h:∀ s',Inv X pins (σ.set i (some v)) H s'->Q () s') (hf:X.fn x=true\/X.env.scope.names.lookup x=some .local:=by first | exact .inl rfl | exact .inr rfl | assumption):wpAny M A (storeName X.env x u) Q E s :=
 Zwu I hN hi hx r (fun s' I' _=>h s' I') hf
theorem Inv.call' {s':Shared}{ch:List Addr}(I:Inv X pins σ H s) (ho:s'.os=s.os) (u:Un (frs X.stack) ch H H' s.heap s'.heap) (hok:HOk X.prog X.w H' s'.heap) (hg:AllBare s'.gens)
  (hch:∀ b∈ch,(b∈X.ex\/X.s₀.heap.objs.size<=b)/\b≠X.env.locals/\(∀ x c,X.env.cells.lookup x=some c->c≠b)/\∀ p∈X.pn++pins,p.1≠b):Inv X pins σ H' s':=by
 obtain ⟨h',g',d',t',o'⟩:=s'
 have e:o'=s.os:=ho
 subst e
 exact I.call (g':=g') (t':=t') (d':=d') u hok hg hch
end
abbrev XK:=Value->Option Addr->Hp->Prop
abbrev St:=List (Option V)
abbrev VK:=V->Hp->Prop
abbrev TE:=St->Hp->VK->Prop
abbrev TT:=St->Hp->(Bool->Hp->Prop)->Prop
abbrev TA:=St->Hp->(List V->Hp->Prop)->Prop
structure Ends where
 nx:St->Hp->Prop
 rt:VK
 bk:St->Hp->Prop:=fun _ _=>False
 ct:St->Hp->Prop:=fun _ _=>False
abbrev TS:=Ends->St->Hp->Prop
def EP (X:Cx) (pins:List (Addr×Obj)) (σ:St) (Q:VK) (u:Value) (s':Shared):Prop:=∃ v H',Inv X pins σ H' s'/\RelV v u/\Q v H'
def TP (X:Cx) (pins:List (Addr×Obj)) (σ:St) (Q:Bool->Hp->Prop) (b:Bool) (s':Shared):Prop:=∃ H',Inv X pins σ H' s'/\Q b H'
def AP (X:Cx) (pins:List (Addr×Obj)) (σ:St) (Q:List V->Hp->Prop) (us:List Value) (s':Shared):Prop:=∃ vs H',Inv X pins σ H' s'/\Vals vs us/\Q vs H'
def SP (X:Cx) (pins:List (Addr×Obj)) (D:Ends) (f:Flow) (s':Shared):Prop :=
 match f with
 | .next=>∃ σ' H',Inv X pins σ' H' s'/\D.nx σ' H'
 | .brk=>∃ σ' H',Inv X pins σ' H' s'/\D.bk σ' H'
 | .cont=>∃ σ' H',Inv X pins σ' H' s'/\D.ct σ' H'
 | .ret u=>∃ v σ' H',Inv X pins σ' H' s'/\RelV v u/\D.rt v H'
def PE (X:Cx) (e:Expr) (t:TE):Prop :=
 ∀ (pins:List (Addr×Obj)) (s:Shared) (σ:St) (H:Hp) (Q:VK),Inv X pins σ H s->t σ H Q->wpAny (model X.prog X.w) X.A (eval e X.env) (EP X pins σ Q) X.xe s
def PT (X:Cx) (e:Expr) (t:TT):Prop :=
 ∀ (pins:List (Addr×Obj)) (s:Shared) (σ:St) (H:Hp) (Q:Bool->Hp->Prop),Inv X pins σ H s->t σ H Q->wpAny (model X.prog X.w) X.A (isTrue e X.env (eval e X.env)) (TP X pins σ Q) X.xe s
def PW (X:Cx) (e:Expr) (t:TT):Prop :=
 ∀ (whole:Sem Value) (pins:List (Addr×Obj)) (s:Shared) (σ:St) (H:Hp) (Q:Bool->Hp->Prop),Inv X pins σ H s->t σ H Q->wpAny (model X.prog X.w) X.A (isTrue e X.env whole) (TP X pins σ Q) X.xe s
theorem PW.pt {X:Cx}{e:Expr}{t:TT}(h:PW X e t):PT X e t:=h _
def PA (X:Cx) (es:List Expr) (t:TA):Prop :=
 ∀ (pos:Pos) (pins:List (Addr×Obj)) (s:Shared) (σ:St) (H:Hp) (Q:List V->Hp->Prop),Inv X pins σ H s->t σ H Q->wpAny (model X.prog X.w) X.A (spliced (backTo pos (starEach es X.env))) (AP X pins σ Q) X.xe s
def PS (X:Cx) (st:Stmt) (t:TS):Prop :=
 ∀ (pins:List (Addr×Obj)) (s:Shared) (σ:St) (H:Hp) (D:Ends),Inv X pins σ H s->t D σ H->wpAny (model X.prog X.w) X.A (exec st X.env) (SP X pins D) X.xe s
def PSs (X:Cx) (st:List Stmt) (t:TS):Prop :=
 ∀ (pins:List (Addr×Obj)) (s:Shared) (σ:St) (H:Hp) (D:Ends),Inv X pins σ H s->t D σ H->wpAny (model X.prog X.w) X.A (execs st X.env) (SP X pins D) X.xe s
theorem thn {α:Type}{t:Sem α}{Q Q' : α->Shared->Prop}{M:Model}{A:Around}{E:Value->Shared->Prop}{s:Shared}(h:wpAny M A t Q E s) (hQ:∀ a s,Q a s->Q' a s):wpAny M A t Q' E s:=wpAny_mono h hQ fun _ _ x=>x
end L2
namespace L2
open PySem PySem.Spec PyProof.Rows
section
variable {X:Cx}
def Y2 (i:Nat):TE:=fun σ H Q=>∃ v,σ[i]? = some (some v)/\Q v H
def tC (v:V):TE:=fun _ H Q=>Q v H
theorem Zii {i:Nat}{x:Str}{pos:Pos}(hN:X.N[i]? = some x) (hv:Vis X.env.scope x) (hd:(x == ("__debug__" : Str))=false:=by decide) (hcd:(x == ("__classdict__" : Str))=false:=by decide):PE X (.Name x pos) (Y2 i):=by
 intro pins s σ H Q I h
 obtain ⟨v,e,h⟩:=h
 obtain ⟨m,hn,hl⟩:=I.loc
 obtain ⟨u,r,l⟩:=hl i x v hN e hv
 have fin:EP X pins σ Q u s:=⟨v,H,I,r,h⟩
 rcases l with ⟨hk,hm⟩ | ⟨hk,c,hc,hcell⟩
 ·exact wpAny_Name (wpAny_loadName_local I.ok.kind hk hn hm fin) hd
 ·rcases hk with hk | hk
  ·exact wpAny_Name (wpAny_loadName_cell I.ok.kind hk hc hcell fin) hd
  ·exact wpAny_Name (wpAny_loadName_free I.ok.kind hk hc hcell fin hcd) hd
theorem Z16 {i j pos}:PE X (.Constant (.int i) j pos) (tC (.int i)):=fun _ _ _ H _ I h=>wpAny_Constant_int ⟨.int i,H,I.tok _,⟨_,rfl⟩,h⟩
theorem Z3s {b j pos}:PE X (.Constant (.bool b) j pos) (tC (.bl b)):=fun _ _ _ H _ I h=>Constant_bool ⟨.bl b,H,I,rfl,h⟩
theorem Z17 {j pos}:PE X (.Constant .none j pos) (tC .non):=fun _ _ _ H _ I h=>Constant_none ⟨.non,H,I,rfl,h⟩
theorem Z18 {x j pos}:PE X (.Constant (.str x) j pos) (tC (.str x)):=fun _ _ _ H _ I h=>Calls.Constant_str ⟨.str x,H,I.tok _,⟨_,rfl⟩,h⟩
def Gl (X:Cx) (x:Str):Prop:=X.env.kindOf x=some .globalImplicit
theorem Zbp {E:Value->Shared->Prop}{pins:List (Addr×Obj)}{s:Shared}{σ:St}{H:Hp}{x:Str}{u:Value}{pos:Pos}{Q:Value->Shared->Prop}(I:Inv X pins σ H s) (hg:Gl X x) (hm:X.mg x=some u) (h:Q u s)
  (hd:(x == ("__debug__" : Str))=false:=by decide):wpAny (model X.prog X.w) X.A (eval (.Name x pos) X.env) Q E s :=
 Calls.Name_function_global I.ok.kind hg (Calls.loadGlobal_global (by rw [I.ok.glob]; exact I.mod.glob.keeps I.bk) hm h) hd
theorem Zc3 {E:Value->Shared->Prop}{pins:List (Addr×Obj)}{s:Shared}{σ:St}{H:Hp}{x:Str}{u:Value}{pos:Pos}{Q:Value->Shared->Prop}(I:Inv X pins σ H s) (hg:Gl X x) (hm:X.mg x=none) (hv:bootBuiltins x=some u) (h:Q u s)
  (hn:x ≠ "__name__" := by decide) (hd:(x == ("__debug__" : Str))=false:=by decide):wpAny (model X.prog X.w) X.A (eval (.Name x pos) X.env) Q E s:=by
 obtain ⟨mb,h1,h2⟩:=I.mod.blt
 exact Calls.Name_function_global I.ok.kind hg (Calls.loadGlobal_builtin (by rw [I.ok.glob]; exact I.mod.glob.keeps I.bk) hm (by rw [I.ok.blt]; exact h1.keeps I.bk) ((h2 x hn).trans hv) h) hd
theorem Zzx {x:Str}{v:V}{u:Value}{pos:Pos}(hg:Gl X x) (hm:X.mg x=some u) (r:RelV v u) (hd:(x == ("__debug__" : Str))=false:=by decide):PE X (.Name x pos) (tC v) :=
 fun _ _ _ H _ I h=>Zbp I hg hm ⟨v,H,I,r,h⟩ hd
theorem Zzy {x:Str}{v:V}{u:Value}{pos:Pos}(hg:Gl X x) (hm:X.mg x=none) (hv:bootBuiltins x=some u) (r:RelV v u) (hn:x ≠ "__name__" := by decide) (hd:(x == ("__debug__" : Str))=false:=by decide):PE X (.Name x pos) (tC v) :=
 fun _ _ _ H _ I h=>Zc3 I hg hm hv ⟨v,H,I,r,h⟩ hn hd
variable {a b:Expr}{ta tb:TE}{pos:Pos}
def tB (t:TE):TT:=fun σ H Q=>t σ H fun x H1=>∃ c,x = .bl c/\Q c H1
theorem Z19 {e:Expr}{t:TE}(h:PE X e t) (he:∀ whole,isTrue e X.env whole=(do let v ← whole; standAt e.pos; holding [v] (truthy v)):=by intro _; rfl):PT X e (tB t):=by
 intro pins s σ H Q I hw
 refine isTrue_plain (thn (h pins s σ H _ I hw) fun v s1 ⟨x,H1,I1,r1,q1⟩=>?_) (he _)
 obtain ⟨d,rfl,q⟩:=q1
 cases r1
 exact wpAny_truthy_bool ⟨H1,I1,q⟩
variable {tA tB':TT}{rest:List Expr}
def Ztn (t u:TT):TT:=fun σ H Q=>t σ H fun c H1=>if c=true then u σ H1 Q else Q false H1
def tOr (t u:TT):TT:=fun σ H Q=>t σ H fun c H1=>if c=true then Q true H1 else u σ H1 Q
def Zto (t:TT):TT:=fun σ H Q=>t σ H fun c H1=>Q (!c) H1
theorem Zzz (ha:PT X a tA):PW X (.BoolOp .And [a] pos) tA:=by
 intro wh pins s σ H Q I h
 refine isTrue_and (thn (ha pins s σ H Q I h) fun c s1 e=>?_)
 cases c with
 | true=>exact isTrue_and_nil e
 | false=>exact e
theorem Z2a (ha:PT X a tA):PW X (.BoolOp .Or [a] pos) tA:=by
 intro wh pins s σ H Q I h
 refine isTrue_or (thn (ha pins s σ H Q I h) fun c s1 e=>?_)
 cases c with
 | false=>exact isTrue_or_nil e
 | true=>exact e
theorem Z2b (ha:PT X a tA) (hb:PW X (.BoolOp .And (b::rest) pos) tB'):PW X (.BoolOp .And (a::b::rest) pos) (Ztn tA tB'):=by
 intro wh pins s σ H Q I h
 refine isTrue_and (thn (ha pins s σ H _ I h) fun c s1 ⟨H1,I1,q1⟩=>?_)
 cases c with
 | true=>exact hb wh pins s1 σ H1 Q I1 q1
 | false=>exact ⟨H1,I1,q1⟩
theorem Z3t (ha:PT X a tA) (hb:PW X (.BoolOp .Or (b::rest) pos) tB'):PW X (.BoolOp .Or (a::b::rest) pos) (tOr tA tB'):=by
 intro wh pins s σ H Q I h
 refine isTrue_or (thn (ha pins s σ H _ I h) fun c s1 ⟨H1,I1,q1⟩=>?_)
 cases c with
 | true=>exact ⟨H1,I1,q1⟩
 | false=>exact hb wh pins s1 σ H1 Q I1 q1
theorem Z2c (ha:PT X a tA):PT X (.UnaryOp .Not a pos) (Zto tA):=by
 intro pins s σ H Q I h
 exact isTrue_not (ha pins s σ H (fun c H1=>Q (!c) H1) I h)
def Zqv (ta tb:TE):TE:=fun σ H Q=>ta σ H fun x H1=>∃ c,x = .bl c/\if c=true then tb σ H1 Q else Q (.bl false) H1
def Ztp (ta tb:TE):TE:=fun σ H Q=>ta σ H fun x H1=>∃ c,x = .bl c/\if c=true then Q (.bl true) H1 else tb σ H1 Q
def Zqw (ta:TE):TE:=fun σ H Q=>ta σ H fun x H1=>∃ c,x = .bl c/\Q (.bl (!c)) H1
theorem Z2d {op} {t:TE}(h:PE X a t):PE X (.BoolOp op [a] pos) t:=fun pins s σ H Q I hw=>BoolOp_one (h pins s σ H Q I hw)
theorem Z2e (ha:PE X a ta) (hb:PE X (.BoolOp .And (b::rest) pos) tb):PE X (.BoolOp .And (a::b::rest) pos) (Zqv ta tb):=by
 intro pins s σ H Q I h
 refine BoolOp_and (thn (ha pins s σ H _ I h) fun v s1 ⟨x,H1,I1,r1,q1⟩=>?_)
 obtain ⟨c,rfl,q1⟩:=q1
 cases r1
 refine wpAny_truthy_bool ?_
 cases c with
 | true=>exact hb pins s1 σ H1 Q I1 q1
 | false=>exact ⟨.bl false,H1,I1,rfl,q1⟩
theorem Z3u (ha:PE X a ta) (hb:PE X (.BoolOp .Or (b::rest) pos) tb):PE X (.BoolOp .Or (a::b::rest) pos) (Ztp ta tb):=by
 intro pins s σ H Q I h
 refine BoolOp_or (thn (ha pins s σ H _ I h) fun v s1 ⟨x,H1,I1,r1,q1⟩=>?_)
 obtain ⟨c,rfl,q1⟩:=q1
 cases r1
 refine wpAny_truthy_bool ?_
 cases c with
 | false=>exact hb pins s1 σ H1 Q I1 q1
 | true=>exact ⟨.bl true,H1,I1,rfl,q1⟩
theorem Z2f (ha:PE X a ta):PE X (.UnaryOp .Not a pos) (Zqw ta):=by
 intro pins s σ H Q I h
 refine UnaryOp_ (thn (ha pins s σ H _ I h) fun v s1 ⟨x,H1,I1,r1,q1⟩=>?_)
 obtain ⟨c,rfl,q1⟩:=q1
 cases r1
 exact not_of (wpAny_truthy_bool ⟨.bl (!c),H1,I1,rfl,q1⟩)
def tIf (t:TT) (ta tb:TE):TE:=fun σ H Q=>t σ H fun c H1=>if c=true then ta σ H1 Q else tb σ H1 Q
theorem Zxt {c:Expr}(hc:PT X c tA) (ha:PE X a ta) (hb:PE X b tb):PE X (.IfExp c a b pos) (tIf tA ta tb):=by
 intro pins s σ H Q I h
 refine wpAny_IfExp (thn (hc pins s σ H _ I h) fun d s1 ⟨H1,I1,q1⟩=>?_)
 cases d with
 | true=>exact ha pins s1 σ H1 Q I1 q1
 | false=>exact hb pins s1 σ H1 Q I1 q1
end
end L2
namespace L2
open PySem PySem.Spec PyProof.Rows
def SqL (K:uFg) (H:Hp) (a:Addr) (xs:List V):Prop :=
 Rd H a (.lst xs) \/
  ∃ (o:Obj) (its:Array Value) (n:Nat),K.lookup a=some o/\o.cls = .type "list" /\ o.dict=none/\o.data = .seq its n/\its.size<=sizeLine/\Vals xs its.toList
def SqT (K:uFg) (H:Hp) (a:Addr) (xs:List V):Prop :=
 Rd H a (.tup xs) \/
  ∃ (o:Obj) (its:Array Value) (n:Nat),K.lookup a=some o/\o.cls = .type "tuple" /\ o.data = .seq its n/\its.size<=sizeLine/\Vals xs its.toList
def Yaa:Value->Option V
 | .none=>some .non
 | .bool b=>some (.bl b)
 | .int i _=>some (.int i)
 | .str x _=>some (.str x)
 | .bytes b _=>some (.byt b)
 | .float b _=>some (.flt b)
 | .ref a=>some (.ref a)
 | .type n=>some (.ty n)
 | _=>none
theorem RelV.abs {x:V}{u:Value}(r:RelV x u):Yaa u=some x:=by
 cases x with
 | non=>cases r; rfl
 | bl _=>cases r; rfl
 | int _=>obtain ⟨t,rfl⟩:=r; rfl
 | str _=>obtain ⟨t,rfl⟩:=r; rfl
 | byt _=>obtain ⟨t,rfl⟩:=r; rfl
 | flt _=>obtain ⟨t,rfl⟩:=r; rfl
 | ref _=>cases r; rfl
 | ty _=>cases r; rfl
theorem RelV.inj {x y:V}{u:Value}(r:RelV x u) (q:RelV y u):x=y:=Option.some.inj (r.abs.symm.trans q.abs)
theorem Vals.inj:∀ {xs ys:List V}{us:List Value},Vals xs us->Vals ys us->xs=ys
 | _,_,_,.nil,.nil=>rfl
 | _,_,_,.cons r t,.cons r' t'=>by rw [r.inj r',Vals.inj t t']
section
variable {X:Cx}{pins:List (Addr×Obj)}{σ:St}{H:Hp}{s:Shared}{a:Addr}{xs ys:List V}
theorem SqL.of {K:uFg}(h:H a=some (.lst xs)):SqL K H a xs:=.inl (.inl h)
theorem SqT.of {K:uFg}(h:H a=some (.tup xs)):SqT K H a xs:=.inl (.inl h)
theorem Inv.list (I:Inv X pins σ H s) (h:SqL X.K H a xs):∃ its:List Value,Vals xs its/\PlainL s.heap a its.toArray/\xs.length<=sizeLine:=by
 rcases h with h | ⟨o,its,n,hk,hc,hd,hs,hz,r⟩
 ·obtain ⟨z,its,n,r,e⟩:=h.ok I.hok
  exact ⟨its,r,⟨_,n,e,rfl,rfl,rfl⟩,z⟩
 ·refine ⟨its.toList,r,⟨o,n,I.kIn a o hk,hc,hd,by simpa using hs⟩,?_⟩
  have e:=r.length
  simp only [Array.length_toList] at e
  lia
theorem Inv.tuple (I:Inv X pins σ H s) (h:SqT X.K H a xs):∃ its:List Value,Vals xs its/\IsTup s.heap a its.toArray/\xs.length<=sizeLine:=by
 rcases h with h | ⟨o,its,n,hk,hc,hs,hz,r⟩
 ·obtain ⟨z,its,r,p⟩:=h.ok I.hok
  exact ⟨its,r,p,z⟩
 ·refine ⟨its.toList,r,⟨o,I.kIn a o hk,hc,n,by simpa using hs⟩,?_⟩
  have e:=r.length
  simp only [Array.length_toList] at e
  lia
theorem Inv.list_inj (I:Inv X pins σ H s) (h:SqL X.K H a xs) (h':SqL X.K H a ys):xs=ys:=by
 obtain ⟨its,r,⟨o,n,e,_,_,d⟩,_⟩:=I.list h
 obtain ⟨its',r',⟨o',n',e',_,_,d'⟩,_⟩:=I.list h'
 rw [e] at e'; cases e'
 rw [d] at d'
 injection d' with d1 _
 have:its=its':=by simpa using congrArg Array.toList d1
 subst this
 exact r.inj r'
theorem Inv.tuple_inj (I:Inv X pins σ H s) (h:SqT X.K H a xs) (h':SqT X.K H a ys):xs=ys:=by
 obtain ⟨its,r,⟨o,e,_,n,d⟩,_⟩:=I.tuple h
 obtain ⟨its',r',⟨o',e',_,n',d'⟩,_⟩:=I.tuple h'
 rw [e] at e'; cases e'
 rw [d] at d'
 injection d' with d1 _
 have:its=its':=by simpa using congrArg Array.toList d1
 subst this
 exact r.inj r'
end
abbrev Cx.wish (X:Cx) (E:Value->Shared->Prop):Cx:={X with xe:=E }
abbrev Cx.nox (X:Cx):Cx:=X.wish fun _ _=>False
theorem Cx.Ok.wish {X:Cx}(ok:X.Ok) (E:Value->Shared->Prop):(X.wish E).Ok :=
 ⟨ok.mod,ok.kind,ok.glob,ok.blt,ok.above,ok.inj,ok.has,ok.cab,ok.hd,ok.frames,ok.stk,ok.exf,ok.bs,ok.bsz,ok.noex,ok.exfs,ok.funs,ok.frf⟩
theorem Cx.Ok.unwish {X:Cx}{E:Value->Shared->Prop}(ok:(X.wish E).Ok):X.Ok :=
 ⟨ok.mod,ok.kind,ok.glob,ok.blt,ok.above,ok.inj,ok.has,ok.cab,ok.hd,ok.frames,ok.stk,ok.exf,ok.bs,ok.bsz,ok.noex,ok.exfs,ok.funs,ok.frf⟩
section
variable {X:Cx}{pins:List (Addr×Obj)}{σ:St}{H:Hp}{s:Shared}{E:Value->Shared->Prop}
theorem Inv.wish (I:Inv X pins σ H s) (E:Value->Shared->Prop):Inv (X.wish E) pins σ H s:=⟨I.ok.wish E,I.os,I.bare,I.base,I.loc,I.cell,I.free,I.freeC,I.pin,I.hok,I.len⟩
theorem Inv.unwish (I:Inv (X.wish E) pins σ H s):Inv X pins σ H s:=⟨I.ok.unwish,I.os,I.bare,I.base,I.loc,I.cell,I.free,I.freeC,I.pin,I.hok,I.len⟩
theorem SP.unwish {D:Ends}{f:Flow}{s':Shared}(h:SP (X.wish E) pins D f s'):SP X pins D f s':=by
 cases f with
 | next=>obtain ⟨σ',H',I,q⟩:=h; exact ⟨σ',H',I.unwish,q⟩
 | brk=>obtain ⟨σ',H',I,q⟩:=h; exact ⟨σ',H',I.unwish,q⟩
 | cont=>obtain ⟨σ',H',I,q⟩:=h; exact ⟨σ',H',I.unwish,q⟩
 | ret u=>obtain ⟨v,σ',H',I,r,q⟩:=h; exact ⟨v,σ',H',I.unwish,r,q⟩
theorem PSs.nox {st:List Stmt}{t:TS}(h:PSs X.nox st t):PSs X st t:=fun pins s σ H D I hw =>
 wpAny_mono (h pins s σ H D (I.wish _) hw) (fun _ _ q=>q.unwish) fun _ _ z=>False.elim z
end
section
variable {X:Cx}{st:Stmt}{rest:List Stmt}{t u:TS}{e:Expr}{te:TE}{pos:Pos}
def Z4:TS:=fun D σ H=>D.nx σ H
def Ul (t u:TS):TS:=fun D σ H=>t {D with nx:=u D } σ H
theorem Zz0:PSs X [] Z4:=fun _ _ σ H _ I h=>wpAny_execs_nil ⟨σ,H,I,h⟩
theorem Zxu (h1:PS X st t) (h2:PSs X rest u):PSs X (st::rest) (Ul t u):=by
 intro pins s σ H D I h
 refine wpAny_execs_cons (thn (h1 pins s σ H {D with nx:=u D } I h) fun f s1 q=>?_)
 cases f with
 | next =>
  obtain ⟨σ',H',I',q⟩:=q
  exact h2 pins s1 σ' H' D I' q
 | ret v=>exact q
 | brk=>exact q
 | cont=>exact q
theorem Zz1 (h1:PS X st t):PSs X [st] t:=by
 intro pins s σ H D I h
 refine wpAny_execs_cons (thn (h1 pins s σ H D I h) fun f s1 q=>?_)
 cases f with
 | next=>exact wpAny_execs_nil q
 | ret v=>exact q
 | brk=>exact q
 | cont=>exact q
theorem Inv.quiet {pins:List (Addr×Obj)}{σ:St}{H:Hp}{s:Shared}(I:Inv X pins σ H s):interactive X.env=false:=by simp [interactive,I.ok.kind]
def Ze3 (te:TE):TS:=fun D σ H=>te σ H fun _ H1=>D.nx σ H1
theorem Zz2 (he:PE X e te) (hs:swapsWith e none pos.line X.env=pure false:=by rfl):PS X (.Expr e pos) (Ze3 te):=by
 intro pins s σ H D I h
 exact wpAny_Expr_any (thn (he pins s σ H _ I h) fun v s1 ⟨x,H1,I1,r1,q1⟩=>⟨σ,H1,I1,q1⟩) I.quiet hs
def Ztq (te:TE):TS:=fun D σ H=>te σ H D.rt
theorem Z2g (he:PE X e te):PS X (.Return (some e) pos) (Ztq te):=by
 intro pins s σ H D I h
 exact wpAny_Return_some (thn (he pins s σ H _ I h) fun v s1 ⟨x,H1,I1,r1,q1⟩=>⟨x,σ,H1,I1,r1,q1⟩)
def Zkv (c:TT) (t u:TS):TS:=fun D σ H=>c σ H fun b H1=>if b=true then t D σ H1 else u D σ H1
theorem Z3v {c:Expr}{a b:List Stmt}{tc:TT}(hc:PT X c tc) (ha:PSs X a t) (hb:PSs X b u):PS X (.If c a b pos) (Zkv tc t u):=by
 intro pins s σ H D I h
 refine wpAny_If (thn (hc pins s σ H _ I h) fun d s1 ⟨H1,I1,q1⟩=>?_)
 cases d with
 | true=>exact ha pins s1 σ H1 D I1 q1
 | false=>exact hb pins s1 σ H1 D I1 q1
end
abbrev TG:=V->St->Hp->(St->Hp->Prop)->Prop
abbrev TGs:=List V->St->Hp->(St->Hp->Prop)->Prop
def PG (X:Cx) (target:Expr) (t:TG):Prop :=
 ∀ (pins:List (Addr×Obj)) (s:Shared) (σ:St) (H:Hp) (v:V) (u:Value) (Q:St->Hp->Prop),Inv X pins σ H s->RelV v u->t v σ H Q ->
  wpAny (model X.prog X.w) X.A (assign target X.env u) (fun _ s'=>∃ σ' H',Inv X pins σ' H' s'/\Q σ' H') X.xe s
def PGs (X:Cx) (ts:List Expr) (t:TGs):Prop :=
 ∀ (pins:List (Addr×Obj)) (s:Shared) (σ:St) (H:Hp) (vs:List V) (us:List Value) (Q:St->Hp->Prop),Inv X pins σ H s->Vals vs us->t vs σ H Q ->
  wpAny (model X.prog X.w) X.A (assignInOrder ((assignEach ts X.env).map (·.2)) us) (fun _ s'=>∃ σ' H',Inv X pins σ' H' s'/\Q σ' H') X.xe s
abbrev Zdt:=V->V->V->Hp->(Hp->Prop)->Prop
def Zkw (X:Cx) (t:Zdt):Prop :=
 ∀ (pins:List (Addr×Obj)) (s:Shared) (σ:St) (H:Hp) (o i v:V) (ov iv u:Value) (Q:Hp->Prop),Inv X pins σ H s->RelV o ov->RelV i iv->RelV v u->t o i v H Q ->
  wpAny (model X.prog X.w) X.A (setItem ov iv u) (fun _ s'=>∃ H',Inv X pins σ H' s'/\Q H') X.xe s
abbrev TIp:=V->V->Hp->VK->Prop
def PIp (X:Cx) (op:Operator) (t:TIp):Prop :=
 ∀ (pins:List (Addr×Obj)) (s:Shared) (σ:St) (H:Hp) (x y:V) (v u:Value) (Q:VK),Inv X pins σ H s->RelV x v->RelV y u->t x y H Q ->
  wpAny (model X.prog X.w) X.A (inplaceOp op v u) (EP X pins σ Q) X.xe s
section
variable {X:Cx}{pos:Pos}
def Ww (i:Nat):TG:=fun v σ H Q=>Q (σ.set i (some v)) H
theorem Zol {i:Nat}{x:Str}(hN:X.N.Nodup) (hi:X.N[i]? = some x) (hx:Loc X.env.scope x) (hf:X.fn x=true\/X.env.scope.names.lookup x=some .local:=by first | exact .inl rfl | exact .inr rfl | assumption):PG X (.Name x pos) (Ww i):=by
 intro pins s σ H v u Q I r h
 exact wpAny_assign_Name (Znz I hN hi hx r (fun s' I'=>⟨_,H,I',h⟩) hf)
def Ztr:TGs:=fun vs σ H Q=>vs = []/\Q σ H
def Zqx (t:TG) (u:TGs):TGs:=fun vs σ H Q=>∃ v r,vs=v::r/\t v σ H fun σ' H'=>u r σ' H' Q
theorem Zz3:PGs X [] Ztr:=by
 intro pins s σ H vs us Q I r h
 obtain ⟨e,h⟩:=h
 subst e
 cases r
 exact assignInOrder_nil ⟨σ,H,I,h⟩
theorem Zxv {e:Expr}{es:List Expr}{t:TG}{u:TGs}(h1:PG X e t) (h2:PGs X es u)
  (hs:(assignEach (e::es) X.env).map (·.2)=assign e X.env::(assignEach es X.env).map (·.2):=by rfl):PGs X (e::es) (Zqx t u):=by
 intro pins s σ H vs us Q I r h
 obtain ⟨v,vr,e1,h⟩:=h
 subst e1
 cases r with
 | cons r rr =>
  rw [hs]
  refine assignInOrder_cons (thn (h1 pins s σ H _ _ _ I r h) fun _ s1 ⟨σ1,H1,I1,q1⟩=>?_)
  exact h2 pins s1 σ1 H1 _ _ Q I1 rr q1
def Zkx (K:uFg) (n:Nat) (t:TGs):TG:=fun v σ H Q=>∃ a xs,v = .ref a/\SqT K H a xs/\xs.length=n/\t xs σ H Q
theorem Zpn {es:List Expr}{k:Nat}{t:TGs}{n:Nat}(hc:X.calm=true) (h:PGs X es t)
  (hn:(assignEach es X.env).length=n:=by rfl) (hst:(assignEach es X.env).findIdx? (·.1)=none:=by rfl):PG X (.Tuple es k pos) (Zkx X.K n t):=by
 intro pins s σ H v u Q I r hw
 obtain ⟨a,xs,e1,hq,hl,hw⟩:=hw
 subst e1
 cases r
 obtain ⟨its,rv,ht,hz⟩:=I.tuple hq
 refine assign_Tuple_tuple (I.ok.hd hc) ht (by simp [hn,← hl,rv.length]) hst fun h' hx=>?_
 have I1:Inv X pins σ H {s with heap:=h' }:=I.kept (t':=s.toks) fun b o e=>hx b o (yD (xF e)) e
 exact h pins _ σ H xs _ Q I1 (by simpa using rv) hw
def Zts (to ti:TE) (t:Zdt):TG:=fun v σ H Q=>to σ H fun o H1=>ti σ H1 fun i H2=>t o i v H2 fun H3=>Q σ H3
theorem Z2h {o i:Expr}{to ti:TE}{t:Zdt}(ho:PE X o to) (hi:PE X i ti) (hs:Zkw X t)
  (ha:∀ v,assign (.Subscript o i pos) X.env v=(do
   let ov ← holding [v] (eval o X.env)
   let iv ← holding [v,ov] (eval i X.env)
   standAt pos
   holding [v,ov,iv] (setItem ov iv v)
   release [v,ov,iv] []):=by intro _; rfl):PG X (.Subscript o i pos) (Zts to ti t):=by
 intro pins s σ H v u Q I r h
 rw [ha]
 refine wpAny_bind (wpAny_holding (thn (ho pins s σ H _ I h) fun ov s1 ⟨x,H1,I1,r1,q1⟩=>?_))
 refine wpAny_bind (wpAny_holding (thn (hi pins s1 σ H1 _ I1 q1) fun iv s2 ⟨y,H2,I2,r2,q2⟩=>?_))
 refine wpAny_bind (wpAny_standAt (wpAny_bind (wpAny_holding (thn (hs pins s2 σ H2 x y v ov iv u _ I2 r1 r2 r q2) fun _ s3 ⟨H3,I3,q3⟩=>?_))))
 exact wpAny_release ⟨σ,H3,I3,q3⟩
def Zaf (te:TE) (g:TG):TS:=fun D σ H=>te σ H fun x H1=>g x σ H1 D.nx
theorem Z2i {tg e:Expr}{te:TE}{g:TG}(he:PE X e te) (hg:PG X tg g) (hs:swapsWithSole [tg] e pos.line X.env=pure false:=by rfl) (hw:swappedStores [tg] e X.env=pure none:=by rfl)
  (h1:(assignEach [tg] X.env).map (·.2) = [assign tg X.env]:=by rfl):PS X (.Assign [tg] e pos) (Zaf te g):=by
 intro pins s σ H D I h
 refine wpAny_Assign_stores (thn (he pins s σ H _ I h) fun v s1 ⟨x,H1,I1,r1,q1⟩=>?_) hs hw
 rw [h1]
 exact thn (hg pins s1 σ H1 x v _ I1 r1 q1) fun _ s2 q=>q
theorem Zpo {i:Nat}{x:Str}{e:Expr}{te:TE}{pos':Pos}(hN:X.N.Nodup) (hi:X.N[i]? = some x) (hx:Loc X.env.scope x) (he:PE X e te) (hs:swapsWith e (some (.Name x pos')) pos.line X.env=pure false:=by rfl) (hf:X.fn x=true\/X.env.scope.names.lookup x=some .local:=by first | exact .inl rfl | exact .inr rfl | assumption) :
  PS X (.Assign [.Name x pos'] e pos) (Zaf te (Ww i)):=by
 intro pins s σ H D I h
 refine wpAny_Assign_Name (thn (he pins s σ H _ I h) fun v s1 ⟨y,H1,I1,r1,q1⟩=>?_) hs
 exact Znz I1 hN hi hx r1 (fun s2 I2=>⟨_,H1,I2,q1⟩) hf
end
section
variable {X:Cx}{pos:Pos}
def Zpp (c:TT) (tb:TS):TS:=fun D σ H=>∃ W:Nat->St->Hp->Prop,(∃ m,W m σ H)/\∀ m σ H,W m σ H ->
 c σ H fun b H1=>if b=true then ∃ N:St->Hp->Prop,(∀ σ' H',N σ' H'->∃ m',m' < m/\W m' σ' H')/\tb {D with nx:=N,ct:=N,bk:=D.nx } σ H1 else D.nx σ H1
theorem Zxw {c:Expr}{body:List Stmt}{tc:TT}{tb:TS}(hp:PassesOwn (model X.prog X.w) X.A X.env X.xe) (hc:PT X c tc) (hb:PSs X body tb):PS X (.While c body [] pos) (Zpp tc tb):=by
 intro pins s σ H D I h
 obtain ⟨W,⟨m0,w0⟩,turn⟩:=h
 refine wpAny_While (codeAny_whileLoop (fun n s'=>∃ σ' H',Inv X pins σ' H' s'/\W n σ' H') ?_ m0 ⟨σ,H,I,w0⟩)
 rintro n s1 ⟨σ1,H1,I1,w1⟩
 refine wpAny_passesOwn hp (thn (hc pins s1 σ1 H1 _ I1 (turn n σ1 H1 w1)) fun b s2 ⟨H2,I2,q2⟩=>?_)
 cases b with
 | true =>
  obtain ⟨N,hN,q2⟩:=q2
  rw [if_pos rfl]
  refine wpAny_passesOwn hp (thn (hb pins s2 σ1 H2 _ I2 q2) fun f s3 q3=>?_)
  cases f with
  | next =>
   obtain ⟨σ3,H3,I3,n3⟩:=q3
   obtain ⟨m',hm,w3⟩:=hN σ3 H3 n3
   exact ⟨m',hm,σ3,H3,I3,w3⟩
  | cont =>
   obtain ⟨σ3,H3,I3,n3⟩:=q3
   obtain ⟨m',hm,w3⟩:=hN σ3 H3 n3
   exact ⟨m',hm,σ3,H3,I3,w3⟩
  | brk=>exact q3
  | ret v=>exact q3
 | false =>
  rw [if_neg xE]
  exact wpAny_execs_nil ⟨σ1,H2,I2,q2⟩
end
structure It where
 go:Nat->Hp->Prop
 yld:Nat->Hp->V->Hp->Prop
 stop:Nat->Hp->Prop
def Vb (X:Cx) (pins:List (Addr×Obj)) (H:Hp) (b:Addr):Prop :=
 H b=none/\b≠X.env.locals/\b∉X.fs/\(b∈X.ex\/X.s₀.heap.objs.size<=b)/\(∀ x c,X.env.cells.lookup x=some c->c≠b)/\∀ p∈X.pn++pins,p.1≠b
theorem Inv.fpOk {X:Cx}{pins:List (Addr×Obj)}{σ:St}{H H':Hp}{s:Shared}{b:Addr}(I:Inv X pins σ H s) (hb:s.heap.objs.size<=b) (hn:H' b=none):Vb X pins H' b:=by
 refine ⟨hn,Nat.ne_of_gt (xY I.lt hb),I.nofs hb,.inr (yK I.sz hb),fun x c e z=>?_,fun p hp z=>?_⟩
 ·obtain ⟨v,q⟩:=I.cell x c e
  exact absurd (xY q.lt (by rw [z]; exact hb)) (Nat.lt_irrefl _)
 ·exact absurd (xY (xF (I.pin p hp).1) (by rw [z]; exact hb)) (Nat.lt_irrefl _)
structure Turn (P:Program) (w:World) (K:uFg) (tg:Expr) (J:It) (fp:List Addr) (it:Addr) (tn:Nat->Heap->Prop):Prop where
 mem:it∈fp
 obj:∀ i h,tn i h->∀ b∈fp,∃ o,h.get? b=some o/\∀ v,o.data ≠ .cell v
 keep:∀ i h h',tn i h->(∀ b∈fp,∀ o,h.get? b=some o->h'.get? b=some o)->tn i h'
 item:∀ (X:Cx),X.prog=P->X.w=w->X.K=K->X.calm=true->∀ (i:Nat) (pins:List (Addr×Obj)) (s:Shared) (σ:St) (H:Hp) (E:Value->Shared->Prop),Inv X pins σ H s->(∀ b∈fp,Vb X pins H b)->tn i s.heap->J.go i H ->
  wpAny (model P w) X.A (pyNext (.ref it)) (fun r s1=>∃ u,r=some u /\
   wpAny (model P w) X.A (letOwnedTupleGo tg (.ref it) u) (fun _ s2=>∃ x H',Inv X pins σ H' s2/\RelV x u/\J.yld i H x H'/\tn (i+1) s2.heap/\∀ b∈fp,H' b=none) E s1) E s
 done:∀ (X:Cx),X.prog=P->X.w=w->X.K=K->X.calm=true->∀ (i:Nat) (pins:List (Addr×Obj)) (s:Shared) (σ:St) (H:Hp) (E:Value->Shared->Prop),Inv X pins σ H s->(∀ b∈fp,Vb X pins H b)->tn i s.heap->J.stop i H ->
  wpAny (model P w) X.A (pyNext (.ref it)) (fun r s1=>r=none/\Inv X pins σ H s1) E s
 self:∀ (A:Around) (i:Nat) (s:Shared) (Q:Value->Shared->Prop) (E:Value->Shared->Prop),tn i s.heap->Q (.ref it) s->wpAny (model P w) A (pyIter (.ref it)) Q E s
abbrev TI:=St->Hp->(It->Hp->Prop)->Prop
def PIE (X:Cx) (pins:List (Addr×Obj)) (σ:St) (tg:Expr) (R:It->Hp->Prop) (itv:Value) (s2:Shared):Prop :=
 ∃ (it:Addr) (fp:List Addr) (tn:Nat->Heap->Prop) (J:It) (H':Hp),itv = .ref it/\Inv X pins σ H' s2/\Turn X.prog X.w X.K tg J fp it tn/\tn 0 s2.heap/\(∀ b∈fp,Vb X pins H' b)/\R J H'
def PI (X:Cx) (tg iter:Expr) (wi:TI):Prop :=
 ∀ (pins:List (Addr×Obj)) (s:Shared) (σ:St) (H:Hp) (R:It->Hp->Prop),Inv X pins σ H s->wi σ H R ->
  wpAny (model X.prog X.w) X.A (eval iter X.env) (fun v s1=>wpAny (model X.prog X.w) X.A (pyIter v) (PIE X pins σ tg R) X.xe s1) X.xe s
theorem Ze4 {M:Model}{A:Around}{E:Value->Shared->Prop}{s:Shared}{tg:Expr}{it:Addr}{u:Value}{o:Obj}{n:String}{vs:Array Value}{Q:Unit->Shared->Prop}(ho:s.heap.get? it=some o) (hc:o.cls = .type n) (hd:o.data = .fields vs)
    (hn : ["enumerate", "zip", "dict_itemiterator", "dict_reverseitemiterator", "odict_iterator", "itertools.zip_longest", "itertools.pairwise"].contains n=false) (hQ:Q () s):wpAny M A (letOwnedTupleGo tg (.ref it) u) Q E s:=by
  unfold letOwnedTupleGo
  cases tg <;> first
    | exact wpAny_pure hQ
    | (cases u <;> first
        | exact wpAny_pure hQ
        | (refine wpAny_bind (wpAny_load ho ?_)
           rw [hc,hd]
           show wpAny M A (if (["enumerate", "zip", "dict_itemiterator", "dict_reverseitemiterator", "odict_iterator", "itertools.zip_longest", "itertools.pairwise"].contains n && vs[0]? == some (rawInt _))=true then _ else _) Q E s
           rw [if_neg (by intro h; rw [hn,Bool.false_and] at h; cases h)]
           exact wpAny_pure hQ))
def Itl (K:uFg) (a:Addr):It :=
 ⟨fun i H=>∃ xs x,SqL K H a xs/\xs[i]? = some x,fun i H x H'=>H'=H/\∀ xs,SqL K H a xs->xs[i]? = some x,fun i H=>∃ xs,SqL K H a xs/\xs.length<=i⟩
def Itt (K:uFg) (a:Addr):It :=
 ⟨fun i H=>∃ xs x,SqT K H a xs/\xs[i]? = some x,fun i H x H'=>H'=H/\∀ xs,SqT K H a xs->xs[i]? = some x,fun i H=>∃ xs,SqT K H a xs/\xs.length<=i⟩
def Itr (lo:Int) (n:Nat):It:=⟨fun i _=>i < n,fun i H x H'=>H'=H/\x = .int (lo+i),fun i _=>n<=i⟩
theorem Zwv {P:Program}{w:World}{K:uFg}{tg:Expr}(a it:Addr):Turn P w K tg (Itl K a) [it] it (fun i h=>h.IsListIter it a i) where
 mem:=by simp
 obj:=fun i h st b hb=>by
  have e:b=it:=by simpa using hb
  subst e
  obtain ⟨o,e,c,d⟩:=st
  exact ⟨o,e,fun v z=>by rw [d] at z; cases z⟩
 keep:=fun i h h' st k=>st.at fun o e=>k it (by simp) o e
 item:=by
  intro X hP hw hK hc i pins s σ H E I hf st hg
  subst hP hw hK
  obtain ⟨xs,x,hq,hx⟩:=hg
  obtain ⟨its,rv,p,hz⟩:=I.list hq
  obtain ⟨u,hu,ru⟩:=rv.get hx
  obtain ⟨f0,f1,f2,f3,f4,f5⟩:=hf it (by simp)
  refine wpAny_pyNext_list_item st p.isList (x:=u) (by simpa using hu) fun h' st' sb=>?_
  have I1:Inv X pins σ H {s with heap:=h' }:=I.turned (t':=s.toks) (fun b o hb e=>(sb.2 b hb).trans e) f0 f1 f3 f4 f5
  obtain ⟨o,e,c,d⟩:=id st'
  exact ⟨u,rfl,Ze4 (s:={s with heap:=h' }) e c d (by decide) ⟨x,H,I1,ru,⟨rfl,fun ys hy=>by rw [I.list_inj hy hq]; exact hx⟩,st',fun b hb=>(hf b hb).1⟩⟩
 done:=by
  intro X hP hw hK hc i pins s σ H E I hf st hg
  subst hP hw hK
  obtain ⟨xs,hq,hx⟩:=hg
  obtain ⟨its,rv,p,hz⟩:=I.list hq
  obtain ⟨f0,f1,f2,f3,f4,f5⟩:=hf it (by simp)
  have hl:=rv.length
  exact wpAny_pyNext_list_end (I.ok.hd hc) st p.isList (by simp; lia) fun h' eb=>⟨rfl,I.turned (t':=s.toks) (fun b o hb e=>eb b o hb e) f0 f1 f3 f4 f5⟩
 self:=fun _ _ _ _ _ st h=>wpAny_pyIter_listiter st h
theorem Zvc {P:Program}{w:World}{K:uFg}{tg:Expr}(a it:Addr):Turn P w K tg (Itt K a) [it] it (fun i h=>h.IsTupleIter it a i) where
 mem:=by simp
 obj:=fun i h st b hb=>by
  have e:b=it:=by simpa using hb
  subst e
  obtain ⟨o,e,c,d⟩:=st
  exact ⟨o,e,fun v z=>by rw [d] at z; cases z⟩
 keep:=fun i h h' st k=>st.at fun o e=>k it (by simp) o e
 item:=by
  intro X hP hw hK hc i pins s σ H E I hf st hg
  subst hP hw hK
  obtain ⟨xs,x,hq,hx⟩:=hg
  obtain ⟨its,rv,p,hz⟩:=I.tuple hq
  obtain ⟨u,hu,ru⟩:=rv.get hx
  obtain ⟨f0,f1,f2,f3,f4,f5⟩:=hf it (by simp)
  refine wpAny_pyNext_tuple_item st (show s.heap.IsTuple a its.toArray from p) (x:=u) (by simpa using hu) fun h' st' sb=>?_
  have I1:Inv X pins σ H {s with heap:=h' }:=I.turned (t':=s.toks) (fun b o hb e=>(sb.2 b hb).trans e) f0 f1 f3 f4 f5
  obtain ⟨o,e,c,d⟩:=id st'
  exact ⟨u,rfl,Ze4 (s:={s with heap:=h' }) e c d (by decide) ⟨x,H,I1,ru,⟨rfl,fun ys hy=>by rw [I.tuple_inj hy hq]; exact hx⟩,st',fun b hb=>(hf b hb).1⟩⟩
 done:=by
  intro X hP hw hK hc i pins s σ H E I hf st hg
  subst hP hw hK
  obtain ⟨xs,hq,hx⟩:=hg
  obtain ⟨its,rv,p,hz⟩:=I.tuple hq
  obtain ⟨f0,f1,f2,f3,f4,f5⟩:=hf it (by simp)
  have hl:=rv.length
  exact wpAny_pyNext_tuple_end (I.ok.hd hc) st (show s.heap.IsTuple a its.toArray from p) (by simp; lia) fun h' eb=>⟨rfl,I.turned (t':=s.toks) (fun b o hb e=>eb b o hb e) f0 f1 f3 f4 f5⟩
 self:=fun _ _ _ _ _ st h=>wpAny_pyIter_tupleiter st h
theorem Zvd {P:Program}{w:World}{K:uFg}{tg:Expr}(it:Addr) (lo:Int) (n:Nat):Turn P w K tg (Itr lo n) [it] it (fun i h=>IsRangeIter h it (lo+(i:Nat) * 1) ((n:Int) - (i:Nat)) 1) where
 mem:=by simp
 obj:=fun i h st b hb=>by
  have e:b=it:=by simpa using hb
  subst e
  exact ⟨_,st,fun v z=>by
   have z':Data.fields _=Data.cell v:=z
   cases z'⟩
 keep:=fun i h h' st k=>k it (by simp) _ st
 item:=by
  intro X hP hw hK hc i pins s σ H E I hf st hg
  subst hP hw hK
  obtain ⟨f0,f1,f2,f3,f4,f5⟩:=hf it (by simp)
  have W:=Walks.range (prog:=X.prog) (w:=X.w) (I.ok.hd hc) it lo 1 n
  refine W.item i s _ _ hg st fun v h' tk hv st' kk=>?_
  obtain ⟨t,rfl⟩:=hv
  have I1:Inv X pins σ H {s with heap:=h',toks:=tk }:=I.turned (fun b o hb e=>kk b o (by simpa using hb) e) f0 f1 f3 f4 f5
  refine ⟨_,rfl,Ze4 (s:={s with heap:=h',toks:=tk }) (n := "range_iterator") st' rfl rfl (by decide) ⟨.int (lo+i),H,I1,⟨t,?_⟩,⟨rfl,rfl⟩,st',fun b hb=>(hf b hb).1⟩⟩
  rw [Int.mul_one]
 done:=by
  intro X hP hw hK hc i pins s σ H E I hf st hg
  subst hP hw hK
  obtain ⟨f0,f1,f2,f3,f4,f5⟩:=hf it (by simp)
  exact wpAny_pyNext_range_end (I.ok.hd hc) st (by have:n<=i:=hg; lia) fun h' eb=>⟨rfl,I.turned (t':=s.toks) (fun b o hb e=>eb b o hb e) f0 f1 f3 f4 f5⟩
 self:=fun _ _ _ _ _ st h=>wpAny_pyIter_rangeiter st h
end L2
namespace L2
open PySem PySem.Spec PyProof.Rows
section
variable {X:Cx}{tg:Expr}
def Zqy (K:uFg) (tl:TE):TI:=fun σ H R=>tl σ H fun x H1=>∃ a,x = .ref a/\(∃ xs,SqL K H1 a xs)/\R (Itl K a) H1
def Ztt (K:uFg) (tl:TE):TI:=fun σ H R=>tl σ H fun x H1=>∃ a,x = .ref a/\(∃ xs,SqT K H1 a xs)/\R (Itt K a) H1
theorem Zz4 {l:Expr}{tl:TE}(hl:PE X l tl):PI X tg l (Zqy X.K tl):=by
 intro pins s σ H R I h
 refine thn (hl pins s σ H _ I h) fun v s1 ⟨x,H1,I1,r1,q1⟩=>?_
 obtain ⟨a,e,⟨xs,hq⟩,q⟩:=q1
 subst e
 cases r1
 obtain ⟨its,rv,p,hz⟩:=I1.list hq
 refine wpAny_pyIter_list p.isList ?_
 refine ⟨s1.heap.objs.size,[s1.heap.objs.size],_,_,H1,rfl,I1.kept (t':=s1.toks) fun b o e=>xA _ e,Zwv a _,⟨_,xI _ rfl,rfl,rfl⟩,fun b hb=>?_,q⟩
 have e:b=s1.heap.objs.size:=by simpa using hb
 subst e
 exact I1.fpOk (xB _) (I1.hok.fresh (xB _))
theorem Z2j {l:Expr}{tl:TE}(hl:PE X l tl):PI X tg l (Ztt X.K tl):=by
 intro pins s σ H R I h
 refine thn (hl pins s σ H _ I h) fun v s1 ⟨x,H1,I1,r1,q1⟩=>?_
 obtain ⟨a,e,⟨xs,hq⟩,q⟩:=q1
 subst e
 cases r1
 obtain ⟨its,rv,p,hz⟩:=I1.tuple hq
 refine wpAny_pyIter_tuple (show s1.heap.IsTuple a its.toArray from p) ?_
 refine ⟨s1.heap.objs.size,[s1.heap.objs.size],_,_,H1,rfl,I1.kept (t':=s1.toks) fun b o e=>xA _ e,Zvc a _,⟨_,xI _ rfl,rfl,rfl⟩,fun b hb=>?_,q⟩
 have e:b=s1.heap.objs.size:=by simpa using hb
 subst e
 exact I1.fpOk (xB _) (I1.hok.fresh (xB _))
theorem Zxx {pins:List (Addr×Obj)}{σ:St}{H:Hp}{s:Shared}{R:It->Hp->Prop}{E:Value->Shared->Prop}{lo hi:Int}{t u v:Tok}{tk:Nat}(I:Inv X pins σ H s) (h1 : -(2 ^ 62)<=lo) (h2:lo < 2 ^ 62) (h3 : -(2 ^ 62)<=hi) (h4:hi < 2 ^ 62)
  (q:R (Itr lo (hi - lo).toNat) H):wpAny (model X.prog X.w) X.A (pyIter (.ref s.heap.objs.size)) (PIE X pins σ tg R) E {s with heap:=s.heap.push {cls:=.type "range", data:=.fields #[.int lo t,.int hi u,.int 1 v] },toks:=tk }:=by
 refine wpAny_pyIter_range (IsRange.new ..) (small_one h1 h2 h3 h4) ?_
 have I1:Inv X pins σ H {s with heap:=s.heap.push {cls:=.type "range", data:=.fields #[.int lo t,.int hi u,.int 1 v] },toks:=tk }:=I.kept fun b o e=>xA _ e
 refine ⟨(s.heap.push {cls:=.type "range", data:=.fields #[.int lo t,.int hi u,.int 1 v] }).objs.size,[(s.heap.push {cls:=.type "range", data:=.fields #[.int lo t,.int hi u,.int 1 v] }).objs.size],_,_,H,rfl,
  I1.kept (t':=tk) fun b o e=>xA _ e,Zvd _ lo (hi - lo).toNat,?_,fun b hb=>?_,q⟩
 ·have e1:lo+((0:Nat):Int) * 1=lo:=by simp
  have e2:(((hi - lo).toNat:Nat):Int) - ((0:Nat):Int)=Builtin.Range.rangeSize lo hi 1:=by rw [rangeSize_one]; split <;> lia
  show IsRangeIter _ _ (lo+((0:Nat):Int) * 1) ((((hi - lo).toNat:Nat):Int) - ((0:Nat):Int)) 1
  rw [e1,e2]
  exact xI _ rfl
 ·have e:b=(s.heap.push {cls:=.type "range", data:=.fields #[.int lo t,.int hi u,.int 1 v] }).objs.size:=by simpa using hb
  subst e
  exact I1.fpOk (xB _) (I1.hok.fresh (xB _))
def Zqz (ta:TA):TI:=fun σ H R=>ta σ H fun vs H1=>∃ j:Int,vs = [.int j] /\ -(2 ^ 62)<=j/\j < 2 ^ 62/\R (Itr 0 j.toNat) H1
theorem Zww {a:Expr}{ta:TA}{p pos:Pos}(hg:Gl X "range") (hm:X.mg "range" = none) (ha:PA X [a] ta) (hs:starEach [a] X.env = [(false,eval a X.env)]:=by rfl):PI X tg (.Call (.Name "range" p) [a] [] pos) (Zqz ta):=by
 intro pins s σ H R I h
 refine Call_ (Zc3 I hg hm boot_range (PyProof.Rows.callWith_type1 (thn (ha pos pins s σ H _ I h) fun us s1 ⟨vs,H1,I1,r1,q1⟩=>?_) hs rfl))
 obtain ⟨j,e,q1,q2,q⟩:=q1
 subst e
 cases r1 with
 | cons r rr =>
  cases rr
  obtain ⟨t,rfl⟩:=r
  exact call_range_1 (Zxx I1 (by lia) (by lia) q1 q2 (by simpa using q))
def Yab (wi:TI) (g:TG) (tb:TS):TS:=fun D σ H=>wi σ H fun J H1=>∃ W:Nat->Nat->St->Hp->Prop,(∃ m,W 0 m σ H1)/\∀ i m σ H,W i m σ H ->
 (J.stop i H/\D.nx σ H)\/(J.go i H/\∃ N:St->Hp->Prop,(∀ σ' H',N σ' H'->∃ m',m' < m/\W (i+1) m' σ' H')/\∀ x H',J.yld i H x H'->g x σ H' fun σ2 H2=>tb {D with nx:=N,ct:=N,bk:=D.nx } σ2 H2)
def Zao (fp:List Addr) (h:Heap):List (Addr×Obj):=fp.filterMap fun b=>(h.get? b).map fun o=>(b,o)
theorem Zcu {fp:List Addr}{h:Heap}{b:Addr}{o:Obj}(hb:b∈fp) (e:h.get? b=some o):(b,o)∈Zao fp h:=List.mem_filterMap.mpr ⟨b,hb,by rw [e]; rfl⟩
theorem Znf {fp:List Addr}{h:Heap}{p:Addr×Obj}(hp:p∈Zao fp h):p.1∈fp/\h.get? p.1=some p.2:=by
 obtain ⟨b,hb,e⟩:=List.mem_filterMap.mp hp
 cases q:h.get? b with
 | none=>rw [q] at e; cases e
 | some o =>
  rw [q] at e
  have e':(b,o)=p:=Option.some.inj e
  subst e'
  exact ⟨hb,q⟩
theorem Inv.pinned {pins:List (Addr×Obj)}{σ:St}{H:Hp}{s:Shared}{fp:List Addr}(I:Inv X pins σ H s) (hf:∀ b∈fp,Vb X pins H b) (ho:∀ b∈fp,∃ o,s.heap.get? b=some o/\∀ v,o.data ≠ .cell v):Inv X (pins++Zao fp s.heap) σ H s :=
 I.pins_of fun p hp=>(xS.mp hp).elim (fun z=>I.pin p (xN _ z)) fun z=>by
  obtain ⟨hb,e⟩:=Znf z
  obtain ⟨f0,f1,f2,_⟩:=hf p.1 hb
  obtain ⟨o,e',d⟩:=ho p.1 hb
  rw [e] at e'; cases e'
  exact ⟨e,f0,f1,f2,d⟩
theorem Inv.unpinned {pins pl:List (Addr×Obj)}{σ:St}{H:Hp}{s:Shared}(I:Inv X (pins++pl) σ H s):Inv X pins σ H s:=I.pins_of fun p hp=>I.pin p (xN _ (List.mem_append_left _ hp))
theorem Z2k {iter:Expr}{body:List Stmt}{wi:TI}{g:TG}{tb:TS}{pos:Pos}(hp:PassesOwn (model X.prog X.w) X.A X.env X.xe) (hc:X.calm=true) (hi:PI X tg iter wi) (hg:PG X tg g) (hb:PSs X body tb)
  (hs:∀ x,foldedSetIterable iter X.env x=pure x:=by intro _; rfl):PS X (.For tg iter body [] pos) (Yab wi g tb):=by
 intro pins s σ H D I h
 refine wpAny_For (thn (hi pins s σ H _ I h) fun v s1 h1=>thn h1 fun itv s2 h2=>?_) hs
 obtain ⟨it,fp,tn,J,H2,e,I2,T,st2,f2,W,⟨m0,w0⟩,turn⟩:=h2
 subst e
 have stat:∀ {H':Hp},(∀ b∈fp,H' b=none)->∀ b∈fp,Vb X pins H' b:=fun hn b hb=>⟨hn b hb,(f2 b hb).2⟩
 refine codeAny_forLoop_any (fun n s'=>∃ i σ' H',Inv X pins σ' H' s'/\tn i s'.heap/\(∀ b∈fp,H' b=none)/\W i n σ' H') ?_ m0 ⟨0,σ,H2,I2,st2,fun b hb=>(f2 b hb).1,w0⟩
 rintro n s3 ⟨i,σ3,H3,I3,st3,fr3,w3⟩
 rcases turn i n σ3 H3 w3 with ⟨stop,qn⟩ | ⟨go,N,hN,step⟩
 ·refine wpAny_passesOwn hp (thn (T.done X rfl rfl rfl hc i pins s3 σ3 H3 X.xe I3 (stat fr3) st3 stop) fun r s4 ⟨hr,I4⟩=>?_)
  subst hr
  exact wpAny_execs_nil ⟨σ3,H3,I4,qn⟩
 ·refine wpAny_passesOwn hp (thn (T.item X rfl rfl rfl hc i pins s3 σ3 H3 X.xe I3 (stat fr3) st3 go) fun r s4 ⟨u,hr,h4⟩=>?_)
  subst hr
  refine wpAny_passesOwn hp (thn h4 fun _ s5 ⟨x,H5,I5,r5,y5,st5,fr5⟩=>?_)
  have I5':=I5.pinned (stat fr5) (T.obj _ _ st5)
  refine wpAny_passesOwn hp (thn (hg _ s5 σ3 H5 x u _ I5' r5 (step x H5 y5)) fun _ s6 ⟨σ6,H6,I6,q6⟩=>?_)
  refine wpAny_passesOwn hp (thn (hb _ s6 σ6 H6 _ I6 q6) fun f s7 q7=>?_)
  have again:∀ {σ7:St}{H7:Hp},Inv X (pins++Zao fp s5.heap) σ7 H7 s7->N σ7 H7->∃ m,m < n/\∃ i σ' H',Inv X pins σ' H' s7/\tn i s7.heap/\(∀ b∈fp,H' b=none)/\W i m σ' H':=fun {σ7 H7} I7 n7=>by
   obtain ⟨m',hm,w7⟩:=hN σ7 H7 n7
   refine ⟨m',hm,i+1,σ7,H7,I7.unpinned,T.keep _ _ _ st5 fun b hb o e=>(I7.pin (b,o) (xN _ (xN _ (Zcu hb e)))).1,fun b hb=>?_,w7⟩
   obtain ⟨o,e,d⟩:=T.obj _ _ st5 b hb
   exact (I7.pin (b,o) (xN _ (xN _ (Zcu hb e)))).2.1
  cases f with
  | next=>obtain ⟨σ7,H7,I7,n7⟩:=q7; exact again I7 n7
  | cont=>obtain ⟨σ7,H7,I7,n7⟩:=q7; exact again I7 n7
  | brk=>obtain ⟨σ7,H7,I7,q7⟩:=q7; exact ⟨σ7,H7,I7.unpinned,q7⟩
  | ret v=>obtain ⟨x7,σ7,H7,I7,r7,q7⟩:=q7; exact ⟨x7,σ7,H7,I7.unpinned,r7,q7⟩
end
theorem Zxy {K:uFg}{a:Addr}{xs:List V}{g:TG}{tb:TS}{D:Ends}{σ:St}{H:Hp}(Pv:Nat->St->Hp->Prop) (h0:Pv 0 σ H) (hl:∀ i σ H,i<=xs.length->Pv i σ H->SqL K H a xs)
  (hs:∀ i x σ H,xs[i]? = some x->Pv i σ H->g x σ H fun σ2 H2=>tb {D with nx:=Pv (i+1),ct:=Pv (i+1),bk:=D.nx } σ2 H2) (hd:∀ σ H,Pv xs.length σ H->D.nx σ H) :
  ∃ W:Nat->Nat->St->Hp->Prop,(∃ m,W 0 m σ H)/\∀ i m σ H,W i m σ H ->
   ((Itl K a).stop i H/\D.nx σ H)\/((Itl K a).go i H/\∃ N:St->Hp->Prop,(∀ σ' H',N σ' H'->∃ m',m' < m/\W (i+1) m' σ' H')/\∀ x H',(Itl K a).yld i H x H'->g x σ H' fun σ2 H2=>tb {D with nx:=N,ct:=N,bk:=D.nx } σ2 H2):=by
 refine ⟨fun i m σ H=>m=xs.length - i/\i<=xs.length/\Pv i σ H,⟨xs.length,by simp,yQ _,h0⟩,?_⟩
 rintro i m σ H ⟨rfl,hi,p⟩
 have q:=hl i σ H hi p
 by_cases hlt:i < xs.length
 ·refine .inr ⟨⟨xs,xs[i],q,by simp [hlt]⟩,Pv (i+1),fun σ' H' p'=>⟨xs.length - (i+1),by lia,rfl,hlt,p'⟩,fun x H' y=>?_⟩
  obtain ⟨e,y⟩:=y
  subst e
  exact hs i x σ _ (y xs q) p
 ·have e:i=xs.length:=by lia
  subst e
  exact .inl ⟨⟨xs,q,xB _⟩,hd σ H p⟩
theorem Zz5 {K:uFg}{a:Addr}{xs:List V}{g:TG}{tb:TS}{D:Ends}{σ:St}{H:Hp}(Pv:Nat->St->Hp->Prop) (h0:Pv 0 σ H) (hl:∀ i σ H,i<=xs.length->Pv i σ H->SqT K H a xs)
  (hs:∀ i x σ H,xs[i]? = some x->Pv i σ H->g x σ H fun σ2 H2=>tb {D with nx:=Pv (i+1),ct:=Pv (i+1),bk:=D.nx } σ2 H2) (hd:∀ σ H,Pv xs.length σ H->D.nx σ H) :
  ∃ W:Nat->Nat->St->Hp->Prop,(∃ m,W 0 m σ H)/\∀ i m σ H,W i m σ H ->
   ((Itt K a).stop i H/\D.nx σ H)\/((Itt K a).go i H/\∃ N:St->Hp->Prop,(∀ σ' H',N σ' H'->∃ m',m' < m/\W (i+1) m' σ' H')/\∀ x H',(Itt K a).yld i H x H'->g x σ H' fun σ2 H2=>tb {D with nx:=N,ct:=N,bk:=D.nx } σ2 H2):=by
 refine ⟨fun i m σ H=>m=xs.length - i/\i<=xs.length/\Pv i σ H,⟨xs.length,by simp,yQ _,h0⟩,?_⟩
 rintro i m σ H ⟨rfl,hi,p⟩
 have q:=hl i σ H hi p
 by_cases hlt:i < xs.length
 ·refine .inr ⟨⟨xs,xs[i],q,by simp [hlt]⟩,Pv (i+1),fun σ' H' p'=>⟨xs.length - (i+1),by lia,rfl,hlt,p'⟩,fun x H' y=>?_⟩
  obtain ⟨e,y⟩:=y
  subst e
  exact hs i x σ _ (y xs q) p
 ·have e:i=xs.length:=by lia
  subst e
  exact .inl ⟨⟨xs,q,xB _⟩,hd σ H p⟩
theorem Zwx {lo:Int}{n:Nat}{g:TG}{tb:TS}{D:Ends}{σ:St}{H:Hp}(Pv:Nat->St->Hp->Prop) (h0:Pv 0 σ H)
  (hs:∀ i σ H,i < n->Pv i σ H->g (.int (lo+i)) σ H fun σ2 H2=>tb {D with nx:=Pv (i+1),ct:=Pv (i+1),bk:=D.nx } σ2 H2) (hd:∀ σ H,Pv n σ H->D.nx σ H) :
  ∃ W:Nat->Nat->St->Hp->Prop,(∃ m,W 0 m σ H)/\∀ i m σ H,W i m σ H ->
   ((Itr lo n).stop i H/\D.nx σ H)\/((Itr lo n).go i H/\∃ N:St->Hp->Prop,(∀ σ' H',N σ' H'->∃ m',m' < m/\W (i+1) m' σ' H')/\∀ x H',(Itr lo n).yld i H x H'->g x σ H' fun σ2 H2=>tb {D with nx:=N,ct:=N,bk:=D.nx } σ2 H2):=by
 refine ⟨fun i m σ H=>m=n - i/\i<=n/\Pv i σ H,⟨n,by simp,yQ _,h0⟩,?_⟩
 rintro i m σ H ⟨rfl,hi,p⟩
 by_cases hlt:i < n
 ·refine .inr ⟨hlt,Pv (i+1),fun σ' H' p'=>⟨n - (i+1),by lia,rfl,hlt,p'⟩,fun x H' y=>?_⟩
  obtain ⟨e,y⟩:=y
  subst e y
  exact hs i σ _ hlt p
 ·have e:i=n:=by lia
  subst e
  exact .inl ⟨xB _,hd σ H p⟩
end L2
namespace L2
open PySem PySem.Spec PyProof.Rows
abbrev R2:=V->V->Hp->VK->Prop
def OpR (X:Cx) (f:Value->Value->Sem Value) (r:R2):Prop :=
 ∀ (pins:List (Addr×Obj)) (s:Shared) (σ:St) (H:Hp) (x y:V) (v u:Value) (Q:VK),Inv X pins σ H s->RelV x v->RelV y u->r x y H Q ->
  wpAny (model X.prog X.w) X.A (f v u) (EP X pins σ Q) X.xe s
def UnR (X:Cx) (f:Value->Sem Value) (r:V->Hp->VK->Prop):Prop :=
 ∀ (pins:List (Addr×Obj)) (s:Shared) (σ:St) (H:Hp) (x:V) (v:Value) (Q:VK),Inv X pins σ H s->RelV x v->r x H Q ->
  wpAny (model X.prog X.w) X.A (f v) (EP X pins σ Q) X.xe s
def Wn (X:Cx) (f:Value) (r:List V->Hp->VK->Prop):Prop :=
 ∀ (pins:List (Addr×Obj)) (s:Shared) (σ:St) (H:Hp) (xs:List V) (us:List Value) (Q:VK),Inv X pins σ H s->Vals xs us->r xs H Q ->
  wpAny (model X.prog X.w) X.A (call f us) (EP X pins σ Q) X.xe s
def Yac (X:Cx) (r:V->Hp->(Bool->Hp->Prop)->Prop):Prop :=
 ∀ (pins:List (Addr×Obj)) (s:Shared) (σ:St) (H:Hp) (x:V) (v:Value) (Q:Bool->Hp->Prop),Inv X pins σ H s->RelV x v->r x H Q ->
  wpAny (model X.prog X.w) X.A (truthy v) (TP X pins σ Q) X.xe s
def tOp (r:R2) (ta tb:TE):TE:=fun σ H Q=>ta σ H fun x H1=>tb σ H1 fun y H2=>r x y H2 Q
def tUn (r:V->Hp->VK->Prop) (ta:TE):TE:=fun σ H Q=>ta σ H fun x H1=>r x H1 Q
def rI (C:Int->Int->Prop) (g:Int->Int->V):R2:=fun x y H Q=>∃ i j,x = .int i/\y = .int j/\C i j/\Q (g i j) H
def rI0 (g:Int->Int->V):R2:=fun x y H Q=>∃ i j,x = .int i/\y = .int j/\Q (g i j) H
def rU (g:Int->V):V->Hp->VK->Prop:=fun x H Q=>∃ i,x = .int i/\Q (g i) H
section
variable {X:Cx}{a b c:Expr}{ta tb tc:TE}{pos:Pos}
theorem Zky (ha:PE X a ta) (hb:PE X b tb) {pins:List (Addr×Obj)}{s:Shared}{σ:St}{H:Hp}{R:V->V->Hp->Prop}(I:Inv X pins σ H s)
  (h:ta σ H fun x H1=>tb σ H1 fun y H2=>R x y H2) {Q:Value->Shared->Prop}{f:Value->Value->Sem Value}
  (hf:∀ v u s2 x y H2,Inv X pins σ H2 s2->RelV x v->RelV y u->R x y H2->wpAny (model X.prog X.w) X.A (f v u) Q X.xe s2) :
  wpAny (model X.prog X.w) X.A (eval a X.env) (fun v s₁=>wpAny (model X.prog X.w) X.A (eval b X.env) (fun u s₂=>wpAny (model X.prog X.w) X.A (f v u) Q X.xe s₂) X.xe s₁) X.xe s:=by
 refine thn (ha pins s σ H _ I h) fun v s1 ⟨x,H1,I1,r1,q1⟩=>?_
 refine thn (hb pins s1 σ H1 _ I1 q1) fun u s2 ⟨y,H2,I2,r2,q2⟩=>?_
 exact hf v u s2 x y H2 I2 r1 r2 q2
theorem Z3w {op:Operator}{r:R2}(ho:OpR X (binaryOp op) r) (ha:PE X a ta) (hb:PE X b tb):PE X (.BinOp a op b pos) (tOp r ta tb):=by
 intro pins s σ H Q I h
 exact wpAny_BinOp (Zky ha hb I h fun v u s2 x y H2 I2 rx ry q=>ho pins s2 σ H2 x y v u Q I2 rx ry q)
theorem Z3x {op:UnaryOp}{r:V->Hp->VK->Prop}(ho:UnR X (unaryOp op) r) (ha:PE X a ta):PE X (.UnaryOp op a pos) (tUn r ta):=by
 intro pins s σ H Q I h
 exact UnaryOp_ (thn (ha pins s σ H _ I h) fun v s1 ⟨x,H1,I1,r1,q1⟩=>ho pins s1 σ H1 x v Q I1 r1 q1)
theorem opI {f:Value->Value->Sem Value}{C:Int->Int->Prop}{g:Int->Int->Int}
  (rule:∀ (i j:Int) (t u:Tok) (s:Shared) (Q:Value->Shared->Prop) (E:Value->Shared->Prop),C i j->Q (.int (g i j) s.toks) {s with toks:=s.toks+1 }->wpAny (model X.prog X.w) X.A (f (.int i t) (.int j u)) Q E s) :
  OpR X f (rI C fun i j=>.int (g i j)):=by
 intro pins s σ H x y v u Q I rx ry h
 obtain ⟨i,j,rfl,rfl,hc,q⟩:=h
 obtain ⟨t,rfl⟩:=rx
 obtain ⟨t',rfl⟩:=ry
 exact rule i j t t' s _ _ hc ⟨.int (g i j),H,I.tok _,⟨_,rfl⟩,q⟩
theorem Ztu {f:Value->Value->Sem Value}{g:Int->Int->Int}
  (rule:∀ (i j:Int) (t u:Tok) (s:Shared) (Q:Value->Shared->Prop) (E:Value->Shared->Prop),Q (.int (g i j) s.toks) {s with toks:=s.toks+1 }->wpAny (model X.prog X.w) X.A (f (.int i t) (.int j u)) Q E s) :
  OpR X f (rI0 fun i j=>.int (g i j)):=by
 intro pins s σ H x y v u Q I rx ry h
 obtain ⟨i,j,rfl,rfl,q⟩:=h
 obtain ⟨t,rfl⟩:=rx
 obtain ⟨t',rfl⟩:=ry
 exact rule i j t t' s _ _ ⟨.int (g i j),H,I.tok _,⟨_,rfl⟩,q⟩
theorem Zfn {f:Value->Value->Sem Value}{g:Int->Int->Bool}
  (rule:∀ (i j:Int) (t u:Tok) (s:Shared) (Q:Value->Shared->Prop) (E:Value->Shared->Prop),Q (.bool (g i j)) s->wpAny (model X.prog X.w) X.A (f (.int i t) (.int j u)) Q E s) :
  OpR X f (rI0 fun i j=>.bl (g i j)):=by
 intro pins s σ H x y v u Q I rx ry h
 obtain ⟨i,j,rfl,rfl,q⟩:=h
 obtain ⟨t,rfl⟩:=rx
 obtain ⟨t',rfl⟩:=ry
 exact rule i j t t' s _ _ ⟨.bl (g i j),H,I,rfl,q⟩
def Zkz (i j:Int):Prop:=0 < j/\j < 1073741824
def Zk0 (i j:Int):Prop:=0<=j/\j<=1000000/\i.natAbs < 2 ^ 64
def CMul (i j:Int):Prop:=(-(2 ^ 64) < i/\i < 2 ^ 64)\/(-(2 ^ 64) < j/\j < 2 ^ 64)
theorem CMul.ok {i j:Int}(h:CMul i j):IntMulOk i j:=by
 rcases h with ⟨h1,h2⟩ | ⟨h1,h2⟩
 ·exact .of_left (intBits_le_64 h1 h2)
 ·exact .of_right (intBits_le_64 h1 h2)
theorem Z2l:OpR X (binaryOp .Add) (rI0 fun i j=>.int (i+j)):=Ztu fun _ _ _ _ _ _ _ q=>add_int q
theorem Z2m:OpR X (binaryOp .Sub) (rI0 fun i j=>.int (i - j)):=Ztu fun _ _ _ _ _ _ _ q=>sub_int q
theorem Z2n:OpR X (binaryOp .Mult) (rI CMul fun i j=>.int (i * j)):=opI fun _ _ _ _ _ _ _ hc q=>mul_int q hc.ok
theorem Zz6:OpR X (binaryOp .FloorDiv) (rI Zkz fun i j=>.int (i / j)):=opI fun i j _ _ _ _ _ hc q=>by
 have h1:(0:Int) < j:=hc.1
 have h2:j < 1073741824:=hc.2
 exact floordiv_int (by lia) (by rw [Int.fdiv_eq_ediv_of_nonneg i (by lia)]; exact q) (.inl (PyProof.noPylong_small (by lia)))
theorem Z2o:OpR X (binaryOp .Mod) (rI (fun _ j=>0 < j) fun i j=>.int (i % j)):=opI fun i j _ _ _ _ _ hc q=>by
 have h1:(0:Int) < j:=hc
 exact mod_int' (by lia) (by rw [Int.fmod_eq_emod_of_nonneg i (by lia)]; exact q)
theorem Z2p:OpR X (binaryOp .Pow) (rI Zk0 fun i j=>.int (i ^ j.toNat)):=opI fun _ _ _ _ _ _ _ hc q=>pow_int_small hc.1 hc.2.1 hc.2.2 q
end
def Ztv:V->V->Bool
 | .non,.non=>true | .non,.int _=>true | .int _,.non=>true | .non,.bl _=>true | .bl _,.non=>true | .non,.str _=>true | .str _,.non=>true
 | .int _,.int _=>true | .bl _,.bl _=>true | .str _,.str _=>true | .byt _,.byt _=>true
 | .int _,.str _=>true | .str _,.int _=>true | .bl _,.str _=>true | .str _,.bl _=>true
 | _,_=>false
def rEq:R2:=fun x y H Q=>Ztv x y=true/\Q (.bl (decide (x=y))) H
def rNe:R2:=fun x y H Q=>Ztv x y=true/\Q (.bl (!decide (x=y))) H
theorem Zhk {i j:Int}:decide (V.int i=V.int j)=(i == j):=by
 rw [Bool.eq_iff_iff]
 simp
theorem Zij {i j:Bool}:decide (V.bl i=V.bl j)=(i == j):=by
 rw [Bool.eq_iff_iff]
 simp
theorem Zhl {i j:Str}:decide (V.str i=V.str j)=(i == j):=by
 rw [Bool.eq_iff_iff]
 simp
theorem Zom {i j:Array UInt8}:decide (V.byt i=V.byt j)=(i.toList == j.toList):=by
 rw [Bool.eq_iff_iff]
 cases i
 cases j
 simp
section
variable {X:Cx}{a b c:Expr}{ta tb tc:TE}{pos:Pos}
theorem Z9 {pins:List (Addr×Obj)}{σ:St}{H:Hp}{s:Shared}{Q:VK}{k k':Bool}(I:Inv X pins σ H s) (q:Q (.bl k) H) (e:k=k'):EP X pins σ Q (.bool k') s:=by
 subst e
 exact ⟨.bl k,H,I,rfl,q⟩
theorem Z3y:OpR X (compareOp .Eq) rEq:=by
 intro pins s σ H x y v u Q I rx ry h
 obtain ⟨hs,q⟩:=h
 cases x with
 | non =>
  cases rx
  cases y with
  | non=>cases ry; exact PySem.EqNone.eq_none_none (Z9 I q (by simp))
  | bl j=>cases ry; exact PySem.EqNone.eq_none_bool (Z9 I q (by simp))
  | int j=>obtain ⟨t',rfl⟩:=ry; exact PySem.EqNone.eq_none_int (Z9 I q (by simp))
  | str j=>obtain ⟨t',rfl⟩:=ry; exact PySem.EqNone.eq_none_str (Z9 I q (by simp))
  | _=>exact absurd (show false=true from hs) xE
 | bl i =>
  cases rx
  cases y with
  | non=>cases ry; exact PySem.EqNone.eq_bool_none (Z9 I q (by simp))
  | bl j=>cases ry; exact eq_bool (Z9 I q Zij)
  | str j=>obtain ⟨t',rfl⟩:=ry; exact PySem.EqMixed.eq_bool_str (Z9 I q (by simp))
  | _=>exact absurd (show false=true from hs) xE
 | int i =>
  obtain ⟨t,rfl⟩:=rx
  cases y with
  | non=>cases ry; exact PySem.EqNone.eq_int_none (Z9 I q (by simp))
  | int j=>obtain ⟨t',rfl⟩:=ry; exact eq_int (Z9 I q Zhk)
  | str j=>obtain ⟨t',rfl⟩:=ry; exact PySem.EqMixed.eq_int_str (Z9 I q (by simp))
  | _=>exact absurd (show false=true from hs) xE
 | str i =>
  obtain ⟨t,rfl⟩:=rx
  cases y with
  | non=>cases ry; exact PySem.EqNone.eq_str_none (Z9 I q (by simp))
  | bl j=>cases ry; exact PySem.EqMixed.eq_str_bool (Z9 I q (by simp))
  | int j=>obtain ⟨t',rfl⟩:=ry; exact PySem.EqMixed.eq_str_int (Z9 I q (by simp))
  | str j=>obtain ⟨t',rfl⟩:=ry; exact eq_str (Z9 I q Zhl)
  | _=>exact absurd (show false=true from hs) xE
 | byt i =>
  obtain ⟨t,rfl⟩:=rx
  cases y with
  | byt j=>obtain ⟨t',rfl⟩:=ry; exact PySem.W.eq_bytes (Z9 I q Zom)
  | _=>exact absurd (show false=true from hs) xE
 | _=>cases y <;> exact absurd (show false=true from hs) xE
theorem Z3z:OpR X (compareOp .NotEq) rNe:=by
 intro pins s σ H x y v u Q I rx ry h
 obtain ⟨hs,q⟩:=h
 cases x with
 | non =>
  cases rx
  cases y with
  | non=>cases ry; exact PySem.EqNone.ne_none_none (Z9 I q (by simp))
  | bl j=>cases ry; exact PySem.EqNone.ne_none_bool (Z9 I q (by simp))
  | int j=>obtain ⟨t',rfl⟩:=ry; exact PySem.EqNone.ne_none_int (Z9 I q (by simp))
  | str j=>obtain ⟨t',rfl⟩:=ry; exact PySem.EqNone.ne_none_str (Z9 I q (by simp))
  | _=>exact absurd (show false=true from hs) xE
 | bl i =>
  cases rx
  cases y with
  | non=>cases ry; exact PySem.EqNone.ne_bool_none (Z9 I q (by simp))
  | bl j=>cases ry; exact ne_bool (Z9 I q (congrArg not Zij))
  | str j=>obtain ⟨t',rfl⟩:=ry; exact PySem.EqMixed.ne_bool_str (Z9 I q (by simp))
  | _=>exact absurd (show false=true from hs) xE
 | int i =>
  obtain ⟨t,rfl⟩:=rx
  cases y with
  | non=>cases ry; exact PySem.EqNone.ne_int_none (Z9 I q (by simp))
  | int j=>obtain ⟨t',rfl⟩:=ry; exact ne_int (Z9 I q (congrArg not Zhk))
  | str j=>obtain ⟨t',rfl⟩:=ry; exact PySem.EqMixed.ne_int_str (Z9 I q (by simp))
  | _=>exact absurd (show false=true from hs) xE
 | str i =>
  obtain ⟨t,rfl⟩:=rx
  cases y with
  | non=>cases ry; exact PySem.EqNone.ne_str_none (Z9 I q (by simp))
  | bl j=>cases ry; exact PySem.EqMixed.ne_str_bool (Z9 I q (by simp))
  | int j=>obtain ⟨t',rfl⟩:=ry; exact PySem.EqMixed.ne_str_int (Z9 I q (by simp))
  | str j=>obtain ⟨t',rfl⟩:=ry; exact ne_str (Z9 I q (congrArg not Zhl))
  | _=>exact absurd (show false=true from hs) xE
 | byt i =>
  obtain ⟨t,rfl⟩:=rx
  cases y with
  | byt j=>obtain ⟨t',rfl⟩:=ry; exact PySem.W.ne_bytes (Z9 I q (congrArg not Zom))
  | _=>exact absurd (show false=true from hs) xE
 | _=>cases y <;> exact absurd (show false=true from hs) xE
theorem Z30:OpR X (compareOp .Lt) (rI0 fun i j=>.bl (decide (i < j))):=Zfn fun _ _ _ _ _ _ _ q=>lt_int q
theorem Z31:OpR X (compareOp .LtE) (rI0 fun i j=>.bl (decide (i<=j))):=Zfn fun _ _ _ _ _ _ _ q=>le_int q
theorem Z32:OpR X (compareOp .Gt) (rI0 fun i j=>.bl (decide (j < i))):=Zfn fun _ _ _ _ _ _ _ q=>gt_int q
theorem Z33:OpR X (compareOp .GtE) (rI0 fun i j=>.bl (decide (j<=i))):=Zfn fun _ _ _ _ _ _ _ q=>ge_int q
theorem Zwy:OpR X (compareOp .Lt) (fun x y H Q=>∃ i j,x = .str i/\y = .str j/\Q (.bl (decide (i.cps.toList < j.cps.toList))) H):=by
 intro pins s σ H x y v u Q I rx ry h
 obtain ⟨i,j,rfl,rfl,q⟩:=h
 obtain ⟨t,rfl⟩:=rx
 obtain ⟨t',rfl⟩:=ry
 exact lt_str (Z9 I q rfl)
theorem Z2q:OpR X (compareOp .Is) (fun x y H Q=>y = .non/\Q (.bl (decide (x = .non))) H):=by
 intro pins s σ H x y v u Q I rx ry h
 obtain ⟨rfl,q⟩:=h
 cases ry
 refine is_none_gen (Z9 I q ?_)
 cases x <;> first
  | (cases rx; rfl)
  | (obtain ⟨t,rfl⟩:=rx; rfl)
theorem Zz7:OpR X (compareOp .IsNot) (fun x y H Q=>y = .non/\Q (.bl (!decide (x = .non))) H):=by
 intro pins s σ H x y v u Q I rx ry h
 obtain ⟨rfl,q⟩:=h
 cases ry
 refine isnot_none_gen (Z9 I q ?_)
 cases x <;> first
  | (cases rx; rfl)
  | (obtain ⟨t,rfl⟩:=rx; rfl)
theorem Zo (b:Expr) {op:CmpOp}(h:op ≠ .In:=by decide) (h2:op ≠ .NotIn:=by decide):behindInMarks op b=false:=by
 have e1:(op == CmpOp.In)=false:=by cases op <;> first | rfl | exact absurd rfl h
 have e2:(op == CmpOp.NotIn)=false:=by cases op <;> first | rfl | exact absurd rfl h2
 cases b <;> simp [behindInMarks,e1,e2]
theorem Zz8 {op:CmpOp}{r:R2}(ho:OpR X (compareOp op) r) (ha:PE X a ta) (hb:PE X b tb) (hm:behindInMarks op b=false):PE X (.Compare a [op] [b] pos) (tOp r ta tb):=by
 intro pins s σ H Q I h
 exact wpAny_Compare1 (Zky ha hb I h fun v u s2 x y H2 I2 rx ry q=>ho pins s2 σ H2 x y v u Q I2 rx ry q) hm
def Zc9 (t:TE):TT:=fun σ H Q=>t σ H fun x H'=>∃ k,x = .bl k/\Q k H'
theorem Zz9 {op:CmpOp}{r:R2}(ho:OpR X (compareOp op) r) (ha:PE X a ta) (hb:PE X b tb) (hm:behindInMarks op b=false):PT X (.Compare a [op] [b] pos) (Zc9 (tOp r ta tb)):=by
 intro pins s σ H Q I h
 refine wpAny_isTrue_Compare1 (thn (ha pins s σ H _ I h) fun v s1 ⟨x,H1,I1,r1,q1⟩=>thn (hb pins s1 σ H1 _ I1 q1) fun u s2 ⟨y,H2,I2,r2,q2⟩ =>
  thn (ho pins s2 σ H2 x y v u _ I2 r1 r2 q2) fun c s3 ⟨z,H3,I3,r3,k,e,q3⟩=>?_) hm
 subst e
 cases r3
 exact wpAny_truthy_bool ⟨H3,I3,q3⟩
def Zer (r r':R2) (ta tb tc:TE):TE:=fun σ H Q=>ta σ H fun x H1=>tb σ H1 fun y H2=>r x y H2 fun z H3=>∃ k,z = .bl k /\
 (if k=true then tc σ H3 fun w' H4=>r' y w' H4 Q else Q (.bl false) H3)
theorem Zxz {op op':CmpOp}{r r':R2}(ho:OpR X (compareOp op) r) (ho':OpR X (compareOp op') r') (ha:PE X a ta) (hb:PE X b tb) (hc:PE X c tc)
  (hm:lastMarks [op,op'] [b,c]=false:=by with_unfolding_all rfl):PE X (.Compare a [op,op'] [b,c] pos) (Zer r r' ta tb tc):=by
 intro pins s σ H Q I h
 refine Compare_chain (thn (ha pins s σ H _ I h) fun v s1 ⟨x,H1,I1,r1,q1⟩=>chain_link (thn (hb pins s1 σ H1 _ I1 q1) fun u s2 ⟨y,H2,I2,r2,q2⟩ =>
  thn (ho pins s2 σ H2 x y v u _ I2 r1 r2 q2) fun d s3 ⟨z,H3,I3,r3,k,e,q3⟩=>?_)) hm
 subst e
 cases r3
 refine wpAny_truthy_bool ?_
 cases k with
 | false=>exact ite_ff ⟨.bl false,H3,I3,rfl,q3⟩
 | true=>exact ite_tt (chain_last (thn (hc pins s3 σ H3 _ I3 q3) fun w' s4 ⟨z',H4,I4,r4,q4⟩=>ho' pins s4 σ H4 y z' u w' Q I4 r2 r4 q4))
theorem Zx0 {op op':CmpOp}{r r':R2}(ho:OpR X (compareOp op) r) (ho':OpR X (compareOp op') r') (ha:PE X a ta) (hb:PE X b tb) (hc:PE X c tc)
  (hm:lastMarks [op,op'] [b,c]=false:=by with_unfolding_all rfl):PT X (.Compare a [op,op'] [b,c] pos) (Zc9 (Zer r r' ta tb tc)):=by
 intro pins s σ H Q I h
 refine isTrue_chain (thn (ha pins s σ H _ I h) fun v s1 ⟨x,H1,I1,r1,q1⟩=>test_link (thn (hb pins s1 σ H1 _ I1 q1) fun u s2 ⟨y,H2,I2,r2,q2⟩ =>
  thn (ho pins s2 σ H2 x y v u _ I2 r1 r2 q2) fun d s3 ⟨z,H3,I3,r3,k,e,q3⟩=>?_)) hm
 subst e
 cases r3
 refine wpAny_truthy_bool ?_
 cases k with
 | false =>
  obtain ⟨k',e',q'⟩:=q3
  cases e'
  exact ite_ff ⟨H3,I3,q'⟩
 | true =>
  refine ite_tt (test_last (thn (hc pins s3 σ H3 _ I3 q3) fun w' s4 ⟨z',H4,I4,r4,q4⟩=>thn (ho' pins s4 σ H4 y z' u w' _ I4 r2 r4 q4) fun d' s5 ⟨z2,H5,I5,r5,k2,e2,q5⟩=>?_))
  subst e2
  cases r5
  exact wpAny_truthy_bool ⟨H5,I5,q5⟩
def Zk1 (K:uFg) (x:V) (H:Hp) (k:Bool):Prop :=
 match x with
 | .non=>k=false
 | .bl b=>k=b
 | .int i=>k=(i != 0)
 | .str y=>y.length<=sizeLine/\k=((y.length:Int) != 0)
 | .byt y=>y.size<=sizeLine/\k=((y.size:Int) != 0)
 | .ref p=>(∃ xs,SqL K H p xs/\k = !xs.isEmpty)\/(∃ xs,SqT K H p xs/\k = !xs.isEmpty)\/∃ kvs,H p=some (.dK kvs)/\k = !kvs.isEmpty
 | _=>False
theorem Zve {κ:Type}{kvs:List (κ×V)}{vs:List (κ×Value)}(r:KV kvs vs):(!vs.isEmpty) = !kvs.isEmpty:=by
 cases r <;> rfl
theorem Zm0 {xs:List V}{its:List Value}(r:Vals xs its):(!its.toArray.isEmpty) = !xs.isEmpty:=by
 cases r <;> simp
theorem Zap:(sizeLine:Nat) < 2 ^ 63:=by rw [sizeLine_eq]; decide
theorem Z2r:Yac X (fun x H Q=>∃ k,Zk1 X.K x H k/\Q k H):=by
 intro pins s σ H x v Q I rx h
 obtain ⟨k,e,q⟩:=h
 have hl:=Zap
 have hs:sizeLine=16777216:=sizeLine_eq
 cases x with
 | non =>
  cases rx
  have e':k=false:=e
  subst e'
  exact truthy_none ⟨H,I,q⟩
 | bl b =>
  cases rx
  have e':k=b:=e
  subst e'
  exact wpAny_truthy_bool ⟨H,I,q⟩
 | int i =>
  obtain ⟨t,rfl⟩:=rx
  have e':k=(i != 0):=e
  subst e'
  exact PySem.P.truthy_int ⟨H,I,q⟩
 | str y =>
  obtain ⟨t,rfl⟩:=rx
  obtain ⟨hy,e'⟩:y.length<=sizeLine/\k=((y.length:Int) != 0):=e
  subst e'
  exact PySem.P.truthy_str (by lia) ⟨H,I.tok _,q⟩
 | byt y =>
  obtain ⟨t,rfl⟩:=rx
  obtain ⟨hy,e'⟩:y.size<=sizeLine/\k=((y.size:Int) != 0):=e
  subst e'
  exact PySem.W.truthy_bytes (by lia) ⟨H,I.tok _,q⟩
 | ref p =>
  cases rx
  have e':(∃ xs,SqL X.K H p xs/\k = !xs.isEmpty)\/(∃ xs,SqT X.K H p xs/\k = !xs.isEmpty)\/∃ kvs,H p=some (.dK kvs)/\k = !kvs.isEmpty:=e
  rcases e' with ⟨xs,hx,e'⟩ | ⟨xs,hx,e'⟩ | ⟨kvs,hx,e'⟩
  ·subst e'
   obtain ⟨its,r,pl,hz⟩:=I.list hx
   have hlen:=r.length
   exact wpAny_truthy_list pl.isList (by simp only [xL]; lia) ⟨H,I.tok _,by rw [Zm0 r]; exact q⟩
  ·subst e'
   obtain ⟨its,r,pl,hz⟩:=I.tuple hx
   have hlen:=r.length
   exact truthy_tuple pl (by simp only [xL]; lia) ⟨H,I.tok _,by rw [Zm0 r]; exact q⟩
  ·subst e'
   obtain ⟨hz,hS,vs,r,m⟩:kvs.length<=sizeLine/\(p == sysModules)=false/\∃ vs,KV kvs vs/\s.heap.DictOf (Ys X.prog X.w) p vs:=I.hok p _ hx
   have hlen:kvs.length=vs.length:=Paired.length r
   exact wpAny_truthy_dict hS m (by lia) ⟨H,I.tok _,by rw [Zve r]; exact q⟩
 | _=>exact (show False from e).elim
theorem Zx1 (ha:PE X a ta) (he:∀ whole,isTrue a X.env whole=(do let v ← whole; standAt a.pos; holding [v] (truthy v))) :
  PT X a (fun σ H Q=>ta σ H fun x H'=>∃ k,Zk1 X.K x H' k/\Q k H'):=by
 intro pins s σ H Q I h
 exact isTrue_plain (thn (ha pins s σ H _ I h) fun v s1 ⟨x,H1,I1,r1,q1⟩=>Z2r pins s1 σ H1 x v Q I1 r1 q1) (he _)
theorem Zvf:OpR X (binaryOp .Add) (fun x y H Q=>∃ i j,x = .str i/\y = .str j/\i.length+j.length<=sizeLine/\Q (.str (i++j)) H):=by
 intro pins s σ H x y v u Q I rx ry h
 obtain ⟨i,j,rfl,rfl,hz,q⟩:=h
 obtain ⟨t,rfl⟩:=rx
 obtain ⟨t',rfl⟩:=ry
 exact add_str (fun t' tk=>⟨.str (i++j),H,I.tok _,⟨_,rfl⟩,q⟩) hz
theorem Vz {x:V}{us:List Value}(r:Vals [x] us):∃ u,us = [u]/\RelV x u:=by
 cases r with
 | cons r1 r2=>cases r2; exact ⟨_,rfl,r1⟩
theorem Zra {x y:V}{us:List Value}(r:Vals [x,y] us):∃ u w',us = [u,w']/\RelV x u/\RelV y w':=by
 cases r with
 | cons r1 r2 =>
  cases r2 with
  | cons r3 r4=>cases r4; exact ⟨_,_,rfl,r1,r3⟩
end
end L2
namespace L2
open PySem PySem.Spec PyProof.Rows
structure ObjM (h:Heap) (x dx C:Addr) (mA:Str->Option Value):Prop where
 obj:h.get? x=some (PySem.W.instObj C dx)
 ns:h.Ns1 dx mA
 ne:dx≠x
theorem Zwz {h:Heap}{dx:Addr}{mA:Str->Option Value}(n:h.Ns1 dx mA):∃ od,h.get? dx=some od/\∀ name,PySem.W.lookIn name od=some (mA name):=by
 obtain ⟨o,es,ep,ho,hd,hk,_,hm⟩:=n
 refine ⟨o,ho,fun name=>?_⟩
 have e:=hm name
 unfold nsFind findBy at e
 rw [← Array.find?_toList] at e
 unfold PySem.W.lookIn
 rw [hd]
 dsimp only
 split
 ·rename_i y q
  rw [q] at e
  exact congrArg some e
 ·rename_i q
  rw [q] at e
  have a:es.toList.any (·.refKey)=false:=by
   rw [List.any_eq_false]
   intro y hy
   obtain ⟨z,t,hkey⟩:=hk y (Array.mem_toList_iff.mp hy)
   simp [DictEntry.refKey,hkey]
  have a':¬ es.toList.any (·.refKey)=true:=by rw [a]; exact xE
  rw [if_neg a']
  exact congrArg some e
theorem ObjM.look {h:Heap}{x dx C:Addr}{mA:Str->Option Value}(I:ObjM h x dx C mA):∃ od,PySem.W.InstAt h x (PySem.W.instObj C dx) C (some od)/\∀ name,PySem.W.lookIn name od=some (mA name) :=
 let ⟨od,ho,hl⟩:=Zwz I.ns
 ⟨od,⟨I.obj,rfl,rfl,ho⟩,hl⟩
section
variable {prog:Program}{w:World}{A:Around}{E:Value->Shared->Prop}{s:Shared}{K:uFg}{x dx C f:Addr}{mA:Str->Option Value}{name:Str}{v:Value}
theorem Z0a {expr:Bool}{Q:Value->Shared->Prop}(X:K.In s.heap) (I:ObjM s.heap x dx C mA) (hg:PySem.W.plainGet K C name=true) (hh:PySem.W.hasDictIn K C=true)
  (ha:PySem.W.findIn K (.ref C) name=some none) (hv:mA name=some v) (hv':PySem.W.handedIn v=true) (h:Q v {s with toks:=s.toks+1 }) :
  wpAny (model prog w) A (getAttr (.ref x) name expr) Q E s:=by
 obtain ⟨od,J,hl⟩:=I.look
 exact PySem.W.get_value X J (PySem.W.plainGet_of hg).1 (PySem.W.findObj_own hh ha rfl (by rw [hl,hv])) hv' h
theorem Zx2 {pl:Sem Bool}{Q:Value×List Value->Shared->Prop}(X:K.In s.heap) (I:ObjM s.heap x dx C mA) (hg:PySem.W.plainGet K C name=true)
  (hf:PySem.W.findIn K (.ref C) name=some (some (.ref f))) (ht:PySem.W.isFn K (.ref f)=true) (hv:mA name=none) (h:Q (.ref f,[.ref x]) s) :
  wpAny (model prog w) A (getMethod (.ref x) name pl) Q E s:=by
 obtain ⟨od,J,hl⟩:=I.look
 exact PySem.W.method_fn X J (PySem.W.plainGet_of hg).1 (PySem.W.plainGet_of hg).2 hf (beq_iff_eq.mp ht) (by show (PySem.W.lookIn name od).map (·.isSome)=some false; rw [hl,hv]; rfl) h
theorem Z0b {ns:List Str}{Q:Unit->Shared->Prop}(X:K.In s.heap) (I:ObjM s.heap x dx C mA)
  (hs:PySem.W.findIn K (.ref C) "__setattr__" = some (some (.builtin "object.__setattr__"))) (hp:PySem.W.plainOver K C=true) (ht:PySem.W.takerIn K C name=some none) (hh:PySem.W.hasDictIn K C=true)
  (hw:PySem.Within mA ns) (hsz:ns.length<=sizeLine)
  (h:∀ h',ObjM h' x dx C (fun y=>if y=name then some v else mA y)->Heap.SameBut dx s.heap h'->Q () {s with heap:=h',toks:=s.toks+2 }) :
  wpAny (model prog w) A (setAttr (.ref x) name v) Q E s:=by
 obtain ⟨od,J,hl⟩:=I.look
 refine PySem.W.set_plain X J hs (PySem.W.osa_open (s:={s with toks:=s.toks+1 }) (r:=none) X J hp ht fun b=>?_)
 obtain ⟨cd,hc,hd'⟩:=PySem.W.any_some hh
 have hx:s.heap.get? x=some ⟨.ref C,some dx,.plain,#[]⟩:=I.obj
 refine wpAny_bind (wpAny_pure (wpAny_bind (wpAny_bind (wpAny_loadPart hx (wpAny_bind (PySem.W.Looks.here (s:={s with toks:=s.toks+1 }) (PySem.W.looks_clsIn X hc) ?_))))))
 rw [hd']
 refine wpAny_pure (a:=some dx) (wpAny_bind (wpAny_pure (wpAny_bind ?_)))
 refine wpAny_nsSet1 (s:={s with toks:=s.toks+1 }) I.ns fun h' hn2 hs2=>?_
 obtain ⟨oD,esD,epD,hoD,hdD,hcD⟩:=hn2.count (PySem.Within.cons name v hw)
 refine wpAny_bind (wpAny_lookBehind hoD (by rw [hdD]; exact pastItsLine_dict (yK hcD (by rw [xG]; lia))) ?_)
 exact wpAny_pure (h _ ⟨(hs2.2 _ (Ne.symm I.ne)).trans I.obj,hn2,I.ne⟩ hs2)
theorem Zx3 {R:Result->Shared->Prop}{vs:List Value}{kw:List (Str×Value)}(X:K.In s.heap) (hm:PySem.W.makesIn K C=true)
  (hi:PySem.W.findIn K (.ref C) "__init__" = some (some (.ref f))) (hf:PySem.W.typeIn K (.ref f)=some (.type "function"))
  (h:codeAny (model prog w) (A.under (.builtin "type.__call__" ⟨.ref C::vs,kw⟩)) (.call (.ref f) ⟨.ref (s.heap.objs.size+1)::vs,kw⟩) (PySem.W.InitBack (s.heap.objs.size+1) R)
   {s with heap:=(s.heap.push PySem.W.emptyDict).push (PySem.W.instObj C s.heap.objs.size) }) :
  codeAny (model prog w) A (.call (.ref C) ⟨vs,kw⟩) R s:=by
 obtain ⟨hh,g,d,t,os⟩:=s
 exact PySem.W.make_core (PySem.W.makes_of X hm) (PySem.W.looks_findIn X hi) (fun self=>PySem.W.bind_fn X self hf) (.inl rfl) h
end
def Zh (f:Str) (v:V):List (Str×V)->List (Str×V)
 | []=>[(f,v)]
 | (g,x)::r=>if g=f then (g,v)::r else (g,x)::Zh f v r
theorem Yb (f g:Str) (v:V):∀ fs:List (Str×V),(Zh f v fs).lookup g=if g=f then some v else fs.lookup g
 | []=>by
  show List.lookup g [(f,v)]=_
  by_cases h:g=f
  ·have hb:(g == f)=true:=beq_iff_eq.mpr h
   simp only [List.lookup,hb,if_pos h]
  ·have hb:(g == f)=false:=beq_eq_false_iff_ne.mpr h
   simp only [List.lookup,hb,if_neg h]
 | (k,x)::r=>by
  have ih:=Yb f g v r
  rw [show Zh f v ((k,x)::r)=(if k=f then (k,v)::r else (k,x)::Zh f v r) from rfl]
  by_cases hk:k=f
  ·rw [if_pos hk]
   by_cases h:g=k
   ·have hb:(g == k)=true:=beq_iff_eq.mpr h
    simp only [List.lookup,hb,if_pos (h.trans hk)]
   ·have hb:(g == k)=false:=beq_eq_false_iff_ne.mpr h
    simp only [List.lookup,hb,if_neg (fun e:g=f=>h (e.trans hk.symm))]
  ·rw [if_neg hk]
   by_cases h:g=k
   ·have hb:(g == k)=true:=beq_iff_eq.mpr h
    simp only [List.lookup,hb,if_neg (fun e:g=f=>hk (h.symm.trans e))]
   ·have hb:(g == k)=false:=beq_eq_false_iff_ne.mpr h
    simp only [List.lookup,hb]
    exact ih
theorem Zg2 (f:Str) (v:V):∀ fs:List (Str×V),f∈(Zh f v fs).map (·.1)/\∀ g,g∈fs.map (·.1)->g∈(Zh f v fs).map (·.1)
 | []=>⟨by simp [Zh],fun g h=>by simp at h⟩
 | (k,x)::r=>by
  obtain ⟨i1,i2⟩:=Zg2 f v r
  rw [show Zh f v ((k,x)::r)=(if k=f then (k,v)::r else (k,x)::Zh f v r) from rfl]
  by_cases hk:k=f
  ·rw [if_pos hk]
   subst hk
   exact ⟨by simp,fun g h=>by simpa using h⟩
  ·rw [if_neg hk]
   refine ⟨?_,fun g h=>?_⟩
   ·rw [xP]
    exact xT _ i1
   ·rw [xP] at h ⊢
    rcases xC.mp h with e | e
    ·exact xC.mpr (.inl e)
    ·exact xT _ (i2 g e)
theorem Wr (f:Str) (v:V):∀ fs:List (Str×V),(Zh f v fs).length<=fs.length+1
 | []=>by simp [Zh]
 | (k,x)::r=>by
  have ih:=Wr f v r
  rw [show Zh f v ((k,x)::r)=(if k=f then (k,v)::r else (k,x)::Zh f v r) from rfl]
  by_cases hk:k=f
  ·rw [if_pos hk,xG,xG]; lia
  ·rw [if_neg hk,xG,xG]; lia
theorem RelO.some_of {v:V}{o:Option Value}(r:RelO (some v) o):∃ u,o=some u/\RelV v u:=by
 cases o with
 | none=>exact (show False from r).elim
 | some u=>exact ⟨u,rfl,r⟩
theorem RelO.none_of {o:Option Value}(r:RelO none o):o=none:=by
 cases o with
 | none=>rfl
 | some u=>exact (show False from r).elim
theorem Zw0 {v:V}{u:Value}(r:RelV v u):PySem.W.handedIn u=true:=by
 cases v with
 | non=>cases (show u=Value.none from r); rfl
 | bl b=>cases (show u=Value.bool b from r); rfl
 | int i=>obtain ⟨t,e⟩:=(show ∃ t,u=Value.int i t from r); cases e; rfl
 | str x=>obtain ⟨t,e⟩:=(show ∃ t,u=Value.str x t from r); cases e; rfl
 | byt b=>obtain ⟨t,e⟩:=(show ∃ t,u=Value.bytes b t from r); cases e; rfl
 | flt b=>obtain ⟨t,e⟩:=(show ∃ t,u=Value.float b t from r); cases e; rfl
 | ref a=>cases (show u=Value.ref a from r); rfl
 | ty n=>cases (show u=Value.type n from r); rfl
section
variable {P:Program}{w:World}{H H':Hp}{h h':Heap}{a C dx:Addr}{fs fs':List (Str×V)}
theorem Zee (hok:HOk P w H h) (e:H a=some (.ins C dx fs)):∃ mA,ObjM h a dx C mA/\(∀ f,RelO (fs.lookup f) (mA f))/\PySem.Within mA (fs.map (·.1))/\fs.length<=1000/\H dx=some (.own a):=by
 obtain ⟨d,z,ne,ob,mA,n,r,q⟩:=(show ObjOk P w H h a (.ins C dx fs) from hok a _ e)
 exact ⟨mA,⟨ob,n,ne⟩,r,q,z,d⟩
end
structure Cls (K:uFg) (C:Addr):Prop where
 pg:PySem.W.plainGet K C Str.empty=true
 hd:PySem.W.hasDictIn K C=true
 po:PySem.W.plainOver K C=true
 sa:PySem.W.findIn K (.ref C) "__setattr__" = some (some (.builtin "object.__setattr__"))
theorem Cls.get {K:uFg}{C:Addr}(c:Cls K C) (f:Str):PySem.W.plainGet K C f=true:=c.pg
def NoAttr (K:uFg) (C:Addr) (f:Str):Prop:=PySem.W.findIn K (.ref C) f=some none
theorem NoAttr.taker {K:uFg}{C:Addr}{f:Str}(n:NoAttr K C f):PySem.W.takerIn K C f=some none:=by
 unfold PySem.W.takerIn
 rw [show PySem.W.findIn K (.ref C) f=some none from n]
 rfl
structure Con (K:uFg) (C:Addr) (f:Str) (v:V) (u:Value):Prop where
 at_:PySem.W.findIn K (.ref C) f=some (some u)
 rel:RelV v u
 get:PySem.W.specialIn K u "__get__" = some none
 cp:PySem.W.copiedNames.contains f=false
structure Meth (K:uFg) (C:Addr) (m:Str) (f:Addr):Prop where
 at_:PySem.W.findIn K (.ref C) m=some (some (.ref f))
 fn:PySem.W.isFn K (.ref f)=true
 kp:PySem.W.keepIn K (.ref f)=true
section
variable {X:Cx}{pins:List (Addr×Obj)}{σ:St}{H:Hp}{s:Shared}{a C dx:Addr}{fs:List (Str×V)}{f:Str}{v:V}{A:Around}{E:Value->Shared->Prop}
theorem Zvg {b:Bool}{Q:Value->Shared->Prop}(I:Inv X pins σ H s) (e:H a=some (.ins C dx fs)) (c:Cls X.K C) (n:NoAttr X.K C f) (l:fs.lookup f=some v)
  (h:∀ u s',Inv X pins σ H s'->RelV v u->Q u s'):wpAny (model X.prog X.w) A (getAttr (.ref a) f b) Q E s:=by
 obtain ⟨mA,O,r,_,_,_⟩:=Zee I.hok e
 obtain ⟨u,hu,ru⟩:=RelO.some_of (v:=v) (o:=mA f) (by rw [← l]; exact r f)
 exact Z0a I.kIn O (c.get f) c.hd n hu (Zw0 ru) (h u _ (I.tok _) ru)
theorem Zd5 {m:Str}{g:Addr}{pl:Sem Bool}{Q:Value×List Value->Shared->Prop}(I:Inv X pins σ H s) (e:H a=some (.ins C dx fs)) (c:Cls X.K C) (k:Meth X.K C m g) (l:fs.lookup m=none)
  (h:Q (.ref g,[.ref a]) s):wpAny (model X.prog X.w) A (getMethod (.ref a) m pl) Q E s:=by
 obtain ⟨mA,O,r,_,_,_⟩:=Zee I.hok e
 have hn:mA m=none:=RelO.none_of (by rw [← l]; exact r m)
 exact Zx2 I.kIn O (c.get m) k.at_ k.fn hn h
theorem Zvh {y:V}{u:Value}{Q:Unit->Shared->Prop}(I:Inv X pins σ H s) (e:H a=some (.ins C dx fs)) (c:Cls X.K C) (n:NoAttr X.K C f) (hl:fs.length < 1000) (ry:RelV y u)
  (h:∀ s',Inv X pins σ (upd H a (.ins C dx (Zh f y fs))) s'->Q () s'):wpAny (model X.prog X.w) A (setAttr (.ref a) f u) Q E s:=by
 obtain ⟨mA,O,r,wi,_,ho⟩:=Zee I.hok e
 have hz:(fs.map (·.1)).length<=sizeLine:=by rw [xD,sizeLine_eq]; lia
 refine Z0b I.kIn O c.sa c.po n.taker c.hd wi hz fun h' O' sb=>h _ ?_
 have hd:∃ o,h'.get? dx=some o:=let ⟨o,_,_,e',_⟩:=O'.ns; ⟨o,e'⟩
 refine I.write (x:=a) (e:=dx) (by rw [e]; exact True.intro) (.inr ho) (fun b q hb z=>(sb.2 b hb).trans z) hd ?_
 refine ⟨by rw [Zd O.ne]; exact ho,?_,O.ne,O'.obj,_,O'.ns,fun g=>?_,fun g hg=>?_⟩
 ·have:=Wr f y fs; lia
 ·show RelO ((Zh f y fs).lookup g) (if g=f then some u else mA g)
  rw [Yb]
  by_cases q:g=f
  ·rw [if_pos q,if_pos q]; exact ry
  ·rw [if_neg q,if_neg q]; exact r g
 ·by_cases q:g=f
  ·rw [q]; exact (Zg2 f y fs).1
  ·refine (Zg2 f y fs).2 g (wi g fun z=>hg ?_)
   show (if g=f then some u else mA g)=none
   rw [if_neg q]; exact z
theorem Inv.made (I:Inv X pins σ H s):Inv X pins σ (upd (upd H s.heap.objs.size (.own (s.heap.objs.size+1))) (s.heap.objs.size+1) (.ins C s.heap.objs.size []))
  {s with heap:=(s.heap.push PySem.W.emptyDict).push (PySem.W.instObj C s.heap.objs.size) }:=by
 have e1:(s.heap.push PySem.W.emptyDict).get? s.heap.objs.size=some PySem.W.emptyDict:=xI s.heap rfl
 have e2:((s.heap.push PySem.W.emptyDict).push (PySem.W.instObj C s.heap.objs.size)).get? (s.heap.objs.size+1)=some (PySem.W.instObj C s.heap.objs.size):=by
  have:=xI (s.heap.push PySem.W.emptyDict) (o:=PySem.W.instObj C s.heap.objs.size) rfl
  rwa [Heap.size_push] at this
 have e3:(s.heap.push PySem.W.emptyDict).Ns s.heap.objs.size (fun _=>none):=⟨PySem.W.emptyDict,#[],_,e1,rfl,(fun e he=>absurd he (by simp)),fun _=>rfl⟩
 have I1:=I.laid (a:=s.heap.objs.size) (o:=.own (s.heap.objs.size+1)) (h':=s.heap.push PySem.W.emptyDict) (t':=s.toks) (fun b u q=>xA _ q) (xB _) ⟨_,e1⟩
 refine I1.laid (a:=s.heap.objs.size+1) (o:=.ins C s.heap.objs.size []) (t':=s.toks) (fun b u q=>xA _ q) (Nat.le_of_eq (Heap.size_push _ _)) ?_
 have ne:s.heap.objs.size≠s.heap.objs.size+1:=yD (Nat.lt_succ_self _)
 refine ⟨by rw [Zd ne,Zi],yQ _,ne,e2,fun _=>none,(Heap.Ns1.of_empty e3).at fun o q=>xA _ q,fun _=>True.intro,fun y hy=>absurd rfl hy⟩
theorem Z0c {prog:Program}{w:World}{env:Env}{e:Expr}{f:Str}{pos:Pos}{s:Shared}{Q:Value->Shared->Prop}(hb:attributeBase e f env (eval e env)=eval e env)
  (h:wpAny (model prog w) A (eval e env) (fun o s₁=>wpAny (model prog w) A (getAttr o f true) Q E s₁) E s):wpAny (model prog w) A (eval (.Attribute e f pos) env) Q E s :=
 Attribute_any_ h (by rw [arm_eval_Attribute,hb])
end
def Zk2 (K:uFg) (ta:TE) (f:Str):TE:=fun σ H Q=>ta σ H fun x H1=>∃ a C dx fs v,x = .ref a/\H1 a=some (.ins C dx fs)/\Cls K C/\NoAttr K C f/\fs.lookup f=some v/\Q v H1
def Ztw (K:uFg) (ta tv:TE) (f:Str):TS:=fun D σ H=>tv σ H fun y H1=>ta σ H1 fun x H2=>∃ a C dx fs,x = .ref a/\H2 a=some (.ins C dx fs)/\Cls K C/\NoAttr K C f/\fs.length < 1000 /\
 D.nx σ (upd H2 a (.ins C dx (Zh f y fs)))
section
variable {X:Cx}{o e value:Expr}{f:Str}{pos pos' tpos:Pos}{ta tv:TE}
theorem Zpq (he:PE X e ta) (hb:attributeBase e f X.env (eval e X.env)=eval e X.env):PE X (.Attribute e f pos) (Zk2 X.K ta f):=by
 intro pins s σ H Q I h
 refine Z0c hb (thn (he pins s σ H _ I h) fun u s1 ⟨x,H1,I1,rx,a,C,dx,fs,v,ex,ea,c,n,l,q⟩=>?_)
 subst ex
 obtain rfl:u=Value.ref a:=rx
 exact Zvg I1 ea c n l fun u' s2 I2 ru=>⟨v,H1,I2,ru,q⟩
theorem Z2s (ha:PE X o ta) (hv:PE X value tv) (hs:swapsWith value (some (.Attribute o f pos')) pos.line X.env=pure false):PS X (.Assign [.Attribute o f pos'] value pos) (Ztw X.K ta tv f):=by
 intro pins s σ H D I h
 refine plainObj_wpAny_Assign_Attribute (thn (hv pins s σ H _ I h) fun u s1 ⟨y,H1,I1,ry,q⟩=>thn (ha pins s1 σ H1 _ I1 q) fun ov s2 ⟨x,H2,I2,rx,a,C,dx,fs,ex,ea,c,n,l,q2⟩=>?_) hs
 subst ex
 obtain rfl:ov=Value.ref a:=rx
 exact Zvh I2 ea c n l ry fun s3 I3=>⟨σ,_,I3,q2⟩
end
section
variable {X:Cx}{pins:List (Addr×Obj)}{σ:St}{H:Hp}{s:Shared}{A:Around}{E:Value->Shared->Prop}{Q:Value->Shared->Prop}{c:Value}{b:Bool}
inductive TyOf (K:uFg) (H:Hp):V->Value->Prop where
 | non:TyOf K H .non (.type "NoneType")
 | bl (x:Bool):TyOf K H (.bl x) (.type "bool")
 | int (i:Int):TyOf K H (.int i) (.type "int")
 | str (x:Str):TyOf K H (.str x) (.type "str")
 | flt (x:UInt64):TyOf K H (.flt x) (.type "float")
 | lst {a:Addr}{xs:List V}(e:H a=some (.lst xs)):TyOf K H (.ref a) (.type "list")
 | frz {a:Addr}{o:Obj}{xs:List V}(e:H a=some (.frz o (.lst xs))):TyOf K H (.ref a) (.type "list")
 | tup {a:Addr}{xs:List V}(e:H a=some (.tup xs)):TyOf K H (.ref a) (.type "tuple")
 | dK {a:Addr}{kvs:List (Key×V)}(e:H a=some (.dK kvs)):TyOf K H (.ref a) (.type "dict")
 | dT {a:Addr}{kvs:List (List Key×V)}(e:H a=some (.dT kvs)):TyOf K H (.ref a) (.type "dict")
 | ins {a C dx:Addr}{fs:List (Str×V)}(e:H a=some (.ins C dx fs)) (cl:Cls K C) (ha:PySem.W.findIn K (.ref C) "__class__" = some (some (.builtin "object.__class__")))
   (hn:PySem.W.specialIn K (.builtin "object.__class__") "__get__" = some (some (.builtin "getset_descriptor.__get__"))) (htk:PySem.W.takesIn K (.builtin "object.__class__")=some true)
   (hm:PySem.W.mroIn K C (.type "object")=some true):TyOf K H (.ref a) (.ref C)
theorem Zw1 {x:V}{u t:Value}(I:Inv X pins σ H s) (rx:RelV x u) (ty:TyOf X.K H x t) (e:PySem.W.kitOne X.K t c=some b) (h:∀ tk,Q (.bool b) {s with toks:=tk }) :
  wpAny (model X.prog X.w) A (call (.builtin "isinstance") [u,c]) Q E s:=by
 cases ty with
 | non=>cases (show u=Value.none from rx); exact PySem.W.kia_one PySem.W.kitx_none I.kIn True.intro e (fun z=>nomatch z) h
 | bl y=>cases (show u=Value.bool y from rx); exact PySem.W.kia_one PySem.W.kitx_bool I.kIn True.intro e (fun z=>nomatch z) h
 | int i=>obtain ⟨t,q⟩:=(show ∃ t,u=Value.int i t from rx); cases q; exact PySem.W.kia_one PySem.W.kitx_int I.kIn True.intro e (fun z=>nomatch z) h
 | str y=>obtain ⟨t,q⟩:=(show ∃ t,u=Value.str y t from rx); cases q; exact PySem.W.kia_one PySem.W.kitx_str I.kIn True.intro e (fun z=>nomatch z) h
 | flt y=>obtain ⟨t,q⟩:=(show ∃ t,u=Value.float y t from rx); cases q; exact PySem.W.kia_one PySem.W.kitx_float I.kIn True.intro e (fun z=>nomatch z) h
 | @lst a xs ea =>
  cases (show u=Value.ref a from rx)
  obtain ⟨_,_,n,_,h1⟩:=(show ObjOk X.prog X.w H s.heap a (.lst xs) from I.hok a _ ea)
  exact PySem.W.kia_one PySem.W.kitx_list I.kIn ⟨_,h1,rfl⟩ e (fun z=>nomatch z) h
 | @frz a ob xs ea =>
  cases (show u=Value.ref a from rx)
  obtain ⟨_,_,_,n,_,h1⟩:=(show ObjOk X.prog X.w H s.heap a (.frz ob (.lst xs)) from I.hok a _ ea)
  exact PySem.W.kia_one PySem.W.kitx_list I.kIn ⟨_,h1,rfl⟩ e (fun z=>nomatch z) h
 | @tup a xs ea =>
  cases (show u=Value.ref a from rx)
  obtain ⟨_,_,_,p⟩:=(show ObjOk X.prog X.w H s.heap a (.tup xs) from I.hok a _ ea)
  obtain ⟨o,h1,h2,_⟩:=p
  exact PySem.W.kia_one PySem.W.kitx_tuple I.kIn ⟨o,h1,h2⟩ e (fun z=>nomatch z) h
 | @dK a kvs ea =>
  cases (show u=Value.ref a from rx)
  obtain ⟨_,_,vs,_,p⟩:=(show ObjOk X.prog X.w H s.heap a (.dK kvs) from I.hok a _ ea)
  obtain ⟨o,es,ep,h1,h2,_⟩:=p
  exact PySem.W.kia_one PySem.W.kitx_dict I.kIn ⟨o,h1,h2.1⟩ e (fun z=>nomatch z) h
 | @dT a kvs ea =>
  cases (show u=Value.ref a from rx)
  obtain ⟨_,_,xs,_,o,es,ep,h1,h2,_⟩:=(show ObjOk X.prog X.w H s.heap a (.dT kvs) from I.hok a _ ea)
  exact PySem.W.kia_one PySem.W.kitx_dict I.kIn ⟨o,h1,h2.1⟩ e (fun z=>nomatch z) h
 | @ins a C dx fs ea cl ha hn htk hm =>
  cases (show u=Value.ref a from rx)
  obtain ⟨mA,O,_⟩:=Zee I.hok ea
  obtain ⟨od,J,_⟩:=O.look
  exact PySem.W.kia_one (PySem.W.kitx_own (cl.get _) cl.hd ha hn htk hm) I.kIn J e (fun z=>nomatch z) h
end
end L2
namespace L2
open PySem PySem.Spec PyProof.Rows
structure Room (k:Nat) (A:Around):Prop where
 hd:A.handled=none
 dp:A.depth+3 * k+5 < recursionLimit
 un:A.units+16 * k+200 < cLine
theorem Room.mono {j k:Nat}{A:Around}(r:Room k A) (h:j<=k):Room j A:=⟨r.hd,by have:=r.dp; lia,by have:=r.un; lia⟩
theorem Room.deeper {k:Nat}{A:Around}(r:Room (k+1) A) (env:Env):Room k (A.deeper env) :=
 ⟨r.hd,by have:=r.dp; show A.depth+1+3 * k+5 < _; lia,by have:=r.un; show A.units+3+16 * k+200 < _; lia⟩
theorem Zvi {A:Around}{C:Addr}{us:List Value}{kw:List (Str×Value)}:(A.under (.builtin "type.__call__" ⟨.ref C::us,kw⟩)).depth=A.depth+1:=by
 first | rfl | simp [Around.under,Code.weight,Code.isCreation,Code.isGuard,Code.isCaller,Code.frames,Code.isFrame,guardIds]
theorem Zvj {A:Around}{C:Addr}{us:List Value}{kw:List (Str×Value)}:(A.under (.builtin "type.__call__" ⟨.ref C::us,kw⟩)).units=A.units+1:=by
 first | rfl | simp [Around.under,Code.cUnits,Code.frames,Code.isFrame]
theorem Room.make {k:Nat}{A:Around}(r:Room (k+1) A) (C:Addr) (us:List Value) (kw:List (Str×Value)):Room k (A.under (.builtin "type.__call__" ⟨.ref C::us,kw⟩)) :=
 ⟨r.hd,by have:=r.dp; rw [Zvi]; lia,by have:=r.un; rw [Zvj]; lia⟩
theorem Room.depth {k:Nat}{A:Around}(r:Room k A):A.depth < recursionLimit:=by have:=r.dp; lia
theorem Room.units {k:Nat}{A:Around}(r:Room k A):A.units+64 < cLine:=by have:=r.un; lia
def Wj:TA:=fun _ H Q=>Q [] H
def Vf (ta:TE) (tr:TA):TA:=fun σ H Q=>ta σ H fun x H1=>tr σ H1 fun xs H2=>Q (x::xs) H2
section
variable {X:Cx}{e:Expr}{es:List Expr}{te:TE}{t:TA}{pos:Pos}
theorem Z2t:PA X [] Wj:=fun _ _ _ _ H Q I h=>Calls.spliced_nil ⟨[],H,I,.nil,h⟩
theorem Z0d (ha:PE X e te) (hr:PA X es t) (hs:starEach (e::es) X.env=(false,eval e X.env)::starEach es X.env:=by rfl):PA X (e::es) (Vf te t):=by
 intro pos pins s σ H Q I h
 rw [hs]
 show wpAny _ _ (spliced ((false,eval e X.env)::backTo pos (starEach es X.env))) _ _ s
 refine Calls.spliced_cons (thn (ha pins s σ H _ I h) fun u s1 ⟨x,H1,I1,r1,q1⟩=>?_)
 exact thn (hr pos pins s1 σ H1 _ I1 q1) fun us s2 ⟨xs,H2,I2,r2,q2⟩=>⟨x::xs,H2,I2,.cons r1 r2,q2⟩
def Ztx (t:TA):TE:=fun σ H Q=>t σ H fun xs H1=>xs.length<=sizeLine/\∀ p,H1 p=none->Q (.ref p) (upd H1 p (.tup xs))
def Zty (t:TA):TE:=fun σ H Q=>t σ H fun xs H1=>xs.length<=sizeLine/\∀ p,H1 p=none->Q (.ref p) (upd H1 p (.lst xs))
theorem Z2u {x1} (h:PA X es t):PE X (.Tuple es x1 pos) (Ztx t):=by
 intro pins s σ H Q I hq
 refine wpAny_Tuple_spliced (thn (h pos pins s σ H _ I hq) fun us s1 ⟨xs,H1,I1,r,z,q⟩=>⟨by rw [← r.length]; exact z,?_⟩)
 have hf:H1 s1.heap.objs.size=none:=I1.hok.fresh (xB _)
 refine ⟨.ref s1.heap.objs.size,upd H1 s1.heap.objs.size (.tup xs),I1.laid (t':=s1.toks) (fun b u e=>xA _ e) (xB _) ?_,rfl,q _ hf⟩
 exact ⟨z,us,r,⟨_,xI _ rfl,rfl,_,rfl⟩⟩
theorem Z2v (h:PA X es t):PE X (.List es pos) (Zty t):=by
 intro pins s σ H Q I hq
 refine wpAny_List_spliced (thn (h pos pins s σ H _ I hq) fun us s1 ⟨xs,H1,I1,r,z,q⟩=>⟨by rw [← r.length]; exact z,?_⟩)
 have hf:H1 s1.heap.objs.size=none:=I1.hok.fresh (xB _)
 refine ⟨.ref s1.heap.objs.size,upd H1 s1.heap.objs.size (.lst xs),I1.laid (t':=s1.toks) (fun b u e=>xA _ e) (xB _) ?_,rfl,q _ hf⟩
 exact ⟨z,us,0,r,xI _ rfl⟩
end
abbrev Sp:=List V->Hp->VK->XK->Prop
abbrev CXT:=List Env->Hp->Shared->XK->Value->Shared->Prop
structure Env0 (P:Program) (w:World) (K:uFg) (mg:Str->Option Value) (base:Heap) (A:Around) (outer:List Env) (s:Shared) (H:Hp):Prop where
 frames:A.frames=some outer
 mod:Mod K mg base
 bs:∀ b o,base.get? b=some o->s.heap.get? b=some o/\H b=none
 bsz:base.objs.size<=s.heap.objs.size
 funs:s.heap.FunFrames base outer
 frf:∀ b∈frs outer,H b=none
 hok:HOk P w H s.heap
 bare:AllBare s.gens
def CE (outer:List Env) (P:Program) (w:World) (H:Hp) (s:Shared) (Q:VK) (u:Value) (s':Shared):Prop :=
 ∃ v H',s'.os=s.os/\AllBare s'.gens/\Un (frs outer) [] H H' s.heap s'.heap/\HOk P w H' s'.heap/\RelV v u/\Q v H'
def CR (CX:CXT) (outer:List Env) (P:Program) (w:World) (H:Hp) (s:Shared) (Q:VK) (E:XK) (r:Result) (s':Shared):Prop :=
 match r with
 | .ok (.ret u)=>CE outer P w H s Q u s'
 | .ok _=>False
 | .error e=>CX outer H s E e s'
structure FnOk (P:Program) (w:World) (K:uFg) (mg:Str->Option Value) (base:Heap) (CX:CXT) (k:Nat) (f:Addr) (fd:FuncData) (ps:List Str) (sp:Sp):Prop where
 len:∀ vs H Q E,sp vs H Q E->vs.length=ps.length
 run:∀ (A:Around) (outer:List Env) (s:Shared) (H:Hp) (args:Args) (us:List Value) (vs:List V) (Q:VK) (E:XK),Room k A->Env0 P w K mg base A outer s H->BindsTo s fd args (ps.zip us)->Vals vs us->sp vs H Q E ->
  codeAny (model P w) A (.call (.ref f) args) (CR CX outer P w H s Q E) s
theorem FnOk.mono {P:Program}{w:World}{K:uFg}{mg:Str->Option Value}{base:Heap}{CX:CXT}{j k:Nat}{f:Addr}{fd:FuncData}{ps:List Str}{sp:Sp}(F:FnOk P w K mg base CX j f fd ps sp) (h:j<=k) :
  FnOk P w K mg base CX k f fd ps sp:=⟨F.len,fun A outer s H args us vs Q E hr=>F.run A outer s H args us vs Q E (hr.mono h)⟩
theorem FnOk.imp {P:Program}{w:World}{K:uFg}{mg:Str->Option Value}{base:Heap}{CX:CXT}{k:Nat}{f:Addr}{fd:FuncData}{ps:List Str}{sp sp':Sp}(F:FnOk P w K mg base CX k f fd ps sp)
  (h:∀ vs H Q E,sp' vs H Q E->sp vs H Q E):FnOk P w K mg base CX k f fd ps sp' :=
 ⟨fun vs H Q E q=>F.len vs H Q E (h _ _ _ _ q),fun A outer s H args us vs Q E hr he hb hv hs=>F.run A outer s H args us vs Q E hr he hb hv (h _ _ _ _ hs)⟩
theorem Env0.make {P:Program}{w:World}{K:uFg}{mg:Str->Option Value}{base:Heap}{A:Around}{outer:List Env}{s:Shared}{H:Hp}(e:Env0 P w K mg base A outer s H) (C:Addr) (us:List Value) (kw:List (Str×Value)) :
  Env0 P w K mg base (A.under (.builtin "type.__call__" ⟨.ref C::us,kw⟩)) outer s H:=⟨by first | exact e.frames | (simpa [Around.under,Code.envs,Code.isFrame,pushEnvs] using e.frames),e.mod,e.bs,e.bsz,e.funs,e.frf,e.hok,e.bare⟩
section
variable {X:Cx}{pins:List (Addr×Obj)}{σ:St}{H:Hp}{s s':Shared}
theorem Inv.env0 (I:Inv X pins σ H s):Env0 X.prog X.w X.K X.mg X.base X.A X.stack s H :=
 ⟨I.ok.frames,I.ok.mod,I.bs,yK I.ok.bsz I.sz,I.stack,I.stkFree,I.hok,I.bare⟩
theorem Inv.after {Q:VK}{u:Value}(I:Inv X pins σ H s) (h:CE X.stack X.prog X.w H s Q u s'):EP X pins σ Q u s':=by
 obtain ⟨v,H',os,bare,un,hok,r,q⟩:=h
 obtain ⟨hh,g,d,t,os'⟩:=s'
 obtain rfl:os'=s.os:=os
 exact ⟨v,H',I.call (h':=hh) (g':=g) (d':=d) (t':=t) (ch:=[]) un hok bare (fun b z=>absurd z (by simp)),r,q⟩
end
def Zi1 (sp:Sp) (dvs:List V) (E:XK) (t:TA):TE:=fun σ H Q=>t σ H fun vs H1=>sp (vs++dvs) H1 Q E
def Ze5 (C:Addr) (m:Str) (sp:Sp) (dvs:List V) (E:XK) (ta:TE) (t:TA):TE:=fun σ H Q=>ta σ H fun x H1=>∃ a dx fs,x = .ref a/\H1 a=some (.ins C dx fs)/\fs.lookup m=none /\
 t σ H1 fun vs H2=>sp (x::(vs++dvs)) H2 Q E
def Zrb (C:Addr) (sp:Sp) (dvs:List V) (E:XK) (t:TA):TE:=fun σ H Q=>t σ H fun vs H1=>∀ x dx,H1 x=none->H1 dx=none->dx≠x ->
 sp (.ref x::(vs++dvs)) (upd (upd H1 dx (.own x)) x (.ins C dx [])) (fun v H2=>v = .non/\Q (.ref x) H2) E
def Binds (K:uFg) (fd:FuncData) (ps:List Str) (ds:List Value):Prop :=
 ∀ (s:Shared) (us:List Value),K.In s.heap->(us++ds).length=ps.length->BindsTo s fd ⟨us,[]⟩ (ps.zip (us++ds))
theorem Binds.all {K:uFg}{fd:FuncData}{ps:List Str}(h:∀ us:List Value,us.length=ps.length->bindArgs fd ⟨us,[]⟩=pure (ps.zip us)):Binds K fd ps []:=fun s us _ hl=>by
 rw [List.append_nil] at hl ⊢
 exact .of_eq (h us hl)
def Zaq (CX:CXT) (X:Cx) (E:XK):Prop:=∀ (pins:List (Addr×Obj)) (σ:St) (H:Hp) (s:Shared) (e:Value) (s':Shared),Inv X pins σ H s->CX X.stack H s E e s'->X.xe e s'
section
variable {X:Cx}{CX:CXT}{k:Nat}{f C:Addr}{fd:FuncData}{ps:List Str}{sp:Sp}{dvs:List V}{ds:List Value}{E:XK}{x m:Str}{p pos apos:Pos}{e o:Expr}{es:List Expr}{ta:TE}{t:TA}
theorem Zik {pins:List (Addr×Obj)}{σ:St}{H:Hp}{s:Shared}{Q:VK}{us:List Value}{vs:List V}(F:FnOk X.prog X.w X.K X.mg X.base CX k f fd ps sp) (hr:Room k X.A) (hb:Binds X.K fd ps ds) (hd:Vals dvs ds) (hx:Zaq CX X E)
  (I:Inv X pins σ H s) (r:Vals vs us) (h:sp (vs++dvs) H Q E):wpAny (model X.prog X.w) X.A (call (.ref f) us) (EP X pins σ Q) X.xe s:=by
 have r2:Vals (vs++dvs) (us++ds):=r.append hd
 have hl:(us++ds).length=ps.length:=by rw [← r2.length]; exact F.len _ _ _ _ h
 refine wpAny_call (codeAny_mono (F.run X.A X.stack s H ⟨us,[]⟩ (us++ds) (vs++dvs) Q E hr I.env0 (hb s us I.kIn hl) r2 h) fun r s' hq=>?_)
 cases r with
 | error e=>exact hx pins σ H s e s' I hq
 | ok fl =>
  cases fl with
  | ret u=>exact I.after hq
  | next=>exact False.elim hq
  | brk=>exact False.elim hq
  | cont=>exact False.elim hq
theorem Z0e (F:FnOk X.prog X.w X.K X.mg X.base CX k f fd ps sp) (hr:Room k X.A) (hg:Gl X x) (hm:X.mg x=some (.ref f)) (hk:PySem.W.keepIn X.K (.ref f)=true) (hb:Binds X.K fd ps ds) (hd:Vals dvs ds) (hx:Zaq CX X E)
  (ha:PA X (e::es) t) (hdb:(x == ("__debug__" : Str))=false:=by decide) (he:starEach (e::es) X.env=(false,eval e X.env)::starEach es X.env:=by rfl) (hpl:(backTo pos (starEach es X.env)).any (·.1)=false:=by rfl) :
  PE X (.Call (.Name x p) (e::es) [] pos) (Zi1 sp dvs E t):=by
 intro pins s σ H Q I h
 refine wpAny_Call_Name_kw (Zbp I hg hm ?_ hdb)
 refine PySem.W.callWith_K (h₀:=X.base) I.ok.mod.kin hk (thn (ha pos pins s σ H _ I h) fun us s1 ⟨vs,H1,I1,r,q⟩=>⟨I1.kIn,?_⟩) he hpl
 exact Zik F hr hb hd hx I1 r q
theorem Z0f {pl:Sem Bool}(he:PE X o ta) (c:Cls X.K C) (hm:Meth X.K C m f) (F:FnOk X.prog X.w X.K X.mg X.base CX k f fd ps sp) (hr:Room k X.A) (hb:Binds X.K fd ps ds) (hd:Vals dvs ds) (hx:Zaq CX X E) (ha:PA X (e::es) t)
  (hst:starEach (e::es) X.env=(false,eval e X.env)::starEach es X.env:=by rfl) (hpl:(backTo pos (starEach es X.env)).any (·.1)=false:=by rfl)
  (ht:eval (.Call (.Attribute o m apos) (e::es) [] pos) X.env=(do
   let ov ← eval o X.env
   standAt apos.atName
   let (f,first) ← holding [ov] (getMethod ov m pl)
   callWith pos f first (backTo pos (starEach (e::es) X.env)) (backToKw pos (keywordEach [] X.env))):=by rfl) :
  PE X (.Call (.Attribute o m apos) (e::es) [] pos) (Ze5 C m sp dvs E ta t):=by
 intro pins s σ H Q I h
 refine PySem.W.methodCall_KW (pl:=pl) (thn (he pins s σ H _ I h) fun u s1 ⟨x,H1,I1,rx,a,dx,fs,ex,ea,l,q⟩=>?_) ht
 subst ex
 obtain rfl:u=Value.ref a:=rx
 refine Zd5 I1 ea c hm l ?_
 refine PySem.W.callWith_K (first:=[.ref a]) (h₀:=X.base) I.ok.mod.kin hm.kp (thn (ha pos pins s1 σ H1 _ I1 q) fun us s2 ⟨vs,H2,I2,r,q2⟩=>⟨I2.kIn,?_⟩) hst hpl
 exact Zik (us:=.ref a::us) (vs:=.ref a::vs) F hr hb hd hx I2 (.cons rfl r) q2
theorem Zx4 {pl:Sem Bool}(he:PE X o ta) (c:Cls X.K C) (hm:Meth X.K C m f) (F:FnOk X.prog X.w X.K X.mg X.base CX k f fd ps sp) (hr:Room k X.A) (hb:Binds X.K fd ps ds) (hd:Vals dvs ds) (hx:Zaq CX X E)
  (ht:eval (.Call (.Attribute o m apos) [] [] pos) X.env=(do
   let ov ← eval o X.env
   standAt apos.atName
   let (f,first) ← holding [ov] (getMethod ov m pl)
   callWith pos f first (backTo pos (starEach [] X.env)) (backToKw pos (keywordEach [] X.env))):=by rfl) :
  PE X (.Call (.Attribute o m apos) [] [] pos) (Ze5 C m sp dvs E ta Wj):=by
 intro pins s σ H Q I h
 refine PySem.W.methodCall_KW (pl:=pl) (thn (he pins s σ H _ I h) fun u s1 ⟨x,H1,I1,rx,a,dx,fs,ex,ea,l,q⟩=>?_) ht
 subst ex
 obtain rfl:u=Value.ref a:=rx
 refine Zd5 I1 ea c hm l ?_
 exact PySem.W.callWith_K0 (first:=[.ref a]) I1.kIn hm.kp (Zik (us:=[.ref a]) (vs:=[.ref a]) F hr hb hd hx I1 (.cons rfl .nil) q)
structure Mk (K:uFg) (C f:Addr):Prop where
 makes:PySem.W.makesIn K C=true
 init:PySem.W.findIn K (.ref C) "__init__" = some (some (.ref f))
 fn:PySem.W.isFn K (.ref f)=true
 kp:PySem.W.keepIn K (.ref C)=true
theorem Zx5 {pins:List (Addr×Obj)}{σ:St}{H:Hp}{s:Shared}{Q:VK}{us:List Value}{vs:List V}(M:Mk X.K C f) (F:FnOk X.prog X.w X.K X.mg X.base CX k f fd ps sp) (hr:Room (k+1) X.A) (hb:Binds X.K fd ps ds) (hd:Vals dvs ds)
  (hx:Zaq CX X E) (I:Inv X pins σ H s) (r:Vals vs us)
  (h:∀ x dx,H x=none->H dx=none->dx≠x->sp (.ref x::(vs++dvs)) (upd (upd H dx (.own x)) x (.ins C dx [])) (fun v H2=>v = .non/\Q (.ref x) H2) E) :
  wpAny (model X.prog X.w) X.A (call (.ref C) us) (EP X pins σ Q) X.xe s:=by
 have hq:=h (s.heap.objs.size+1) s.heap.objs.size (I.hok.fresh (Nat.le_succ _)) (I.hok.fresh (xB _)) (yD (Nat.lt_succ_self _))
 have I2:=Inv.made (C:=C) I
 have r2:Vals (V.ref (s.heap.objs.size+1)::(vs++dvs)) (Value.ref (s.heap.objs.size+1)::(us++ds)):=.cons rfl (r.append hd)
 have hl:(Value.ref (s.heap.objs.size+1)::us++ds).length=ps.length:=by
  have e:=r2.length
  rw [F.len _ _ _ _ hq] at e
  exact e.symm
 refine wpAny_call (Zx3 (f:=f) I.kIn M.makes M.init (beq_iff_eq.mp M.fn) (codeAny_mono (F.run _ X.stack _ _ ⟨Value.ref (s.heap.objs.size+1)::us,[]⟩ (Value.ref (s.heap.objs.size+1)::(us++ds)) _ _ E (hr.make C us [])
  (I2.env0.make C us []) (hb _ (Value.ref (s.heap.objs.size+1)::us) I2.kIn hl) r2 hq) fun r s' hq'=>?_))
 cases r with
 | error e=>exact hx pins σ _ _ e s' I2 hq'
 | ok fl =>
  cases fl with
  | ret u =>
   obtain ⟨v,H',I3,rv,ev,q3⟩:=I2.after hq'
   subst ev
   exact ⟨rv,⟨V.ref (s.heap.objs.size+1),H',I3,rfl,q3⟩⟩
  | next=>exact False.elim hq'
  | brk=>exact False.elim hq'
  | cont=>exact False.elim hq'
theorem Zx6 (M:Mk X.K C f) (F:FnOk X.prog X.w X.K X.mg X.base CX k f fd ps sp) (hr:Room (k+1) X.A) (hg:Gl X x) (hm:X.mg x=some (.ref C)) (hb:Binds X.K fd ps ds) (hd:Vals dvs ds) (hx:Zaq CX X E)
  (hdb:(x == ("__debug__" : Str))=false:=by decide):PE X (.Call (.Name x p) [] [] pos) (Zrb C sp dvs E Wj):=by
 intro pins s σ H Q I h
 refine wpAny_Call_Name_kw (Zbp I hg hm ?_ hdb)
 exact PySem.W.callWith_K0 I.kIn M.kp (Zx5 (us:=[]) M F hr hb hd hx I .nil h)
end
section
variable {X:Cx}{CX:CXT}{k:Nat}{f C:Addr}{fd:FuncData}{ps ks:List Str}{sp:Sp}{E:XK}{x m:Str}{p pos apos kpos:Pos}{e o:Expr}{es:List Expr}{kws:List Keyword}{te ta:TE}{t tk:TA}{nm:Option Str}
structure KBinds (K:uFg) (fd:FuncData) (ps ks:List Str) (g:List Value->List Value->List Value) (gV:List V->List V->List V):Prop where
 to:∀ (s:Shared) (us ws:List Value),K.In s.heap->(g us ws).length=ps.length->BindsTo s fd ⟨us,ks.zip ws⟩ (ps.zip (g us ws))
 rel:∀ {vs:List V}{us:List Value}{zs:List V}{ws:List Value},Vals vs us->Vals zs ws->Vals (gV vs zs) (g us ws)
variable {g:List Value->List Value->List Value}{gV:List V->List V->List V}
end
structure FnScope (N P:List Str) (sc:Scope):Prop where
 kind:sc.kind = .function
 co:sc.isCoroutine=false
 gen:sc.isGenerator=false
 nd:N.Nodup
 pre:N.take P.length=P
 par:∀ x∈P,sc.names.lookup x=some .local\/sc.names.lookup x=some .cell
 nofree:∀ y∈sc.names,y.2 ≠ .free
theorem Zng {kindOf:Str->Option NameKind}{x:Str}:∀ {binds:List (Str×Value)}{m:Str->Option Value},(∀ v,(x,v)∉binds)->bindL kindOf binds m x=m x
 | [],_,_=>rfl
 | (n,v)::r,m,h=>by
  unfold bindL
  rw [Zng fun w hw=>h w (xT _ hw)]
  split
  ·have:x≠n:=by rintro rfl; exact h v xR
   simp [this]
  ·rfl
theorem Znh {kindOf:Str->Option NameKind}{x:Str}:∀ {binds:List (Str×Value)}{m:Str->Option Value},(∀ v,(x,v)∉binds)->bindC kindOf binds m x=m x
 | [],_,_=>rfl
 | (n,v)::r,m,h=>by
  unfold bindC
  rw [Znh fun w hw=>h w (xT _ hw)]
  split
  ·rfl
  ·have:x≠n:=by rintro rfl; exact h v xR
   simp [this]
theorem Zni {kindOf:Str->Option NameKind}{x:Str}{v:Value}:∀ {P:List Str}{vs:List Value}{i:Nat}{m:Str->Option Value},P.Nodup->P[i]? = some x->vs[i]? = some v->kindOf x=some .local ->
  bindL kindOf (P.zip vs) m x=some v
 | [],_,_,_,_,h,_,_=>by simp at h
 | _::_,[],_,_,_,_,h,_=>by simp at h
 | p::P,w::vs,0,m,nd,h1,h2,hk=>by
  simp at h1 h2; subst h1; subst h2
  show bindL kindOf ((p,w)::P.zip vs) m p=_
  unfold bindL
  rw [Zng fun v hv=>(xZ.mp nd).1 (List.of_mem_zip hv).1,if_pos hk]
  simp
 | p::P,w::vs,i+1,m,nd,h1,h2,hk=>by
  show bindL kindOf ((p,w)::P.zip vs) m x=_
  unfold bindL
  exact Zni (i:=i) (xZ.mp nd).2 (by simpa using h1) (by simpa using h2) hk
theorem Znj {kindOf:Str->Option NameKind}{x:Str}{v:Value}:∀ {P:List Str}{vs:List Value}{i:Nat}{m:Str->Option Value},P.Nodup->P[i]? = some x->vs[i]? = some v->kindOf x≠some .local ->
  bindC kindOf (P.zip vs) m x=some v
 | [],_,_,_,_,h,_,_=>by simp at h
 | _::_,[],_,_,_,_,h,_=>by simp at h
 | p::P,w::vs,0,m,nd,h1,h2,hk=>by
  simp at h1 h2; subst h1; subst h2
  show bindC kindOf ((p,w)::P.zip vs) m p=_
  unfold bindC
  rw [Znh fun v hv=>(xZ.mp nd).1 (List.of_mem_zip hv).1,if_neg hk]
  simp
 | p::P,w::vs,i+1,m,nd,h1,h2,hk=>by
  show bindC kindOf ((p,w)::P.zip vs) m x=_
  unfold bindC
  exact Znj (i:=i) (xZ.mp nd).2 (by simpa using h1) (by simpa using h2) hk
def start (N:List Str) (vs:List V):St:=vs.map some++List.replicate (N.length - vs.length) none
def Yo (CX:CXT) (P:Program) (w:World) (K:uFg) (mg:Str->Option Value) (base:Heap) (N:List Str) (qual:Str) (scope:Scope) (f:Addr) (cd:Value) (A:Around) (outer:List Env) (s:Shared) (H:Hp) (E:XK):Cx where
 prog:=P
 w:=w
 K:=K
 mg:=mg
 base:=base
 A:=A.deeper (envOfC qual scope s.heap.objs.size f cd)
 N:=N
 s₀:=s
 H₀:=H
 env:=envOfC qual scope s.heap.objs.size f cd
 outer:=outer
 stack:=envOfC qual scope s.heap.objs.size f cd::outer
 ex:=[]
 calm:=true
 fn:=fun _=>true
 pn:=[]
 xe:=fun e s'=>wpAny (model P w) (A.deeper (envOfC qual scope s.heap.objs.size f cd)) (leaving (envOfC qual scope s.heap.objs.size f cd) e) (fun _ s''=>CX outer H s E e s'') (fun e' s''=>CX outer H s E e' s'') s'
theorem Zn0 {sc:Scope}{n:Nat}{x:Str}(h:sc.names.lookup x=some .cell):∃ c,(cellsFrom n sc.names []).lookup x=some c:=by
 have q:=PySem.W.cellsFrom_some sc.names n [] (.inl h)
 exact Option.isSome_iff_exists.mp q
theorem Znk {CX:CXT}{P:Program}{w:World}{K:uFg}{mg:Str->Option Value}{base:Heap}{N ps:List Str}{qual:Str}{scope:Scope}{f:Addr}{cd:Value}{A:Around}{outer:List Env}{s s1:Shared}{H:Hp}{E:XK}{us:List Value}{vs:List V}
  (S:FnScope N ps scope) (hd:A.handled=none) (e0:Env0 P w K mg base A outer s H) (hl:vs.length=ps.length) (r:Vals vs us)
  (x:InCallC s s.heap.objs.size (bindL (envOfC qual scope s.heap.objs.size f cd).kindOf (ps.zip us) fun _=>none) (cellsFrom (s.heap.objs.size+1) scope.names []) (bindC (envOfC qual scope s.heap.objs.size f cd).kindOf (ps.zip us) fun _=>none) s1) :
  Inv (Yo CX P w K mg base N qual scope f cd A outer s H E) [] (start N vs) H s1:=by
 have hpl:ps.length<=N.length:=by have:=congrArg List.length S.pre; rw [xO] at this; lia
 obtain ⟨h1,tk,rfl,hk⟩:=x.done
 have noA:∀ b:Addr,b∉(Yo CX P w K mg base N qual scope f cd A outer s H E).ex:=fun b z=>absurd (show b∈([]:List Addr) from z) (by simp)
 refine ⟨⟨e0.mod,S.kind,rfl,rfl,xB _,fun y z c h1 h2=>?_,fun y hy=>?_,fun y c _ h=>?_,fun _=>hd,Around.frames_deeper e0.frames,.inr ⟨rfl,rfl⟩,fun b z=>absurd z (noA b),e0.bs,e0.bsz,fun b _ _=>noA b,fun b z=>absurd z (noA b),e0.funs,e0.frf⟩,
  rfl,e0.bare,Un.kept hk,⟨_,x.toInCall.ns,fun i y v h1 h2 h3=>?_⟩,fun y c h=>⟨_,x.cell y c h⟩,e0.hok.fresh (xB _),fun y c h=>?_,fun p hp=>absurd (show p∈([]:List (Addr×Obj)) from hp) (by simp),e0.hok.kept hk,?_⟩
 ·exact name_of_addr x.apart (PySem.mem_of_lookup h1) (PySem.mem_of_lookup h2)
 ·have hy:scope.names.lookup y=some .cell\/scope.names.lookup y=some .free:=hy
  rcases hy with hy | hy
  ·exact Zn0 hy
  ·exact absurd rfl (S.nofree _ (PySem.mem_of_lookup hy))
 ·exact Nat.le_of_lt (x.above y c (PySem.mem_of_lookup h))
 ·have hi:i < vs.length:=by
   unfold start at h2
   by_cases hi:i < vs.length
   ·exact hi
   ·rw [List.getElem?_append_right (by simpa using hi)] at h2
    rw [List.getElem?_replicate] at h2
    split at h2 <;> cases h2
  have ha:vs[i]? = some v:=by
   unfold start at h2
   rw [List.getElem?_append_left (by simpa using hi),xW] at h2
   cases e:vs[i]? with
   | none=>rw [e] at h2; cases h2
   | some a=>rw [e] at h2; cases h2; rfl
  obtain ⟨u,hu,rv⟩:=r.get ha
  have hp:ps[i]? = some y:=by
   rw [← S.pre,List.getElem?_take_of_lt (by lia)]; exact h1
  have ndP:ps.Nodup:=by rw [← S.pre]; exact S.nd.sublist (List.take_sublist _ _)
  refine ⟨u,rv,?_⟩
  rcases S.par y (xK hp) with k | k
  ·exact .inl ⟨k,Zni ndP hp hu k⟩
  ·obtain ⟨c,e⟩:=Zn0 (n:=s.heap.objs.size+1) k
   refine .inr ⟨.inl k,c,e,?_⟩
   have q:=x.cell y c e
   rw [Znj ndP hp hu (by show scope.names.lookup y≠_; rw [k]; decide)] at q
   exact q
 ·exact e0.hok.fresh (Nat.le_of_lt (x.above y c (PySem.mem_of_lookup h)))
 ·unfold start
  show _=N.length
  rw [xJ,xD,List.length_replicate]
  lia
theorem Zrc {CX:CXT}{P:Program}{w:World}{K:uFg}{mg:Str->Option Value}{base:Heap}{k:Nat}{f:Addr}{name qual:Str}{params:Arguments}{body:List Stmt}{scope:Scope}{dV kV doc pm cdv ct oc:Value}{an od:Option Addr}
  {osl:Array (Option Value)}{N ps:List Str}{sp:Sp}(lk:K.lookup f=some ⟨oc,od,.func (PySem.W.fnOf name qual params body scope dV kV doc pm an cdv ct),osl⟩) (hcd:PySem.W.codeIn K cdv qual=true) (S:FnScope N ps scope)
  (len:∀ vs H Q E,sp vs H Q E->vs.length=ps.length)
  (hbody:∀ (A:Around) (outer:List Env) (s:Shared) (H:Hp) (vs:List V) (Q:VK) (E:XK),Room k (A.deeper (envOfC qual scope s.heap.objs.size f cdv))->sp vs H Q E ->
   ∃ t,PSs (Yo CX P w K mg base N qual scope f cdv A outer s H E) body t/\t {nx:=fun _ H'=>Q .non H',rt:=Q } (start N vs) H) :
  FnOk P w K mg base CX (k+1) f (PySem.W.fnOf name qual params body scope dV kV doc pm an cdv ct) ps sp:=by
 refine ⟨len,fun A outer s H args us vs Q E hr e0 hb r hsp=>?_⟩
 have hl:=len _ _ _ _ hsp
 have KX:K.In s.heap:=e0.mod.kin.keeps fun b o e=>(e0.bs b o e).1
 have lim:s.heap.NoLimit:=e0.mod.nolimit.keeps fun b o e=>(e0.bs b o e).1
 have hkind:∀ y∈ps.zip us,scope.names.lookup y.1=some .local\/(scope.names.lookup y.1=some .cell/\((cellsFrom (s.heap.objs.size+1) scope.names []).lookup y.1).isSome=true):=fun ⟨n,v⟩ hy=>by
  rcases S.par n (List.of_mem_zip hy).1 with q | q
  ·exact .inl q
  ·exact .inr ⟨q,PySem.W.cellsFrom_some _ _ _ (.inl q)⟩
 refine codeAny_call_function hr.depth (KX _ _ lk) rfl S.co S.gen rfl (PySem.W.codeRec_of KX hcd) (hb _ _ _ _ ?_)
 refine wpAny_newFunctionEnv_cells S.kind hkind fun env he s1 x=>?_
 subst he
 refine ⟨lim.keeps x.toInCall.keep,codeAny_func ?_⟩
 obtain ⟨t,ht,hq⟩:=hbody A outer s H vs Q E (hr.deeper _) hsp
 have I:Inv (Yo CX P w K mg base N qual scope f cdv A outer s H E) [] (start N vs) H s1:=Znk S hr.hd e0 hl r x
 refine wpAny_mono (ht [] s1 (start N vs) H _ I hq) (fun fl s' hs=>?_) fun e s' hs=>hs
 have fin:∀ {σ':St}{H':Hp}{v:V}{u:Value},Inv (Yo CX P w K mg base N qual scope f cdv A outer s H E) [] σ' H' s'->RelV v u->Q v H'->CE outer P w H s Q u s' :=
  fun {σ' H' v u} J rv q=>⟨v,H',J.os,J.bare,J.base,J.hok,rv,q⟩
 cases fl with
 | ret u =>
  obtain ⟨v,σ',H',J,rv,q⟩:=hs
  exact fin J rv q
 | next =>
  obtain ⟨σ',H',J,q⟩:=hs
  exact fin (v:=V.non) (u:=Value.none) J rfl q
 | brk =>
  obtain ⟨_,_,_,q⟩:=hs
  exact False.elim q
 | cont =>
  obtain ⟨_,_,_,q⟩:=hs
  exact False.elim q
end L2
namespace L2
open PySem PySem.Spec PyProof.Rows
section
variable {X:Cx}{x:Str}{p pos:Pos}{e:Expr}{es:List Expr}{t:TA}{id T:String}{r:List V->Hp->VK->Prop}
def tCB (r:List V->Hp->VK->Prop) (t:TA):TE:=fun σ H Q=>t σ H fun vs H1=>r vs H1 Q
theorem Zx7 (hc:Wn X (.builtin id) r) (hg:Gl X x) (hm:X.mg x=none) (hv:bootBuiltins x=some (.builtin id)) (ha:PA X (e::es) t) (hn:x ≠ "__name__" := by decide) (hdb:(x == ("__debug__" : Str))=false:=by decide)
  (he:starEach (e::es) X.env=(false,eval e X.env)::starEach es X.env:=by rfl) (hpl:(backTo pos (starEach es X.env)).any (·.1)=false:=by rfl):PE X (.Call (.Name x p) (e::es) [] pos) (tCB r t):=by
 intro pins s σ H Q I h
 refine wpAny_Call_Name_kw (Zc3 I hg hm hv ?_ hn hdb)
 exact PyProof.Rows.callWith_builtin1 (thn (ha pos pins s σ H _ I h) fun us s1 ⟨vs,H1,I1,r1,q1⟩=>hc pins s1 σ H1 vs us Q I1 r1 q1) he hpl
theorem Zw2 (hc:Wn X (.type T) r) (hg:Gl X x) (hm:X.mg x=none) (hv:bootBuiltins x=some (.type T)) (ha:PA X (e::es) t) (hn:x ≠ "__name__" := by decide) (hdb:(x == ("__debug__" : Str))=false:=by decide)
  (he:starEach (e::es) X.env=(false,eval e X.env)::starEach es X.env:=by rfl) (hpl:(backTo pos (starEach es X.env)).any (·.1)=false:=by rfl):PE X (.Call (.Name x p) (e::es) [] pos) (tCB r t):=by
 intro pins s σ H Q I h
 refine wpAny_Call_Name_kw (Zc3 I hg hm hv ?_ hn hdb)
 exact PyProof.Rows.callWith_type1 (thn (ha pos pins s σ H _ I h) fun us s1 ⟨vs,H1,I1,r1,q1⟩=>hc pins s1 σ H1 vs us Q I1 r1 q1) he hpl
end
end L2
namespace HT
open PySem PyProof.Rows
section
open PySem.SeqAt
open PySem.AutoSeq1 (wpAny_loadPart')
open PySem.MeetsSeq PySem.MeetsSeq2 PySem.MeetsSeq3
end
section
variable {prog:Program}{w:World}{A:Around}{E:Value->Shared->Prop}{s:Shared}
def sIx (n d:Nat):Option Int->Nat
 | none=>d
 | some v=>if v < 0 then (v+(n:Int)).toNat else min v.toNat n
theorem sIx_none (n d:Nat):sIx n d none=d:=rfl
theorem sIx_nat (n d k:Nat):sIx n d (some (k:Int))=min k n:=by
 show (if (k:Int) < 0 then ((k:Int)+(n:Int)).toNat else min (k:Int).toNat n)=min k n
 rw [if_neg (by lia),Int.toNat_natCast]
theorem Z2w (n d:Nat) (hd:d<=n) (o:Option Int):sIx n d o<=n:=by
 cases o with
 | none=>exact hd
 | some v =>
  show (if v < 0 then (v+(n:Int)).toNat else min v.toNat n)<=n
  by_cases hv:v < 0
  ·rw [if_pos hv]; lia
  ·rw [if_neg hv]; exact Nat.min_le_right _ _
theorem Zon (v:Int) (n d:Nat):(if v < 0 then max (v+(n:Int)) 0 else min v (n:Int))=((sIx n d (some v):Nat):Int):=by
 show (if v < 0 then max (v+(n:Int)) 0 else min v (n:Int))=(((if v < 0 then (v+(n:Int)).toNat else min v.toNat n):Nat):Int)
 by_cases hv:v < 0
 ·simp only [if_pos hv]; lia
 ·simp only [if_neg hv]; lia
theorem Zvk (lo hi:Option Int) (n:Nat):Builtin.Slice.sliceAdjust lo hi 1 (n:Int)=(((sIx n 0 lo:Nat):Int),((sIx n n hi:Nat):Int)):=by
 have h1:¬ ((1:Int) < 0):=by lia
 unfold Builtin.Slice.sliceAdjust
 simp only [h1,if_false]
 refine Prod.ext ?_ ?_
 ·cases lo with
  | none=>rfl
  | some v=>exact Zon v n 0
 ·cases hi with
  | none=>rfl
  | some v=>exact Zon v n n
theorem Zvl (i j:Nat):Builtin.Slice.slicePlaces (i:Int) (j:Int) 1=j - i:=by
 unfold Builtin.Slice.slicePlaces
 have h1:(1:Int) > 0:=by lia
 simp only [h1,if_true,Int.ediv_one]
 split <;> lia
theorem Zm1 {v:Value}{o:Option Int}{Q:Option Int->Shared->Prop}(p:IsPart v o) (h:Q o s):wpAny (model prog w) A (Builtin.Slice.slicePartIndex v) Q E s:=by
 cases p with
 | none=>exact slicePart_none h
 | int i t=>exact slicePart_int h
theorem Zul {sl:Addr}{vl vu:Value}{lo hi:Option Int}{n:Nat}{Q:Int×Int×Nat->Shared->Prop}(hs:s.heap.IsSliceOf sl vl vu .none) (pl:IsPart vl lo) (pu:IsPart vu hi)
  (h:Q (((sIx n 0 lo:Nat):Int),1,sIx n n hi - sIx n 0 lo) s):wpAny (model prog w) A (Builtin.Slice.sliceApplied (.ref sl) (pure (n:Int))) Q E s:=by
 obtain ⟨os,hos,hcs,hds⟩:=id hs
 unfold Builtin.Slice.sliceApplied Builtin.Slice.sliceFields
 refine wpAny_bind (wpAny_bind (wpAny_field hos hds (x:=vl) rfl (wpAny_bind (wpAny_field hos hds (x:=vu) rfl (wpAny_bind (wpAny_field hos hds (x:=.none) rfl (wpAny_pure ?_)))))))
 refine wpAny_bind (slicePart_none ?_)
 show wpAny _ _ (if ((1:Int) == 0)=true then _ else _) _ _ s
 rw [if_neg (by decide)]
 refine wpAny_bind (Zm1 pl (wpAny_bind (Zm1 pu (wpAny_bind (wpAny_pure ?_)))))
 show wpAny _ _ (match Builtin.Slice.sliceAdjust lo hi 1 (n:Int) with | (lo,hi)=>pure (lo,(1:Int),Builtin.Slice.slicePlaces lo hi 1)) _ _ s
 rw [Zvk lo hi n]
 show wpAny _ _ (pure (((sIx n 0 lo:Nat):Int),(1:Int),Builtin.Slice.slicePlaces ((sIx n 0 lo:Nat):Int) ((sIx n n hi:Nat):Int) 1)) _ _ s
 rw [Zvl]
 exact wpAny_pure h
theorem Zx8 (xs:Array Value) (i k:Nat):((List.range k).filterMap fun (m:Nat)=>xs[((i:Int)+(m:Int) * 1).toNat]?).toArray=((xs.toList.drop i).take k).toArray:=by
 have e:(fun (m:Nat)=>xs[((i:Int)+(m:Int) * 1).toNat]?)=fun m=>xs[i+m]?:=by
  funext m
  have:((i:Int)+(m:Int) * 1).toNat=i+m:=by lia
  rw [this]
 rw [e]
 have:=pick_run xs i k
 rw [List.filterMap_map] at this
 have e2:((fun x=>xs[x]?)∘fun x=>i+x)=fun m=>xs[i+m]?:=rfl
 rw [e2] at this
 rw [this]
theorem getItem_tuple_cut {t sl:Addr}{items:Array Value}{vl vu:Value}{lo hi:Option Int}{Q:Value->Shared->Prop}(ht:IsTup s.heap t items) (hs:s.heap.IsSliceOf sl vl vu .none) (pl:IsPart vl lo) (pu:IsPart vu hi)
  (hw:¬ (sIx items.size 0 lo=0/\sIx items.size items.size hi=items.size))
  (h:Q (.ref s.heap.objs.size) {s with heap:=s.heap.push {cls:=.type "tuple", data:=.seq ((items.toList.drop (sIx items.size 0 lo)).take (sIx items.size items.size hi - sIx items.size 0 lo)).toArray } })
  (hsz:items.size<=sizeLine):wpAny (model prog w) A (getItem (.ref t) (.ref sl)) Q E s:=by
 have htake:sizeOk (.seq ((items.toList.drop (sIx items.size 0 lo)).take (sIx items.size items.size hi - sIx items.size 0 lo)).toArray):=by
  show ((items.toList.drop (sIx items.size 0 lo)).take (sIx items.size items.size hi - sIx items.size 0 lo)).toArray.size<=sizeLine
  rw [xL,xO,List.length_drop,Array.length_toList]
  lia
 have hj:sIx items.size items.size hi<=items.size:=Z2w _ _ (xB _) hi
 obtain ⟨os,hos,hcs,hds⟩:=id hs
 have hTs:s.TypeIs (.ref sl) "slice" := ⟨os,hos,hcs⟩
 unfold getItem
 try with_reducible refine wpAny_holding ?_
 first | refine wpAny_bind (wpAny_pure ?_) | skip
 refine wpAny_bind (wpAny_sequenceKey ht.typeIs (by decide) ?_)
 refine wpAny_bind (wpAny_callSpecial?_slot (name:=Str.ofString "__getitem__") ht.typeIs PyProof.Rows.slot_tuple_getitem
  (wpAny_call_entry PyProof.Rows.slot_tuple_getitem ht.typeIs entry_tuple_getitem ?_ (args_tuple_getitem _ _)))
 show wpAny _ _ (Builtin.Tuple.tupleItemsOf (.ref t) >>= _) _ _ s
 refine wpAny_bind (tupleItemsOf_ ht ?_)
 refine wpAny_bind (wpAny_typeOf hTs ?_)
 rw [if_pos (by decide)]
 refine wpAny_bind (Zul hs pl pu ?_)
 have hno:¬ ((((sIx items.size 0 lo:Nat):Int) == 0 && (1:Int) == 1 && (sIx items.size items.size hi - sIx items.size 0 lo) == items.size)=true):=by
  intro q
  rw [yP,yP] at q
  have q1:((sIx items.size 0 lo:Nat):Int)=0:=eq_of_beq q.1.1
  have q2:sIx items.size items.size hi - sIx items.size 0 lo=items.size:=eq_of_beq q.2
  exact hw ⟨by lia,by lia⟩
 show wpAny _ _ (if (((sIx items.size 0 lo:Nat):Int) == 0 && (1:Int) == 1 && (sIx items.size items.size hi - sIx items.size 0 lo) == items.size)=true then _ else _) _ _ s
 rw [if_neg hno,Zx8]
 first
  | exact wpAny_bind (m:=Builtin.Tuple.tupleExact _) (wpAny_newObj_type (wpAny_pure ⟨_,rfl,wpAny_pure h⟩) htake)
  | exact wpAny_bind (m:=Builtin.Tuple.tupleExact _) (wpAny_newObj_type (wpAny_bind (wpAny_pure (wpAny_pure ⟨_,rfl,wpAny_pure h⟩))) htake)
  | exact wpAny_bind (wpAny_bind (m:=Builtin.Tuple.tupleExact _) (wpAny_newObj_type (wpAny_pure (wpAny_pure ⟨_,rfl,wpAny_pure h⟩)) htake))
  | exact wpAny_bind (wpAny_bind (m:=Builtin.Tuple.tupleExact _) (wpAny_newObj_type (wpAny_pure ⟨_,rfl,wpAny_pure h⟩) htake))
end
end HT
namespace L2
open PySem PySem.Spec PyProof.Rows
abbrev TO:=St->Hp->(Option Int->Hp->Prop)->Prop
def PO (X:Cx) (e:Option Expr) (t:TO):Prop :=
 ∀ (pins:List (Addr×Obj)) (s:Shared) (σ:St) (H:Hp) (Q:Option Int->Hp->Prop),Inv X pins σ H s->t σ H Q ->
  wpAny (model X.prog X.w) X.A (evalPart e X.env) (fun u s'=>∃ o H',Inv X pins σ H' s'/\IsPart u o/\Q o H') X.xe s
def Zoo:TO:=fun _ H Q=>Q none H
def Zrd (t:TE):TO:=fun σ H Q=>t σ H fun x H1=>∃ i,x = .int i/\Q (some i) H1
section
variable {X:Cx}{e:Expr}{te:TE}{lo hi:Option Expr}{tl th:TO}{pos p2:Pos}
theorem Z0g:PO X none Zoo:=by
 intro pins s σ H Q I h
 rw [evalPart_none]
 exact wpAny_pure ⟨none,H,I,.none,h⟩
theorem Z0h (h:PE X e te):PO X (some e) (Zrd te):=by
 intro pins s σ H Q I hw
 rw [evalPart_some]
 refine thn (h pins s σ H _ I hw) fun u s1 ⟨x,H1,I1,r1,q1⟩=>?_
 obtain ⟨i,rfl,q⟩:=q1
 obtain ⟨t,rfl⟩:=r1
 exact ⟨some i,H1,I1,.int i t,q⟩
def SlR (X:Cx) (r:V->Option Int->Option Int->Hp->VK->Prop):Prop :=
 ∀ (pins:List (Addr×Obj)) (s:Shared) (σ:St) (H:Hp) (x:V) (v vl vu:Value) (lo hi:Option Int) (sl:Addr) (Q:VK),Inv X pins σ H s->RelV x v->s.heap.IsSliceOf sl vl vu .none->IsPart vl lo->IsPart vu hi->r x lo hi H Q ->
  ∃ T id,typeLookup (.type T) "__getitem__" = pure (some (.builtin id))/\s.TypeIs v T/\wpAny (model X.prog X.w) X.A (getItem v (.ref sl)) (EP X pins σ Q) X.xe s
def tSl (r:V->Option Int->Option Int->Hp->VK->Prop) (te:TE) (tl th:TO):TE:=fun σ H Q=>te σ H fun x H1=>tl σ H1 fun l H2=>th σ H2 fun u H3=>r x l u H3 Q
theorem Zx9 {r:V->Option Int->Option Int->Hp->VK->Prop}(hr:SlR X r) (he:PE X e te) (hl:PO X lo tl) (hu:PO X hi th):PE X (.Subscript e (.Slice lo hi none p2) pos) (tSl r te tl th):=by
 intro pins s σ H Q I h
 refine Subscript_ (thn (he pins s σ H _ I h) fun v s1 ⟨x,H1,I1,r1,q1⟩=>?_)
 refine wpAny_Slice (thn (hl pins s1 σ H1 _ I1 q1) fun vl s2 ⟨l,H2,I2,pl,q2⟩=>thn (hu pins s2 σ H2 _ I2 q2) fun vu s3 ⟨u,H3,I3,pu,q3⟩=>?_)
 rw [evalPart_none]
 refine wpAny_pure ?_
 have I4:Inv X pins σ H3 {s3 with heap:=s3.heap.push {cls:=.type "slice", data:=.fields #[vl,vu,.none] } }:=I3.kept (t':=s3.toks) fun b ob q=>xA _ q
 obtain ⟨T,id,hT,ht,hg⟩:=hr pins {s3 with heap:=s3.heap.push {cls:=.type "slice", data:=.fields #[vl,vu,.none] } } σ H3 x v vl vu l u s3.heap.objs.size Q I4 r1 (Heap.IsSliceOf.new ..) pl pu q3
 show wpAny (model X.prog X.w) X.A (subscriptTail e (.Slice lo hi none p2) v (.ref s3.heap.objs.size)) (EP X pins σ Q) X.xe {s3 with heap:=s3.heap.push {cls:=.type "slice", data:=.fields #[vl,vu,.none] } }
 exact tail_any (ops:=[.ref s3.heap.objs.size,v]) ht hT hg (by with_unfolding_all rfl)
def Ws (xs:List V) (lo hi:Option Int):List V:=(xs.drop (HT.sIx xs.length 0 lo)).take (HT.sIx xs.length xs.length hi - HT.sIx xs.length 0 lo)
theorem Zmv (xs:List V) (lo hi:Option Int):(Ws xs lo hi).length<=xs.length:=by
 unfold Ws
 rw [xO,List.length_drop]
 lia
def Ztz (K:uFg):V->Option Int->Option Int->Hp->VK->Prop:=fun x lo hi H Q=>∃ a xs,x = .ref a/\SqT K H a xs /\
 ¬ (HT.sIx xs.length 0 lo=0/\HT.sIx xs.length xs.length hi=xs.length)/\∀ p,H p=none->Q (.ref p) (upd H p (.tup (Ws xs lo hi)))
theorem Z2x:SlR X (Ztz X.K):=by
 intro pins s σ H x v vl vu lo hi sl Q I rx hs pl pu h
 obtain ⟨a,xs,rfl,hx,hw,q⟩:=h
 cases rx
 obtain ⟨its,r,ht,hz⟩:=I.tuple hx
 have hlen:its.toArray.size=xs.length:=by rw [xL]; exact r.length.symm
 refine ⟨"tuple", _,PyProof.Rows.slot_tuple_getitem.lookup,ht.typeIs,?_⟩
 refine HT.getItem_tuple_cut ht hs pl pu (by rw [hlen]; exact hw) ?_ (by rw [hlen]; exact hz)
 rw [hlen]
 refine ⟨.ref s.heap.objs.size,_,I.laid (t':=s.toks) (o:=.tup (Ws xs lo hi)) (fun b ob q=>xA _ q) (xB _) ?_,rfl,q _ (I.hok.fresh (xB _))⟩
 exact ⟨yK (Zmv xs lo hi) hz,_,(r.drop (HT.sIx xs.length 0 lo)).take (HT.sIx xs.length xs.length hi - HT.sIx xs.length 0 lo),IsTup.new _ _⟩
end
end L2
namespace L2
open PySem PySem.Spec PyProof.Rows
def ixN (n:Nat) (i:Int):Option Nat:=if 0<=i then (if i < n then some i.toNat else none) else if -(n:Int)<=i then some (i+n).toNat else none
def atI {α:Type}(xs:List α) (i:Int):Option α:=(ixN xs.length i).bind fun j=>xs[j]?
theorem Zop {n:Nat}{i:Int}{j:Nat}(h:ixN n i=some j):seqIndex? i n=some j/\j < n /\ -(n:Int)<=i/\i < n:=by
 unfold ixN at h
 by_cases h0 : 0<=i
 ·rw [if_pos h0] at h
  by_cases h1:i < n
  ·rw [if_pos h1] at h
   have e:i.toNat=j:=Option.some.inj h
   exact ⟨by rw [seqIndex_of h0 h1,e],by lia,by lia,h1⟩
  ·rw [if_neg h1] at h; cases h
 ·rw [if_neg h0] at h
  by_cases h1 : -(n:Int)<=i
  ·rw [if_pos h1] at h
   have e:(i+n).toNat=j:=Option.some.inj h
   exact ⟨by rw [seqIndex_neg (by lia) h1,e],by lia,h1,by lia⟩
  ·rw [if_neg h1] at h; cases h
theorem Zhm {α:Type}{xs:List α}{i:Int}{v : α}(h:atI xs i=some v):∃ j,seqIndex? i xs.length=some j/\xs[j]? = some v/\j < xs.length /\ -(xs.length:Int)<=i/\i < xs.length:=by
 unfold atI at h
 cases e:ixN xs.length i with
 | none=>rw [e] at h; cases h
 | some j =>
  rw [e] at h
  obtain ⟨h1,h2,h3,h4⟩:=Zop e
  exact ⟨j,h1,h,h2,h3,h4⟩
theorem Ua {α:Type}{xs:List α}{j:Nat}{v : α}(h:xs[j]? = some v):atI xs (j:Int)=some v:=by
 have hj:j < xs.length:=(xV.mp h).1
 have e:ixN xs.length (j:Int)=some j:=by
  unfold ixN
  rw [if_pos (by lia),if_pos (by lia)]; simp
 unfold atI; rw [e]; exact h
def Zoq (b:Expr):Prop:=∀ o i,subscripted b false o i=operate [o,i] (getItem o i)
def IxR (X:Cx) (r:R2):Prop :=
 ∀ (value slice:Expr) (pins:List (Addr×Obj)) (s:Shared) (σ:St) (H:Hp) (x y:V) (v u:Value) (Q:VK),Inv X pins σ H s->RelV x v->RelV y u->r x y H Q ->
  subscripted slice false v u=operate [v,u] (getItem v u)->wpAny (model X.prog X.w) X.A (subscriptTail value slice v u) (EP X pins σ Q) X.xe s
def MtR (X:Cx) (id:String) (r:V->List V->Hp->VK->Prop):Prop :=
 ∀ (pins:List (Addr×Obj)) (s:Shared) (σ:St) (H:Hp) (x:V) (xs:List V) (v:Value) (us:List Value) (Q:VK),Inv X pins σ H s->RelV x v->Vals xs us->r x xs H Q ->
  wpAny (model X.prog X.w) X.A (call (.builtin id) (v::us)) (EP X pins σ Q) X.xe s
section
variable {X:Cx}{a b:Expr}{ta tb:TE}{pos:Pos}
theorem Z34 {r:R2}(hr:IxR X r) (ha:PE X a ta) (hb:PE X b tb) (hs:Zoq b):PE X (.Subscript a b pos) (tOp r ta tb):=by
 intro pins s σ H Q I h
 exact Subscript_ (Zky ha hb I h fun v u s2 x y H2 I2 rx ry q=>hr a b pins s2 σ H2 x y v u Q I2 rx ry q (hs _ _))
def Zk3 (K:uFg):R2:=fun x y H Q=>∃ p xs i v,x = .ref p/\y = .int i/\SqL K H p xs/\atI xs i=some v/\Q v H
def Zt0 (K:uFg):R2:=fun x y H Q=>∃ p xs i v,x = .ref p/\y = .int i/\SqT K H p xs/\atI xs i=some v/\Q v H
def Zt1:R2:=fun x y H Q=>∃ z i c,x = .str z/\y = .int i/\z.length<=sizeLine/\atI z.cps.toList i=some c/\Q (.str ⟨#[c]⟩) H
theorem Zor:IxR X (Zk3 X.K):=by
 intro value slice pins s σ H x y v u Q I rx ry h hs
 obtain ⟨p,xs,i,z,rfl,rfl,hq,he,q⟩:=h
 cases rx
 obtain ⟨t,rfl⟩:=ry
 obtain ⟨its,r,pl,hz⟩:=I.list hq
 obtain ⟨j,h1,h2,h3,h4,h5⟩:=Zhm he
 obtain ⟨w,ew,rw'⟩:=r.get h2
 have hl:=r.length
 have hn:=Zap
 have fin:EP X pins σ Q w s:=⟨z,H,I,rw',q⟩
 by_cases h0 : 0<=i
 ·have hj:i.toNat=j:=by
   rw [seqIndex_of h0 h5] at h1
   exact Option.some.inj h1
  exact item_listR pl.isList h0 (by lia) (by rw [hj]; simpa using ew) fin hs
 ·have hj:(i+(its.toArray.size:Int)).toNat=j:=by
   rw [seqIndex_neg (by lia) h4] at h1
   rw [xL,← hl]
   exact Option.some.inj h1
  exact subscriptTail_builtinR (x:=w) pl.isList.typeIs slot_list_getitem.lookup
   (wpAny_getItem_list_neg (Q:=fun r s'=>r=w/\EP X pins σ Q r s') pl.isList (by lia) (by rw [xL] <;> lia) (by lia) (by rw [hj]; simpa using ew) ⟨rfl,fin⟩) hs
theorem Z2y:IxR X (Zt0 X.K):=by
 intro value slice pins s σ H x y v u Q I rx ry h hs
 obtain ⟨p,xs,i,z,rfl,rfl,hq,he,q⟩:=h
 cases rx
 obtain ⟨t,rfl⟩:=ry
 obtain ⟨its,r,pl,hz⟩:=I.tuple hq
 obtain ⟨j,h1,h2,h3,h4,h5⟩:=Zhm he
 obtain ⟨w,ew,rw'⟩:=r.get h2
 have hl:=r.length
 have hn:=Zap
 have fin:EP X pins σ Q w s:=⟨z,H,I,rw',q⟩
 exact subscriptTail_builtinR (x:=w) pl.typeIs slot_tuple_getitem.lookup
  (getItem_tuple (j:=j) (Q:=fun r s'=>r=w/\EP X pins σ Q r s') pl (by lia) (by lia) (by rw [xL,← hl]; exact h1) (by simpa using ew) ⟨rfl,fin⟩) hs
theorem Z2z:IxR X Zt1:=by
 intro value slice pins s σ H x y v u Q I rx ry h hs
 obtain ⟨z,i,c,rfl,rfl,hz,he,q⟩:=h
 obtain ⟨t,rfl⟩:=rx
 obtain ⟨t',rfl⟩:=ry
 obtain ⟨j,h1,h2,h3,h4,h5⟩:=Zhm he
 have hl:z.cps.toList.length=z.length:=by simp [Str.length]
 rw [hl] at h1 h4 h5
 have hn:=Zap
 exact tail_any (typeIs_str s z t) slot_str_getitem.lookup (getItem_str (c:=c) (by
  have e1:decide (i < -(2 ^ 63:Int))=false:=xU (by lia)
  have e2:decide (i>=2 ^ 63)=false:=xU (by lia)
  rw [e1,e2,Bool.or_false]) (by rw [h1]; simpa using h2) ⟨.str ⟨#[c]⟩,H,I.tok _,⟨_,rfl⟩,q⟩) hs
theorem Zvm (its:List Value) (n j:Nat) (u:Value):Obj.mapSeq (·.setIfInBounds j u) {cls:=.type "list", data:=.seq its.toArray n }={cls:=.type "list", data:=.seq (its.set j u).toArray n }:=by
 simp [Obj.mapSeq]
theorem Inv.lst {pins:List (Addr×Obj)}{σ:St}{H:Hp}{s:Shared}{p:Addr}{xs:List V}(I:Inv X pins σ H s) (h:H p=some (.lst xs)) :
  ∃ (its:List Value) (n:Nat),Vals xs its/\s.heap.get? p=some {cls:=.type "list", data:=.seq its.toArray n }/\xs.length<=sizeLine:=by
 obtain ⟨z,its,n,r,e⟩:=I.hok p _ h
 exact ⟨its,n,r,e,z⟩
theorem Inv.lstUpd {pins:List (Addr×Obj)}{σ:St}{H:Hp}{s:Shared}{p:Addr}{xs ys:List V}{its its':List Value}{n n':Nat}{f:Obj->Obj}(I:Inv X pins σ H s) (h:H p=some (.lst xs))
  (ho:s.heap.get? p=some {cls:=.type "list", data:=.seq its.toArray n }) (hf:f {cls:=.type "list", data:=.seq its.toArray n }={cls:=.type "list", data:=.seq its'.toArray n' }) (r:Vals ys its') (hz:ys.length<=sizeLine) (t:Nat) :
  Inv X pins σ (upd H p (.lst ys)) {s with heap:=s.heap.update p f,toks:=t }:=by
 have e:(s.heap.update p f).get? p=some {cls:=.type "list", data:=.seq its'.toArray n' }:=by
  rw [Heap.get?_update_self f ho (by rw [hf] <;> rfl),hf]
 refine I.write (x:=p) (e:=p) (by rw [h]; trivial) (.inl rfl) (fun b u hb q=>(Heap.get?_update_other _ _ (Ne.symm hb)).trans q) ⟨_,e⟩ ?_
 exact ⟨hz,its',n',r,e⟩
def Zre:V->V->V->Hp->(Hp->Prop)->Prop:=fun o i v H Q=>∃ p xs k j,o = .ref p/\i = .int k/\H p=some (.lst xs)/\ixN xs.length k=some j/\Q (upd H p (.lst (xs.set j v)))
theorem Zya:Zkw X Zre:=by
 intro pins s σ H o i v ov iv u Q I ro ri rv h
 obtain ⟨p,xs,k,j,rfl,rfl,hp,hj,q⟩:=h
 cases ro
 obtain ⟨t,rfl⟩:=ri
 obtain ⟨its,n,r,ho,hz⟩:=I.lst hp
 obtain ⟨h1,h2,h3,h4⟩:=Zop hj
 have hl:=r.length
 have hn:=Zap
 have I':Inv X pins σ (upd H p (.lst (xs.set j v))) {s with heap:=s.heap.update p (Obj.mapSeq (·.setIfInBounds j u)) } :=
  I.lstUpd hp ho (Zvm its n j u) (r.set rv j) (by rw [List.length_set]; exact hz) s.toks
 by_cases h0 : 0<=k
 ·have hk:k.toNat=j:=by
   rw [seqIndex_of h0 h4] at h1
   exact Option.some.inj h1
  exact PySem.W.ki_setAt ho h0 (by lia) (by rw [xL,← hl]; exact h4) (by rw [hk]; exact ⟨_,I',q⟩)
 ·have hk:(k+(its.toArray.size:Int)).toNat=j:=by
   rw [seqIndex_neg (by lia) h3] at h1
   rw [xL,← hl]
   exact Option.some.inj h1
  exact PySem.W.ki_setBack ho (by lia) (by rw [xL,← hl]; exact h3) (by lia) (by rw [hk]; exact ⟨_,I',q⟩)
theorem Zuz (lo hi:Option Int) (n:Nat):(sliceBounds lo hi none n).1=((HT.sIx n 0 lo:Nat):Int)/\(sliceBounds lo hi none n).2.1=((HT.sIx n n hi:Nat):Int)/\(sliceBounds lo hi none n).2.2=1:=by
 refine ⟨?_,?_,rfl⟩
 ·cases lo with
  | none=>simp [sliceBounds,HT.sIx]
  | some i =>
   simp only [sliceBounds,HT.sIx,Option.getD_none,show (1:Int) > 0 by decide,if_true]
   by_cases h:i < 0
   ·simp only [h,if_true] <;> lia
   ·simp only [h,if_false] <;> lia
 ·cases hi with
  | none=>simp [sliceBounds,HT.sIx]
  | some i =>
   simp only [sliceBounds,HT.sIx,Option.getD_none,show (1:Int) > 0 by decide,if_true]
   by_cases h:i < 0
   ·simp only [h,if_true] <;> lia
   ·simp only [h,if_false] <;> lia
theorem Zus (its:List Value) (lo hi:Option Int):slicePick its.toArray lo hi none=((its.drop (HT.sIx its.length 0 lo)).take (HT.sIx its.length its.length hi - HT.sIx its.length 0 lo)).toArray:=by
 obtain ⟨h1,h2,h3⟩:=Zuz lo hi its.toArray.size
 unfold slicePick
 rw [h1,h2,h3]
 simp only [sliceRange_one,pick_run,xL] <;> rfl
def Zt2 (K:uFg):V->Option Int->Option Int->Hp->VK->Prop:=fun x lo hi H Q=>∃ a xs,x = .ref a/\SqL K H a xs/\∀ p,H p=none->Q (.ref p) (upd H p (.lst (Ws xs lo hi)))
theorem Z0i:SlR X (Zt2 X.K):=by
 intro pins s σ H x v vl vu lo hi sl Q I rx hs pl pu h
 obtain ⟨a,xs,rfl,hx,q⟩:=h
 cases rx
 obtain ⟨its,r,ht,hz⟩:=I.list hx
 have hlen:=r.length
 refine ⟨"list", _,slot_list_getitem.lookup,ht.isList.typeIs,?_⟩
 refine wpAny_getItem_list_slice ht.isList hs pl pu .none (by simp) ?_ (by rw [xL] <;> lia)
 rw [Zus,← hlen]
 refine ⟨.ref s.heap.objs.size,_,I.laid (t':=s.toks) (o:=.lst (Ws xs lo hi)) (fun b ob q=>xA _ q) (xB _) ?_,rfl,q _ (I.hok.fresh (xB _))⟩
 exact ⟨yK (Zmv xs lo hi) hz,_,0,(r.drop (HT.sIx xs.length 0 lo)).take (HT.sIx xs.length xs.length hi - HT.sIx xs.length 0 lo),xI _ rfl⟩
def Ub:V->Bool
 | .non=>true
 | .bl _=>true
 | .int _=>true
 | .str _=>true
 | _=>false
def eqV:V->V->Bool
 | .non,.non=>true
 | .bl a,.bl b=>a == b
 | .bl a,.int b=>(if a then 1 else 0) == b
 | .int a,.bl b=>a == (if b then 1 else 0)
 | .int a,.int b=>a == b
 | .str a,.str b=>a == b
 | _,_=>false
theorem Z20 {A:Around}{s:Shared}{y x:V}{u v:Value}(ry:RelV y u) (rx:RelV x v) (fy:Ub y=true) (fx:Ub x=true):SeqAt.EqAt A s u v (eqV y x):=by
 cases y with
 | non =>
  cases ry
  cases x with
  | non=>cases rx; exact SeqAt.EqAt.same _
  | bl b=>cases rx; exact SeqAt.EqAt.none_bool b
  | int b=>obtain ⟨t,rfl⟩:=rx; exact SeqAt.EqAt.none_int b t
  | str b=>obtain ⟨t,rfl⟩:=rx; exact SeqAt.EqAt.none_str b t
  | _=>exact absurd (show false=true from fx) xE
 | bl a =>
  cases ry
  cases x with
  | non=>cases rx; exact SeqAt.EqAt.bool_none a
  | bl b=>cases rx; exact SeqAt.EqAt.bool_bool a b
  | int b=>obtain ⟨t,rfl⟩:=rx; exact SeqAt.EqAt.bool_int a b t
  | str b=>obtain ⟨t,rfl⟩:=rx; exact SeqAt.EqAt.bool_str a b t
  | _=>exact absurd (show false=true from fx) xE
 | int a =>
  obtain ⟨t',rfl⟩:=ry
  cases x with
  | non=>cases rx; exact SeqAt.EqAt.int_none a t'
  | bl b=>cases rx; exact SeqAt.EqAt.int_bool a t' b
  | int b=>obtain ⟨t,rfl⟩:=rx; exact SeqAt.EqAt.int_int a t' b t
  | str b=>obtain ⟨t,rfl⟩:=rx; exact SeqAt.EqAt.int_str a t' b t
  | _=>exact absurd (show false=true from fx) xE
 | str a =>
  obtain ⟨t',rfl⟩:=ry
  cases x with
  | non=>cases rx; exact SeqAt.EqAt.str_none a t'
  | bl b=>cases rx; exact SeqAt.EqAt.str_bool a t' b
  | int b=>obtain ⟨t,rfl⟩:=rx; exact SeqAt.EqAt.str_int a t' b t
  | str b=>obtain ⟨t,rfl⟩:=rx; exact SeqAt.EqAt.str_str a t' b t
  | _=>exact absurd (show false=true from fx) xE
 | _=>exact absurd (show false=true from fy) xE
def eqU (x:V) (u:Value):Bool:=match u with
 | .none=>eqV .non x
 | .bool b=>eqV (.bl b) x
 | .int i _=>eqV (.int i) x
 | .str z _=>eqV (.str z) x
 | _=>false
theorem Zpr {x y:V}{u:Value}(r:RelV y u) (f:Ub y=true):eqU x u=eqV y x:=by
 cases y with
 | non=>cases r; rfl
 | bl b=>cases r; rfl
 | int i=>obtain ⟨t,rfl⟩:=r; rfl
 | str z=>obtain ⟨t,rfl⟩:=r; rfl
 | _=>exact absurd (show false=true from f) xE
theorem Zhn {x:V}:∀ {xs:List V}{us:List Value},Vals xs us->xs.all Ub=true->us.any (eqU x)=xs.any fun y=>eqV y x
 | _,_,.nil,_=>rfl
 | y::xs,u::us,.cons r t,f=>by
  rw [List.all_cons,yP] at f
  rw [List.any_cons,List.any_cons,Zpr r f.1,Zhn t f.2]
theorem Zg8 {A:Around}{s:Shared}{x:V}{v:Value}(rx:RelV x v) (fx:Ub x=true):∀ {xs:List V}{us:List Value},Vals xs us->xs.all Ub=true->∀ u∈us,SeqAt.EqAt A s u v (eqU x u)
 | _,_,.nil,_=>fun u hu=>by cases hu
 | y::xs,u::us,.cons r t,f=>fun u' hu=>by
  rw [List.all_cons,yP] at f
  rcases xC.mp hu with rfl | hu
  ·rw [Zpr r f.1]; exact Z20 r rx f.1 fx
  ·exact Zg8 rx fx t f.2 u' hu
def inV (x:V) (xs:List V):Bool:=xs.any fun y=>eqV y x
def rIn (K:uFg) (neg:Bool):R2:=fun x y H Q=>∃ p xs,y = .ref p/\(SqL K H p xs\/SqT K H p xs)/\Ub x=true/\xs.all Ub=true/\Q (.bl (if neg then !inV x xs else inV x xs)) H
theorem Zu0:OpR X (compareOp .NotIn) (rIn X.K true):=by
 intro pins s σ H x y v u Q I rx ry h
 obtain ⟨p,xs,rfl,hq,fx,fs,q⟩:=h
 cases ry
 rcases hq with hq | hq
 ·obtain ⟨its,r,pl,hz⟩:=I.list hq
  refine SeqAt.notIn_listAt (eqU x) pl.isList (fun w hw=>Zg8 rx fx r fs w (by simpa using hw)) ⟨.bl _,H,I,rfl,?_⟩
  rw [show its.toArray.any (eqU x)=its.any (eqU x) by simp,Zhn r fs]
  exact q
 ·obtain ⟨its,r,pl,hz⟩:=I.tuple hq
  refine SeqAt.notIn_tupleAt (eqU x) pl (fun w hw=>Zg8 rx fx r fs w (by simpa using hw)) ⟨.bl _,H,I,rfl,?_⟩
  rw [show its.toArray.any (eqU x)=its.any (eqU x) by simp,Zhn r fs]
  exact q
theorem Zu1:Wn X (.builtin "len") (fun xs H Q=>∃ p ys,xs = [.ref p]/\(SqL X.K H p ys\/SqT X.K H p ys)/\Q (.int ys.length) H):=by
 intro pins s σ H xs us Q I r h
 obtain ⟨p,ys,rfl,hq,q⟩:=h
 obtain ⟨u,rfl,rx⟩:=Vz r
 cases rx
 have hn:=Zap
 rcases hq with hq | hq
 ·obtain ⟨its,r',pl,hz⟩:=I.list hq
  have hlen:=r'.length
  exact Calls.call_len_list pl.isList (by simp only [xL] <;> lia) ⟨.int ys.length,H,I.tok _,⟨s.toks+1,by rw [xL,hlen]⟩,q⟩
 ·obtain ⟨its,r',pl,hz⟩:=I.tuple hq
  have hlen:=r'.length
  exact len_tuple pl (by simp only [xL] <;> lia) ⟨.int ys.length,H,I.tok _,⟨s.toks+1,by rw [xL,hlen]⟩,q⟩
theorem Zu2:Wn X (.builtin "len") (fun xs H Q=>∃ z,xs = [.str z]/\z.length<=sizeLine/\Q (.int z.length) H):=by
 intro pins s σ H xs us Q I r h
 obtain ⟨z,rfl,hz,q⟩:=h
 obtain ⟨u,rfl,t,rfl⟩:=Vz r
 have hn:=Zap
 exact len_str (by lia) ⟨.int z.length,H,I.tok _,⟨_,rfl⟩,q⟩
theorem Zmt:Wn X (.type "list") (fun xs H Q=>∃ p ys,xs = [.ref p]/\(SqL X.K H p ys\/SqT X.K H p ys)/\∀ l,H l=none->Q (.ref l) (upd H l (.lst ys))):=by
 intro pins s σ H xs us Q I r h
 obtain ⟨p,ys,rfl,hq,q⟩:=h
 obtain ⟨u,rfl,rx⟩:=Vz r
 cases rx
 have fin:∀ (its:List Value),Vals ys its->ys.length<=sizeLine->∀ (h':Heap) (c':Nat),(∀ b o',s.heap.get? b=some o'->h'.get? b=some o') ->
   h'.get? s.heap.objs.size=some {cls:=.type "list", dict:=none,data:=.seq its.toArray c',slots:=#[] }->EP X pins σ Q (.ref s.heap.objs.size) {s with heap:=h' }:=fun its r' hz h' c' kp e =>
  ⟨.ref s.heap.objs.size,_,I.laid (t':=s.toks) kp (xB _) (show ObjOk X.prog X.w _ h' _ (.lst ys) from ⟨hz,its,c',r',e⟩),rfl,q _ (I.hok.fresh (xB _))⟩
 rcases hq with hq | hq
 ·obtain ⟨its,r',pl,hz⟩:=I.list hq
  have hlen:=r'.length
  obtain ⟨o,ho,hc,n,hd⟩:=pl.isList
  exact call_list_seq p (.inl rfl) ho hc hd (fun h' c' kp e=>fin its r' hz h' c' kp e) (by simp only [xL] <;> lia)
 ·obtain ⟨its,r',pl,hz⟩:=I.tuple hq
  have hlen:=r'.length
  obtain ⟨o,ho,hc,n,hd⟩:=pl
  exact call_list_seq p (.inr rfl) ho hc hd (fun h' c' kp e=>fin its r' hz h' c' kp e) (by simp only [xL] <;> lia)
theorem Zut:Wn X (.type "tuple") (fun xs H Q=>∃ p ys,xs = [.ref p]/\((SqL X.K H p ys/\∀ l,H l=none->Q (.ref l) (upd H l (.tup ys)))\/(SqT X.K H p ys/\Q (.ref p) H))):=by
 intro pins s σ H xs us Q I r h
 obtain ⟨p,ys,rfl,h⟩:=h
 obtain ⟨u,rfl,rx⟩:=Vz r
 cases rx
 rcases h with ⟨hq,q⟩ | ⟨hq,q⟩
 ·obtain ⟨its,r',pl,hz⟩:=I.list hq
  have hlen:=r'.length
  refine call_tuple_list pl.isList (fun h' kp=>?_) (by simp only [xL] <;> lia)
  have I1:Inv X pins σ H {s with heap:=h' }:=I.kept (t':=s.toks) kp
  have I2:Inv X pins σ (upd H h'.objs.size (.tup ys)) {s with heap:=h'.push {cls:=.type "tuple", data:=.seq its.toArray } } :=
   I1.laid (t':=s.toks) (fun b o e=>xA _ e) (xB _) (show ObjOk X.prog X.w _ _ _ (.tup ys) from ⟨hz,its,r',IsTup.new _ _⟩)
  exact ⟨.ref h'.objs.size,_,I2,rfl,q _ (I1.hok.fresh (xB _))⟩
 ·obtain ⟨its,r',pl,hz⟩:=I.tuple hq
  exact call_tuple_same pl ⟨.ref p,H,I,rfl,q⟩
def tyV (K:uFg) (T:String) (x:V) (H:Hp):Prop:=match x with
 | .str _=>T = "str"
 | .int _=>T = "int"
 | .ref p=>(T = "list" /\ ∃ xs,SqL K H p xs)\/(T = "tuple" /\ ∃ o,K.lookup p=some o/\o.cls = .type "tuple" /\ o.dict=none) \/
   (T = "dict" /\ ((∃ kvs,H p=some (.dK kvs))\/∃ kvs,H p=some (.dT kvs)))\/(T = "set" /\ ∃ S n,H p=some (.set S n))
 | _=>False
theorem Zps {pins:List (Addr×Obj)}{σ:St}{H:Hp}{s:Shared}{T:String}{x:V}{v:Value}(I:Inv X pins σ H s) (r:RelV x v) (ty:tyV X.K T x H) :
  s.TypeIs v T/\∀ a,v = .ref a->∃ ob,s.heap.get? a=some ob/\ob.dict=none:=by
 cases x with
 | str z =>
  obtain ⟨t,rfl⟩:=r
  cases (show T = "str" from ty)
  exact ⟨typeIs_str s z t,fun _ e=>nomatch e⟩
 | int i =>
  obtain ⟨t,rfl⟩:=r
  cases (show T = "int" from ty)
  exact ⟨typeIs_int s i t,fun _ e=>nomatch e⟩
 | ref p =>
  cases r
  rcases ty with ⟨rfl,xs,hq⟩ | ⟨rfl,o,hk,hc,hd⟩ | ⟨rfl,hk⟩ | ⟨rfl,S,n,hk⟩
  ·obtain ⟨its,_,pl,_⟩:=I.list hq
   refine ⟨pl.isList.typeIs,fun a e=>?_⟩
   cases e
   obtain ⟨o,n,e,c,hd,_⟩:=pl
   exact ⟨o,e,hd⟩
  ·refine ⟨⟨o,I.kIn p o hk,hc⟩,fun a e=>?_⟩
   cases e
   exact ⟨o,I.kIn _ o hk,hd⟩
  ·have z:∃ o,s.heap.get? p=some o/\o.ExactDict:=by
    rcases hk with ⟨kvs,hk⟩ | ⟨kvs,hk⟩
    ·obtain ⟨_,_,_,_,o,_,_,e,ex,_⟩:=I.hok p _ hk
     exact ⟨o,e,ex⟩
    ·obtain ⟨_,_,_,_,o,_,_,e,ex,_⟩:=I.hok p _ hk
     exact ⟨o,e,ex⟩
   obtain ⟨o,e,ex⟩:=z
   refine ⟨⟨o,e,ex.1⟩,fun a e2=>?_⟩
   cases e2
   exact ⟨o,e,ex.2.1⟩
  ·obtain ⟨o,_,_,_,e,ex,_⟩:=I.hok p _ hk
   refine ⟨⟨o,e,ex.1⟩,fun a e2=>?_⟩
   cases e2
   exact ⟨o,e,ex.2.1⟩
 | _=>exact False.elim ty
def Zt3 (K:uFg) (T:String) (r:V->List V->Hp->VK->Prop) (to:TE):TE:=fun σ H Q=>to σ H fun x H1=>tyV K T x H1/\r x [] H1 Q
def tBM (K:uFg) (T:String) (r:V->List V->Hp->VK->Prop) (to:TE) (t:TA):TE:=fun σ H Q=>to σ H fun x H1=>tyV K T x H1/\t σ H1 fun xs H2=>r x xs H2 Q
variable {o e:Expr}{es:List Expr}{to:TE}{t:TA}{name:Str}{apos cpos:Pos}{T id:String}{r:V->List V->Hp->VK->Prop}
theorem Z21 (pa:PlainAttrs T) (slot:Slot T name id) (hty:typeOf (.builtin id)=pure (.type "method_descriptor")) (hm:MtR X id r) (ho:PE X o to)
  (hbase:attributeBase o name X.env (eval o X.env)=eval o X.env:=by rfl) (hline:(apos.endLine == cpos.line)=true:=by rfl):PE X (.Call (.Attribute o name apos) [] [] cpos) (Zt3 X.K T r to):=by
 intro pins s σ H Q I h
 refine wpAny_Call_method0_late hbase hline (thn (ho pins s σ H _ I h) fun v s1 ⟨x,H1,I1,r1,ty,q1⟩=>?_)
 obtain ⟨h1,h2⟩:=Zps I1 r1 ty
 exact ⟨T,id,pa,slot,hty,h1,h2,Calls.callWith_builtin rfl (PySem.evalArgs_none (hm pins s1 σ H1 x [] v [] Q I1 r1 .nil q1))⟩
theorem Z35 (pa:PlainAttrs T) (slot:Slot T name id) (hty:typeOf (.builtin id)=pure (.type "method_descriptor")) (hm:MtR X id r) (ho:PE X o to) (ha:PA X (e::es) t)
  (hbase:attributeBase o name X.env (eval o X.env)=eval o X.env:=by rfl)
  (hfew:((backTo cpos (starEach (e::es) X.env)).all (fun x=>!x.1) && (backToKw cpos (keywordEach [] X.env)).all (fun x=>x.1.isSome)
   && decide ((e::es).length+([]:List Keyword).length+(if ([]:List Keyword).isEmpty then 0 else 1) < 30))=true:=by rfl)
  (hline:(apos.endLine == cpos.line)=true:=by rfl) (hs:starEach (e::es) X.env=(false,eval e X.env)::starEach es X.env:=by rfl) (hplain:(backTo cpos (starEach es X.env)).any (·.1)=false:=by rfl) :
  PE X (.Call (.Attribute o name apos) (e::es) [] cpos) (tBM X.K T r to t):=by
 intro pins s σ H Q I h
 refine wpAny_Call_method_late hbase hfew hline rfl (thn (ho pins s σ H _ I h) fun v s1 ⟨x,H1,I1,r1,ty,q1⟩=>?_)
 obtain ⟨h1,h2⟩:=Zps I1 r1 ty
 refine ⟨T,id,pa,slot,hty,h1,h2,?_⟩
 have hA:=ha cpos pins s1 σ H1 _ I1 q1
 rw [hs] at hA ⊢
 refine Calls.callWith_builtin (by show (false || (backTo cpos (starEach es X.env)).any (·.1))=false; rw [hplain] <;> rfl) (Calls.evalArgs_plain ?_)
 exact thn hA fun us s2 ⟨vs,H2,I2,r2,q2⟩=>hm pins s2 σ H2 x vs v us Q I2 r1 r2 q2
/- xs.append(e),list.index on a module's tuple .. are MtR facts of 06m -/
end
end L2
namespace L2
open PySem PySem.Spec PyProof.Rows
def MtM (X:Cx) (id:String) (r:V->List V->Hp->VK->Prop):Prop :=
 ∀ (pins:List (Addr×Obj)) (s:Shared) (σ:St) (H:Hp) (x:V) (xs:List V) (v:Value) (us:List Value) (Q:VK),Inv X pins σ H s->RelV x v->Vals xs us->r x xs H Q ->
  wpAny (model X.prog X.w) X.A (call (.builtin id) (v::us)) (EP X pins σ Q) X.xe s
theorem Vals.one:∀ {x:V}{us:List Value},Vals [x] us->∃ u,us = [u]/\RelV x u
 | _,_,.cons r .nil=>⟨_,rfl,r⟩
theorem Vals.zero:∀ {us:List Value},Vals [] us->us = []
 | _,.nil=>rfl
theorem Vals.dropLast {xs:List V}{us:List Value}(h:Vals xs us):Vals xs.dropLast us.dropLast:=by
 induction h with
 | nil=>exact .nil
 | cons r t ih =>
  cases t with
  | nil=>exact .nil
  | cons q t'=>exact .cons r ih
theorem Zvn {α:Type}(l:List α):l.eraseIdx (l.length - 1)=l.dropLast:=by
 induction l with
 | nil=>rfl
 | cons a r ih =>
  cases r with
  | nil=>rfl
  | cons b r =>
   have e:(a::b::r).length - 1=((b::r).length - 1)+1:=by
    have h1:(a::b::r).length=r.length+2:=rfl
    have h2:(b::r).length=r.length+1:=rfl
    lia
   rw [e,List.eraseIdx_cons_succ,ih]
   all_goals rfl
section
variable {X:Cx}{pins:List (Addr×Obj)}{σ:St}{H:Hp}{s:Shared}{l b:Addr}{xs ys zs:List V}
theorem Inv.lset {its its':List Value}{n:Nat}{f:Array Value->Array Value}{t':Nat}(I:Inv X pins σ H s) (hH:H l=some (.lst xs))
  (e:s.heap.get? l=some {cls:=.type "list", data:=.seq its.toArray n }) (hf:f its.toArray=its'.toArray) (hv:Vals ys its') (hz:ys.length<=sizeLine) :
  Inv X pins σ (upd H l (.lst ys)) {s with heap:=s.heap.update l (Obj.mapSeq f),toks:=t' }:=by
 have q:=PySem.IsL.update e f
 rw [hf] at q
 refine I.write (x:=l) (e:=l) (by rw [hH]; exact trivial) (.inl rfl) (fun b' u hb hu=>(Heap.get?_update_other s.heap (Obj.mapSeq f) (Ne.symm hb)).trans hu) ⟨_,q⟩ ?_
 exact ⟨hz,its',_,hv,q⟩
theorem Inv.lnew {its:List Value}{t':Nat}(I:Inv X pins σ H s) (hv:Vals ys its) (hz:ys.length<=sizeLine) :
  Inv X pins σ (upd H s.heap.objs.size (.lst ys)) {s with heap:=s.heap.push {cls:=.type "list", data:=.seq its.toArray },toks:=t' } :=
 I.laid (fun _ _ q=>xA _ q) (xB _) ⟨hz,its,0,hv,xI _ rfl⟩
theorem Inv.fresh (I:Inv X pins σ H s):H s.heap.objs.size=none:=I.hok.fresh (xB _)
theorem Inv.lstM (I:Inv X pins σ H s) (hH:H l=some (.lst xs)):xs.length<=sizeLine/\∃ (its:List Value) (n:Nat),Vals xs its/\xs.length=its.length/\s.heap.get? l=some {cls:=.type "list", data:=.seq its.toArray n }:=by
 obtain ⟨z,its,n,r,e⟩:=I.hok l _ hH
 exact ⟨z,its,n,r,r.length,e⟩
end
section
variable {X:Cx}
def Zef:V->List V->Hp->VK->Prop:=fun x vs H Q=>∃ l xs y,x = .ref l/\vs = [y]/\H l=some (.lst xs)/\xs.length < sizeLine/\Q .non (upd H l (.lst (xs ++ [y])))
theorem Zw3:MtM X "list.append" Zef:=by
 intro pins s σ H x vs v us Q I rx rv h
 obtain ⟨l,xs,y,rfl,rfl,hH,hz,q⟩:=h
 cases rx
 obtain ⟨u,rfl,ru⟩:=rv.one
 obtain ⟨z,its,n,r,hl,e⟩:=I.lstM hH
 refine call_meets F.slot_list_append ⟨_,e,rfl⟩ F.entry_list_append (F.args_list_append_2 _ _) (PySem.list_append l its.toArray n u (by rw [xL]; lia)) ⟨e,?_⟩
 refine ⟨.non,_,I.lset (its':=its ++ [u]) hH e (by simp) (r.append (.cons ru .nil)) ?_,rfl,q⟩
 rw [xJ,List.length_singleton]
 lia
def Zt4:V->List V->Hp->VK->Prop:=fun x vs H Q=>∃ l xs y,x = .ref l/\vs = []/\H l=some (.lst xs)/\xs[xs.length - 1]? = some y/\Q y (upd H l (.lst xs.dropLast))
theorem Z22:MtM X "list.pop" Zt4:=by
 intro pins s σ H x vs v us Q I rx rv h
 obtain ⟨l,xs,y,rfl,rfl,hH,hy,q⟩:=h
 cases rx
 have hus:=rv.zero
 subst hus
 obtain ⟨z,its,n,r,hl,e⟩:=I.lstM hH
 obtain ⟨u,hu,ru⟩:=r.get hy
 have hy':its.toArray[its.toArray.size - 1]? = some u:=by
  show its.toArray[its.length - 1]? = some u
  rw [← Array.getElem?_toList,← hl]
  exact hu
 refine call_meets F.slot_list_pop ⟨_,e,rfl⟩ F.entry_list_pop (F.args_list_pop_1 _) (MeetsSeq.list_pop_last l its.toArray n u hy' (by rw [xL]; lia)) ⟨e,?_⟩
 refine ⟨y,_,I.lset (its':=its.dropLast) hH e ?_ r.dropLast ?_,ru,q⟩
 ·show its.toArray.eraseIdxIfInBounds (its.toArray.size - 1)=its.dropLast.toArray
  rw [xL,List.eraseIdxIfInBounds_toArray,Zvn]
 ·rw [List.length_dropLast]
  lia
def Zt5:R2:=fun x y H Q=>∃ l b xs zs,x = .ref l/\y = .ref b/\H l=some (.lst xs)/\H b=some (.lst zs)/\xs.length+zs.length<=sizeLine/\∀ p,H p=none->Q (.ref p) (upd H p (.lst (xs++zs)))
theorem Z23:OpR X (binaryOp .Add) Zt5:=by
 intro pins s σ H x y v u Q I rx ry h
 obtain ⟨l,b,xs,zs,rfl,rfl,hH,hB,hz,q⟩:=h
 cases rx
 cases ry
 obtain ⟨z,its,n,r,hl,e⟩:=I.lstM hH
 obtain ⟨z2,its2,n2,r2,hl2,e2⟩:=I.lstM hB
 refine PySem.P.add_list e e2 ?_ (by rw [xL,xL]; lia)
 have ea:its.toArray++its2.toArray=(its++its2).toArray:=by simp
 rw [ea]
 exact ⟨.ref _,_,I.lnew (t':=s.toks) (r.append r2) (by rw [xJ]; lia),rfl,q _ I.fresh⟩
end
section
variable {prog:Program}{w:World}{A:Around}{E:Value->Shared->Prop}{s:Shared}
set_option maxRecDepth 100000 in
end
section
variable {X:Cx}
end
end L2
namespace L2
open PySem PySem.Spec PyProof.Rows
section
variable {κ:Type} [DecidableEq κ]
def Z3 (kvs:List (κ×V)) (k : κ):Option V:=(kvs.find? fun kv=>decide (kv.1=k)).map (·.2)
def Z2 (kvs:List (κ×V)) (k : κ) (v:V):List (κ×V) :=
 if (kvs.any fun kv=>decide (kv.1=k))=true then kvs.map (fun kv=>if kv.1=k then (kv.1,v) else kv) else kvs ++ [(k,v)]
theorem Vj {p : κ×V}{r:List (κ×V)}{k : κ}(e:p.1=k):Z3 (p::r) k=some p.2:=by simp [Z3,List.find?_cons,e]
theorem Vk {p : κ×V}{r:List (κ×V)}{k : κ}(e:¬ p.1=k):Z3 (p::r) k=Z3 r k:=by simp [Z3,List.find?_cons,e]
theorem Zar (k : κ):∀ kvs:List (κ×V),(kvs.any fun kv=>decide (kv.1=k))=(Z3 kvs k).isSome
 | []=>rfl
 | p::r=>by
  rw [List.any_cons]
  by_cases e:p.1=k
  ·simp only [Vj e,xM e,Bool.true_or,Option.isSome_some]
  ·rw [Vk e,xU e,Bool.false_or]; exact Zar k r
theorem Zn1 (k j : κ) (y:V):∀ kvs:List (κ×V),Z3 (kvs.map fun kv=>if kv.1=k then (kv.1,y) else kv) j=(Z3 kvs j).map fun x=>if j=k then y else x
 | []=>rfl
 | p::r=>by
  have ih:=Zn1 k j y r
  rw [xP]
  by_cases h:p.1=k
  ·rw [if_pos h]
   by_cases e:p.1=j
   ·rw [Vj (p:=(p.1,y)) e,Vj e,Option.map_some,if_pos (e.symm.trans h)]
   ·rw [Vk (p:=(p.1,y)) e,Vk e,ih]
  ·rw [if_neg h]
   by_cases e:p.1=j
   ·rw [Vj (p:=p) e,Vj e,Option.map_some,if_neg (fun z=>h (e.trans z))]
   ·rw [Vk (p:=p) e,Vk e,ih]
theorem Znl (k j : κ) (y:V):∀ kvs:List (κ×V),Z3 kvs k=none->Z3 (kvs ++ [(k,y)]) j=if j=k then some y else Z3 kvs j
 | [],_=>by
  by_cases e:k=j
  ·rw [if_pos e.symm]; exact Vj (p:=(k,y)) e
  ·rw [if_neg (fun z=>e z.symm)]; exact Vk (p:=(k,y)) e
 | p::r,hn=>by
  rw [yN]
  have hk:¬ p.1=k:=fun z=>by rw [Vj z] at hn; cases hn
  rw [Vk hk] at hn
  have ih:=Znl k j y r hn
  by_cases e:p.1=j
  ·rw [Vj e,Vj e,if_neg (fun z=>hk (e.trans z))]
  ·rw [Vk e,Vk e,ih]
theorem Zbn (kvs:List (κ×V)) (k j : κ) (y:V):Z3 (Z2 kvs k y) j=if j=k then some y else Z3 kvs j:=by
 unfold Z2
 by_cases a:(kvs.any fun kv=>decide (kv.1=k))=true
 ·rw [if_pos a,Zn1]
  rw [Zar] at a
  by_cases e:j=k
  ·obtain ⟨x,hx⟩:=Option.isSome_iff_exists.mp a
   rw [if_pos e,e,hx,Option.map_some,if_pos rfl]
  ·rw [if_neg e]
   cases Z3 kvs j with
   | none=>rfl
   | some x=>rw [Option.map_some,if_neg e]
 ·rw [if_neg a]
  refine Znl k j y kvs ?_
  rw [Zar] at a
  cases q:Z3 kvs k with
  | none=>rfl
  | some x=>rw [q] at a; exact (a rfl).elim
theorem Um (kvs:List (κ×V)) (k : κ) (v:V):(Z2 kvs k v).length<=kvs.length+1:=by
 unfold Z2
 split
 ·rw [xD]; lia
 ·rw [xJ,xG,yF]; lia
theorem Zn2 {kvs:List (κ×V)}{k : κ}(v:V) (h:Z3 kvs k=none):Z2 kvs k v=kvs ++ [(k,v)]:=by
 unfold Z2
 rw [Zar,h]
 exact if_neg (by decide)
theorem RelO.isSome_eq {o:Option V}{u:Option Value}(r:RelO o u):o.isSome=u.isSome:=by
 cases o with
 | none=>cases u with
  | none=>rfl
  | some _=>exact (show False from r).elim
 | some _=>cases u with
  | none=>exact (show False from r).elim
  | some _=>rfl
theorem RelO.getD {o:Option V}{u:Option Value}{d:V}{d':Value}(r:RelO o u) (rd:RelV d d'):RelV (o.getD d) (u.getD d'):=by
 cases o with
 | none=>cases u with
  | none=>exact rd
  | some _=>exact (show False from r).elim
 | some _=>cases u with
  | none=>exact (show False from r).elim
  | some _=>exact r
theorem KV.val {kvs:List (κ×V)}{vs:List (κ×Value)}(r:KV kvs vs) (k : κ):RelO (Z3 kvs k) (valueAt vs k):=by
 unfold KV at r
 induction r with
 | nil=>exact True.intro
 | @cons p q ps qs h t ih =>
  obtain ⟨h1,h2⟩:=h
  by_cases e:p.1=k
  ·have e':q.1=k:=h1.symm.trans e
   have b:valueAt (q::qs) k=some q.2:=by simp [valueAt,List.find?_cons,e']
   rw [Vj e,b]; exact h2
  ·have e':¬ q.1=k:=fun z=>e (h1.trans z)
   have b:valueAt (q::qs) k=valueAt qs k:=by simp [valueAt,List.find?_cons,e']
   rw [Vk e,b]; exact ih
theorem KV.any {kvs:List (κ×V)}{vs:List (κ×Value)}(r:KV kvs vs) (k : κ):(kvs.any fun kv=>decide (kv.1=k))=vs.any fun kv=>decide (kv.1=k):=by
 unfold KV at r
 induction r with
 | nil=>rfl
 | cons h t ih=>rw [List.any_cons,List.any_cons,ih,h.1]
theorem KV.repl {kvs:List (κ×V)}{vs:List (κ×Value)}(r:KV kvs vs) (k : κ) {y:V}{u:Value}(ry:RelV y u) :
  KV (kvs.map fun kv=>if kv.1=k then (kv.1,y) else kv) (vs.map fun kv=>if kv.1=k then (kv.1,u) else kv):=by
 unfold KV at r ⊢
 induction r with
 | nil=>exact .nil
 | @cons p q ps qs h t ih =>
  rw [xP,xP]
  refine .cons ?_ ih
  obtain ⟨h1,h2⟩:=h
  by_cases e:p.1=k
  ·rw [if_pos e,if_pos (h1.symm.trans e)]; exact ⟨h1,ry⟩
  ·rw [if_neg e,if_neg (fun z=>e (h1.trans z))]; exact ⟨h1,h2⟩
theorem KV.put {kvs:List (κ×V)}{vs:List (κ×Value)}(r:KV kvs vs) (k : κ) {y:V}{u:Value}(ry:RelV y u):KV (Z2 kvs k y) (stored vs k u):=by
 unfold Z2 stored
 rw [r.any k]
 by_cases e:(vs.any fun kv=>decide (kv.1=k))=true
 ·rw [if_pos e,if_pos e]; exact r.repl k ry
 ·rw [if_neg e,if_neg e]; exact Paired.snoc r ⟨rfl,ry⟩
theorem KV.length {kvs:List (κ×V)}{vs:List (κ×Value)}(r:KV kvs vs):kvs.length=vs.length:=Paired.length r
end
theorem U0 {P:Program}{w:World}{k:Key}{u:Value}(r:RelV (kV k) u):(Ys P w).is k u=true:=by
 cases k with
 | inl i=>obtain ⟨t,e⟩:=(show ∃ t,u=Value.int i t from r); subst e; exact Zu5 P w i t
 | inr x=>obtain ⟨t,e⟩:=(show ∃ t,u=Value.str x t from r); subst e; exact Zu6 P w x t
theorem Znm {P:Program}{w:World}:∀ {ks:List Key}{us:List Value},Vals (ks.map kV) us->ItemsAre (Ys P w) ks us
 | [],_,r=>by rw [List.map_nil] at r; cases r; exact .nil
 | k::ks,_,r=>by
  rw [xP] at r
  cases r with
  | cons h t=>exact .cons (U0 h) (Znm t)
abbrev KT (H:Hp):List (List Key×V)->List (List Key×Addr×Value)->Prop:=Paired fun p q=>p.1=q.1/\H q.2.1=some (.tup (p.1.map kV))/\RelV p.2 q.2.2
theorem KT.val {H:Hp}{kvs:List (List Key×V)}{xs:List (List Key×Addr×Value)}(r:KT H kvs xs) (k:List Key):RelO (Z3 kvs k) ((atKey xs k).map (·.2)):=by
 induction r with
 | nil=>exact True.intro
 | @cons p q ps qs h t ih =>
  obtain ⟨h1,_,h2⟩:=h
  by_cases e:p.1=k
  ·have e':q.1=k:=h1.symm.trans e
   have b:atKey (q::qs) k=some q.2:=by simp [atKey,List.find?_cons,e']
   rw [Vj e,b]; exact h2
  ·have e':¬ q.1=k:=fun z=>e (h1.trans z)
   have b:atKey (q::qs) k=atKey qs k:=by simp [atKey,List.find?_cons,e']
   rw [Vk e,b]; exact ih
theorem KT.repl {H:Hp}{kvs:List (List Key×V)}{xs:List (List Key×Addr×Value)}(r:KT H kvs xs) (k:List Key) {y:V}{u:Value}(ry:RelV y u) :
  KT H (kvs.map fun kv=>if kv.1=k then (kv.1,y) else kv) (xs.map (putAt k u)):=by
 induction r with
 | nil=>exact .nil
 | @cons p q ps qs h t ih =>
  rw [xP,xP]
  refine .cons ?_ ih
  obtain ⟨h1,h2,h3⟩:=h
  unfold putAt
  by_cases e:p.1=k
  ·rw [if_pos e,if_pos (h1.symm.trans e)]; exact ⟨h1,h2,ry⟩
  ·rw [if_neg e,if_neg (fun z=>e (h1.trans z))]; exact ⟨h1,h2,h3⟩
theorem KT.put {H:Hp}{kvs:List (List Key×V)}{xs:List (List Key×Addr×Value)}(r:KT H kvs xs) (k:List Key) {b:Addr}{y:V}{u:Value}(hb:H b=some (.tup (k.map kV))) (ry:RelV y u) :
  KT H (Z2 kvs k y) (storedH xs k b u):=by
 have e:(kvs.any fun kv=>decide (kv.1=k))=(atKey xs k).isSome:=by
  rw [Zar,(r.val k).isSome_eq,Option.isSome_map]
 unfold Z2 storedH
 rw [e]
 by_cases q:(atKey xs k).isSome=true
 ·rw [if_pos q,if_pos q]; exact r.repl k ry
 ·rw [if_neg q,if_neg q]; exact Paired.snoc r ⟨rfl,hb,ry⟩
theorem KT.keeps {H H':Hp}{kvs:List (List Key×V)}{xs:List (List Key×Addr×Value)}(r:KT H kvs xs) (ht:∀ b ys,H b=some (.tup ys)->H' b=some (.tup ys)):KT H' kvs xs :=
 Paired.mapP r fun _ _ z=>⟨z.1,ht _ _ z.2.1,z.2.2⟩
section
variable {P:Program}{w:World}{H:Hp}{h:Heap}{a:Addr}
theorem Zrf {u:HO}(ok:HOk P w H h) (e:Rd H a u):ObjOk P w H h a u:=e.ok ok
theorem U1 {kvs:List (Key×V)}(ok:HOk P w H h) (e:Rd H a (.dK kvs)):kvs.length<=sizeLine/\(a == sysModules)=false/\∃ vs,KV kvs vs/\h.DictOf (Ys P w) a vs :=
 show ObjOk P w H h a (.dK kvs) from Zrf ok e
theorem Zrg {kvs:List (Key×V)}(ok:HOk P w H h) (e:H a=some (.dK kvs)):kvs.length<=sizeLine/\(a == sysModules)=false/\∃ vs,KV kvs vs/\h.DictOf (Ys P w) a vs:=U1 ok (.inl e)
theorem Zbt {ks:List Key}(ok:HOk P w H h) (e:H a=some (.tup (ks.map kV))):(tupleKind (Ys P w)).is h ks a:=by
 obtain ⟨_,its,r,o,h1,h2,n,h3⟩:=(show ObjOk P w H h a (.tup (ks.map kV)) from ok a _ e)
 exact ⟨o,its.toArray,n,h1,h2,h3,by simpa using Znm r⟩
theorem Zas {kvs:List (List Key×V)}(ok:HOk P w H h) (e:Rd H a (.dT kvs)):kvs.length<=sizeLine/\(a == sysModules)=false /\
  ∃ xs,KT H kvs xs/\h.DictOfH (tupleKind (Ys P w)) a xs:=by
 obtain ⟨z,y,xs,r,o,es,ep,h1,h2,h3,h4,h5⟩:=(show ObjOk P w H h a (.dT kvs) from Zrf ok e)
 refine ⟨z,y,xs,r,o,es,ep,h1,h2,h3,h4,fun x hx=>?_,h5⟩
 have all:∀ {l:List (List Key×V)}{m:List (List Key×Addr×Value)},KT H l m->∀ x∈m,(tupleKind (Ys P w)).is h x.1 x.2.1:=by
  intro l m q
  induction q with
  | nil=>intro x hx; exact nomatch hx
  | @cons p q ps qs hq t ih =>
   intro x hx
   rcases xC.mp hx with e | hx
   ·subst e
    exact Zbt ok (by rw [← hq.1]; exact hq.2.1)
   ·exact ih x hx
 exact all r x hx
theorem Z36 {kvs:List (List Key×V)}(ok:HOk P w H h) (e:H a=some (.dT kvs)):kvs.length<=sizeLine/\(a == sysModules)=false /\
  ∃ xs,KT H kvs xs/\h.DictOfH (tupleKind (Ys P w)) a xs:=Zas ok (.inl e)
end
def DGet (H:Hp) (a:Addr) (y:V) (r:Option V):Prop :=
 (∃ kvs k,Rd H a (.dK kvs)/\y=kV k/\r=Z3 kvs k)\/∃ kvs k b,Rd H a (.dT kvs)/\y = .ref b/\H b=some (.tup (k.map kV))/\r=Z3 kvs k
def DPut (H:Hp) (a:Addr) (y v:V) (H':Hp):Prop :=
 (∃ kvs k,H a=some (.dK kvs)/\y=kV k/\kvs.length < sizeLine/\H'=upd H a (.dK (Z2 kvs k v))) \/
 ∃ kvs k b,H a=some (.dT kvs)/\y = .ref b/\H b=some (.tup (k.map kV))/\kvs.length < sizeLine/\H'=upd H a (.dT (Z2 kvs k v))
theorem DGet.k {H:Hp}{a:Addr}{kvs:List (Key×V)}{k:Key}(e:H a=some (.dK kvs)):DGet H a (kV k) (Z3 kvs k):=.inl ⟨kvs,k,.inl e,rfl,rfl⟩
theorem DGet.t {H:Hp}{a b:Addr}{kvs:List (List Key×V)}{k:List Key}(e:H a=some (.dT kvs)) (eb:H b=some (.tup (k.map kV))):DGet H a (.ref b) (Z3 kvs k):=.inr ⟨kvs,k,b,.inl e,rfl,eb,rfl⟩
theorem DPut.k {H:Hp}{a:Addr}{kvs:List (Key×V)}{k:Key}{v:V}(e:H a=some (.dK kvs)) (hl:kvs.length < sizeLine):DPut H a (kV k) v (upd H a (.dK (Z2 kvs k v))):=.inl ⟨kvs,k,e,rfl,hl,rfl⟩
theorem DPut.t {H:Hp}{a b:Addr}{kvs:List (List Key×V)}{k:List Key}{v:V}(e:H a=some (.dT kvs)) (eb:H b=some (.tup (k.map kV))) (hl:kvs.length < sizeLine) :
  DPut H a (.ref b) v (upd H a (.dT (Z2 kvs k v))):=.inr ⟨kvs,k,b,e,rfl,eb,hl,rfl⟩
section
variable {X:Cx}{pins:List (Addr×Obj)}{σ:St}{H:Hp}{s:Shared}{a:Addr}{y v:V}{u r:Value}{o:Option V}{A:Around}{E:Value->Shared->Prop}
theorem Inv.big (I:Inv X pins σ H s):sysModules < s.heap.objs.size:=by
 have h:mainGlobals < s.heap.objs.size:=(I.mod.glob.keeps I.bk).lt
 exact Nat.lt_trans (by decide) h
theorem Zw4 {Q:Value->Shared->Prop}(hu:A.units+1 < cLine) (I:Inv X pins σ H s) (g:DGet H a y (some v)) (ry:RelV y u) (h:∀ w' s',Inv X pins σ H s'->RelV v w'->Q w' s') :
  wpAny (model X.prog X.w) A (getItem (.ref a) u) Q E s:=by
 rcases g with ⟨kvs,k,e,ey,l⟩ | ⟨kvs,k,b,e,ey,eb,l⟩
 ·subst ey
  obtain ⟨z,hd,vs,rel,dd⟩:=U1 I.hok e
  obtain ⟨w',hw,rw'⟩:=RelO.some_of (v:=v) (o:=valueAt vs k) (by rw [l]; exact rel.val k)
  exact wpAny_getItem_of (U0 ry) dd.mapOf hw (h w' _ (I.tok _) rw')
 ·subst ey
  cases (show u=Value.ref b from ry)
  obtain ⟨z,hd,xs,rel,dd⟩:=Zas I.hok e
  obtain ⟨w',hw,rw'⟩:=RelO.some_of (v:=v) (o:=(atKey xs k).map (·.2)) (by rw [l]; exact rel.val k)
  obtain ⟨p,hp,hp2⟩:=yI.mp hw
  refine wpAny_getItem_heap (tupleKind_room_in1 hu) (Zbt I.hok eb) dd hp ?_
  rw [hp2]
  exact h w' _ (I.tok _) rw'
theorem Yad {Q:Value->Shared->Prop}(hu:A.units+1 < cLine) (I:Inv X pins σ H s) (g:DGet H a y o) (ry:RelV y u) (h:∀ s',Inv X pins σ H s'->Q (.bool o.isSome) s') :
  wpAny (model X.prog X.w) A (compareOp .In u (.ref a)) Q E s:=by
 rcases g with ⟨kvs,k,e,ey,l⟩ | ⟨kvs,k,b,e,ey,eb,l⟩
 ·subst ey
  obtain ⟨z,hd,vs,rel,dd⟩:=U1 I.hok e
  refine wpAny_in_of (U0 ry) hd dd.mapOf ?_
  rw [← (rel.val k).isSome_eq,← l]
  exact h _ (I.tok _)
 ·subst ey
  cases (show u=Value.ref b from ry)
  obtain ⟨z,hd,xs,rel,dd⟩:=Zas I.hok e
  refine wpAny_in_heap (tupleKind_room_in1 hu) (Zbt I.hok eb) hd dd ?_
  have q:=(rel.val k).isSome_eq
  rw [Option.isSome_map] at q
  rw [← q,← l]
  exact h _ (I.tok _)
theorem Z0j {Q:Value->Shared->Prop}(hu:A.units+1 < cLine) (I:Inv X pins σ H s) (g:DGet H a y o) (ry:RelV y u) (h:∀ s',Inv X pins σ H s'->Q (.bool (!o.isSome)) s') :
  wpAny (model X.prog X.w) A (compareOp .NotIn u (.ref a)) Q E s:=by
 rcases g with ⟨kvs,k,e,ey,l⟩ | ⟨kvs,k,b,e,ey,eb,l⟩
 ·subst ey
  obtain ⟨z,hd,vs,rel,dd⟩:=U1 I.hok e
  refine wpAny_notIn_of (U0 ry) hd dd.mapOf ?_
  rw [← (rel.val k).isSome_eq,← l]
  exact h _ (I.tok _)
 ·subst ey
  cases (show u=Value.ref b from ry)
  obtain ⟨z,hd,xs,rel,dd⟩:=Zas I.hok e
  refine wpAny_notIn_heap (tupleKind_room_in1 hu) (Zbt I.hok eb) hd dd ?_
  have q:=(rel.val k).isSome_eq
  rw [Option.isSome_map] at q
  rw [← q,← l]
  exact h _ (I.tok _)
theorem Zho {h':Heap}{t':Nat}{ob:HO}(I:Inv X pins σ H s) (mu:Mut (H a)) (hs:Heap.SameBut a s.heap h') (he:∃ q,h'.get? a=some q) (new:ObjOk X.prog X.w (upd H a ob) h' a ob) :
  Inv X pins σ (upd H a ob) {s with heap:=h',toks:=t' } :=
 I.write (x:=a) (e:=a) mu (.inl rfl) (fun b q hb z=>(hs.2 b hb).trans z) he new
theorem Zpt {P:Program}{w:World}{H':Hp}{h':Heap}{kvs:List (Key×V)}{vs:List (Key×Value)}(z:kvs.length<=sizeLine) (hd:(a == sysModules)=false) (rel:KV kvs vs) (dd:h'.DictOf (Ys P w) a vs) :
  ObjOk P w H' h' a (.dK kvs):=⟨z,hd,vs,rel,dd⟩
theorem Zw5 {H':Hp}{Q:Unit->Shared->Prop}(hu:A.units+1 < cLine) (I:Inv X pins σ H s) (g:DPut H a y v H') (ry:RelV y u) (rv:RelV v r) (h:∀ s',Inv X pins σ H' s'->Q () s') :
  wpAny (model X.prog X.w) A (setItem (.ref a) u r) Q E s:=by
 rcases g with ⟨kvs,k,e,ey,l,eH⟩ | ⟨kvs,k,b,e,ey,eb,l,eH⟩
 ·subst ey eH
  obtain ⟨z,hd,vs,rel,dd⟩:=Zrg I.hok e
  have hz:vs.length<=sizeLine:=by rw [← rel.length]; exact z
  have hl:(Z2 kvs k v).length<=sizeLine:=by have:=Um kvs k v; lia
  refine wpAny_setItem_pairs (hsz:=hz) (U0 ry) dd fun h' dd' hs=>h _ ?_
  have he:∃ q,h'.get? a=some q:=let ⟨q,_,_,hq,_⟩:=dd'; ⟨q,hq⟩
  exact Zho I (by rw [e]; exact True.intro) hs he (Zpt hl hd (rel.put k rv) dd')
 ·subst ey eH
  cases (show u=Value.ref b from ry)
  obtain ⟨z,hd,xs,rel,dd⟩:=Z36 I.hok e
  have hz:xs.length<=sizeLine:=by rw [← Paired.length rel]; exact z
  have hl:(Z2 kvs k v).length<=sizeLine:=by have:=Um kvs k v; lia
  refine wpAny_setItem_heap (hsz:=hz) (tupleKind_room_in1 hu) (Zbt I.hok eb) dd fun h' dd' hs=>h _ ?_
  obtain ⟨q,es,ep,hq,h2,h3,h4,_,h5⟩:=dd'
  refine Zho I (by rw [e]; exact True.intro) hs ⟨q,hq⟩ ⟨hl,hd,_,(rel.put k eb rv).keeps fun c ys ec=>?_,q,es,ep,hq,h2,h3,h4,h5⟩
  rw [Zd (Z3r ec e (fun z=>nomatch z))]
  exact ec
end
section
variable {X:Cx}{pins:List (Addr×Obj)}{σ:St}{H:Hp}{s:Shared}{a:Addr}{kvs:List (Key×V)}{k:Key}{u:Value}{A:Around}{E:Value->Shared->Prop}
theorem Z37 {Q:Value->Shared->Prop}(I:Inv X pins σ H s) (e:Rd H a (.dK kvs)) (h:∀ t s',Inv X pins σ H s'->Q (.int kvs.length t) s'):wpAny (model X.prog X.w) A (call (.builtin "len") [.ref a]) Q E s:=by
 obtain ⟨z,hd,vs,rel,dd⟩:=U1 I.hok e
 refine call_len_dict hd dd (by rw [← rel.length]; rw [sizeLine_eq] at z; lia) ?_
 rw [← rel.length]
 exact h _ _ (I.tok _)
end
def Zk4 (i:Expr):Prop:=∀ ov iv,subscripted i false ov iv=operate [ov,iv] (getItem ov iv)
theorem Z0k {prog:Program}{w:World}{A:Around}{E:Value->Shared->Prop}{s:Shared}{env:Env}{value slice:Expr}{pos:Pos}{T id:String}{Q:Value->Shared->Prop}
  (hl:typeLookup (.type T) "__getitem__" = pure (some (.builtin id))) (hs:Zk4 slice)
  (h:wpAny (model prog w) A (eval value env) (fun o s₁=>wpAny (model prog w) A (eval slice env) (fun i s₂=>s₂.TypeIs o T/\wpAny (model prog w) A (getItem o i) Q E s₂) E s₁) E s) :
  wpAny (model prog w) A (eval (.Subscript value slice pos) env) Q E s:=by
 refine Subscript_ (wpAny_mono h (fun o s₁ h₁=>wpAny_mono h₁ (fun i s₂ h₂=>?_) fun _ _ x=>x) fun _ _ x=>x)
 obtain ⟨hT,h₂⟩:=h₂
 unfold subscriptTail
 refine wpAny_bind ?_
 rw [getitemInPython_of_ne hT.not_modules]
 refine wpAny_bind (wpAny_specialOf hT hl ?_)
 have fin:wpAny (model prog w) A (subscripted slice false o i) (fun r s₃=>wpAny (model prog w) A (letTemporaryGo value o r >>= fun _=>pure r) Q E s₃) E s₂:=by
  rw [hs o i]
  exact wpAny_operating (wpAny_mono h₂ (fun r s₃ h₃=>wpAny_bind (wpAny_letTemporaryGo (wpAny_pure h₃))) fun _ _ x=>x)
 first
  | exact wpAny_pure (wpAny_bind fin)
  | exact wpAny_bind (wpAny_pure (wpAny_bind fin))
  | exact wpAny_bind fin
theorem Zu7 {X:Cx}{pins:List (Addr×Obj)}{σ:St}{H:Hp}{s:Shared}{a:Addr}{y:V}{o:Option V}(I:Inv X pins σ H s) (g:DGet H a y o):s.TypeIs (.ref a) "dict" := by
 rcases g with ⟨kvs,k,e,_,_⟩ | ⟨kvs,k,b,e,_,_,_⟩
 ·obtain ⟨_,_,vs,_,dd⟩:=U1 I.hok e
  exact dd.typeIs
 ·obtain ⟨_,_,xs,_,dd⟩:=Zas I.hok e
  exact dd.typeIs
def Zrh (td ty:TE):TE:=fun σ H Q=>td σ H fun x H1=>ty σ H1 fun y H2=>∃ a v,x = .ref a/\DGet H2 a y (some v)/\Q v H2
def Zri (td ty tv:TE):TS:=fun D σ H=>tv σ H fun v H1=>td σ H1 fun x H2=>ty σ H2 fun y H3=>∃ a H4,x = .ref a/\DPut H3 a y v H4/\D.nx σ H4
section
variable {X:Cx}{o i e value:Expr}{pos pos' tpos:Pos}{td ty tv:TE}
theorem Z0l (hu:X.A.units+1 < cLine) (ho:PE X o td) (hi:PE X i ty) (hs:Zk4 i):PE X (.Subscript o i pos) (Zrh td ty):=by
 intro pins s σ H Q I h
 refine Z0k PySem.F.slot_dict_getitem.lookup hs (thn (ho pins s σ H _ I h) fun u s1 ⟨x,H1,I1,rx,q1⟩=>thn (hi pins s1 σ H1 _ I1 q1) fun iv s2 ⟨y,H2,I2,ry,a,v,ex,g,q2⟩=>?_)
 subst ex
 obtain rfl:u=Value.ref a:=rx
 exact ⟨Zu7 I2 g,Zw4 hu I2 g ry fun w' s3 I3 rw'=>⟨v,H2,I3,rw',q2⟩⟩
theorem Z0m (hu:X.A.units+1 < cLine) (ho:PE X o td) (hi:PE X i ty) (hv:PE X value tv) (hs:swapsWith value (some (.Subscript o i pos')) pos.line X.env=pure false) :
  PS X (.Assign [.Subscript o i pos'] value pos) (Zri td ty tv):=by
 intro pins s σ H D I h
 refine wpAny_Assign_Subscript (thn (hv pins s σ H _ I h) fun r s1 ⟨v,H1,I1,rv,q1⟩=>thn (ho pins s1 σ H1 _ I1 q1) fun u s2 ⟨x,H2,I2,rx,q2⟩=>thn (hi pins s2 σ H2 _ I2 q2) fun iv s3 ⟨y,H3,I3,ry,a,H4,ex,g,q3⟩=>?_) hs
 subst ex
 obtain rfl:u=Value.ref a:=rx
 exact Zw5 hu I3 g ry rv fun s4 I4=>⟨σ,H4,I4,q3⟩
end
theorem Zn3 {P:Program}{w:World}{H:Hp}(h:Heap) (hb:sysModules < h.objs.size):ObjOk P w H (h.push {cls:=.type "dict", data:=.dict #[] }) h.objs.size (.dK []) :=
 ⟨yQ _,beq_eq_false_iff_ne.mpr (Ne.symm (yD hb)),[],.nil,Heap.DictOf.new h⟩
theorem Zyb {P:Program}{w:World}{H:Hp}(h:Heap) (hb:sysModules < h.objs.size):ObjOk P w H (h.push {cls:=.type "dict", data:=.dict #[] }) h.objs.size (.dT []) :=
 ⟨yQ _,beq_eq_false_iff_ne.mpr (Ne.symm (yD hb)),[],.nil,_,#[],0,xI _ rfl,⟨rfl,rfl,rfl⟩,rfl,rfl,List.nodup_nil⟩
def Zpu:TE:=fun _ H Q=>∀ p,H p=none->Q (.ref p) (upd H p (.dK []))
def Zpv:TE:=fun _ H Q=>∀ p,H p=none->Q (.ref p) (upd H p (.dT []))
section
variable {X:Cx}{pos:Pos}
theorem Zyc:PE X (.Dict [] [] pos) Zpu:=fun pins s σ H Q I h =>
 wpAny_Dict_empty ⟨.ref s.heap.objs.size,_,I.laid (a:=s.heap.objs.size) (o:=.dK []) (t':=s.toks) (fun _ _ q=>xA _ q) (xB _) (Zn3 s.heap I.big),rfl,h _ (I.hok.fresh (xB _))⟩
theorem Zyd:PE X (.Dict [] [] pos) Zpv:=fun pins s σ H Q I h =>
 wpAny_Dict_empty ⟨.ref s.heap.objs.size,_,I.laid (a:=s.heap.objs.size) (o:=.dT []) (t':=s.toks) (fun _ _ q=>xA _ q) (xB _) (Zyb s.heap I.big),rfl,h _ (I.hok.fresh (xB _))⟩
end
def Zil:List (TE×TE)->St->Hp->(List (V×V)->Hp->Prop)->Prop
 | [],_,H,Q=>Q [] H
 | (tk,tv)::r,σ,H,Q=>tk σ H fun x H1=>tv σ H1 fun y H2=>Zil r σ H2 fun ps H3=>Q ((x,y)::ps) H3
abbrev VV:List (V×V)->List (Value×Value)->Prop:=Paired fun p q=>RelV p.1 q.1/\RelV p.2 q.2
def PPs (X:Cx) (pos:Pos) (keys:List (Option Expr)) (values:List Expr) (trs:List (TE×TE)):Prop :=
 ∀ (pins:List (Addr×Obj)) (s:Shared) (σ:St) (H:Hp) (Q:List (V×V)->Hp->Prop),Inv X pins σ H s->Zil trs σ H Q ->
  wpAny (model X.prog X.w) X.A (evalPairs (pairTrees keys values X.env pos)) (fun vs s'=>∃ ps H',Inv X pins σ H' s'/\VV ps vs/\Q ps H') X.xe s
theorem Z0n {X:Cx}{pos:Pos}:PPs X pos [] [] []:=fun pins s σ H Q I h=>pairTrees_nil_walk ⟨[],H,I,.nil,h⟩
theorem Zye {X:Cx}{pos:Pos}{k v:Expr}{ks:List (Option Expr)}{vs:List Expr}{tk tv:TE}{trs:List (TE×TE)}(hk:PE X k tk) (hv:PE X v tv) (hr:PPs X pos ks vs trs) :
  PPs X pos (some k::ks) (v::vs) ((tk,tv)::trs):=fun pins s σ H Q I h =>
 pairTrees_cons_walk (thn (hk pins s σ H _ I h) fun u s1 ⟨x,H1,I1,rx,q1⟩=>thn (hv pins s1 σ H1 _ I1 q1) fun w2 s2 ⟨y,H2,I2,ry,q2⟩ =>
  thn (hr pins s2 σ H2 _ I2 q2) fun ws s3 ⟨ps,H3,I3,rel,q3⟩=>⟨(x,y)::ps,H3,I3,.cons ⟨rx,ry⟩ rel,q3⟩)
def U2 (kvs more:List (Key×V)):List (Key×V):=more.foldl (fun acc kv=>Z2 acc kv.1 kv.2) kvs
theorem KV.merge:∀ {more:List (Key×V)}{rs:List (Key×Value)}{kvs:List (Key×V)}{vs:List (Key×Value)},KV more rs->KV kvs vs->KV (U2 kvs more) (merged vs rs):=by
 intro more rs kvs vs r
 unfold KV at r
 induction r generalizing kvs vs with
 | nil=>intro q; exact q
 | @cons p q ps qs h t ih =>
  intro r0
  have e:KV (Z2 kvs p.1 p.2) (stored vs q.1 q.2):=by
   have:=r0.put p.1 h.2
   rw [← h.1]; exact this
  exact ih e
theorem Zmq:∀ (more kvs:List (Key×V)),(U2 kvs more).length<=kvs.length+more.length
 | [],kvs=>by show kvs.length<=kvs.length+0; lia
 | p::r,kvs=>by
  have h1:=Zmq r (Z2 kvs p.1 p.2)
  have h2:=Um kvs p.1 p.2
  show (U2 (Z2 kvs p.1 p.2) r).length<=_
  rw [xG]; lia
theorem Zm2 {P:Program}{w:World}:∀ {kvs:List (Key×V)}{ws:List (Value×Value)},VV (kvs.map fun kv=>(kV kv.1,kv.2)) ws->∃ rs,Carries (Ys P w) ws rs/\KV kvs rs
 | [],_,r=>by rw [List.map_nil] at r; cases r; exact ⟨[],True.intro,.nil⟩
 | p::kvs,_,r=>by
  rw [xP] at r
  cases r with
  | @cons a b as bs h t =>
   obtain ⟨rs,c,q⟩:=Zm2 (P:=P) (w:=w) t
   obtain ⟨b1,b2⟩:=b
   exact ⟨(p.1,b2)::rs,⟨U0 h.1,rfl,c⟩,.cons ⟨rfl,h.2⟩ q⟩
def Zrj (trs:List (TE×TE)):TE:=fun σ H Q=>∀ p,H p=none->Zil trs σ (upd H p (.dK [])) fun ps H2=>H2 p=some (.dK [])/\∃ kvs:List (Key×V),ps=kvs.map (fun kv=>(kV kv.1,kv.2))/\kvs.length<=15/\Q (.ref p) (upd H2 p (.dK (U2 [] kvs)))
theorem Z0o {X:Cx}{pos:Pos}{keys:List (Option Expr)}{values:List Expr}{trs:List (TE×TE)}(h:PPs X pos keys values trs) (hall:keys.all (·.isSome)=true) (hl:keys.length=values.length) (h0:keys ≠ [])
  (h15:keys.length<=15):PE X (.Dict keys values pos) (Zrj trs):=by
 intro pins s σ H Q I q
 have hn:=I.hok.fresh (xB s.heap.objs.size)
 have I1:=I.laid (a:=s.heap.objs.size) (o:=.dK []) (h':=s.heap.push {cls:=.type "dict", data:=.dict #[] }) (t':=s.toks) (fun _ _ q=>xA _ q) (xB _) (Zn3 s.heap I.big)
 refine wpAny_Dict_walk (knd:=Ys X.prog X.w) hall hl h0 h15 (thn (h pins _ σ _ _ I1 (q _ hn)) fun ws s2 ⟨ps,H2,I2,rel,e,kvs,ep,lk,q2⟩=>?_)
 subst ep
 obtain ⟨rs,c,rk⟩:=Zm2 (P:=X.prog) (w:=X.w) rel
 obtain ⟨z,hd,vs0,r0,dd⟩:=Zrg I2.hok e
 cases r0
 refine ⟨rs,c,dd,fun h' dd' hs=>⟨.ref s.heap.objs.size,_,?_,rfl,q2⟩⟩
 have hz:(U2 [] kvs).length<=sizeLine:=by
  have h1:=Zmq kvs []
  rw [yF] at h1
  rw [sizeLine_eq]; lia
 have he:∃ q,h'.get? s.heap.objs.size=some q:=let ⟨q,_,_,hq,_⟩:=dd'; ⟨q,hq⟩
 exact Zho I2 (by rw [e]; exact True.intro) hs he (Zpt hz hd (rk.merge .nil) dd')
structure M1 (X:Cx) (o:Expr) (m:Str) (apos:Pos) (e:Expr) (cpos:Pos):Prop where
 base:attributeBase o m X.env (eval o X.env)=eval o X.env
 few:((backTo cpos (starEach [e] X.env)).all (fun x=>!x.1) && (backToKw cpos (keywordEach [] X.env)).all (fun x=>x.1.isSome)
  && decide (([e]:List Expr).length+([]:List Keyword).length+(if ([]:List Keyword).isEmpty then 0 else 1) < 30))=true
 line:(apos.endLine == cpos.line)=true
 trees:backTo cpos (starEach [e] X.env) = [(false,eval e X.env)]
structure M2 (X:Cx) (o:Expr) (m:Str) (apos:Pos) (e f:Expr) (cpos:Pos):Prop where
 base:attributeBase o m X.env (eval o X.env)=eval o X.env
 few:((backTo cpos (starEach [e,f] X.env)).all (fun x=>!x.1) && (backToKw cpos (keywordEach [] X.env)).all (fun x=>x.1.isSome)
  && decide (([e,f]:List Expr).length+([]:List Keyword).length+(if ([]:List Keyword).isEmpty then 0 else 1) < 30))=true
 line:(apos.endLine == cpos.line)=true
 trees:backTo cpos (starEach [e,f] X.env) = [(false,eval e X.env),(false,eval f X.env)]
def IsD (H:Hp) (a:Addr):Prop:=(∃ kvs,Rd H a (.dK kvs))\/∃ kvs,Rd H a (.dT kvs)
theorem Z24 {X:Cx}{pins:List (Addr×Obj)}{σ:St}{H:Hp}{s:Shared}{a:Addr}(I:Inv X pins σ H s) (d:IsD H a) :
  s.TypeIs (.ref a) "dict" /\ (∀ b,Value.ref a = .ref b->∃ ob,s.heap.get? b=some ob/\ob.dict=none)/\(a == sysModules)=false:=by
 rcases d with ⟨kvs,e⟩ | ⟨kvs,e⟩
 ·obtain ⟨_,hd,vs,_,dd⟩:=U1 I.hok e
  refine ⟨dd.typeIs,fun b q=>?_,hd⟩
  cases q
  obtain ⟨ob,_,_,h1,h2,_⟩:=dd
  exact ⟨ob,h1,h2.2.1⟩
 ·obtain ⟨_,hd,xs,_,dd⟩:=Zas I.hok e
  refine ⟨dd.typeIs,fun b q=>?_,hd⟩
  cases q
  obtain ⟨ob,_,_,h1,h2,_⟩:=dd
  exact ⟨ob,h1,h2.2.1⟩
section
variable {X:Cx}{pins:List (Addr×Obj)}{σ:St}{H:Hp}{s:Shared}{a:Addr}{y d:V}{u r:Value}{o:Option V}{A:Around}{E:Value->Shared->Prop}
theorem Z25 {Q:Value->Shared->Prop}(hu:A.units+1 < cLine) (I:Inv X pins σ H s) (g:DGet H a y o) (ry:RelV y u) (rd:RelV d r) (h:∀ w' s',Inv X pins σ H s'->RelV (o.getD d) w'->Q w' s') :
  wpAny (model X.prog X.w) A (call (.builtin "dict.get") [.ref a,u,r]) Q E s:=by
 rcases g with ⟨kvs,k,e,ey,l⟩ | ⟨kvs,k,b,e,ey,eb,l⟩
 ·subst ey
  obtain ⟨z,hd,vs,rel,dd⟩:=U1 I.hok e
  refine call_meetsIn PySem.F.slot_dict_get dd.typeIs PySem.F.entry_dict_get (PySem.F.args_dict_get_3 _ _ _) (meets_dict_get_default (Ys X.prog X.w) a (U0 ry) hd r) ⟨_,dd.mapOf,h _ _ (I.tok _) ?_⟩
  rw [l]
  exact (rel.val k).getD rd
 ·subst ey
  cases (show u=Value.ref b from ry)
  obtain ⟨z,hd,xs,rel,dd⟩:=Zas I.hok e
  refine call_meetsIn PySem.F.slot_dict_get dd.typeIs PySem.F.entry_dict_get (PySem.F.args_dict_get_3 _ _ _) (meetsH_dict_get_default (tupleKind (Ys X.prog X.w)) a b hd r) ⟨tupleKind_room_in1 hu,k,xs,Zbt I.hok eb,dd,h _ _ (I.tok _) ?_⟩
  rw [l]
  exact (rel.val k).getD rd
end
def Zpw (td ty tx:TE):TE:=fun σ H Q=>td σ H fun x H1=>∃ a,x = .ref a/\IsD H1 a/\ty σ H1 fun y H2=>tx σ H2 fun z H3=>∃ o,DGet H3 a y o/\Q (o.getD z) H3
section
variable {X:Cx}{o e f:Expr}{apos cpos:Pos}{td ty tx:TE}
theorem Zyf (hu:X.A.units+1 < cLine) (ho:PE X o td) (he:PE X e ty) (hf:PE X f tx) (m:M2 X o "get" apos e f cpos):PE X (.Call (.Attribute o "get" apos) [e,f] [] cpos) (Zpw td ty tx):=by
 intro pins s σ H Q I h
 refine wpAny_Call_method m.base m.few m.line PySem.F.plainAttrs_dict PySem.F.slot_dict_get PySem.F.type_dict_get (thn (ho pins s σ H _ I h) fun u s1 ⟨x,H1,I1,rx,a,ex,d,q1⟩=>?_)
 subst ex
 obtain rfl:u=Value.ref a:=rx
 obtain ⟨t1,t2,_⟩:=Z24 I1 d
 refine ⟨t1,t2,?_⟩
 rw [m.trees]
 refine Calls.callWith_builtin rfl (Calls.evalArgs_plain (Calls.spliced_cons (thn (he pins s1 σ H1 _ I1 q1) fun iv s2 ⟨y,H2,I2,ry,q2⟩ =>
  Calls.spliced_cons (thn (hf pins s2 σ H2 _ I2 q2) fun fv s3 ⟨z,H3,I3,rz,ov,g,q3⟩=>Calls.spliced_nil ?_))))
 exact Z25 hu I3 g ry rz fun w' s4 I4 rw'=>⟨_,H3,I4,rw',q3⟩
end
section
variable {X:Cx}{pins:List (Addr×Obj)}{σ:St}{H:Hp}{s:Shared}{a:Addr}{kvs:List (Key×V)}{A:Around}{E:Value->Shared->Prop}
end
section
variable {X:Cx}{pins:List (Addr×Obj)}{σ:St}{H:Hp}{s:Shared}{a:Addr}{y:V}{u:Value}{A:Around}{E:Value->Shared->Prop}
end
end L2
namespace Att
open PySem PySem.W PySem.Calls PyProof.Rows
theorem Zun {P:Params}{h:Heap}:∀ (ns:List Int) (vs:List Value),WellAll P h vs (ns.map WData.int)->IntsAre vs ns:=by
 intro ns
 induction ns with
 | nil =>
  intro vs w
  rw [List.map_nil] at w
  cases w
  exact .nil
 | cons n ns ih =>
  intro vs w
  rw [xP] at w
  cases w with
  | cons a b =>
   cases a
   exact .cons _ _ (ih _ b)
theorem Zw6 {l:OpenLaw}{n:Nat}(hn:l.most=some n) {P:Params}{h:Heap}{args:List WData}{vals:List Value}
  (hpre:l.row.toRowW.claim.pre args=true) (hwl:WellAll P h vals args) :
  ∃ a vs ns,vals = [Value.ref a]/\args = [WData.list (ns.map WData.int)]/\h.get? a=some {cls:=.type "list", data:=.seq vs.toArray }/\IntsAre vs ns/\ns.length<=n:=by
 have hsh:WShape.hasAll [] args [.list .int]=true:=(pre_splitW hpre).1
 have hc:l.pre.holds [] {args:=args }=true:=(pre_splitW hpre).2
 obtain ⟨d,r,rfl,h1,h2⟩:=hasAllW_cons hsh
 obtain rfl:=hasAllW_nil h2
 obtain ⟨xs,rfl,h3⟩:=hasW_list h1
 obtain ⟨ns,rfl⟩:=items_int h3
 have hlen:ns.length<=n:=by
  unfold OpenLaw.pre at hc
  have h4:(WTm.not (.lt (.lit (.int (n:Int))) (.len (.arg 0)))).holds [] {args:=[.list (ns.map .int)] }=true:=by
   have h4:=(holds_andW hc).1
   rw [hn] at h4
   exact h4
  have h5:=condW_of h4 (w_not (w_lt w_lit (w_len_list (w_arg rfl))))
  rw [xD] at h5
  refine Nat.le_of_not_lt fun q=>?_
  have q':(n:Int) < ((ns.length:Nat):Int):=by lia
  first
   | (rw [xM q'] at h5; exact absurd h5 (by decide))
   | (simp at h5; lia)
 cases hwl with
 | cons w1 w2 =>
  cases w2
  cases w1 with
  | list ho hall=>exact ⟨_,_,ns,rfl,rfl,ho,Zun ns _ hall,hlen⟩
theorem Zw7 (l:OpenLaw) (args:List WData):l.row.toRowW.claim.post args (.bool true) args=true :=
 postW_of (r:=l.row.toRowW) (X:=(true == true))
  (show WShape.has [] (.bool true) .bool=true by first | rfl | decide | simp [WShape.has,WShape.arms,WShape.armsAll])
  (show (WTm.eq .res (.lit (.bool true))).value [] {args:=args,res:=some (.bool true),after:=args }=some (.bool (true == true)) from w_eq_bool (w_res rfl) w_lit) rfl
theorem attach_call {l:OpenLaw}{n:Nat}{q:Program}{loose:List Str}{XP:(Str->Option Value)->Heap->Prop}{YP:World->Heap->Prop}{d:DefRec}
  (hn:l.most=some n) (hdf:d.params.defaults = [])
  (call:∀ (w:World) (s₀ s₁:Shared) (mg mb:Str->Option Value) (fa:Addr) (o:Obj) (pm cd doc:Value) (a:Addr) (vs:List Value) (ns:List Int),
   Ground q loose [] XP w s₀ mg mb s₁.heap->YP w s₁.heap ->
   s₁.heap.get? fa=some o->o.data = .func (docDef d.name d.params d.body d.scope pm cd doc)->s₁.heap.CodeRec cd d.name->mg d.name=some (.ref fa) ->
   s₁.heap.get? a=some {cls:=.type "list", data:=.seq vs.toArray }->IntsAre vs ns->ns.length<=n->s₁.gens = #[] ->
   codeAny (model l.prog w) callerA (.call (.ref fa) ⟨[.ref a],[]⟩) (fun r s'=>r = .ok (.ret (.bool true))/\OldK s₁.heap s'.heap/\s'.os=s₁.os/\AllBare s'.gens) s₁) :
  WalkO q loose XP YP l.row.toRowW d [] (fun f vs=>PySem.call f vs):=by
 intro w s₀ s₁ mg mb G Y fa o pm cd doc dV kV ho hd hcd hD hmg hg args vals as hpre hlay hrd hwl hlo
 obtain rfl:dV = .none:=Dflts.none hD hdf
 obtain rfl:kV = .none:=Dflts.noKw hD
 obtain ⟨a,vs,ns,rfl,rfl,hobj,hints,hlen⟩:=Zw6 hn hpre hwl
 refine enter_call (codeAny_mono (call w s₀ s₁ mg mb fa o pm cd doc a vs ns G Y ho (fd_plain hd) hcd hmg hobj hints hlen hg) fun r s' hq=>?_)
 obtain ⟨rfl,h2,h3,h4⟩:=hq
 exact ⟨.inl ⟨.bool true,.bool true,[],rfl,fun _=>rfl,.bool true,Zw7 l _,fun _=>⟨List.Pairwise.nil,fun _ hm=>(nomatch hm)⟩⟩,h2,h3,h4⟩
section
variable {prog:Program}{w:World}{A:Around}{E:Value->Shared->Prop}{s:Shared}{K:Frag}
end
end Att
namespace L2
open PySem PySem.Spec PyProof.Rows
theorem Znn:∀ {vs:List Value}{ns:List Int},IntsAre vs ns->Vals (ns.map V.int) vs
 | _,_,.nil=>.nil
 | _,_,.cons n t h=>.cons ⟨t,rfl⟩ (Znn h)
def Zk5 (H:Hp):Prop:=∀ b,H b=none\/∃ o xs,H b=some (.frz o (.lst xs))
theorem Zyg {P:Program}{w:World}{K:uFg}{mg mb:Str->Option Value}{CX:CXT}{k:Nat}{fa a:Addr}{fd:FuncData}{x:Str}{sp:Sp}{s₁:Shared}{vs:List Value}{ns:List Int}
  (KX:K.In s₁.heap) (hns:s₁.heap.Ns mainGlobals mg) (hb:s₁.heap.Ns builtinsNs mb) (hbb:∀ x:Str,x ≠ "__name__" -> mb x=bootBuiltins x) (hlim:s₁.heap.NoLimit) (hg:s₁.gens = #[])
  (ha:s₁.heap.get? a=some {cls:=.type "list", data:=.seq vs.toArray }) (hi:IntsAre vs ns) (hl:ns.length<=sizeLine) (hr:Room k callerA)
  (F:∀ base:Heap,K.In base->base.Ns mainGlobals mg->FnOk P w K mg base CX k fa fd [x] sp) (hbind:∀ (s:Shared) (u:Value),BindsTo s fd ⟨[u],[]⟩ [(x,u)])
  (hsp:∀ H:Hp,Zk5 H->SqL K H a (ns.map V.int)->sp [.ref a] H (fun v _=>v = .bl true) fun _ _ _=>False)
  (hCX:∀ H e s',CX [] H s₁ (fun _ _ _=>False) e s'->False) :
  codeAny (model P w) callerA (.call (.ref fa) ⟨[.ref a],[]⟩) (fun r s'=>r = .ok (.ret (.bool true))/\OldK s₁.heap s'.heap/\s'.os=s₁.os/\AllBare s'.gens) s₁:=by
 have rv:=Znn hi
 have lenV:=hi.length
 have core:∀ H:Hp,Zk5 H->SqL K H a (ns.map V.int)->HOk P w H s₁.heap->(∀ b,H b≠none->b=a)->(H a≠none->K.lookup a=none) ->
   codeAny (model P w) callerA (.call (.ref fa) ⟨[.ref a],[]⟩) (fun r s'=>r = .ok (.ret (.bool true))/\OldK s₁.heap s'.heap/\s'.os=s₁.os/\AllBare s'.gens) s₁:=by
  intro H hO hS hok hA hK
  have base_of:∀ {b:Addr}{o:Obj},s₁.heap.get? b=some o->H b=none->(Uk s₁.heap H).get? b=some o:=fun e n=>Zxs e n
  have noA:∀ {b:Addr}{o:Obj}{es:Array DictEntry}{ep:Nat},s₁.heap.get? b=some o->o.data = .dict es ep->H b=none:=fun {b o es ep} e d=>by
   cases q:H b with
   | none=>rfl
   | some u =>
    have e':b=a:=hA b (by rw [q]; simp)
    subst e'
    rw [ha] at e; cases e
    have d':Data.seq vs.toArray _=Data.dict es ep:=d
    cases d'
  have nsK:∀ {b:Addr}{m:Str->Option Value},s₁.heap.Ns b m->(Uk s₁.heap H).Ns b m:=fun {b m} ⟨o,es,ep,e,d,r⟩=>⟨o,es,ep,base_of e (noA e d),d,r⟩
  have hKb:K.In (Uk s₁.heap H):=fun b o e=>base_of (KX b o e) (by
   cases q:H b with
   | none=>rfl
   | some u =>
    have e':b=a:=hA b (by rw [q]; simp)
    subst e'
    rw [hK (by rw [q]; simp)] at e; cases e)
  have hM:Mod K mg (Uk s₁.heap H):=⟨hKb,nsK hns,⟨mb,nsK hb,hbb⟩,let ⟨mc,h1,h2⟩:=hlim; ⟨mc,nsK h1,h2⟩⟩
  have e0:Env0 P w K mg (Uk s₁.heap H) callerA [] s₁ H:=⟨rfl,hM,fun b o e=>Zzw e,Nat.le_of_eq (Zwt _ _),trivial,fun b hb=>absurd (show b∈([]:List Addr) from hb) (by simp),hok,.of_eq hg⟩
  refine codeAny_mono ((F _ hKb (nsK hns)).run callerA [] s₁ H ⟨[.ref a],[]⟩ [.ref a] [.ref a] _ _ hr e0 (hbind s₁ (.ref a)) (.cons rfl .nil) (hsp H hO hS)) fun r s' h=>?_
  cases r with
  | error e=>exact (hCX H e s' h).elim
  | ok fl =>
   cases fl with
   | next=>exact False.elim h
   | brk=>exact False.elim h
   | cont=>exact False.elim h
   | ret u =>
    obtain ⟨v,H',os,bare,un,hok',r',q⟩:=h
    have q':v = .bl true:=q
    subst q'
    obtain rfl:u=Value.bool true:=r'
    refine ⟨rfl,OldK.of_keep fun b o e=>?_,os,bare⟩
    cases q:H b with
    | none=>exact un.keep b o e q (by intro z; exact absurd (show b∈([]:List Addr) from z) (by simp)) (by simp)
    | some u =>
     rcases hO b with z | ⟨ob,xs,z⟩
     ·rw [q] at z; cases z
     ·have z2:=un.frzs b ob _ z
      obtain ⟨e1,_⟩:=hok b _ z
      obtain ⟨e2,_⟩:=hok' b _ z2
      rw [e] at e1; cases e1
      exact e2
 cases hk:K.lookup a with
 | some o =>
  have e:=KX a o hk
  rw [ha] at e
  cases e
  refine core (fun _=>none) (fun _=>.inl rfl) (.inr ⟨_,vs.toArray,_,hk,rfl,rfl,rfl,by rw [xL,lenV]; exact hl,by simpa using rv⟩) (fun b u z=>by have z':(none:Option HO)=some u:=z; cases z') (fun b z=>absurd rfl z) fun z=>absurd rfl z
 | none =>
  refine core (fun b=>if b=a then some (.frz {cls:=.type "list", data:=.seq vs.toArray } (.lst (ns.map V.int))) else none) (fun b=>?_) (.inl (.inr ⟨{cls:=.type "list", data:=.seq vs.toArray },if_pos rfl⟩)) (fun b u z=>?_) (fun b z=>?_) fun _=>hk
  ·by_cases hb:b=a
   ·exact .inr ⟨_,_,if_pos hb⟩
   ·exact .inl (if_neg hb)
  ·by_cases hb:b=a
   ·have z':=(if_pos hb).symm.trans z
    cases z'
    subst hb
    exact ⟨ha,by rw [xD]; exact hl,vs,_,rv,ha⟩
   ·have z':=(if_neg hb).symm.trans z
    cases z'
  ·by_cases hb:b=a
   ·exact hb
   ·exact absurd (if_neg hb) z
end L2
namespace L2
open PySem PySem.Spec PyProof.Rows
theorem walk_of {l:PySem.W.OpenLaw}{n k:Nat}{q:Program}{loose:List Str}{XP:(Str->Option Value)->Heap->Prop}{YP:World->Heap->Prop}{d:DefRec}{K:Params->uFg}{CX:World->CXT}{sp:World->Sp}{x:Str}
  (hn:l.most=some n) (hn2:n<=sizeLine) (hdf:d.params.defaults = []) (hr:Room k callerA)
  (hY:∀ (w:World) (h:Heap),YP w h->(K w.params).In h)
  (F:∀ (w:World) (mg:Str->Option Value) (fa:Addr) (h:Heap),(K w.params).In h->h.Ns mainGlobals mg->mg d.name=some (.ref fa) ->
   ∃ fd:FuncData,(∀ (s:Shared) (u:Value),BindsTo s fd ⟨[u],[]⟩ [(x,u)]) /\
    ∀ base:Heap,(K w.params).In base->base.Ns mainGlobals mg->FnOk l.prog w (K w.params) mg base (CX w) k fa fd [x] (sp w))
  (hsp:∀ (w:World) (H:Hp) (a:Addr) (ns:List Int),ns.length<=n->Zk5 H->SqL (K w.params) H a (ns.map V.int)->sp w [.ref a] H (fun v _=>v = .bl true) fun _ _ _=>False)
  (hCX:∀ (w:World) (H:Hp) (s:Shared) (e:Value) (s':Shared),CX w [] H s (fun _ _ _=>False) e s'->False) :
  PySem.W.WalkO q loose XP YP l.row.toRowW d [] (fun f vs=>PySem.call f vs):=by
 refine Att.attach_call hn hdf fun w s₀ s₁ mg mb fa o pm cd doc a vs ns G Y ho hd hcd hmg hobj hints hlen hg=>?_
 have KX:=hY w _ Y
 obtain ⟨fd,hb,hF⟩:=F w mg fa _ KX G.T.g hmg
 exact Zyg KX G.T.g G.T.b G.T.builtins G.T.nolimit hg hobj hints (yK hlen hn2) hr hF hb (fun H hO hS=>hsp w H a ns hlen hO hS) fun H e s'=>hCX w H s₁ e s'
end L2
/- THE LAST THEOREM (shape; LID,My.* are yours):
   My.Adr: a structure of the addresses that your layer names (classes,functions); My.Txt K t: a structure (Prop) of the equations over K;
   My.txt_mk:{K} {implicit addresses ..} (e1:nsIn K mainGlobals "law" = some (some (.ref f))) (e2:K.lookup f=some ⟨oc,od,.func (fnOf "law" "law" params body scope dV kV doc pm an cdv ct),sl⟩) (e3:codeIn K cdv "law" = true) .. : ∃ t,My.Txt K t
set_option maxRecDepth 100000 in
set_option maxHeartbeats 0 in
theorem PySem.Challenge.cw_LID_holds : PySem.Challenge.rw_LID.Holds := by
 w_on; o_law; k_head; (case hw=>w_witness2)
 k_fill
 refine L2.walk_of (l:=PySem.Challenge.rw_LID) (n:=63) (k:=40) (x := "script") (CX:=fun w=>..) (sp:=fun _=>My.sp_law) rfl (by decide) rfl ⟨rfl,by decide,by decide⟩ (fun w h Y=>PySem.W.kIn_of Y) ?F ?S ?C
 case F =>
  intro w mg fa h KX G hmg
  have T:∃ t,My.Txt (L2.KOf KX) t:=by
   dsimp only [L2.KOf]                          -- K must stand as «<heap const> w.params» for k_is
   refine' My.txt_mk ?e1 ?e2 ?e3 ..
   (case e1=>PySem.W.k_is)                    -- in the order: a name->its address->its object->its parts
   (case e2=>PySem.W.k_is)
   ..
  obtain ⟨t,T⟩:=T
  have e0:=hmg.symm.trans (PySem.W.mg_of KX G T.law)
  cases e0                                       -- fa is the law's own address
  exact ⟨_,fun s u=>.of_eq rfl,fun base kb nb=>My.law_fn T kb nb⟩     -- if «.of_eq rfl» comes too early: refine' ⟨_,?b,fun base kb nb=>My.law_fn T kb nb⟩; exact fun s u=>.of_eq rfl
 case S=>exact fun w H a ns hl hO hS=>..
 case C=>exact ..
(the tactic k_is has no namespace: write k_is) -/
namespace L2
open PySem PySem.Spec PyProof.Rows
def Ye (s:Stmt) (j:Nat):Stmt:=match s with
 | .ClassDef _ _ _ body _ _ _ _ _ _ _=>body.getD j (.Pass ⟨0,0,0,0⟩)
 | _=>.Pass ⟨0,0,0,0⟩
def Wk (s:Stmt):Arguments:=match s with
 | .FunctionDef _ a _ _ _ _ _ _ _ _=>a
 | _=>{posonlyargs:=[],args:=[],vararg:=none,kwonlyargs:=[],kw_defaults:=[],kwarg:=none,defaults:=[] }
def Yi (s:Stmt):List Stmt:=match s with
 | .FunctionDef _ _ b _ _ _ _ _ _ _=>b
 | _=>[]
def Zb (s:Stmt):Scope:=match s with
 | .FunctionDef _ _ _ _ _ _ sc _ _ _=>sc
 | _=>{kind:=.function,names:=[],isGenerator:=false,isCoroutine:=false }
abbrev CX0:CXT:=fun _ _ _ _ _ _=>False
abbrev E0:XK:=fun _ _ _=>False
theorem Ze6 {X:Cx}:Zaq CX0 X E0:=fun _ _ _ _ _ _ _ h=>h.elim
structure Fun (K:uFg) (x qual:Str) (st:Stmt) (f:Addr) (fd:FuncData):Prop where
 ex:∃ (oc:Value) (od:Option Addr) (kV doc pm:Value) (an:Option Addr) (cdv ct:Value) (osl:Array (Option Value)),
  fd=PySem.W.fnOf x qual (Wk st) (Yi st) (Zb st) .none kV doc pm an cdv ct/\K.lookup f=some ⟨oc,od,.func fd,osl⟩/\PySem.W.codeIn K cdv qual=true
 kp:PySem.W.keepIn K (.ref f)=true
section
variable {P:Program}{w:World}{K:uFg}{mg:Str->Option Value}{base:Heap}
theorem Fun.ok {x qual:Str}{st:Stmt}{f:Addr}{fd:FuncData}{N ps:List Str}{k:Nat}{sp:Sp}(F:Fun K x qual st f fd) (S:FnScope N ps (Zb st)) (len:∀ vs H Q E,sp vs H Q E->vs.length=ps.length)
  (hbody:∀ (cdv:Value) (A:Around) (outer:List Env) (s:Shared) (H:Hp) (vs:List V) (Q:VK) (E:XK),Room k (A.deeper (envOfC qual (Zb st) s.heap.objs.size f cdv))->sp vs H Q E ->
   ∃ t,PSs (Yo CX0 P w K mg base N qual (Zb st) f cdv A outer s H E).nox (Yi st) t/\t {nx:=fun _ H'=>Q .non H',rt:=Q } (start N vs) H):FnOk P w K mg base CX0 (k+1) f fd ps sp:=by
 obtain ⟨oc,od,kV,doc,pm,an,cdv,ct,osl,rfl,lk,hcd⟩:=F.ex
 refine Zrc lk hcd S len fun A outer s H vs Q E hr hsp=>?_
 obtain ⟨t,h,q⟩:=hbody cdv A outer s H vs Q E hr hsp
 exact ⟨t,h.nox,q⟩
theorem Fun.binds {x qual:Str}{st:Stmt}{f:Addr}{fd:FuncData}{ps:List Str}(F:Fun K x qual st f fd)
  (h:∀ (kV doc pm:Value) (an:Option Addr) (cdv ct:Value) (us:List Value),us.length=ps.length->bindArgs (PySem.W.fnOf x qual (Wk st) (Yi st) (Zb st) .none kV doc pm an cdv ct) ⟨us,[]⟩=pure (ps.zip us)):Binds K fd ps []:=by
 obtain ⟨oc,od,kV,doc,pm,an,cdv,ct,osl,rfl,lk,hcd⟩:=F.ex
 exact .all (h kV doc pm an cdv ct)
theorem Zim {x qual:Str}{st:Stmt}{f:Addr}{oc:Value}{od an:Option Addr}{osl:Array (Option Value)}{kV doc pm cdv ct:Value}(l:K.lookup f=some ⟨oc,od,.func (PySem.W.fnOf x qual (Wk st) (Yi st) (Zb st) .none kV doc pm an cdv ct),osl⟩)
  (c:PySem.W.codeIn K cdv qual=true) (k:PySem.W.keepIn K (.ref f)=true):Fun K x qual st f (PySem.W.fnOf x qual (Wk st) (Yi st) (Zb st) .none kV doc pm an cdv ct):=⟨⟨oc,od,kV,doc,pm,an,cdv,ct,osl,rfl,l,c⟩,k⟩
end
section
variable {X:Cx}
end
theorem Zx {A B:Prop}(h:B):if false=true then A else B:=by
 rw [if_neg xE]
 exact h
theorem Yj {A B:Prop}(h:A):if true=true then A else B:=by
 rw [if_pos rfl]
 exact h
def Same (H H':Hp):Prop:=∀ b o,H b=some o->H' b=some o
theorem Same.refl (H:Hp):Same H H:=fun _ _ h=>h
theorem Same.trans {H H1 H2:Hp}(a:Same H H1) (b:Same H1 H2):Same H H2:=fun c o h=>b c o (a c o h)
theorem Same.free {H H':Hp}(e:Same H H') {l:Addr}(h:H' l=Option.none):H l=Option.none:=by
 cases q:H l with
 | none=>rfl
 | some o =>
  rw [e l o q] at h
  cases h
end L2
namespace L2
open PySem PySem.Spec PyProof.Rows
section
variable {X:Cx}
theorem Zw8:Wn X (.builtin "len") (fun xs H Q=>∃ a kvs,xs = [V.ref a]/\H a=some (.dK kvs)/\Q (.int kvs.length) H):=by
 intro pins s σ H xs us Q I r h
 obtain ⟨a,kvs,rfl,ha,q⟩:=h
 obtain ⟨u,rfl,ru⟩:=Vz r
 cases ru
 exact Z37 I (.inl ha) fun t s' I'=>⟨.int kvs.length,H,I',⟨t,rfl⟩,q⟩
end
section
variable {κ:Type} [DecidableEq κ]
theorem Zyh {kvs:List (κ×V)}{k : κ}(h:Z3 kvs k=none):¬ k∈kvs.map (·.1):=by
 intro m
 obtain ⟨p,hp,e⟩:=yO.mp m
 have q:(kvs.any fun kv=>decide (kv.1=k))=true:=List.any_eq_true.mpr ⟨p,hp,xM e⟩
 rw [Zar,h] at q
 exact absurd q (by simp)
theorem Zhp:∀ {l:List κ}{k : κ},l.Nodup->¬ k∈l->(l ++ [k]).Nodup
 | [],k,_,_=>by simp
 | a::r,k,h,hk=>by
  obtain ⟨h1,h2⟩:=xZ.mp h
  show (a::(r ++ [k])).Nodup
  refine xZ.mpr ⟨fun m=>?_,Zhp h2 fun m=>hk (xC.mpr (Or.inr m))⟩
  rcases xS.mp m with q | q
  ·exact h1 q
  ·exact hk (xC.mpr (Or.inl (yC.mp q).symm))
theorem Z0p {kvs:List (κ×V)}{k : κ}(v:V) (hn:(kvs.map (·.1)).Nodup) (h:Z3 kvs k=none):((Z2 kvs k v).map (·.1)).Nodup:=by
 rw [Zn2 v h,xX]
 exact Zhp hn (Zyh h)
end
end L2
end
section
namespace L2
open PySem PySem.Spec PyProof.Rows
abbrev ccx (X:Cx) (scope:Scope) (cl:List (Str×Addr)) (C:Addr) (N':List Str) (s2:Shared) (H2:Hp) (ex:List Addr) (pn:List (Addr×Obj)):Cx where
 prog:=X.prog
 w:=X.w
 K:=X.K
 mg:=X.mg
 base:=X.base
 A:=X.A
 N:=N'
 s₀:=s2
 H₀:=H2
 env:=compEnvC scope cl C X.env
 outer:=X.stack
 stack:=X.stack
 ex:=ex
 fn:=fun _=>false
 calm:=X.calm
 pn:=pn
 xe:=fun _ _=>False
theorem Zgj (env:Env):∀ (l:List (Str×NameKind)) (cs:List (Str×Addr)),(∀ p∈l,p.2 = .free->∃ c,env.cells.lookup p.1=some c) ->
  ∃ cl,(forIn l cs (fun (x:Str×NameKind) (r:List (Str×Addr))=>if (x.2 == NameKind.free)=true then (do let a ← cellOf env x.1; pure (ForInStep.yield ((x.1,a)::r)):Sem (ForInStep (List (Str×Addr)))) else pure (ForInStep.yield r)):Sem _)=pure cl /\
   (∀ x c,cl.lookup x=some c->env.cells.lookup x=some c\/cs.lookup x=some c)/\(∀ x,((x,NameKind.free)∈l\/∃ c,cs.lookup x=some c)->∃ c,cl.lookup x=some c)
 | [],cs,_=>⟨cs,rfl,fun x c h=>.inr h,fun x h=>h.elim (fun z=>nomatch z) id⟩
 | (n,k)::r,cs,h=>by
  have hr:∀ p∈r,p.2 = .free->∃ c,env.cells.lookup p.1=some c:=fun p hp=>h p (xT _ hp)
  by_cases hk:k = .free
  ·subst hk
   obtain ⟨c,hc⟩:=h (n,.free) xR rfl
   obtain ⟨cl,e,h1,h2⟩:=Zgj env r ((n,c)::cs) hr
   refine ⟨cl,?_,fun x d hx=>?_,fun x hx=>?_⟩
   ·rw [List.forIn_cons]
    have e2:cellOf env n=pure c:=by unfold cellOf; rw [hc]
    simp only [beq_self_eq_true,if_true,e2,pure_bind]
    exact e
   ·rcases h1 x d hx with z | z
    ·exact .inl z
    ·rw [yM] at z
     cases q:x == n with
     | true =>
      rw [q] at z
      cases z
      have:x=n:=by simpa using q
      subst this
      exact .inl hc
     | false =>
      rw [q] at z
      exact .inr z
   ·apply h2
    rcases hx with hx | ⟨d,hx⟩
    ·rcases xC.mp hx with z | z
     ·cases z
      exact .inr ⟨c,by rw [yM]; simp⟩
     ·exact .inl z
    ·right
     rw [yM]
     cases q:x == n with
     | true=>exact ⟨c,rfl⟩
     | false=>exact ⟨d,hx⟩
  ·obtain ⟨cl,e,h1,h2⟩:=Zgj env r cs hr
   refine ⟨cl,?_,h1,fun x hx=>h2 x ?_⟩
   ·rw [List.forIn_cons]
    have e2:(k == NameKind.free)=false:=by simpa using hk
    simp only [e2,Bool.false_eq_true,if_false,pure_bind]
    exact e
   ·rcases hx with hx | hx
    ·rcases xC.mp hx with z | z
     ·cases z
      exact absurd rfl hk
     ·exact .inl z
    ·exact .inr hx
theorem Zvo {scope:Scope}{env:Env}(h:∀ p∈scope.names,p.2 = .free->∃ c,env.cells.lookup p.1=some c) :
  ∃ cl,closureFor scope env=pure cl/\(∀ x c,cl.lookup x=some c->env.cells.lookup x=some c)/\(∀ x,(x,NameKind.free)∈scope.names->∃ c,cl.lookup x=some c):=by
 obtain ⟨cl,e,h1,h2⟩:=Zgj env scope.names [] h
 refine ⟨cl,?_,fun x c hx=>(h1 x c hx).elim id (fun z=>nomatch z),fun x hx=>h2 x (.inl hx)⟩
 unfold closureFor
 have e':=congrArg (fun m:Sem (List (Str×Addr))=>m >>= fun r=>pure r) e
 simp only [pure_bind] at e'
 exact e'
theorem Zmo {env:Env}{kk:NameKind}(hkk:kk ≠ .free):∀ {names:List (Str×NameKind)}{x:Str},names.lookup x=some kk ->
  (names.map fun (n,k)=>if (k == NameKind.free && env.scope.kind == .function && env.kindOf n == some .cell) then (n,NameKind.cell) else (n,k)).lookup x=some kk
 | [],_,h=>by simp at h
 | (n,k)::r,x,h=>by
  have ih:=@Zmo env kk hkk r x
  show List.lookup x ((if (k == NameKind.free && env.scope.kind == .function && env.kindOf n == some .cell)=true then (n,NameKind.cell) else (n,k))::_)=_
  cases hx:x == n with
  | true =>
   simp only [yM,hx] at h
   have h:some k=some kk:=h
   have h':k=kk:=Option.some.inj h
   subst h'
   have e:(k == NameKind.free)=false:=by simpa using hkk
   rw [e,Bool.false_and,Bool.false_and,if_neg xE,yM,hx]
  | false =>
   simp only [yM,hx] at h
   by_cases hc:(k == NameKind.free && env.scope.kind == .function && env.kindOf n == some .cell)=true
   ·rw [if_pos hc]; simp only [yM,hx]; exact ih h
   ·rw [if_neg hc]; simp only [yM,hx]; exact ih h
theorem Zgf {env:Env}:∀ {names:List (Str×NameKind)}{x:Str},names.lookup x=some .free ->
  ((names.map fun (n,k)=>if (k == NameKind.free && env.scope.kind == .function && env.kindOf n == some .cell) then (n,NameKind.cell) else (n,k)).lookup x=some .cell) \/
  ((names.map fun (n,k)=>if (k == NameKind.free && env.scope.kind == .function && env.kindOf n == some .cell) then (n,NameKind.cell) else (n,k)).lookup x=some .free)
 | [],_,h=>by simp at h
 | (n,k)::r,x,h=>by
  have ih:=@Zgf env r x
  show (List.lookup x ((if (k == NameKind.free && env.scope.kind == .function && env.kindOf n == some .cell)=true then (n,NameKind.cell) else (n,k))::_)=_)\/(List.lookup x ((if (k == NameKind.free && env.scope.kind == .function && env.kindOf n == some .cell)=true then (n,NameKind.cell) else (n,k))::_)=_)
  cases hx:x == n with
  | true =>
   simp only [yM,hx] at h
   cases h
   by_cases hc:(NameKind.free == NameKind.free && env.scope.kind == .function && env.kindOf n == some .cell)=true
   ·rw [if_pos hc]; simp [yM,hx]
   ·rw [if_neg hc]; simp [yM,hx]
  | false =>
   simp only [yM,hx] at h
   by_cases hc:(k == NameKind.free && env.scope.kind == .function && env.kindOf n == some .cell)=true
   ·rw [if_pos hc]; simp only [yM,hx]; exact ih h
   ·rw [if_neg hc]; simp only [yM,hx]; exact ih h
theorem Zmw {env:Env}{scope:Scope}{x:Str}(hcell:∀ y∈scope.names,y.2 ≠ .cell) (h:(relabel scope env).names.lookup x=some .cell\/(relabel scope env).names.lookup x=some .free):(x,NameKind.free)∈scope.names:=by
 have m:∃ k',(k'=NameKind.cell\/k'=NameKind.free)/\(x,k')∈(relabel scope env).names:=by
  rcases h with h | h
  ·exact ⟨_,.inl rfl,PySem.mem_of_lookup h⟩
  ·exact ⟨_,.inr rfl,PySem.mem_of_lookup h⟩
 obtain ⟨k',hk,m⟩:=m
 obtain ⟨⟨n,k⟩,hm,e⟩:=yO.mp m
 have e:(if (k == NameKind.free && env.scope.kind == .function && env.kindOf n == some .cell)=true then (n,NameKind.cell) else (n,k))=(x,k'):=e
 by_cases hc:(k == NameKind.free && env.scope.kind == .function && env.kindOf n == some .cell)=true
 ·rw [if_pos hc] at e
  cases e
  have:k = .free:=by
   cases k <;> simp at hc ⊢
  rw [← this]; exact hm
 ·rw [if_neg hc] at e
  cases e
  rcases hk with z | z
  ·exact absurd z (hcell _ hm)
  ·rw [← z]; exact hm
section
variable {prog:Program}{w:World}{A:Around}{E:Value->Shared->Prop}{R:Result->Shared->Prop}{s:Shared}
theorem Zui {elt target iter:Expr}{ifs:List Expr}{scope:Scope}{pos:Pos}{it acc:Value}{env:Env}(I:Nat->Shared->Prop) {EX:Value->Shared->Prop}(hEX:∀ e s,EX e s->notedBy (model prog w) A env (fun x s'=>R (.error x) s') e s)
  (turn:∀ n s,I n s->wpAny (model prog w) A (pyNext it) (fun r s₁=>match r with
   | none=>R (.ok .next) s₁
   | some v=>wpAny (model prog w) A (letOwnedTupleGo target it v) (fun _ s1=>wpAny (model prog w) A (assign target env v) (fun _ s₂ =>
     wpAny (model prog w) A (forIn ifs true fun c r=>if r=true then do let ok ← isTrue c env (eval c env); pure (ForInStep.yield ok) else pure (ForInStep.yield r)) (fun ok s₃ =>
      if ok=true then wpAny (model prog w) A (eval elt env) (fun x s₄ =>
       wpAny (model prog w) A (call (.builtin "list.append") [acc,x]) (fun _ s₅=>∃ m,m < n/\I m s₅) (fun _ _=>False) s₄) EX s₃
      else ∃ m,m < n/\I m s₃) (fun _ _=>False) s₂) (fun _ _=>False) s1) (fun _ _=>False) s₁) (fun _ _=>False) s)
  (n:Nat) (h:I n s) :
  codeAny (model prog w) A (.compLoop (.ListComp elt [⟨target,iter,ifs,0⟩] scope pos) 0 it acc env) R s:=by
 refine codeAny_loop rfl I (fun n s hI=>?_) n h
 show wpAny _ A ((compTurn (.ListComp elt [⟨target,iter,ifs,0⟩] scope pos) 0 it acc env).onRaise (fun x=>do noteFrame x env; theTreesLotGoes x)) _ _ s
 refine wpAny_noted ?_
 rw [compTurn_list]
 refine wpAny_bind (wpAny_standAt (wpAny_bind (wpAny_mono (turn n s hI) (fun r s₁ h₁=>?_) fun _ _ h'=>h'.elim)))
 cases r with
 | none=>exact wpAny_pure h₁
 | some v =>
  refine wpAny_bind (wpAny_mono h₁ (fun _ s1 h1=>?_) fun _ _ h'=>h'.elim)
  refine wpAny_bind (wpAny_mono h1 (fun _ s₂ h₂=>wpAny_bind (wpAny_mono h₂ (fun ok s₃ h₃=>?_) fun _ _ h'=>h'.elim)) fun _ _ h'=>h'.elim)
  cases ok with
  | false=>exact wpAny_pure ⟨rfl,h₃⟩
  | true =>
   exact wpAny_bind (wpAny_bind (wpAny_mono h₃ (fun x s₄ h₄=>wpAny_bind (wpAny_mono h₄ (fun _ s₅ h₅=>wpAny_pure (wpAny_pure ⟨rfl,h₅⟩)) fun _ _ h'=>h'.elim)) fun e s h'=>hEX e s h'))
end
abbrev TTs:=St->Hp->(Bool->Hp->Prop)->Prop
def PTs (X:Cx) (ifs:List Expr) (t:TTs):Prop :=
 ∀ (pins:List (Addr×Obj)) (s:Shared) (σ:St) (H:Hp) (Q:Bool->Hp->Prop),Inv X pins σ H s->t σ H Q ->
  wpAny (model X.prog X.w) X.A (forIn ifs true fun c r=>if r=true then do let ok ← isTrue c X.env (eval c X.env); pure (ForInStep.yield ok) else pure (ForInStep.yield r)) (TP X pins σ Q) X.xe s
theorem Z0q {X:Cx}:PTs X [] (fun _ H Q=>Q true H):=fun _ _ _ H _ I h=>wpAny_tests_nil ⟨H,I,h⟩
theorem Z0r {X:Cx}{c:Expr}{t:TT}(h:PT X c t):PTs X [c] t:=fun pins s σ H Q I hw=>wpAny_tests_one (h pins s σ H Q I hw)
structure FrOk (X:Cx) (scope:Scope) (fr:List (Str×Nat)):Prop where
 slots:∀ p∈fr,X.N[p.2]? = some p.1/\(X.env.kindOf p.1=some .cell\/X.env.kindOf p.1=some .free)
 kind:∀ p∈fr,scope.names.lookup p.1=some .free
def inN (locs:List Str) (fr:List (Str×Nat)):List Str:=locs++fr.map (·.1)
def inS (locs:List Str) (fr:List (Str×Nat)) (σ:St):St:=List.replicate locs.length none++fr.map fun p=>(σ[p.2]?).join
def inF (fr:List (Str×Nat)) (σ:St):St:=fr.map fun p=>(σ[p.2]?).join
def Vg (n:Nat) (fv:St) (g:TG) (tt:TTs) (te:TE) (x:V) (H:Hp) (Y:V->Hp->Prop) (N:Hp->Prop):Prop :=
 ∀ ls:St,ls.length=n->g x (ls++fv) H fun σ2 H2=>(∃ l2:St,l2.length=n /\ σ2=l2++fv)/\tt σ2 H2 fun b H3=>if b=true then te σ2 H3 Y else N H3
def Zat (J:It) (n:Nat) (fv:St) (g:TG) (tt:TTs) (te:TE) (Q:VK) (H1:Hp):Prop:=∃ W:Nat->Nat->List V->Hp->Prop,(∃ m,W 0 m [] H1)/\∀ i m ys H,W i m ys H ->
 (J.stop i H/\ys.length<=sizeLine/\∀ l,H l=none->Q (.ref l) (upd H l (.lst ys))) \/
 (J.go i H/\ys.length < sizeLine/\∃ m',m' < m/\∀ x H',J.yld i H x H'->Vg n fv g tt te x H' (fun y H4=>W (i+1) m' (ys ++ [y]) H4) fun H3=>W (i+1) m' ys H3)
def Zrk (n:Nat) (fr:List (Str×Nat)) (wi:TI) (g:TG) (tt:TTs) (te:TE):TE:=fun σ H Q=>wi σ H fun J H1=>Zat J n (inF fr σ) g tt te Q H1
theorem Z0s {P:Program}{w:World}{H:Hp}{h:Heap}{D:Addr}{o:HO}(ok:HOk P w H h) (hn:H D=none) (new:ObjOk P w (upd H D o) h D o):HOk P w (upd H D o) h:=fun b u e=>by
 by_cases hb:b=D
 ·subst hb; rw [Zi] at e; cases e; exact new
 ·rw [Zd hb] at e
  exact (ok b u e).stay (fun _ _ _ q=>q) (fun c q=>by rw [Zd (Zj q hn)]; exact q) fun c xs q=>by rw [Zd (Zj q hn)]; exact q
section
variable {X:Cx}{tg elt iter:Expr}{ifs:List Expr}{scope:Scope}{pos:Pos}{locs:List Str}{fr:List (Str×Nat)}{g:TG}{tt:TTs}{te:TE}
theorem Zw9 {pins:List (Addr×Obj)}{σ:St}{H1:Hp}{s2:Shared}{it:Addr}{fp:List Addr}{tn:Nat->Heap->Prop}{J:It}{cl:List (Str×Addr)}{E:Value->Shared->Prop}
  {RR:Value->Addr->Result->Shared->Prop}{QQ:List V->Hp->Prop}{EE:Hp->Value->Shared->Prop}
  (hc:X.calm=true) (hkind:scope.kind = .function) (hcell:∀ y∈scope.names,y.2 ≠ .cell) (hlo:∀ x∈locs,scope.names.lookup x=some .local) (F:FrOk X scope fr) (hnd:(inN locs fr).Nodup)
  (cl1:∀ x c,cl.lookup x=some c->X.env.cells.lookup x=some c) (cl2:∀ x,(x,NameKind.free)∈scope.names->∃ c,cl.lookup x=some c)
  (inner:∀ (C:Addr) (s0:Shared) (H0:Hp) (ex:List Addr) (pn:List (Addr×Obj)),PG (ccx X scope cl C (inN locs fr) s0 H0 ex pn) tg g/\PTs (ccx X scope cl C (inN locs fr) s0 H0 ex pn) ifs tt)
  (hel:∀ (C:Addr) (pE:List (Addr×Obj)) (s:Shared) (σ':St) (H:Hp) (Y:VK),(∀ b∈fp,∃ o,(b,o)∈pE)->Inv (ccx X scope cl C (inN locs fr) s2 H1 fp (X.pn++pins)) pE σ' H s->te σ' H Y ->
   wpAny (model X.prog X.w) X.A (eval elt (compEnvC scope cl C X.env)) (EP (ccx X scope cl C (inN locs fr) s2 H1 fp (X.pn++pins)) pE σ' Y) (fun e s'=>∃ pE' σ2 H',Inv (ccx X scope cl C (inN locs fr) s2 H1 fp (X.pn++pins)) pE' σ2 H' s'/\EE H' e s') s)
  (hER:∀ (D C:Addr) (H':Hp) (e:Value) (s':Shared) (m:Str->Option Value),Inv X pins σ H' s'->Vb X pins H' C->s'.heap.Ns C m->EE H' e s'->notedBy (model X.prog X.w) X.A (compEnvC scope cl C X.env) (fun x s''=>RR (.ref D) C (.error x) s'') e s')
  (I:Inv X pins σ H1 s2) (T:Turn X.prog X.w X.K tg J fp it tn) (st0:tn 0 s2.heap) (hf:∀ b∈fp,Vb X pins H1 b)
  {W:Nat->Nat->List V->Hp->Prop}(w0:∃ m,W 0 m [] H1) (turn:∀ i m ys H,W i m ys H ->
   (J.stop i H/\ys.length<=sizeLine/\QQ ys H) \/
   (J.go i H/\ys.length < sizeLine/\∃ m',m' < m/\∀ x H',J.yld i H x H'->Vg locs.length (inF fr σ) g tt te x H' (fun y H4=>W (i+1) m' (ys ++ [y]) H4) fun H3=>W (i+1) m' ys H3))
  (hRR:∀ (D C:Addr) (ys:List V) (H':Hp) (s':Shared) (m:Str->Option Value),H' D=none->D≠C->Inv X pins σ (upd H' D (.lst ys)) s'->Vb X pins (upd H' D (.lst ys)) C->s'.heap.Ns C m->QQ ys H'->RR (.ref D) C (.ok .next) s') :
  wpAny (model X.prog X.w) X.A (newList []) (fun acc s₃=>wpAny (model X.prog X.w) X.A (newFunctionEnv scope X.env.globals cl [] X.env.qual none .none (some X.env)) (fun cenv s₄ =>
   codeAny (model X.prog X.w) X.A (.compStart (.ListComp elt [⟨tg,iter,ifs,0⟩] scope pos) 0 (.ref it) acc {cenv with scope:=relabel scope X.env }) (RR acc cenv.locals) s₄) E s₃) E s2:=by
 refine wpAny_newObj_type (wpAny_newFunctionEnv hcell (by intro y hy; simp at hy) (fun h₁ hns₁ hsb₁=>?_) hkind)
 dsimp only at hns₁ hsb₁ ⊢
 generalize hH2:s2.heap.push {cls:=.type "list", dict:=none,data:=.seq ([]:List Value).toArray }=Hq at hns₁ hsb₁ ⊢
 have hC:Hq.objs.size=s2.heap.objs.size+1:=by rw [← hH2,Heap.size_push]
 generalize hDe:s2.heap.objs.size=D at hC ⊢
 generalize hCe:Hq.objs.size=C at hC hns₁ hsb₁ ⊢
 have hDC:D≠C:=by lia
 have below:∀ b,b < D->b≠C/\b≠D:=fun b hb=>⟨by lia,by lia⟩
 have ltD:∀ {b:Addr}{o:Obj},s2.heap.get? b=some o->b < D:=fun e=>hDe▸xF e
 have old:∀ b o,s2.heap.get? b=some o->h₁.get? b=some o:=fun b o e=>hsb₁.extBut b o (below b (ltD e)).1 (xA _ (hH2▸xA _ e))
 have hacc:h₁.PlainList D #[]:=⟨_,hsb₁.extBut _ _ hDC (xA _ (by subst hDe; exact hH2▸xI _ rfl))⟩
 let X':Cx:=ccx X scope cl C (inN locs fr) s2 H1 fp (X.pn++pins)
 have ltC:s2.heap.objs.size<=C:=by rw [hDe,hC]; exact Nat.le_succ _
 have fpC:Vb X pins H1 C:=I.fpOk ltC (I.hok.fresh ltC)
 have fpD:Vb X pins H1 D:=I.fpOk (Nat.le_of_eq hDe) (I.hok.fresh (Nat.le_of_eq hDe))
 have stkN:∀ b,b≠X.env.locals->b∉X.fs->b∉frs X.stack:=fun b h1 h2 z=>(xC.mp (I.stkSub b z)).elim h1 h2
 have ok':X'.Ok:=by
  refine ⟨I.ok.mod,hkind,I.ok.glob,I.ok.blt,ltC,fun x y c h1 h2=>I.ok.inj x y c (cl1 x c h1) (cl1 y c h2),fun x hx=>?_,fun x c h=>?_,I.ok.hd,I.ok.frames,.inl rfl,fun b hb=>?_,fun b o e=>I.bs b o e,yK I.ok.bsz I.sz,fun b o e hb=>?_,fun b hb=>?_,I.stack,I.stkFree⟩
  ·obtain ⟨c,hcc⟩:=cl2 x (Zmw hcell hx)
   exact ⟨c,hcc⟩
  ·cases h
  ·refine ⟨fun z=>?_,fun x c e=>(hf b hb).2.2.2.2.1 x c (cl1 x c e)⟩
   obtain ⟨o,ho,_⟩:=T.obj _ _ st0 b hb
   have z':b=C:=z
   exact (below b (ltD ho)).1 z'
  ·have hb':=hf b hb
   rcases hb'.2.2.2.1 with z | z
   ·exact I.ok.noex b o e z
   ·exact absurd (xY (xF e) (yK I.ok.bsz z)) (Nat.lt_irrefl _)
  ·exact stkN b (hf b hb).2.1 (hf b hb).2.2.1
 have I1:Inv X' [] (inS locs fr σ) H1 {s2 with heap:=h₁,toks:=s2.toks+([]:List (Str×Value)).length }:=by
  refine ⟨ok',I.os.symm▸rfl,I.bare,Un.kept old,⟨_,hns₁,fun i x v h1 h2 h3=>?_⟩,fun x c e=>?_,I.hok.fresh ltC,fun x c e=>I.freeC x c (cl1 x c e),fun p hp=>?_,I.hok.kept old,?_⟩
  ·-- a slot of the block that has a value is a free name's
   have hge:locs.length<=i:=by
    by_cases hi:i < locs.length
    ·unfold inS at h2
     rw [List.getElem?_append_left (by simpa using hi),List.getElem?_replicate,if_pos hi] at h2
     cases h2
    ·lia
   have h1':(fr.map (·.1))[i - locs.length]? = some x:=by
    have h1:(inN locs fr)[i]? = some x:=h1
    unfold inN at h1
    rw [List.getElem?_append_right hge] at h1
    exact h1
   have h2':(fr.map fun p=>(σ[p.2]?).join)[i - locs.length]? = some (some v):=by
    unfold inS at h2
    rw [List.getElem?_append_right (by simpa using hge),List.length_replicate] at h2
    exact h2
   rw [xW] at h1' h2'
   cases e:fr[i - locs.length]? with
   | none=>rw [e] at h1'; cases h1'
   | some p =>
    rw [e] at h1' h2'
    have ex:p.1=x:=Option.some.inj h1'
    have ev:(σ[p.2]?).join=some v:=Option.some.inj h2'
    obtain ⟨f1,f2⟩:=F.slots p (xK e)
    have ev' : σ[p.2]? = some (some v):=by
     cases q : σ[p.2]? with
     | none=>rw [q] at ev; cases ev
     | some o=>rw [q] at ev; cases o with
      | none=>cases ev
      | some v'=>cases ev; rfl
    obtain ⟨m0,hn0,hl0⟩:=I.loc
    have vis0:Vis X.env.scope p.1:=by
     rcases f2 with z | z
     ·exact .inr (.inl z)
     ·exact .inr (.inr z)
    obtain ⟨u,ru,lk⟩:=hl0 p.2 p.1 v f1 ev' vis0
    have hxm:x∉locs:=fun z=>by
     have hnd':=hnd
     unfold inN at hnd'
     exact (List.nodup_append.mp hnd').2.2 x z x (yO.mpr ⟨p,xK e,ex⟩) rfl
    refine ⟨u,ru,?_⟩
    rcases lk with ⟨hk,_⟩ | ⟨hk,c,hcc,hce⟩
    ·rcases f2 with z | z
     ·rw [z] at hk; cases hk
     ·rw [z] at hk; cases hk
    ·-- in the block it is a cell or free name
     have h3:Vis (relabel scope X.env) x:=h3
     have hk':(compEnvC scope cl C X.env).kindOf x=some .cell\/(compEnvC scope cl C X.env).kindOf x=some .free:=by
      rcases h3 with z | z | z
      ·exfalso
       have q:=Zgf (env:=X.env) (F.kind p (xK e))
       rw [ex] at q
       rcases q with q | q
       ·have z':some NameKind.local=some NameKind.cell:=z.symm.trans q
        cases z'
       ·have z':some NameKind.local=some NameKind.free:=z.symm.trans q
        cases z'
      ·exact .inl z
      ·exact .inr z
     obtain ⟨c',hc'⟩:=cl2 x (Zmw hcell hk')
     have:=cl1 x c' hc'
     rw [← ex,hcc] at this
     cases this
     refine .inr ⟨hk',c,hc',?_⟩
     obtain ⟨o,ho,hd⟩:=hce
     exact ⟨o,old _ _ ho,hd⟩
  ·obtain ⟨v,o,ho,hd⟩:=I.cell x c (cl1 x c e)
   exact ⟨v,o,old _ _ ho,hd⟩
  ·have hp':p∈X.pn++pins:=(xS.mp hp).elim id fun z=>nomatch z
   obtain ⟨e,n,ne,nf,d⟩:=I.pin p hp'
   exact ⟨old _ _ e,n,(below _ (ltD e)).1,stkN _ ne nf,d⟩
  ·show (inS locs fr σ).length=(inN locs fr).length
   unfold inS inN
   simp
 have fpLt:∀ b∈fp,b < D:=fun b hb=>by
  obtain ⟨o,ho,_⟩:=T.obj _ _ st0 b hb
  exact ltD ho
 obtain ⟨m0,w0⟩:=w0
 let oD:List Value->Nat->Obj:=fun its k=>{cls:=.type "list", data:=.seq its.toArray k }
 have stat:∀ {H':Hp}{ob:Obj},(∀ b∈fp,H' b=none)->∀ b∈fp,Vb X' [(D,ob)] H' b:=fun {H' ob} hn b hb=>by
  obtain ⟨f0,f1,f2,f3,f4,f5⟩:=hf b hb
  refine ⟨hn b hb,(below b (fpLt b hb)).1,stkN b f1 f2,.inl hb,fun x c e=>f4 x c (cl1 x c e),fun p hp z=>?_⟩
  rcases xS.mp hp with q | q
  ·exact f5 p q z
  ·have e:p=(D,ob):=by simpa using q
   subst e
   exact (below b (fpLt b hb)).2 z.symm
 have loop:∀ s₃:Shared,s₃={s2 with heap:=h₁,toks:=s2.toks+([]:List (Str×Value)).length } ->
   codeAny (model X.prog X.w) X.A (.compLoop (.ListComp elt [⟨tg,iter,ifs,0⟩] scope pos) 0 (.ref it) (.ref D) (compEnvC scope cl C X.env)) (RR (.ref D) C) s₃:=by
  rintro s₃ rfl
  refine Zui (fun n s'=>∃ (i:Nat) (ls:St) (H':Hp) (ys:List V) (its:List Value) (k:Nat),ls.length=locs.length/\Inv X' [(D,oD its k)] (ls++inF fr σ) H' s'/\tn i s'.heap/\(∀ b∈fp,H' b=none)/\Vals ys its/\W i n ys H') (EX:=fun e s'=>∃ pE' σ2 H',Inv X' pE' σ2 H' s'/\EE H' e s') ?_ ?_ m0 ?_
  ·rintro e s4 ⟨pE',σ2,H3,I4,q⟩
   obtain ⟨mC,hnC,_⟩:=I4.loc
   have hnC:s4.heap.Ns C mC:=hnC
   have nC:H3 C=none:=I4.free
   have I5:Inv X pins σ H3 s4:=I.call' (ch:=fp) (show s4.os=s2.os from I4.os) I4.base I4.hok I4.bare fun b hb=>by
    obtain ⟨f0,f1,f2,f3,f4,f5⟩:=hf b hb
    exact ⟨f3,f1,f4,f5⟩
   exact hER D C H3 e s4 mC I5 (I.fpOk ltC nC) hnC q
  ·rintro n s3 ⟨i,ls,H3,ys,its,k,hls,I3,st3,fr3,rv,w3⟩
   rcases turn i n ys H3 w3 with ⟨stop,hz,q⟩ | ⟨go,hz,m',hm,step⟩
   ·refine thn (T.done X' rfl rfl rfl hc i _ s3 _ H3 (fun _ _=>False) I3 (stat fr3) st3 stop) fun r s4 ⟨hr,I4⟩=>?_
    subst hr
    obtain ⟨pD,nD,_,_,_⟩:=I4.pin (D,oD its k) (xN _ xR)
    have nD:H3 D=none:=nD
    obtain ⟨mC,hnC,_⟩:=I4.loc
    have hnC:s4.heap.Ns C mC:=hnC
    have nC:H3 C=none:=I4.free
    have new:ObjOk X.prog X.w (upd H3 D (.lst ys)) s4.heap D (.lst ys):=⟨hz,its,k,rv,pD⟩
    have hok4:HOk X.prog X.w (upd H3 D (.lst ys)) s4.heap:=Z0s I4.hok nD new
    have u4:Un (frs X.stack) fp H1 H3 s2.heap s4.heap:=I4.base
    have u5:Un (frs X.stack) fp H1 (upd H3 D (.lst ys)) s2.heap s4.heap:=by
     refine ⟨u4.keep,u4.slot,fun b o e n hx=>?_,u4.there,fun b xs e=>?_,fun b o u e=>?_,fun b ps e=>?_⟩
     ·rw [Zd (below b (ltD e)).2]; exact u4.free b o e n hx
     ·rw [Zd (Zj e fpD.1)]; exact u4.tups b xs e
     ·rw [Zd (Zj e fpD.1)]; exact u4.frzs b o u e
     ·rw [Zd (Zj e fpD.1)]; exact u4.tbls b ps e
    have I5:Inv X pins σ (upd H3 D (.lst ys)) s4:=by
     refine I.call' (ch:=fp) ?_ u5 hok4 I4.bare fun b hb=>?_
     ·have:s4.os=s2.os:=I4.os
      exact this
     ·obtain ⟨f0,f1,f2,f3,f4,f5⟩:=hf b hb
      exact ⟨f3,f1,f4,f5⟩
    have fpC':Vb X pins (upd H3 D (.lst ys)) C:=I.fpOk ltC (by rw [Zd hDC.symm]; exact nC)
    exact hRR D C ys H3 s4 mC nD hDC I5 fpC' hnC q
   ·refine thn (T.item X' rfl rfl rfl hc i _ s3 _ H3 (fun _ _=>False) I3 (stat fr3) st3 go) fun r s4 ⟨u,hr,h4⟩=>?_
    subst hr
    refine thn h4 fun _ s5 ⟨x,H5,I5,r5,y5,st5,fr5⟩=>?_
    obtain ⟨hg,htt⟩:=inner C s2 H1 fp (X.pn++pins)
    have I5':=I5.pinned (stat fr5) (T.obj _ _ st5)
    refine thn (hg _ s5 _ H5 x u _ I5' r5 (step x H5 y5 ls hls)) fun _ s6 ⟨σ6,H6,I6,⟨l6,hl6,e6⟩,q6⟩=>?_
    subst e6
    refine thn (htt _ s6 _ H6 _ I6 q6) fun ok s7 ⟨H7,I7,q7⟩=>?_
    have again:∀ {H8:Hp}{s8:Shared},Inv X' ([(D,oD its k)]++Zao fp s5.heap) (l6++inF fr σ) H8 s8->tn (i+1) s8.heap/\∀ b∈fp,H8 b=none:=fun {H8 s8} I8=>by
     refine ⟨T.keep _ _ _ st5 fun b hb o e=>(I8.pin (b,o) (xN _ (xN _ (Zcu hb e)))).1,fun b hb=>?_⟩
     obtain ⟨o,e,d⟩:=T.obj _ _ st5 b hb
     exact (I8.pin (b,o) (xN _ (xN _ (Zcu hb e)))).2.1
    cases ok with
    | false =>
     rw [if_neg xE] at q7 ⊢
     obtain ⟨a1,a2⟩:=again I7
     exact ⟨m',hm,i+1,l6,H7,ys,its,k,hl6,I7.unpinned,a1,a2,rv,q7⟩
    | true =>
     rw [if_pos rfl] at q7 ⊢
     refine thn (hel C _ s7 _ H7 _ (fun b hb=>let ⟨o,ho,_⟩:=T.obj _ _ st5 b hb; ⟨o,xN _ (Zcu hb ho)⟩) I7 q7) fun yv s8 ⟨y,H8,I8,r8,q8⟩=>?_
     obtain ⟨a1,a2⟩:=again I8
     obtain ⟨pD,nD,_,nfD,_⟩:=I8.pin (D,oD its k) (xN _ (List.mem_append_left _ xR))
     have nD:H8 D=none:=nD
     have hl8:s8.heap.PlainList D its.toArray:=⟨k,pD⟩
     have hlen:its.toArray.size<=sizeLine:=by
      rw [xL,← rv.length]; lia
     refine wpAny_list_append_plain (hsz:=hlen) hl8 fun h9 hl9 hs9=>?_
     obtain ⟨k9,e9⟩:=hl9
     have I9:Inv X' (Zao fp s5.heap) (l6++inF fr σ) H8 s8:=I8.pins_of fun p hp=>I8.pin p (xN _ (xN _ hp))
     have I10:Inv X' (Zao fp s5.heap) (l6++inF fr σ) H8 {s8 with heap:=h9 }:=by
      refine I9.turned (it:=D) (t':=s8.toks) (fun b o hb e=>(hs9.2 b hb).trans e) nD ?_ ?_ ?_ ?_
      ·exact hDC
      ·exact .inr (Nat.le_of_eq hDe)
      ·exact fun x c e=>fpD.2.2.2.2.1 x c (cl1 x c e)
      ·intro p hp z
       rcases xS.mp hp with q | q
       ·exact fpD.2.2.2.2.2 p q z
       ·have:=fpLt p.1 (Znf q).1
        exact (below p.1 this).2 z
     have e9':h9.get? D=some (oD (its ++ [yv]) k9):=by
      rw [e9]; simp [oD]
     have I11:Inv X' [(D,oD (its ++ [yv]) k9)] (l6++inF fr σ) H8 {s8 with heap:=h9 }:=I10.pins_of fun p hp=>by
      have e:p=(D,oD (its ++ [yv]) k9):=by simpa using hp
      subst e
      exact ⟨e9',nD,hDC,nfD,fun v z=>by cases z⟩
     refine ⟨m',hm,i+1,l6,H8,ys ++ [y],its ++ [yv],k9,hl6,I11,?_,a2,Vals.append rv (.cons r8 .nil),q8⟩
     exact T.keep _ _ _ a1 fun b hb o e=>(hs9.2 b (below b (fpLt b hb)).2).trans e
  ·have e0:List.replicate locs.length none++inF fr σ=inS locs fr σ:=rfl
   obtain ⟨k0,eD⟩:=hacc
   refine ⟨0,List.replicate locs.length none,H1,[],[],k0,by simp,?_,T.keep _ _ _ st0 fun b _ o e=>old b o e,fun b hb=>(hf b hb).1,.nil,w0⟩
   rw [e0]
   refine I1.pins_of fun p hp=>?_
   have e:p=(D,oD [] k0):=by simpa using hp
   subst e
   exact ⟨eD,fpD.1,hDC,stkN D fpD.2.1 fpD.2.2.1,fun v z=>by cases z⟩
 exact codeAny_compStart_list (loop _ rfl) (T.self _ 0 _ _ _ (T.keep _ _ _ st0 fun b _ o e=>old b o e) (loop _ rfl))
structure CompOk (X:Cx) (scope:Scope) (locs:List Str) (fr:List (Str×Nat)):Prop where
 kind:scope.kind = .function
 nocell:∀ y∈scope.names,y.2 ≠ .cell
 names:∀ y∈scope.names,y.2 = .local->scope.names.lookup y.1=some .local
 own:∀ x∈locs,scope.names.lookup x=some .local
 free:∀ y∈scope.names,y.2 = .free->y.1∈fr.map (·.1)
 nd:(inN locs fr).Nodup
theorem FrOk.nil:FrOk X scope []:=⟨(fun _ h=>nomatch h),(fun _ h=>nomatch h)⟩
theorem FrOk.cons {x:Str}{j:Nat}{fr:List (Str×Nat)}(h1:X.N[j]? = some x) (h2:X.env.kindOf x=some .cell\/X.env.kindOf x=some .free) (h3:scope.names.lookup x=some .free) (t:FrOk X scope fr):FrOk X scope ((x,j)::fr) :=
 ⟨fun p hp=>(xC.mp hp).elim (fun e=>by subst e; exact ⟨h1,h2⟩) (t.slots p),fun p hp=>(xC.mp hp).elim (fun e=>by subst e; exact h3) (t.kind p)⟩
theorem CompOk.clos {pins:List (Addr×Obj)}{σ:St}{H:Hp}{s:Shared}(S:CompOk X scope locs fr) (F:FrOk X scope fr) (I:Inv X pins σ H s) :
  ∃ cl,closureFor scope X.env=pure cl/\(∀ x c,cl.lookup x=some c->X.env.cells.lookup x=some c)/\(∀ x,(x,NameKind.free)∈scope.names->∃ c,cl.lookup x=some c):=by
 refine Zvo fun p hp hk=>?_
 obtain ⟨q,hq,e⟩:=yO.mp (S.free p hp hk)
 obtain ⟨c,hc⟩:=I.ok.has q.1 (F.slots q hq).2
 exact ⟨c,e▸hc⟩
theorem Zyi {wi:TI}(S:CompOk X scope locs fr) (F:FrOk X scope fr) (hc:X.calm=true) (hi:PI X tg iter wi)
  (inner:∀ (cl:List (Str×Addr)) (C:Addr) (s0:Shared) (H0:Hp) (ex:List Addr) (pn:List (Addr×Obj)),PG (ccx X scope cl C (inN locs fr) s0 H0 ex pn) tg g/\PTs (ccx X scope cl C (inN locs fr) s0 H0 ex pn) ifs tt/\PE (ccx X scope cl C (inN locs fr) s0 H0 ex pn) elt te)
  (hs:∀ x,foldedSetIterable iter X.env x=pure x:=by intro _; rfl):PE X (.ListComp elt [⟨tg,iter,ifs,0⟩] scope pos) (Zrk locs.length fr wi g tt te):=by
 intro pins s σ H Q I h
 obtain ⟨cl,hcl,cl1,cl2⟩:=S.clos F I
 rw [eval_ListComp]
 refine wpAny_comprehension_free (use:=none) rfl hs hcl S.kind S.names (thn (hi pins s σ H _ I h) fun v s1 h1=>thn h1 fun itv s2 h2=>?_)
 obtain ⟨it,fp,tn,J,H1,e,I2,T,st2,f2,W,w0,turn⟩:=h2
 subst e
 refine Zw9 (QQ:=fun ys H'=>∀ l,H' l=none->Q (.ref l) (upd H' l (.lst ys))) (EE:=fun _ _ _=>False) hc S.kind S.nocell S.own F S.nd cl1 cl2 (fun C s0 H0 ex pn=>let ⟨a,b,_⟩:=inner cl C s0 H0 ex pn; ⟨a,b⟩) (fun C pE s σ' H Y _ I h=>wpAny_mono ((inner cl C s2 H1 fp (X.pn++pins)).2.2 pE s σ' H Y I h) (fun _ _ q=>q) fun _ _ z=>z.elim) (fun _ _ _ _ _ _ _ _ _ z=>z.elim) I2 T st2 f2 w0 turn fun D C ys H' s' m nD hDC I' fC hn q=>?_
 refine ⟨m,hn,fun h' hs'=>?_⟩
 obtain ⟨f0,f1,f2,f3,f4,f5⟩:=fC
 exact ⟨.ref D,_,I'.turned (it:=C) (t':=s'.toks) (fun b o hb e=>(hs'.2 b hb).trans e) f0 f1 f3 f4 f5,rfl,q D nD⟩
end
section
variable {X:Cx}{scope:Scope}{cl:List (Str×Addr)}{C:Addr}{N':List Str}{s0:Shared}{H0:Hp}{ex:List Addr}{pn:List (Addr×Obj)}
theorem pvL (i:Nat) {x:Str}{pos:Pos}(hN:N'[i]? = some x:=by rfl) (h:scope.names.lookup x=some .local:=by rfl) (hd:(x == ("__debug__" : Str))=false:=by decide) (hcd:(x == ("__classdict__" : Str))=false:=by decide) :
  PE (ccx X scope cl C N' s0 H0 ex pn) (.Name x pos) (Y2 i):=Zii hN (.inl (lookup_relabel_local h)) hd hcd
theorem pvF (i:Nat) {x:Str}{pos:Pos}(hN:N'[i]? = some x:=by rfl) (h:scope.names.lookup x=some .free:=by rfl) (hd:(x == ("__debug__" : Str))=false:=by decide) (hcd:(x == ("__classdict__" : Str))=false:=by decide) :
  PE (ccx X scope cl C N' s0 H0 ex pn) (.Name x pos) (Y2 i):=Zii hN ((Zgf h).elim (fun z=>.inr (.inl z)) fun z=>.inr (.inr z)) hd hcd
theorem pgL (i:Nat) {x:Str}{pos:Pos}(hnd:N'.Nodup) (hN:N'[i]? = some x:=by rfl) (h:scope.names.lookup x=some .local:=by rfl):PG (ccx X scope cl C N' s0 H0 ex pn) (.Name x pos) (Ww i) :=
 Zol (X:=ccx X scope cl C N' s0 H0 ex pn) hnd hN (.inl (lookup_relabel_local h)) (.inr (lookup_relabel_local h))
end
end L2
end
section
namespace L2
open PySem PySem.Spec PyProof.Rows
def sgn (x:Str) (i:Nat):V:=.str ⟨#[x.cps.getD i 0]⟩
def Its (x:Str):It:=⟨fun i _=>i < x.length,fun i H v H'=>H'=H/\v=sgn x i,fun i _=>i=x.length⟩
theorem Zmu {P:Program}{w:World}{A:Around}(hh:A.handled=none) (I:Addr) (x:Str) (t:Tok) :
  Walks P w A I [I] [I] x.cps.size (SignAt x) (fun i h=>h.IsStrIter I (strIterType x) x t i):=by
 unfold strIterType
 cases ha:x.cps.all (· < 128)
 ·exact Walks.strWide hh I x t
 ·exact Walks.strAscii hh I x t
theorem Zyj {P:Program}{w:World}{K:uFg}{tg:Expr}(it:Addr) (x:Str) (t:Tok):Turn P w K tg (Its x) [it] it (fun i h=>h.IsStrIter it (strIterType x) x t i) where
 mem:=by simp
 obj:=fun i h st b hb=>by
  have e:b=it:=by simpa using hb
  subst e
  obtain ⟨o,e,c,d⟩:=st
  exact ⟨o,e,fun v z=>by rw [d] at z; cases z⟩
 keep:=fun i h h' st k=>let ⟨o,ho,r⟩:=st; ⟨o,k it (by simp) o ho,r⟩
 item:=by
  intro X hP hw hK hc i pins s σ H E I hf st hg
  subst hP hw hK
  obtain ⟨f0,f1,f2,f3,f4,f5⟩:=hf it (by simp)
  refine (Zmu (I.ok.hd hc) it x t).item i s _ _ hg st fun v h' tk hv st' kk=>?_
  obtain ⟨c,u,hcx,rfl⟩:=hv
  have I1:Inv X pins σ H {s with heap:=h',toks:=tk }:=I.turned (fun b o hb e=>kk b o (by simpa using hb) e) f0 f1 f3 f4 f5
  obtain ⟨o,e,cc,d⟩:=id st'
  have hn : ["enumerate", "zip", "dict_itemiterator", "dict_reverseitemiterator", "odict_iterator", "itertools.zip_longest", "itertools.pairwise"].contains (strIterType x)=false:=by
   unfold strIterType
   split <;> decide
  refine ⟨_,rfl,Ze4 (s:={s with heap:=h',toks:=tk }) e cc d hn ⟨sgn x i,H,I1,⟨u,?_⟩,⟨rfl,rfl⟩,st',fun b hb=>(hf b hb).1⟩⟩
  rw [Array.getD_eq_getD_getElem?,hcx]
  all_goals rfl
 done:=by
  intro X hP hw hK hc i pins s σ H E I hf st hg
  subst hP hw hK
  obtain ⟨f0,f1,f2,f3,f4,f5⟩:=hf it (by simp)
  have e:i=x.cps.size:=hg
  subst e
  exact (Zmu (I.ok.hd hc) it x t).done s _ _ st fun h' tk kk=>⟨rfl,I.turned (fun b o hb e=>kk b o (by simpa using hb) e) f0 f1 f3 f4 f5⟩
 self:=fun A i s Q E st h=>by
  have st:s.heap.IsStrIter it (strIterType x) x t i:=st
  unfold strIterType at st
  split at st
  ·exact wpAny_pyIter_striter_ascii st h
  ·exact wpAny_pyIter_striter_wide st h
def Zt6 (te:TE):TI:=fun σ H R=>te σ H fun v H1=>∃ x,v = .str x/\R (Its x) H1
theorem Z26 {X:Cx}{tg l:Expr}{tl:TE}(hl:PE X l tl):PI X tg l (Zt6 tl):=by
 intro pins s σ H R I h
 refine thn (hl pins s σ H _ I h) fun v s1 ⟨y,H1,I1,r1,q1⟩=>?_
 obtain ⟨x,e,q⟩:=q1
 subst e
 obtain ⟨t,rfl⟩:=r1
 refine wpAny_pyIter_strU ?_
 refine ⟨s1.heap.objs.size,[s1.heap.objs.size],_,_,H1,rfl,I1.kept (t':=s1.toks) fun b o e=>xA _ e,Zyj _ x t,⟨_,xI _ rfl,rfl,rfl⟩,fun b hb=>?_,q⟩
 have e:b=s1.heap.objs.size:=by simpa using hb
 subst e
 exact I1.fpOk (xB _) (I1.hok.fresh (xB _))
section
variable {X:Cx}
theorem Zxa:OpR X (compareOp .LtE) (fun x y H Q=>∃ i j,x = .str i/\y = .str j/\Q (.bl (!decide (j.cps.toList < i.cps.toList))) H):=by
 intro pins s σ H x y v u Q I rx ry h
 obtain ⟨i,j,rfl,rfl,q⟩:=h
 obtain ⟨t,rfl⟩:=rx
 obtain ⟨t',rfl⟩:=ry
 exact P.le_str ⟨.bl _,H,I,rfl,q⟩
end
theorem Zm3 {v:Value}{o:Option Int}(h:IsPart v o):∃ l:Option (Int×Tok),v=partValue l/\l.map (·.1)=o:=by
 cases h with
 | none=>exact ⟨none,rfl,rfl⟩
 | int i t=>exact ⟨some (i,t),rfl,rfl⟩
section
variable {X:Cx}
theorem Z27:SlR X (fun x lo hi H Q=>∃ z,x = .str z/\z.length<=sizeLine/\Q (.str (Txt.slice z lo hi)) H):=by
 intro pins s σ H x v vl vu lo hi sl Q I rx hs pl pu h
 obtain ⟨z,rfl,hz,q⟩:=h
 obtain ⟨t,rfl⟩:=rx
 obtain ⟨l,rfl,rfl⟩:=Zm3 pl
 obtain ⟨u,rfl,rfl⟩:=Zm3 pu
 refine ⟨"str", _,F.slot_str_getitem.lookup,typeIs_str _ _ _,?_⟩
 refine wpAny_getItem_str_slice (l:=l) (u:=u) (st:=none) hs rfl (post_val_or_str ⟨yK (Txt.slice_le z _ _) hz,fun t' k=>?_⟩)
 exact ⟨.str _,H,I.tok _,⟨t',rfl⟩,q⟩
end
theorem Zvp {ys:List Str}:∀ {us:List Value},Vals (ys.map V.str) us->StrsAre us ys:=by
 induction ys with
 | nil=>intro us r; rw [List.map_nil] at r; cases r; exact .nil
 | cons n ns ih =>
  intro us r
  rw [xP] at r
  cases r with
  | cons r1 r2 =>
   obtain ⟨t,e⟩:=r1
   subst e
   exact .cons n t (ih r2)
section
variable {X:Cx}
theorem Z0t:MtR X "str.join" (fun x xs H Q=>∃ sep a ys,x = .str sep/\xs = [.ref a]/\SqL X.K H a (ys.map V.str)/\(ys.map (·.length)).sum+ys.length * sep.length<=16777216/\Q (.str (Txt.join sep ys)) H):=by
 intro pins s σ H x xs v us Q I rx rs h
 obtain ⟨sep,a,ys,rfl,rfl,ha,hz,q⟩:=h
 obtain ⟨t,rfl⟩:=rx
 obtain ⟨u,rfl,ru⟩:=Vz rs
 cases ru
 obtain ⟨its,r,p,_⟩:=I.list ha
 exact join_list p.isList (Zvp r) hz fun t' k=>⟨.str _,H,I.tok _,⟨t',rfl⟩,q⟩
theorem Zyk (hc:X.calm=true):Wn X (.builtin "all") (fun xs H Q=>∃ (a:Addr) (bs:List Bool),xs = [.ref a]/\SqL X.K H a (bs.map V.bl)/\Q (.bl (bs.all id)) H):=by
 intro pins s σ H xs us Q I r h
 obtain ⟨a,bs,rfl,ha,q⟩:=h
 obtain ⟨u,rfl,ru⟩:=Vz r
 cases ru
 obtain ⟨its,rv,p,_⟩:=I.list ha
 have hlt:a < s.heap.objs.size:=by obtain ⟨o,n,e,_⟩:=p; exact xF e
 refine call_all_walk (wpAny_pyIter_list p.isList ?_)
 refine ⟨s.heap.objs.size,_,_,_,_,_,fun i=>bs.getD i true,rfl,Walks.list (A:=X.A.in1) (I.ok.hd hc) _ a (yD hlt) its.toArray,⟨⟨_,xI _ rfl,rfl,rfl⟩,p.isList.push _⟩,?_,fun h' tk hk=>?_⟩
 ·intro i v s' Q' E' hv hq
  have hv:its.toArray[i]? = some v:=hv
  have hv':its[i]? = some v:=by simpa using hv
  have hlen:bs.length=its.length:=by have:=rv.length; simpa using this
  have hi:i < its.length:=(xV.mp hv').1
  have hb:(bs.map V.bl)[i]? = some (V.bl (bs.getD i true)):=by
   rw [xW,yE,xH (by lia)]
   rfl
  obtain ⟨u,hu,ru⟩:=rv.get hb
  rw [hv'] at hu
  cases hu
  cases ru
  exact wpAny_truthy_bool hq
 ·have hlen:its.toArray.size=bs.length:=by have:=rv.length; simp at this ⊢; lia
  have e:(List.range its.toArray.size).all (fun i=>bs.getD i true)=bs.all id:=by
   rw [hlen,Bool.eq_iff_iff,List.all_eq_true,List.all_eq_true]
   constructor
   ·intro h b hb
    obtain ⟨i,hi,e⟩:=List.mem_iff_getElem.mp hb
    have:=h i (List.mem_range.mpr hi)
    rw [yE,xH hi,e] at this
    exact this
   ·intro h i hi
    have hi:=List.mem_range.mp hi
    rw [yE,xH hi]
    exact h _ (List.getElem_mem hi)
  refine ⟨.bl (bs.all id),H,I.kept (h':=h') (t':=tk) (fun b o eb=>hk b o ?_ (xA _ eb)),by rw [e]; rfl,q⟩
  intro z
  have:b=s.heap.objs.size:=by simpa using z
  exact absurd (xF eb) (by rw [this]; exact Nat.lt_irrefl _)
theorem Zmx:Wn X (.builtin "isinstance") (fun xs H Q=>∃ x n t b,xs = [x,.ty n]/\TyOf X.K H x t/\PySem.W.kitOne X.K t (.type n)=some b/\Q (.bl b) H):=by
 intro pins s σ H xs us Q I r h
 obtain ⟨x,n,t,b,rfl,ty,e,q⟩:=h
 obtain ⟨u,w',rfl,ru,rw'⟩:=Zra r
 cases rw'
 exact Zw1 I ru ty e fun tk=>⟨.bl b,H,I.tok _,rfl,q⟩
def Z38 (X:Cx) (f:Value) (kw:Str) (r:List V->V->Hp->VK->Prop):Prop :=
 ∀ (pins:List (Addr×Obj)) (s:Shared) (σ:St) (H:Hp) (xs:List V) (us:List Value) (k:V) (ku:Value) (Q:VK),Inv X pins σ H s->Vals xs us->RelV k ku->r xs k H Q ->
  wpAny (model X.prog X.w) X.A (call f us [(kw,ku)]) (EP X pins σ Q) X.xe s
end
section
variable {K:uFg}
end
end L2
end
section
namespace L2
open PySem PySem.Spec PyProof.Rows
def Has (K:uFg) (mg:Str->Option Value) (x:Str) (st:Stmt):Prop:=∃ f fd,Fun K x x st f fd/\mg x=some (.ref f)
def Fn (P:Program) (w:World) (K:uFg) (mg:Str->Option Value) (base:Heap) (x:Str) (ps:List Str) (k:Nat) (sp:Sp):Prop :=
 ∃ f fd,mg x=some (.ref f)/\PySem.W.keepIn K (.ref f)=true/\Binds K fd ps []/\FnOk P w K mg base CX0 k f fd ps sp
theorem Fn.imp {P:Program}{w:World}{K:uFg}{mg:Str->Option Value}{base:Heap}{x:Str}{ps:List Str}{k:Nat}{sp sp':Sp}(F:Fn P w K mg base x ps k sp) (h:∀ vs H Q E,sp' vs H Q E->sp vs H Q E):Fn P w K mg base x ps k sp' :=
 let ⟨f,fd,a,b,c,d⟩:=F; ⟨f,fd,a,b,c,d.imp h⟩
section
variable {P:Program}{w:World}{K:uFg}{mg:Str->Option Value}{base:Heap}
theorem Has.fn {x:Str}{st:Stmt}{N ps:List Str}{k:Nat}{sp:Sp}(h:Has K mg x st) (S:FnScope N ps (Zb st))
  (hb:∀ (kV doc pm:Value) (an:Option Addr) (cdv ct:Value) (us:List Value),us.length=ps.length->bindArgs (PySem.W.fnOf x x (Wk st) (Yi st) (Zb st) .none kV doc pm an cdv ct) ⟨us,[]⟩=pure (ps.zip us))
  (len:∀ vs H Q E,sp vs H Q E->vs.length=ps.length)
  (hbody:∀ (f:Addr) (cdv:Value) (A:Around) (outer:List Env) (s:Shared) (H:Hp) (vs:List V) (Q:VK) (E:XK),Room k (A.deeper (envOfC x (Zb st) s.heap.objs.size f cdv))->sp vs H Q E ->
   ∃ t,PSs (Yo CX0 P w K mg base N x (Zb st) f cdv A outer s H E).nox (Yi st) t/\t {nx:=fun _ H'=>Q .non H',rt:=Q } (start N vs) H):Fn P w K mg base x ps (k+1) sp:=by
 obtain ⟨f,fd,F,hm⟩:=h
 exact ⟨f,fd,hm,F.kp,F.binds hb,F.ok S len fun cdv A outer s H vs Q E hr q=>hbody f cdv A outer s H vs Q E hr q⟩
theorem Z28 {h:Heap}{x:Str}{st:Stmt}{f:Addr}{oc:Value}{od an:Option Addr}{osl:Array (Option Value)}{kV doc pm cdv ct:Value}(KX:K.In h) (G:h.Ns mainGlobals mg)
  (a:PySem.W.nsIn K mainGlobals x=some (some (.ref f))) (l:K.lookup f=some ⟨oc,od,.func (PySem.W.fnOf x x (Wk st) (Yi st) (Zb st) .none kV doc pm an cdv ct),osl⟩)
  (c:PySem.W.codeIn K cdv x=true) (k:PySem.W.keepIn K (.ref f)=true):Has K mg x st:=⟨f,_,Zim l c k,PySem.W.mg_of KX G a⟩
theorem hQ {h:Heap}(x:Str) (st:Stmt) (f c:Addr) (pm:Value) (KX:K.In h) (G:h.Ns mainGlobals mg)
  (e:PySem.W.nsIn K mainGlobals x=some (some (.ref f))/\K.lookup f=some ⟨.type "function", none,.func (PySem.W.fnOf x x (Wk st) (Yi st) (Zb st) .none .none .none pm none (.ref c) .none),#[]⟩/\PySem.W.codeIn K (.ref c) x=true/\PySem.W.keepIn K (.ref f)=true):Has K mg x st:=Z28 KX G e.1 e.2.1 e.2.2.1 e.2.2.2
end
def tFn (sp:Sp) (t:TA):TE:=fun σ H Q=>t σ H fun vs H1=>sp vs H1 Q E0
section
variable {X:Cx}
theorem Z39 {k:Nat}{ps:List Str}{sp:Sp}{x:Str}{p pos:Pos}{e:Expr}{es:List Expr}{t:TA}(F:Fn X.prog X.w X.K X.mg X.base x ps k sp) (hr:Room k X.A) (hg:Gl X x) (ha:PA X (e::es) t)
  (hdb:(x == ("__debug__" : Str))=false:=by decide) (he:starEach (e::es) X.env=(false,eval e X.env)::starEach es X.env:=by rfl) (hpl:(backTo pos (starEach es X.env)).any (·.1)=false:=by rfl) :
  PE X (.Call (.Name x p) (e::es) [] pos) (tFn sp t):=by
 obtain ⟨f,fd,hm,hk,hb,G⟩:=F
 intro pins s σ H Q I h
 refine Z0e G hr hg hm hk hb .nil Ze6 ha hdb he hpl pins s σ H Q I ?_
 have e:Zi1 sp [] E0 t=tFn sp t:=by
  unfold Zi1 tFn
  simp only [List.append_nil]
 rw [e]
 exact h
theorem Z29:UnR X (unaryOp .USub) (rU fun i=>.int (-i)):=by
 intro pins s σ H x v Q I rx h
 obtain ⟨i,rfl,q⟩:=h
 obtain ⟨t,rfl⟩:=rx
 exact neg_int ⟨.int (-i),H,I.tok _,⟨_,rfl⟩,q⟩
end
theorem Y1:bootBuiltins "len" = some (.builtin "len"):=by decide +kernel
theorem Z4a:bootBuiltins "all" = some (.builtin "all"):=by decide +kernel
theorem Zn4:bootBuiltins "sorted" = some (.builtin "sorted"):=by decide +kernel
theorem Vc:bootBuiltins "isinstance" = some (.builtin "isinstance"):=by decide +kernel
theorem Zbu:bootBuiltins "list" = some (.type "list"):=by decide +kernel
theorem Zin:bootBuiltins "bool" = some (.type "bool"):=by decide +kernel
theorem Zrl:bootBuiltins "int" = some (.type "int"):=by decide +kernel
theorem Zda:bootBuiltins "str" = some (.type "str"):=by decide +kernel
theorem Zhq:bootBuiltins "tuple" = some (.type "tuple"):=by decide +kernel
def SameX (s:Addr) (H H':Hp):Prop:=∀ b o,b≠s->H b=some o->H' b=some o
theorem SameX.refl {s:Addr}{H:Hp}:SameX s H H:=fun _ _ _ e=>e
theorem SameX.trans {s:Addr}{H H1 H2:Hp}(a:SameX s H H1) (b:SameX s H1 H2):SameX s H H2:=fun c o n e=>b c o n (a c o n e)
theorem SameX.upd {s:Addr}{H:Hp}{o:HO}:SameX s H (upd H s o):=fun b _ n e=>by rw [Zd n]; exact e
theorem SameX.new {s l:Addr}{H:Hp}{o:HO}(h:H l=none):SameX s H (L2.upd H l o):=fun b _ _ e=>by rw [Zd (Zj e h)]; exact e
theorem Same.new {l:Addr}{H:Hp}{o:HO}(h:H l=none):Same H (L2.upd H l o):=fun b _ e=>by rw [Zd (Zj e h)]; exact e
def SrcAt (H:Hp) (s la:Addr):Prop:=∃ (ns:List Int) (i big st cnt:Int),H s=some (.lst [.ref la,.int i,.int big,.int st,.int cnt])/\H la=some (.lst (ns.map V.int))/\0<=i/\la≠s
theorem SrcAt.keep {H H':Hp}{s la:Addr}(h:SrcAt H s la) (k:Same H H'):SrcAt H' s la:=by
 obtain ⟨ns,i,big,st,cnt,h1,h2,h3,h4⟩:=h
 exact ⟨ns,i,big,st,cnt,k _ _ h1,k _ _ h2,h3,h4⟩
theorem SrcAt.keepX {H H':Hp}{s la l:Addr}(h:SrcAt H s la) (k:SameX l H H') (n1:l≠s) (n2:l≠la):SrcAt H' s la:=by
 obtain ⟨ns,i,big,st,cnt,h1,h2,h3,h4⟩:=h
 exact ⟨ns,i,big,st,cnt,k _ _ n1.symm h1,k _ _ n2.symm h2,h3,h4⟩
theorem SrcAt.ne {H:Hp}{s la l:Addr}(h:SrcAt H s la) (hl:H l=none):l≠s/\l≠la:=by
 obtain ⟨ns,i,big,st,cnt,h1,h2,h3,h4⟩:=h
 exact ⟨(Zj h1 hl).symm,(Zj h2 hl).symm⟩
end L2
namespace L2
open PySem PySem.Spec PyProof.Rows
theorem Z0 {c A B:Prop} [Decidable c] (h1:c->A) (h2:¬ c->B):if decide c=true then A else B:=by
 by_cases h:c
 ·rw [if_pos (xM h)]; exact h1 h
 ·rw [if_neg (by rw [xU h]; exact xE)]; exact h2 h
theorem Ym {c A B:Prop} [Decidable c] (h1:¬ c->A) (h2:c->B):if (!decide c)=true then A else B:=by
 by_cases h:c
 ·rw [if_neg (by rw [xM h]; exact xE)]; exact h2 h
 ·rw [if_pos (by rw [xU h]; rfl)]; exact h1 h
theorem Zt7 {b:Bool}{A B:Prop}(h1:b=true->A) (h2:b=false->B):if b=true then A else B:=by
 cases b
 ·rw [if_neg xE]; exact h2 rfl
 ·rw [if_pos rfl]; exact h1 rfl
theorem Zi2 {b:Bool}{A B:Prop}(h1:b=false->A) (h2:b=true->B):if (!b)=true then A else B:=by
 cases b
 ·exact h1 rfl
 ·exact h2 rfl
theorem Z0u {ns:List Int}{i:Int}(h0 : 0<=i) (h1:i < (ns.map V.int).length):atI (ns.map V.int) i=some (.int (ns.getD i.toNat 0)):=by
 obtain ⟨j,rfl⟩:=Int.eq_ofNat_of_zero_le h0
 rw [xD] at h1
 refine Ua ?_
 rw [xW,Int.toNat_natCast,yE,xH (by lia)]
 rfl
end L2
namespace L2
open PySem PySem.Spec PyProof.Rows
def Nm (sc:Scope) (x:Str) (k:NameKind):Prop:=sc.names.lookup x=some k/\(x == ("__debug__" : Str))=false/\(x == ("__classdict__" : Str))=false/\x ≠ "__name__"
instance (sc:Scope) (x:Str) (k:NameKind):Decidable (Nm sc x k):=by unfold Nm; exact inferInstance
section
variable {X:Cx}{x:Str}{pos:Pos}
theorem pvN (i:Nat) (n:Nm X.env.scope x .local) (hN:X.N[i]? = some x:=by rfl):PE X (.Name x pos) (Y2 i):=Zii hN (.inl n.1) n.2.1 n.2.2.1
theorem Zyl {v:V}{u:Value}(n:Nm X.env.scope x .globalImplicit) (hm:X.mg x=some u) (r:RelV v u):PE X (.Name x pos) (tC v):=Zzx n.1 hm r n.2.1
theorem Zym {v:V}{u:Value}(n:Nm X.env.scope x .globalImplicit) (hm:X.mg x=none) (hv:bootBuiltins x=some u) (r:RelV v u):PE X (.Name x pos) (tC v):=Zzy n.1 hm hv r n.2.2.2 n.2.1
theorem Z3a {k:Nat}{ps:List Str}{sp:Sp}{p:Pos}{e:Expr}{es:List Expr}{t:TA}(F:Fn X.prog X.w X.K X.mg X.base x ps k sp) (hr:Room k X.A) (n:Nm X.env.scope x .globalImplicit) (ha:PA X (e::es) t)
  (he:starEach (e::es) X.env=(false,eval e X.env)::starEach es X.env:=by rfl) (hpl:(backTo pos (starEach es X.env)).any (·.1)=false:=by rfl) :
  PE X (.Call (.Name x p) (e::es) [] pos) (tFn sp t):=Z39 F hr n.1 ha n.2.1 he hpl
theorem Zxb {p:Pos}{e:Expr}{es:List Expr}{t:TA}{id:String}{r:List V->Hp->VK->Prop}(hc:Wn X (.builtin id) r) (n:Nm X.env.scope x .globalImplicit) (hm:X.mg x=none) (hv:bootBuiltins x=some (.builtin id)) (ha:PA X (e::es) t)
  (he:starEach (e::es) X.env=(false,eval e X.env)::starEach es X.env:=by rfl) (hpl:(backTo pos (starEach es X.env)).any (·.1)=false:=by rfl):PE X (.Call (.Name x p) (e::es) [] pos) (tCB r t):=Zx7 hc n.1 hm hv ha n.2.2.2 n.2.1 he hpl
theorem Zvq {p:Pos}{e:Expr}{es:List Expr}{t:TA}{T:String}{r:List V->Hp->VK->Prop}(hc:Wn X (.type T) r) (n:Nm X.env.scope x .globalImplicit) (hm:X.mg x=none) (hv:bootBuiltins x=some (.type T)) (ha:PA X (e::es) t)
  (he:starEach (e::es) X.env=(false,eval e X.env)::starEach es X.env:=by rfl) (hpl:(backTo pos (starEach es X.env)).any (·.1)=false:=by rfl):PE X (.Call (.Name x p) (e::es) [] pos) (tCB r t):=Zw2 hc n.1 hm hv ha n.2.2.2 n.2.1 he hpl
theorem Z0v {i:Nat}{e:Expr}{te:TE}{pos':Pos}(hN:X.N.Nodup) (n:Nm X.env.scope x .local) (he:PE X e te) (hi:X.N[i]? = some x:=by rfl) (hs:swapsWith e (some (.Name x pos')) pos.line X.env=pure false:=by rfl) :
  PS X (.Assign [.Name x pos'] e pos) (Zaf te (Ww i)):=Zpo hN hi (.inl n.1) he hs (.inr n.1)
theorem Zyn {i:Nat}{e:Expr}{te:TE}{pos':Pos}(hN:X.N.Nodup) (n:Nm X.env.scope x .cell) (he:PE X e te) (hf:X.fn x=true:=by rfl) (hi:X.N[i]? = some x:=by rfl) (hs:swapsWith e (some (.Name x pos')) pos.line X.env=pure false:=by rfl) :
  PS X (.Assign [.Name x pos'] e pos) (Zaf te (Ww i)):=Zpo hN hi (.inr n.1) he hs (.inl hf)
theorem Zyo {i:Nat}(hN:X.N.Nodup) (n:Nm X.env.scope x .local) (hi:X.N[i]? = some x:=by rfl):PG X (.Name x pos) (Ww i):=Zol hN hi (.inl n.1) (.inr n.1)
end
section
variable {X:Cx}{scope:Scope}{cl:List (Str×Addr)}{C:Addr}{N':List Str}{s0:Shared}{H0:Hp}{ex:List Addr}{pn:List (Addr×Obj)}{x:Str}{pos:Pos}
theorem Yae (i:Nat) (n:Nm scope x .local:=by decide +kernel) (hN:N'[i]? = some x:=by rfl):PE (ccx X scope cl C N' s0 H0 ex pn) (.Name x pos) (Y2 i):=pvL i hN n.1 n.2.1 n.2.2.1
theorem Yaf (i:Nat) (n:Nm scope x .free:=by decide +kernel) (hN:N'[i]? = some x:=by rfl):PE (ccx X scope cl C N' s0 H0 ex pn) (.Name x pos) (Y2 i):=pvF i hN n.1 n.2.1 n.2.2.1
theorem Yag (i:Nat) (hnd:N'.Nodup) (n:Nm scope x .local:=by decide +kernel) (hN:N'[i]? = some x:=by rfl):PG (ccx X scope cl C N' s0 H0 ex pn) (.Name x pos) (Ww i):=pgL i hnd hN n.1
theorem nmC (n:Nm scope x .globalImplicit:=by decide +kernel):Nm (ccx X scope cl C N' s0 H0 ex pn).env.scope x .globalImplicit:=⟨Zmo (by decide) n.1,n.2⟩
theorem FrOk.consN {j:Nat}{fr:List (Str×Nat)}(n:Nm X.env.scope x .cell) (t:FrOk X scope fr) (m:Nm scope x .free:=by decide +kernel) (h1:X.N[j]? = some x:=by rfl):FrOk X scope ((x,j)::fr):=.cons h1 (.inl n.1) m.1 t
end
end L2
end
section
namespace L2
open PySem PySem.Spec PyProof.Rows
def cs (x:Str):List Nat:=x.cps.toList
theorem Z3b {x y:Str}(h:cs x=cs y):x=y:=by
 obtain ⟨⟨a⟩⟩:=x
 obtain ⟨⟨b⟩⟩:=y
 have:a=b:=h
 rw [this]
theorem Y3 (x:Str):(cs x).length=x.length:=by unfold cs; exact Array.length_toList
theorem U3 (x y:Str):cs (x++y)=cs x++cs y:=by unfold cs; rw [PySem.Str.cps_append,Array.toList_append]
theorem Zrm (l:List Nat):cs ⟨l.toArray⟩=l:=by unfold cs; simp
theorem Zm4 (xs:List Nat) (lo:Nat):∀ m,lo+m<=xs.length->((List.range m).map (lo + ·)).filterMap (xs[·]?)=(xs.drop lo).take m:=by
 intro m
 induction m with
 | zero=>intro _; simp
 | succ m ih =>
  intro h
  rw [List.range_succ,xX,List.filterMap_append,ih (by lia),yG,List.getElem?_drop]
  have:lo+m < xs.length:=by lia
  simp [xH this]
theorem Zhr (x:Str) {i:Int}(h : 0<=i):cs (Txt.slice x none (some i))=(cs x).take i.toNat:=by
 have hl:=Y3 x
 have e:Builtin.Str.strSliceIndices none (some i) 1 x.length=(List.range (min i.toNat x.length)).map (0 + ·):=by
  unfold Builtin.Str.strSliceIndices sliceRange
  simp only [show (1:Int) > 0 by decide,if_true]
  have e1:(if i < 0 then i+(x.length:Int) else i)=i:=if_neg (by lia)
  rw [e1]
  have e2:(if (0:Int) < max 0 (min i (x.length:Int)) then (max 0 (min i (x.length:Int)) - 0+1 - 1) / 1 else 0).toNat=min i.toNat x.length:=by
   split <;> (try simp only [Int.ediv_one]) <;> lia
  rw [e2]
  apply List.map_congr_left
  intro k _
  lia
 unfold Txt.slice
 rw [e]
 split
 ·rename_i hc
  have hc:((List.range (min i.toNat x.length)).map (0 + ·)).length=x.length:=by simpa using hc
  rw [xD,List.length_range] at hc
  rw [yJ (by lia)]
 ·rw [Zrm]
  have:=Zm4 (cs x) 0 (min i.toNat x.length) (by lia)
  rw [List.drop_zero] at this
  have e3:(cs x).take (min i.toNat x.length)=(cs x).take i.toNat:=by
   rw [← hl]
   by_cases h1:i.toNat<=(cs x).length
   ·rw [Nat.min_eq_left h1]
   ·rw [Nat.min_eq_right (by lia),yJ (by lia),yJ (by lia)]
  rw [← e3,← this]
  congr 1
  funext k
  unfold cs
  simp
theorem Z0w (x:Str) {i:Int}(h : 0<=i):cs (Txt.slice x (some i) none)=(cs x).drop i.toNat:=by
 have hl:=Y3 x
 have e:Builtin.Str.strSliceIndices (some i) none 1 x.length=(List.range (x.length - min i.toNat x.length)).map (min i.toNat x.length + ·):=by
  unfold Builtin.Str.strSliceIndices sliceRange
  simp only [show (1:Int) > 0 by decide,if_true]
  have e1:(if i < 0 then i+(x.length:Int) else i)=i:=if_neg (by lia)
  rw [e1]
  have e2:(if max 0 (min i (x.length:Int)) < (x.length:Int) then ((x.length:Int) - max 0 (min i (x.length:Int))+1 - 1) / 1 else 0).toNat=x.length - min i.toNat x.length:=by
   split <;> (try simp only [Int.ediv_one]) <;> lia
  rw [e2]
  apply List.map_congr_left
  intro k _
  lia
 unfold Txt.slice
 rw [e]
 split
 ·rename_i hc
  have hc:((List.range (x.length - min i.toNat x.length)).map (min i.toNat x.length + ·)).length=x.length:=by simpa using hc
  rw [xD,List.length_range] at hc
  by_cases h0:i.toNat=0
  ·rw [h0,List.drop_zero]
  ·have:x.length=0:=by lia
   rw [List.drop_of_length_le (by lia)]
   exact List.length_eq_zero_iff.mp (by lia)
 ·rw [Zrm]
  have:=Zm4 (cs x) (min i.toNat x.length) (x.length - min i.toNat x.length) (by lia)
  have e3:((cs x).drop (min i.toNat x.length)).take (x.length - min i.toNat x.length)=(cs x).drop i.toNat:=by
   rw [yJ (by rw [List.length_drop]; lia)]
   by_cases h1:i.toNat<=x.length
   ·rw [Nat.min_eq_left h1]
   ·rw [Nat.min_eq_right (by lia),List.drop_of_length_le (by lia),List.drop_of_length_le (by lia)]
  rw [← e3,← this]
  congr 1
  funext k
  unfold cs
  simp
theorem Zyp:∀ ys:List Str,cs (Txt.join "" ys)=(ys.map cs).flatten:=by
 have go:∀ (ys:List Str) (a:Array Nat),(ys.foldl (fun acc p=>acc++(("" : Str)).cps++p.cps) a).toList=a.toList++(ys.map cs).flatten:=by
  intro ys
  induction ys with
  | nil=>intro a; simp
  | cons y r ih =>
   intro a
   rw [List.foldl_cons,ih]
   have:(("" : Str)).cps = #[]:=by decide +kernel
   rw [this]
   simp [cs]
 intro ys
 show (cs (Builtin.Str.glued "" ys))=_
 unfold Builtin.Str.glued
 cases ys with
 | nil=>decide +kernel
 | cons y r =>
  show (List.foldl _ y.cps r).toList=_
  rw [go]
  rfl
def Low (x:Str):Prop:=∀ c∈cs x,97<=c/\c<=122
def letters:Str := "abcdefghijklmnopqrstuvwxyz"
theorem Zvr:cs letters=(List.range 26).map (97 + ·):=by decide +kernel
theorem Zgk {d:Int}(h0 : 0<=d) (h1:d < 26):atI letters.cps.toList d=some (97+d.toNat):=by
 obtain ⟨j,rfl⟩:=Int.eq_ofNat_of_zero_le h0
 refine Ua ?_
 show (cs letters)[j]? = _
 rw [Zvr,xW,List.getElem?_range (by lia)]
 rfl
theorem Zeg {J:It}{nl:Nat}{fv:St}{g:TG}{tt:TTs}{te:TE}{Q:VK}{H:Hp}{xs:List V}(Pv:Nat->List V->Hp->Prop) (h0:Pv 0 [] H) (hn:xs.length<=1000000)
  (hgo:∀ i H ys,i < xs.length->Pv i ys H->J.go i H) (hy:∀ i H x H' ys,i < xs.length->Pv i ys H->J.yld i H x H'->H'=H/\xs[i]? = some x) (hst:∀ H ys,Pv xs.length ys H->J.stop xs.length H)
  (hlen:∀ i ys H,Pv i ys H->ys.length<=i)
  (step:∀ i x ys H,xs[i]? = some x->Pv i ys H->Vg nl fv g tt te x H (fun y H'=>Pv (i+1) (ys ++ [y]) H') fun H'=>Pv (i+1) ys H')
  (hd:∀ ys H,Pv xs.length ys H->∀ l,H l=none->Q (.ref l) (upd H l (.lst ys))) :
  Zat J nl fv g tt te Q H:=by
 have mono:∀ {x:V}{H:Hp}{Y Y':V->Hp->Prop}{N N':Hp->Prop},Vg nl fv g tt te x H Y N->Y=Y'->N=N'->Vg nl fv g tt te x H Y' N':=fun h e1 e2=>by subst e1; subst e2; exact h
 refine ⟨fun i m ys H=>m=xs.length - i/\i<=xs.length/\Pv i ys H,⟨xs.length,by simp,yQ _,h0⟩,?_⟩
 rintro i m ys H ⟨rfl,hi,p⟩
 have hl:=hlen i ys H p
 have hz:(1000000:Nat) < sizeLine:=by decide
 by_cases hlt:i < xs.length
 ·refine .inr ⟨hgo i H ys hlt p,by lia,xs.length - (i+1),by lia,fun x H' y=>?_⟩
  obtain ⟨e,ex⟩:=hy i H x H' ys hlt p y
  subst e
  refine mono (step i x ys _ ex p) ?_ ?_
  ·funext y H4
   apply propext
   exact ⟨fun q=>⟨rfl,hlt,q⟩,fun q=>q.2.2⟩
  ·funext H3
   apply propext
   exact ⟨fun q=>⟨rfl,hlt,q⟩,fun q=>q.2.2⟩
 ·have e:i=xs.length:=by lia
  subst e
  exact .inl ⟨hst H ys p,by lia,hd ys H p⟩
def Zcd (lo:Int) (n:Nat):List V:=(List.range n).map fun k=>V.int (lo+(k:Nat))
theorem Zbo (lo:Int) (n:Nat):(Zcd lo n).length=n:=by simp [Zcd]
theorem Zyq {lo:Int}{n i:Nat}{x:V}(h:(Zcd lo n)[i]? = some x):i < n/\x = .int (lo+(i:Nat)):=by
 have hi:i < n:=by have:=(xV.mp h).1; rwa [Zbo] at this
 refine ⟨hi,?_⟩
 unfold Zcd at h
 rw [xW,List.getElem?_range hi] at h
 exact (Option.some.inj h).symm
theorem Zvs {lo:Int}{n:Nat}{nl:Nat}{fv:St}{g:TG}{tt:TTs}{te:TE}{Q:VK}{H:Hp}(Pv:Nat->List V->Hp->Prop) (h0:Pv 0 [] H) (hn:n<=1000000)
  (hlen:∀ i ys H,Pv i ys H->ys.length<=i)
  (step:∀ i ys H,i < n->Pv i ys H->Vg nl fv g tt te (.int (lo+(i:Nat))) H (fun y H'=>Pv (i+1) (ys ++ [y]) H') fun H'=>Pv (i+1) ys H')
  (hd:∀ ys H,Pv n ys H->∀ l,H l=none->Q (.ref l) (upd H l (.lst ys))) :
  Zat (Itr lo n) nl fv g tt te Q H:=by
 refine Zeg (xs:=Zcd lo n) Pv h0 (by rw [Zbo]; exact hn) ?_ ?_ ?_ hlen ?_ ?_
 ·intro i H ys hi _
  rw [Zbo] at hi
  exact hi
 ·rintro i H x H' ys hi _ ⟨rfl,rfl⟩
  rw [Zbo] at hi
  refine ⟨rfl,?_⟩
  unfold Zcd
  rw [xW,List.getElem?_range hi]
  rfl
 ·intro H ys _
  rw [Zbo]
  exact xB _
 ·intro i x ys H hx p
  obtain ⟨hi,rfl⟩:=Zyq hx
  exact step i ys H hi p
 ·intro ys H p
  rw [Zbo] at p
  exact hd ys H p
theorem Zd7 {K:uFg}{a:Addr}{xs:List V}{nl:Nat}{fv:St}{g:TG}{tt:TTs}{te:TE}{Q:VK}{H:Hp}(Pv:Nat->List V->Hp->Prop) (h0:Pv 0 [] H) (hn:xs.length<=1000000)
  (hl:∀ i ys H,i<=xs.length->Pv i ys H->SqL K H a xs)
  (hlen:∀ i ys H,Pv i ys H->ys.length<=i)
  (step:∀ i x ys H,xs[i]? = some x->Pv i ys H->Vg nl fv g tt te x H (fun y H'=>Pv (i+1) (ys ++ [y]) H') fun H'=>Pv (i+1) ys H')
  (hd:∀ ys H,Pv xs.length ys H->∀ l,H l=none->Q (.ref l) (upd H l (.lst ys))) :
  Zat (Itl K a) nl fv g tt te Q H:=by
 refine Zeg (xs:=xs) Pv h0 hn ?_ ?_ ?_ hlen step hd
 ·intro i H ys hi p
  exact ⟨xs,xs[i],hl i ys H (Nat.le_of_lt hi) p,by simp [hi]⟩
 ·rintro i H x H' ys hi p ⟨rfl,y⟩
  exact ⟨rfl,y xs (hl i ys _ (Nat.le_of_lt hi) p)⟩
 ·intro H ys p
  exact ⟨xs,hl _ ys H (xB _) p,xB _⟩
theorem Zyr {x:Str}{nl:Nat}{fv:St}{g:TG}{tt:TTs}{te:TE}{Q:VK}{H:Hp}(Pv:Nat->List V->Hp->Prop) (h0:Pv 0 [] H) (hn:x.length<=1000000)
  (hlen:∀ i ys H,Pv i ys H->ys.length<=i)
  (step:∀ i ys H,i < x.length->Pv i ys H->Vg nl fv g tt te (sgn x i) H (fun y H'=>Pv (i+1) (ys ++ [y]) H') fun H'=>Pv (i+1) ys H')
  (hd:∀ ys H,Pv x.length ys H->∀ l,H l=none->Q (.ref l) (upd H l (.lst ys))) :
  Zat (Its x) nl fv g tt te Q H:=by
 have ln:((List.range x.length).map fun i=>sgn x i).length=x.length:=by simp
 refine Zeg (xs:=(List.range x.length).map fun i=>sgn x i) Pv h0 (by rw [ln]; exact hn) ?_ ?_ ?_ hlen ?_ ?_
 ·intro i H ys hi _
  rw [ln] at hi
  exact hi
 ·rintro i H v H' ys hi _ ⟨rfl,rfl⟩
  rw [ln] at hi
  refine ⟨rfl,?_⟩
  rw [xW,List.getElem?_range hi]
  rfl
 ·intro H ys _
  rw [ln]
  exact rfl
 ·intro i v ys H hx p
  have hi:i < x.length:=by have:=(xV.mp hx).1; rwa [ln] at this
  rw [xW,List.getElem?_range hi] at hx
  cases hx
  exact step i ys H hi p
 ·intro ys H p
  rw [ln] at p
  exact hd ys H p
theorem Zbd {ls:St}(h:ls.length=1):∃ a,ls = [a]:=by
 match ls,h with
 | [a],_=>exact ⟨a,rfl⟩
theorem Zt8 {ls:St}(h:ls.length=2):∃ a b,ls = [a,b]:=by
 match ls,h with
 | [a,b],_=>exact ⟨a,b,rfl⟩
theorem Yah {ls:St}(h:ls.length=3):∃ a b c,ls = [a,b,c]:=by
 match ls,h with
 | [a,b,c],_=>exact ⟨a,b,c,rfl⟩
end L2
end
section
namespace L2
open PySem PySem.Spec PyProof.Rows
structure QE (X:Cx) (e:Expr) (t:TE):Prop where
 h:PE X e t
structure QT (X:Cx) (e:Expr) (t:TT):Prop where
 h:PT X e t
structure QW (X:Cx) (e:Expr) (t:TT):Prop where
 h:PW X e t
structure QS (X:Cx) (s:Stmt) (t:TS):Prop where
 h:PS X s t
structure QSs (X:Cx) (s:List Stmt) (t:TS):Prop where
 h:PSs X s t
structure QA (X:Cx) (es:List Expr) (t:TA):Prop where
 h:PA X es t
structure QG (X:Cx) (e:Expr) (t:TG):Prop where
 h:PG X e t
structure QGs (X:Cx) (es:List Expr) (t:TGs):Prop where
 h:PGs X es t
structure QI (X:Cx) (tg iter:Expr) (t:TI):Prop where
 h:PI X tg iter t
structure QO (X:Cx) (e:Option Expr) (t:TO):Prop where
 h:PO X e t
structure QTs (X:Cx) (es:List Expr) (t:TTs):Prop where
 h:PTs X es t
structure QOp (X:Cx) (f:Value->Value->Sem Value) (r:R2):Prop where
 h:OpR X f r
structure QUn (X:Cx) (f:Value->Sem Value) (r:V->Hp->VK->Prop):Prop where
 h:UnR X f r
structure QC (X:Cx) (f:Value) (r:List V->Hp->VK->Prop):Prop where
 h:Wn X f r
structure QCk (X:Cx) (f:Value) (kw:Str) (r:List V->V->Hp->VK->Prop):Prop where
 h:Z38 X f kw r
structure QIx (X:Cx) (r:R2):Prop where
 h:IxR X r
structure QSl (X:Cx) (r:V->Option Int->Option Int->Hp->VK->Prop):Prop where
 h:SlR X r
structure QM (X:Cx) (id:String) (r:V->List V->Hp->VK->Prop):Prop where
 h:MtR X id r
structure QSet (X:Cx) (t:Zdt):Prop where
 h:Zkw X t
structure QIp (X:Cx) (op:Operator) (t:TIp):Prop where
 h:PIp X op t
section
variable {X:Cx}{a b c:Expr}{ta tb tc te:TE}{tA tB':TT}{pos p p2 pos':Pos}{st:Stmt}{rest:List Stmt}{t u:TS}{x:Str}{es:List Expr}{e:Expr}
theorem Zn:QSs X [] Z4:=⟨Zz0⟩
theorem Zf (h1:QS X st t) (h2:QSs X rest u):QSs X (st::rest) (Ul t u):=⟨Zxu h1.h h2.h⟩
theorem Zg (h1:QS X st t):QSs X [st] t:=⟨Zz1 h1.h⟩
theorem Zr (h:QE X e te):QS X (.Return (some e) pos) (Ztq te):=⟨Z2g h.h⟩
theorem Zl {c:Expr}{a b:List Stmt}{tc:TT}(hc:QT X c tc) (ha:QSs X a t) (hb:QSs X b u):QS X (.If c a b pos) (Zkv tc t u):=⟨Z3v hc.h ha.h hb.h⟩
theorem Zv (he:QE X e te) (hs:swapsWith e none pos.line X.env=pure false:=by rfl):QS X (.Expr e pos) (Ze3 te):=⟨Zz2 he.h hs⟩
theorem Z1 {i:Nat}(hN:X.N.Nodup) (n:Nm X.env.scope x .local) (he:QE X e te) (hi:X.N[i]? = some x:=by rfl) (hs:swapsWith e (some (.Name x pos')) pos.line X.env=pure false:=by rfl) :
  QS X (.Assign [.Name x pos'] e pos) (Zaf te (Ww i)):=⟨Z0v hN n he.h hi hs⟩
theorem Zys {i:Nat}(hN:X.N.Nodup) (n:Nm X.env.scope x .cell) (he:QE X e te) (hf:X.fn x=true:=by rfl) (hi:X.N[i]? = some x:=by rfl) (hs:swapsWith e (some (.Name x pos')) pos.line X.env=pure false:=by rfl) :
  QS X (.Assign [.Name x pos'] e pos) (Zaf te (Ww i)):=⟨Zyn hN n he.h hf hi hs⟩
theorem Zbv {tg:Expr}{g:TG}(he:QE X e te) (hg:QG X tg g) (hs:swapsWithSole [tg] e pos.line X.env=pure false:=by rfl) (hw:swappedStores [tg] e X.env=pure none:=by rfl)
  (h1:(assignEach [tg] X.env).map (·.2) = [assign tg X.env]:=by rfl):QS X (.Assign [tg] e pos) (Zaf te g):=⟨Z2i he.h hg.h hs hw h1⟩
def Zb4 (J:It) (g:TG) (tb:TS) (D:Ends) (σ:St) (H1:Hp):Prop:=∃ W:Nat->Nat->St->Hp->Prop,(∃ m,W 0 m σ H1)/\∀ i m σ H,W i m σ H ->
 (J.stop i H/\D.nx σ H)\/(J.go i H/\∃ N:St->Hp->Prop,(∀ σ' H',N σ' H'->∃ m',m' < m/\W (i+1) m' σ' H')/\∀ x H',J.yld i H x H'->g x σ H' fun σ2 H2=>tb {D with nx:=N,ct:=N,bk:=D.nx } σ2 H2)
def Z4b (wi:TI) (g:TG) (tb:TS):TS:=fun D σ H=>wi σ H fun J H1=>Zb4 J g tb D σ H1
theorem We {tg iter:Expr}{body:List Stmt}{wi:TI}{g:TG}(hp:PassesOwn (model X.prog X.w) X.A X.env X.xe) (hc:X.calm=true) (hi:QI X tg iter wi) (hg:QG X tg g) (hb:QSs X body t)
  (hs:∀ x,foldedSetIterable iter X.env x=pure x:=by intro _; rfl):QS X (.For tg iter body [] pos) (Z4b wi g t):=⟨Z2k hp hc hi.h hg.h hb.h hs⟩
theorem Zyt {c:Expr}{body:List Stmt}{tc:TT}(hp:PassesOwn (model X.prog X.w) X.A X.env X.xe) (hc:QT X c tc) (hb:QSs X body t):QS X (.While c body [] pos) (Zpp tc t):=⟨Zxw hp hc.h hb.h⟩
theorem Yp {i:Nat}(hN:X.N.Nodup) (n:Nm X.env.scope x .local) (hi:X.N[i]? = some x:=by rfl):QG X (.Name x pos) (Ww i):=⟨Zyo hN n hi⟩
theorem Zau:QGs X [] Ztr:=⟨Zz3⟩
theorem Wa {t:TG}{u:TGs}(h1:QG X e t) (h2:QGs X es u) (hs:(assignEach (e::es) X.env).map (·.2)=assign e X.env::(assignEach es X.env).map (·.2):=by rfl):QGs X (e::es) (Zqx t u):=⟨Zxv h1.h h2.h hs⟩
theorem Zpx {k:Nat}{t:TGs}{n:Nat}(hc:X.calm=true) (h:QGs X es t) (hn:(assignEach es X.env).length=n:=by rfl) (hst:(assignEach es X.env).findIdx? (·.1)=none:=by rfl):QG X (.Tuple es k pos) (Zkx X.K n t):=⟨Zpn hc h.h hn hst⟩
theorem Zc4 {o i:Expr}{to ti:TE}{t:Zdt}(ho:QE X o to) (hi:QE X i ti) (hs:QSet X t)
  (ha:∀ v,assign (.Subscript o i pos) X.env v=(do
   let ov ← holding [v] (eval o X.env)
   let iv ← holding [v,ov] (eval i X.env)
   standAt pos
   holding [v,ov,iv] (setItem ov iv v)
   release [v,ov,iv] []):=by intro _; rfl):QG X (.Subscript o i pos) (Zts to ti t):=⟨Z2h ho.h hi.h hs.h ha⟩
theorem Zcv:QSet X Zre:=⟨Zya⟩
variable {tg:Expr}
theorem Vh {l:Expr}(hl:QE X l te):QI X tg l (Zqy X.K te):=⟨Zz4 hl.h⟩
theorem Zes {l:Expr}(hl:QE X l te):QI X tg l (Ztt X.K te):=⟨Z2j hl.h⟩
theorem Z3c {l:Expr}(hl:QE X l te):QI X tg l (Zt6 te):=⟨Z26 hl.h⟩
theorem Zav {a:Expr}{ta:TA}(hg:Gl X "range") (hm:X.mg "range" = none) (ha:QA X [a] ta) (hs:starEach [a] X.env = [(false,eval a X.env)]:=by rfl):QI X tg (.Call (.Name "range" p) [a] [] pos) (Zqz ta):=⟨Zww hg hm ha.h hs⟩
theorem Zc:QA X [] Wj:=⟨Z2t⟩
theorem Za {t:TA}(ha:QE X e te) (hr:QA X es t) (hs:starEach (e::es) X.env=(false,eval e X.env)::starEach es X.env:=by rfl):QA X (e::es) (Vf te t):=⟨Z0d ha.h hr.h hs⟩
theorem Yc {x1} {t:TA}(h:QA X es t):QE X (.Tuple es x1 pos) (Ztx t):=⟨Z2u h.h⟩
theorem Yu {t:TA}(h:QA X es t):QE X (.List es pos) (Zty t):=⟨Z2v h.h⟩
theorem Wx (ha:QT X a tA):QT X (.UnaryOp .Not a pos) (Zto tA):=⟨Z2c ha.h⟩
theorem QW.pt (h:QW X e tA):QT X e tA:=⟨PW.pt h.h⟩
theorem Zeh (ha:QT X a tA):QW X (.BoolOp .And [a] pos) tA:=⟨Zzz ha.h⟩
theorem Zet (ha:QT X a tA):QW X (.BoolOp .Or [a] pos) tA:=⟨Z2a ha.h⟩
theorem Zeu {rest:List Expr}(ha:QT X a tA) (hb:QW X (.BoolOp .And (b::rest) pos) tB'):QW X (.BoolOp .And (a::b::rest) pos) (Ztn tA tB'):=⟨Z2b ha.h hb.h⟩
theorem Ze7 {rest:List Expr}(ha:QT X a tA) (hb:QW X (.BoolOp .Or (b::rest) pos) tB'):QW X (.BoolOp .Or (a::b::rest) pos) (tOr tA tB'):=⟨Z3t ha.h hb.h⟩
theorem Zp {op:CmpOp}{r:R2}(ho:QOp X (compareOp op) r) (ha:QE X a ta) (hb:QE X b tb) (hm:behindInMarks op b=false):QT X (.Compare a [op] [b] pos) (Zc9 (tOp r ta tb)):=⟨Zz9 ho.h ha.h hb.h hm⟩
theorem U4 {op:CmpOp}{r:R2}(ho:QOp X (compareOp op) r) (ha:QE X a ta) (hb:QE X b tb) (hm:behindInMarks op b=false):QE X (.Compare a [op] [b] pos) (tOp r ta tb):=⟨Zz8 ho.h ha.h hb.h hm⟩
theorem Zn5 {op op':CmpOp}{r r':R2}(ho:QOp X (compareOp op) r) (ho':QOp X (compareOp op') r') (ha:QE X a ta) (hb:QE X b tb) (hc:QE X c tc)
  (hm:lastMarks [op,op'] [b,c]=false:=by with_unfolding_all rfl):QE X (.Compare a [op,op'] [b,c] pos) (Zer r r' ta tb tc):=⟨Zxz ho.h ho'.h ha.h hb.h hc.h hm⟩
theorem Zcw {op op':CmpOp}{r r':R2}(ho:QOp X (compareOp op) r) (ho':QOp X (compareOp op') r') (ha:QE X a ta) (hb:QE X b tb) (hc:QE X c tc)
  (hm:lastMarks [op,op'] [b,c]=false:=by with_unfolding_all rfl):QT X (.Compare a [op,op'] [b,c] pos) (Zc9 (Zer r r' ta tb tc)):=⟨Zx0 ho.h ho'.h ha.h hb.h hc.h hm⟩
theorem Wb (h:QE X e te) (he:∀ whole,isTrue e X.env whole=(do let v ← whole; standAt e.pos; holding [v] (truthy v)):=by intro _; rfl):QT X e (tB te):=⟨Z19 h.h he⟩
theorem Ze {i j pos}:QE X (.Constant (.int i) j pos) (tC (.int i)):=⟨Z16⟩
theorem Wy {b j pos}:QE X (.Constant (.bool b) j pos) (tC (.bl b)):=⟨Z3s⟩
theorem Wo {j pos}:QE X (.Constant .none j pos) (tC .non):=⟨Z17⟩
theorem Zm {x j pos}:QE X (.Constant (.str x) j pos) (tC (.str x)):=⟨Z18⟩
theorem qvN (i:Nat) (n:Nm X.env.scope x .local) (hN:X.N[i]? = some x:=by rfl):QE X (.Name x pos) (Y2 i):=⟨pvN i n hN⟩
theorem V0 {v:V}{u:Value}(n:Nm X.env.scope x .globalImplicit) (hm:X.mg x=some u) (r:RelV v u):QE X (.Name x pos) (tC v):=⟨Zyl n hm r⟩
theorem Vd {v:V}{u:Value}(n:Nm X.env.scope x .globalImplicit) (hm:X.mg x=none) (hv:bootBuiltins x=some u) (r:RelV v u):QE X (.Name x pos) (tC v):=⟨Zym n hm hv r⟩
theorem Zy {op:Operator}{r:R2}(ho:QOp X (binaryOp op) r) (ha:QE X a ta) (hb:QE X b tb):QE X (.BinOp a op b pos) (tOp r ta tb):=⟨Z3w ho.h ha.h hb.h⟩
theorem Zb5 {op:UnaryOp}{r:V->Hp->VK->Prop}(ho:QUn X (unaryOp op) r) (ha:QE X a ta):QE X (.UnaryOp op a pos) (tUn r ta):=⟨Z3x ho.h ha.h⟩
theorem Zpy (ha:QE X a ta):QE X (.UnaryOp .Not a pos) (Zqw ta):=⟨Z2f ha.h⟩
theorem Zaw {op} (h:QE X a ta):QE X (.BoolOp op [a] pos) ta:=⟨Z2d h.h⟩
theorem Zbw {rest:List Expr}(ha:QE X a ta) (hb:QE X (.BoolOp .And (b::rest) pos) tb):QE X (.BoolOp .And (a::b::rest) pos) (Zqv ta tb):=⟨Z2e ha.h hb.h⟩
theorem Z4c {rest:List Expr}(ha:QE X a ta) (hb:QE X (.BoolOp .Or (b::rest) pos) tb):QE X (.BoolOp .Or (a::b::rest) pos) (Ztp ta tb):=⟨Z3u ha.h hb.h⟩
theorem Zyu (hc:QT X c tA) (ha:QE X a ta) (hb:QE X b tb):QE X (.IfExp c a b pos) (tIf tA ta tb):=⟨Zxt hc.h ha.h hb.h⟩
theorem Uc:QO X none Zoo:=⟨Z0g⟩
theorem Ud (h:QE X e te):QO X (some e) (Zrd te):=⟨Z0h h.h⟩
theorem Ue {lo hi:Option Expr}{tl th:TO}{r:V->Option Int->Option Int->Hp->VK->Prop}(hr:QSl X r) (he:QE X e te) (hl:QO X lo tl) (hu:QO X hi th):QE X (.Subscript e (.Slice lo hi none p2) pos) (tSl r te tl th):=⟨Zx9 hr.h he.h hl.h hu.h⟩
theorem Zk {r:R2}(hr:QIx X r) (ha:QE X a ta) (hb:QE X b tb) (hs:Zoq b):QE X (.Subscript a b pos) (tOp r ta tb):=⟨Z34 hr.h ha.h hb.h hs⟩
theorem Zw {k:Nat}{ps:List Str}{sp:Sp}{t:TA}(F:Fn X.prog X.w X.K X.mg X.base x ps k sp) (hr:Room k X.A) (n:Nm X.env.scope x .globalImplicit) (ha:QA X (e::es) t)
  (he:starEach (e::es) X.env=(false,eval e X.env)::starEach es X.env:=by rfl) (hpl:(backTo pos (starEach es X.env)).any (·.1)=false:=by rfl) :
  QE X (.Call (.Name x p) (e::es) [] pos) (tFn sp t):=⟨Z3a F hr n ha.h he hpl⟩
theorem Z8 {t:TA}{id:String}{r:List V->Hp->VK->Prop}(hc:QC X (.builtin id) r) (n:Nm X.env.scope x .globalImplicit) (hm:X.mg x=none) (hv:bootBuiltins x=some (.builtin id)) (ha:QA X (e::es) t)
  (he:starEach (e::es) X.env=(false,eval e X.env)::starEach es X.env:=by rfl) (hpl:(backTo pos (starEach es X.env)).any (·.1)=false:=by rfl):QE X (.Call (.Name x p) (e::es) [] pos) (tCB r t):=⟨Zxb hc.h n hm hv ha.h he hpl⟩
theorem Zbl {t:TA}{T:String}{r:List V->Hp->VK->Prop}(hc:QC X (.type T) r) (n:Nm X.env.scope x .globalImplicit) (hm:X.mg x=none) (hv:bootBuiltins x=some (.type T)) (ha:QA X (e::es) t)
  (he:starEach (e::es) X.env=(false,eval e X.env)::starEach es X.env:=by rfl) (hpl:(backTo pos (starEach es X.env)).any (·.1)=false:=by rfl):QE X (.Call (.Name x p) (e::es) [] pos) (tCB r t):=⟨Zvq hc.h n hm hv ha.h he hpl⟩
theorem Y7 {o:Expr}{to:TE}{t:TA}{name:Str}{apos cpos:Pos}{T id:String}{r:V->List V->Hp->VK->Prop}(pa:PlainAttrs T) (slot:Slot T name id) (hty:typeOf (.builtin id)=pure (.type "method_descriptor")) (hm:QM X id r) (ho:QE X o to) (ha:QA X (e::es) t)
  (hbase:attributeBase o name X.env (eval o X.env)=eval o X.env:=by rfl)
  (hfew:((backTo cpos (starEach (e::es) X.env)).all (fun x=>!x.1) && (backToKw cpos (keywordEach [] X.env)).all (fun x=>x.1.isSome)
   && decide ((e::es).length+([]:List Keyword).length+(if ([]:List Keyword).isEmpty then 0 else 1) < 30))=true:=by rfl)
  (hline:(apos.endLine == cpos.line)=true:=by rfl) (hs:starEach (e::es) X.env=(false,eval e X.env)::starEach es X.env:=by rfl) (hplain:(backTo cpos (starEach es X.env)).any (·.1)=false:=by rfl) :
  QE X (.Call (.Attribute o name apos) (e::es) [] cpos) (tBM X.K T r to t):=⟨Z35 pa slot hty hm.h ho.h ha.h hbase hfew hline hs hplain⟩
theorem Y4:QOp X (binaryOp .Add) (rI0 fun i j=>.int (i+j)):=⟨Z2l⟩
theorem U5:QOp X (binaryOp .Sub) (rI0 fun i j=>.int (i - j)):=⟨Z2m⟩
theorem Zos:QOp X (binaryOp .Mult) (rI CMul fun i j=>.int (i * j)):=⟨Z2n⟩
theorem Zd8:QOp X (binaryOp .FloorDiv) (rI Zkz fun i j=>.int (i / j)):=⟨Zz6⟩
theorem Zax:QOp X (binaryOp .Mod) (rI (fun _ j=>0 < j) fun i j=>.int (i % j)):=⟨Z2o⟩
theorem Z0x:QOp X (binaryOp .Pow) (rI Zk0 fun i j=>.int (i ^ j.toNat)):=⟨Z2p⟩
theorem Zbq:QUn X (unaryOp .USub) (rU fun i=>.int (-i)):=⟨Z29⟩
def Zrn (g:Str->Str->V):R2:=fun x y H Q=>∃ i j,x = .str i/\y = .str j/\Q (g i j) H
theorem Zm5:QOp X (compareOp .LtE) (Zrn fun i j=>.bl (!decide (j.cps.toList < i.cps.toList))):=⟨Zxa⟩
theorem Zm6:QOp X (compareOp .Lt) (Zrn fun i j=>.bl (decide (i.cps.toList < j.cps.toList))):=⟨Zwy⟩
def Z4d:R2:=fun x y H Q=>∃ i j,x = .str i/\y = .str j/\i.length+j.length<=sizeLine/\Q (.str (i++j)) H
theorem Uo:QOp X (binaryOp .Add) Z4d:=⟨Zvf⟩
theorem Zcz:QOp X (binaryOp .Add) Zt5:=⟨Z23⟩
theorem Yd:QOp X (compareOp .Eq) rEq:=⟨Z3y⟩
theorem V1:QOp X (compareOp .NotEq) rNe:=⟨Z3z⟩
theorem Zc5:QOp X (compareOp .Lt) (rI0 fun i j=>.bl (decide (i < j))):=⟨Z30⟩
theorem Wp:QOp X (compareOp .LtE) (rI0 fun i j=>.bl (decide (i<=j))):=⟨Z31⟩
theorem Zpz:QOp X (compareOp .Gt) (rI0 fun i j=>.bl (decide (j < i))):=⟨Z32⟩
theorem Zc6:QOp X (compareOp .GtE) (rI0 fun i j=>.bl (decide (j<=i))):=⟨Z33⟩
def Yai:R2:=fun x y H Q=>y = .non/\Q (.bl (decide (x = .non))) H
def Z4e:R2:=fun x y H Q=>y = .non/\Q (.bl (!decide (x = .non))) H
theorem Zhs:QOp X (compareOp .Is) Yai:=⟨Z2q⟩
theorem Zd9:QOp X (compareOp .IsNot) Z4e:=⟨Zz7⟩
theorem Zuu:QOp X (compareOp .NotIn) (rIn X.K true):=⟨Zu0⟩
theorem Yt:QIx X (Zk3 X.K):=⟨Zor⟩
theorem Zz:QIx X (Zt0 X.K):=⟨Z2y⟩
theorem Zht:QIx X Zt1:=⟨Z2z⟩
theorem Zg9:QSl X (Zt2 X.K):=⟨Z0i⟩
theorem Zot:QSl X (Ztz X.K):=⟨Z2x⟩
def Yaj:V->Option Int->Option Int->Hp->VK->Prop:=fun x lo hi H Q=>∃ z,x = .str z/\z.length<=sizeLine/\Q (.str (Txt.slice z lo hi)) H
theorem Zei:QSl X Yaj:=⟨Z27⟩
def Z0y (K:uFg):List V->Hp->VK->Prop:=fun xs H Q=>∃ p ys,xs = [.ref p]/\(SqL K H p ys\/SqT K H p ys)/\Q (.int ys.length) H
theorem Wt:QC X (.builtin "len") (Z0y X.K):=⟨Zu1⟩
def Z4f:List V->Hp->VK->Prop:=fun xs H Q=>∃ z,xs = [.str z]/\z.length<=sizeLine/\Q (.int z.length) H
theorem Zgg:QC X (.builtin "len") Z4f:=⟨Zu2⟩
def Yak (K:uFg):List V->Hp->VK->Prop:=fun xs H Q=>∃ (a:Addr) (bs:List Bool),xs = [.ref a]/\SqL K H a (bs.map V.bl)/\Q (.bl (bs.all id)) H
theorem Zxc (hc:X.calm=true):QC X (.builtin "all") (Yak X.K):=⟨Zyk hc⟩
def Zou (K:uFg):List V->Hp->VK->Prop:=fun xs H Q=>∃ x n t b,xs = [x,.ty n]/\TyOf K H x t/\PySem.W.kitOne K t (.type n)=some b/\Q (.bl b) H
theorem Vl:QC X (.builtin "isinstance") (Zou X.K):=⟨Zmx⟩
def Zov (K:uFg):List V->Hp->VK->Prop:=fun xs H Q=>∃ p ys,xs = [.ref p]/\(SqL K H p ys\/SqT K H p ys)/\∀ l,H l=none->Q (.ref l) (upd H l (.lst ys))
theorem Zuv:QC X (.type "list") (Zov X.K):=⟨Zmt⟩
def Z4g (K:uFg):V->List V->Hp->VK->Prop:=fun x xs H Q=>∃ sep a ys,x = .str sep/\xs = [.ref a]/\SqL K H a (ys.map V.str)/\(ys.map (·.length)).sum+ys.length * sep.length<=16777216/\Q (.str (Txt.join sep ys)) H
theorem Zha:QM X "str.join" (Z4g X.K):=⟨Z0t⟩
theorem Wu:QM X "list.append" Zef:=⟨Zw3⟩
end
section
variable {g:TG}{tb:TS}{D:Ends}{σ:St}{H:Hp}
theorem Zay {lo:Int}{n:Nat}(m:Nat) (hm:n=m) (Pv:Nat->St->Hp->Prop) (h0:Pv 0 σ H)
  (hs:∀ i σ H,i < m->Pv i σ H->g (.int (lo+i)) σ H fun σ2 H2=>tb {D with nx:=Pv (i+1),ct:=Pv (i+1),bk:=D.nx } σ2 H2) (hd:∀ σ H,Pv m σ H->D.nx σ H):Zb4 (Itr lo n) g tb D σ H:=by
 subst hm
 exact Zwx Pv h0 hs hd
theorem Zaz {K:uFg}{a:Addr}(xs:List V) (Pv:Nat->St->Hp->Prop) (h0:Pv 0 σ H) (hl:∀ i σ H,i<=xs.length->Pv i σ H->SqL K H a xs)
  (hs:∀ i x σ H,xs[i]? = some x->Pv i σ H->g x σ H fun σ2 H2=>tb {D with nx:=Pv (i+1),ct:=Pv (i+1),bk:=D.nx } σ2 H2) (hd:∀ σ H,Pv xs.length σ H->D.nx σ H):Zb4 (Itl K a) g tb D σ H:=Zxy Pv h0 hl hs hd
theorem Zyv {K:uFg}{a:Addr}(xs:List V) (Pv:Nat->St->Hp->Prop) (h0:Pv 0 σ H) (hl:∀ i σ H,i<=xs.length->Pv i σ H->SqT K H a xs)
  (hs:∀ i x σ H,xs[i]? = some x->Pv i σ H->g x σ H fun σ2 H2=>tb {D with nx:=Pv (i+1),ct:=Pv (i+1),bk:=D.nx } σ2 H2) (hd:∀ σ H,Pv xs.length σ H->D.nx σ H):Zb4 (Itt K a) g tb D σ H:=Zz5 Pv h0 hl hs hd
end
section
variable {X:Cx}{tg elt iter:Expr}{ifs:List Expr}{scope:Scope}{pos:Pos}{locs:List Str}{fr:List (Str×Nat)}{g:TG}{tt:TTs}{te:TE}
theorem Uf:QTs X [] (fun _ H Q=>Q true H):=⟨Z0q⟩
theorem Zow {c:Expr}{t:TT}(h:QT X c t):QTs X [c] t:=⟨Z0r h.h⟩
structure Inn (X:Cx) (scope:Scope) (N':List Str) (tg:Expr) (ifs:List Expr) (elt:Expr) (g:TG) (tt:TTs) (te:TE):Prop where
 h:∀ (cl:List (Str×Addr)) (C:Addr) (s0:Shared) (H0:Hp) (ex:List Addr) (pn:List (Addr×Obj)),QG (ccx X scope cl C N' s0 H0 ex pn) tg g/\QTs (ccx X scope cl C N' s0 H0 ex pn) ifs tt/\QE (ccx X scope cl C N' s0 H0 ex pn) elt te
theorem Vt {wi:TI}(S:CompOk X scope locs fr) (F:FrOk X scope fr) (hc:X.calm=true) (hi:QI X tg iter wi) (inner:Inn X scope (inN locs fr) tg ifs elt g tt te)
  (hs:∀ x,foldedSetIterable iter X.env x=pure x:=by intro _; rfl):QE X (.ListComp elt [⟨tg,iter,ifs,0⟩] scope pos) (Zrk locs.length fr wi g tt te) :=
 ⟨Zyi S F hc hi.h (fun cl C s0 H0 ex pn=>let ⟨a,b,c⟩:=inner.h cl C s0 H0 ex pn; ⟨a.h,b.h,c.h⟩) hs⟩
end
section
variable {X:Cx}{scope:Scope}{cl:List (Str×Addr)}{C:Addr}{N':List Str}{s0:Shared}{H0:Hp}{ex:List Addr}{pn:List (Addr×Obj)}{x:Str}{pos:Pos}
theorem Y5 (i:Nat) (n:Nm scope x .local:=by decide +kernel) (hN:N'[i]? = some x:=by rfl):QE (ccx X scope cl C N' s0 H0 ex pn) (.Name x pos) (Y2 i):=⟨Yae i n hN⟩
theorem Zk6 (i:Nat) (n:Nm scope x .free:=by decide +kernel) (hN:N'[i]? = some x:=by rfl):QE (ccx X scope cl C N' s0 H0 ex pn) (.Name x pos) (Y2 i):=⟨Yaf i n hN⟩
theorem Wl (i:Nat) (hnd:N'.Nodup) (n:Nm scope x .local:=by decide +kernel) (hN:N'[i]? = some x:=by rfl):QG (ccx X scope cl C N' s0 H0 ex pn) (.Name x pos) (Ww i):=⟨Yag i hnd n hN⟩
end
section
variable {P:Program}{w:World}{K:uFg}{mg:Str->Option Value}{base:Heap}
theorem Has.fnQ {x:Str}{st:Stmt}{N ps:List Str}{k:Nat}{sp:Sp}(h:Has K mg x st) (S:FnScope N ps (Zb st))
  (hb:∀ (kV doc pm:Value) (an:Option Addr) (cdv ct:Value) (us:List Value),us.length=ps.length->bindArgs (PySem.W.fnOf x x (Wk st) (Yi st) (Zb st) .none kV doc pm an cdv ct) ⟨us,[]⟩=pure (ps.zip us))
  (len:∀ vs H Q E,sp vs H Q E->vs.length=ps.length)
  (hbody:∀ (f:Addr) (cdv:Value) (A:Around) (outer:List Env) (s:Shared) (H:Hp) (vs:List V) (Q:VK) (E:XK),Room k (A.deeper (envOfC x (Zb st) s.heap.objs.size f cdv))->sp vs H Q E ->
   ∃ t,QSs (Yo CX0 P w K mg base N x (Zb st) f cdv A outer s H E).nox (Yi st) t/\t {nx:=fun _ H'=>Q .non H',rt:=Q } (start N vs) H):Fn P w K mg base x ps (k+1) sp :=
 h.fn S hb len fun f cdv A outer s H vs Q E hr q=>let ⟨t,a,b⟩:=hbody f cdv A outer s H vs Q E hr q; ⟨t,a.h,b⟩
end
end L2
namespace L2
open PySem PySem.Spec PyProof.Rows
theorem Zhu {t u:TS}{D:Ends}{σ:St}{H:Hp}(R:St->Hp->Prop) (hu:∀ σ' H',R σ' H'->u D σ' H')
  (ht:∀ D':Ends,(∀ σ' H',R σ' H'->D'.nx σ' H')->(∀ v H',D.rt v H'->D'.rt v H')->(∀ σ' H',D.bk σ' H'->D'.bk σ' H')->(∀ σ' H',D.ct σ' H'->D'.ct σ' H')->t D' σ H):Ul t u D σ H :=
 ht {D with nx:=u D } hu (fun _ _ h=>h) (fun _ _ h=>h) (fun _ _ h=>h)
theorem Zm7 {a b:Nat}:(([a]:List Nat) < [b])↔a < b:=by
 constructor
 ·intro h
  rcases List.cons_lt_cons_iff.mp h with z | ⟨_,z⟩
  ·exact z
  ·exact absurd z (by simp)
 ·intro h
  exact List.cons_lt_cons_iff.mpr (.inl h)
end L2
namespace L2
theorem Yg {i:Nat}{v:V}{σ:St}{H:Hp}{Q:St->Hp->Prop}(h:Q (σ.set i (some v)) H):Ww i v σ H Q:=h
end L2
namespace L2
open PySem PySem.Spec PyProof.Rows
theorem Fun.okQ {P:Program}{w:World}{K:uFg}{mg:Str->Option Value}{base:Heap}{x qual:Str}{st:Stmt}{f:Addr}{fd:FuncData}{N ps:List Str}{k:Nat}{sp:Sp}(F:Fun K x qual st f fd) (S:FnScope N ps (Zb st)) (len:∀ vs H Q E,sp vs H Q E->vs.length=ps.length)
  (hbody:∀ (cdv:Value) (A:Around) (outer:List Env) (s:Shared) (H:Hp) (vs:List V) (Q:VK) (E:XK),Room k (A.deeper (envOfC qual (Zb st) s.heap.objs.size f cdv))->sp vs H Q E ->
   ∃ t,QSs (Yo CX0 P w K mg base N qual (Zb st) f cdv A outer s H E).nox (Yi st) t/\t {nx:=fun _ H'=>Q .non H',rt:=Q } (start N vs) H):FnOk P w K mg base CX0 (k+1) f fd ps sp :=
 F.ok S len fun cdv A outer s H vs Q E hr q=>let ⟨t,a,b⟩:=hbody cdv A outer s H vs Q E hr q; ⟨t,a.h,b⟩
def Ze8 (K:uFg):Sp:=fun vs H Q _=>∃ (a:Addr) (ns:List Int),vs = [.ref a]/\SqL K H a (ns.map V.int)/\ns.length<=63/\∀ H',Q (.bl true) H'
theorem walkLaw {l:PySem.W.OpenLaw}{q:Program}{loose:List Str}{XP:(Str->Option Value)->Heap->Prop}{YP:World->Heap->Prop}{d:DefRec}{K:Params->uFg}(hn:l.most=some 63) (hdf:d.params.defaults = [])
  (hY:∀ (w:World) (h:Heap),YP w h->(K w.params).In h)
  (F:∀ (w:World) (mg:Str->Option Value) (fa:Addr) (h:Heap),(K w.params).In h->h.Ns mainGlobals mg->mg d.name=some (.ref fa) ->
   ∃ fd:FuncData,(∀ (s:Shared) (u:Value),BindsTo s fd ⟨[u],[]⟩ [("_law_script", u)])/\∀ base:Heap,(K w.params).In base->base.Ns mainGlobals mg->FnOk l.prog w (K w.params) mg base CX0 40 fa fd ["_law_script"] (Ze8 (K w.params))) :
  PySem.W.WalkO q loose XP YP l.row.toRowW d [] (fun f vs=>PySem.call f vs) :=
 L2.walk_of (n:=63) (k:=40) (x := "_law_script") (CX:=fun _=>CX0) (sp:=fun w=>Ze8 (K w.params)) hn (by decide) hdf ⟨rfl,by decide,by decide⟩ hY F (fun _ _ a ns hl _ hS=>⟨a,ns,rfl,hS,hl,fun _=>rfl⟩) fun _ _ _ _ _ z=>z
end L2
namespace L2
open PySem PySem.Spec PyProof.Rows
section
variable {X:Cx}{scope:Scope}{cl:List (Str×Addr)}{C:Addr}{N':List Str}{s0:Shared}{H0:Hp}{ex:List Addr}{pn:List (Addr×Obj)}{x:Str}{pos:Pos}{es:List Expr}{k:Nat}{t:TGs}
theorem Zej (n:Nat) (hc:X.calm=true) (h:QGs (ccx X scope cl C N' s0 H0 ex pn) es t) (hn:(assignEach es (ccx X scope cl C N' s0 H0 ex pn).env).length=n:=by rfl) (hst:(assignEach es (ccx X scope cl C N' s0 H0 ex pn).env).findIdx? (·.1)=none:=by rfl) :
  QG (ccx X scope cl C N' s0 H0 ex pn) (.Tuple es k pos) (Zkx X.K n t):=⟨Zpn (X:=ccx X scope cl C N' s0 H0 ex pn) hc h.h hn hst⟩
theorem Zxd:QIx (ccx X scope cl C N' s0 H0 ex pn) (Zk3 X.K):=⟨Zor (X:=ccx X scope cl C N' s0 H0 ex pn)⟩
theorem Zuo:QC (ccx X scope cl C N' s0 H0 ex pn) (.type "list") (Zov X.K):=⟨Zmt (X:=ccx X scope cl C N' s0 H0 ex pn)⟩
theorem Zuw:QC (ccx X scope cl C N' s0 H0 ex pn) (.builtin "isinstance") (Zou X.K):=⟨Zmx (X:=ccx X scope cl C N' s0 H0 ex pn)⟩
end
end L2
end
section
namespace L2
open PySem PySem.Spec PyProof.Rows
def Lik (a b:Value):Prop:=a=b\/∃ c t u,a = .str c t/\b = .str c u
theorem Lik.rel {y:V}{a b:Value}(h:Lik a b) (r:RelV y a):RelV y b:=by
 rcases h with rfl | ⟨c,t,u,rfl,rfl⟩
 ·exact r
 ·cases y with
  | str z=>obtain ⟨k,e⟩:=r; cases e; exact ⟨u,rfl⟩
  | non=>cases r
  | bl _=>cases r
  | int _=>obtain ⟨_,e⟩:=r; cases e
  | byt _=>obtain ⟨_,e⟩:=r; cases e
  | flt _=>obtain ⟨_,e⟩:=r; cases e
  | _=>cases r
structure Drw (P:Program) (w:World) (it l:Addr) (St:Nat->Heap->Prop) (Hs:Heap->List Value->Prop):Prop where
 obj:∀ k h,St k h->∃ o,h.get? it=some o/\∀ v,o.data ≠ .cell v
 keep:∀ k h h',St k h->(∀ o,h.get? it=some o->h'.get? it=some o)->St k h'
 src:∀ h h' its,Hs h its->(∀ o,h.get? l=some o->h'.get? l=some o)->Hs h' its
 item:∀ (A:Around) (k:Nat) (s:Shared) (its:List Value) (x:Value) (Q:Value->Shared->Prop) (E:Value->Shared->Prop),St k s.heap->Hs s.heap its->its[k]? = some x ->
  (∀ x' h' tk,Lik x x'->St (k+1) h'->Heap.SameBut it s.heap h'->Q x' {s with heap:=h',toks:=tk })->wpAny (model P w) A (Builtin.SmallTypes.nextOf (.ref it)) Q E s
 done:∀ (A:Around) (k:Nat) (s:Shared) (its:List Value) (Q:Value->Shared->Prop) (E:Value->Shared->Prop),A.handled=none->St k s.heap->Hs s.heap its->its[k]? = none ->
  (∀ h' e,Heap.ExtBut it s.heap h'->(∃ o,h'.get? e=some o/\o.cls = .type "StopIteration")->E (.ref e) {s with heap:=h' })->wpAny (model P w) A (Builtin.SmallTypes.nextOf (.ref it)) Q E s
theorem Zn6 {P:Program}{w:World}(it l:Addr):Drw P w it l (fun k h=>h.IsListIter it l k) (fun h its=>h.IsList l its.toArray) where
 obj:=fun k h st=>by
  obtain ⟨o,e,c,d⟩:=st
  exact ⟨o,e,fun v z=>by rw [d] at z; cases z⟩
 keep:=fun k h h' st kk=>st.at kk
 src:=fun h h' its hl kk=>hl.at kk
 item:=fun A k s its x Q E st hl hx hQ=>wpAny_nextOf_list_item st hl (by simpa using hx) fun h'=>hQ x h' s.toks (.inl rfl)
 done:=fun A k s its Q E hh st hl hx hE=>wpAny_nextOf_list_end hh st hl (by simpa using hx) hE
section
variable {P:Program}{w:World}{A:Around}{E:Value->Shared->Prop}{s:Shared}
theorem Zvt {it t:Addr}{k:Nat}{its:List Value}{x:Value}{Q:Value->Shared->Prop}(st:s.heap.IsTupleIter it t k) (ht:s.heap.IsTuple t its.toArray) (hx:its[k]? = some x)
  (hQ:∀ h',h'.IsTupleIter it t (k+1)->Heap.SameBut it s.heap h'->Q x {s with heap:=h' }):wpAny (model P w) A (Builtin.SmallTypes.nextOf (.ref it)) Q E s:=by
 obtain ⟨o,ho,hc,hd⟩:=id st
 obtain ⟨ot,hot,_,nt,hdt⟩:=id ht
 unfold Builtin.SmallTypes.nextOf
 refine wpAny_bind (wpAny_callSpecial?_slot (name:=Str.ofString "__next__") st.typeIs F.slot_tuple_iterator_next (wpAny_call_entry F.slot_tuple_iterator_next st.typeIs F.entry_tuple_iterator_next ?_ (F.args_tuple_iterator_next_1 _)))
 show wpAny _ _ (field (.ref it) 0 >>= _) _ _ s
 refine wpAny_bind (wpAny_field ho hd (x:=.ref t) rfl ?_)
 show wpAny _ _ (if (Value.ref t == Value.none)=true then _ else _) _ _ s
 rw [if_neg (show ¬ ((Value.ref t == Value.none)=true) from xE)]
 show wpAny _ _ (field (.ref it) 1 >>= _) _ _ s
 refine wpAny_bind (wpAny_field ho hd (x:=.int k 0) rfl ?_)
 show wpAny _ _ (seqItems? (.ref t) >>= _) _ _ s
 refine wpAny_bind (wpAny_seqItems hot hdt ?_)
 have hx':its.toArray[k]? = some x:=by simpa using hx
 simp only [Int.toNat_natCast,hx']
 refine wpAny_bind (wpAny_setField ho hd (by simp) ?_)
 refine wpAny_pure ⟨_,rfl,wpAny_pure (hQ _ ?_ (Heap.SameBut.update ..))⟩
 refine ⟨_,Heap.get?_update_self _ ho ?_,?_,?_⟩
 ·obtain ⟨c,d,dt,sl⟩:=o; subst hd; rfl
 ·obtain ⟨c,d,dt,sl⟩:=o; subst hd; exact hc
 ·obtain ⟨c,d,dt,sl⟩:=o; subst hd; rfl
theorem Zxe {it t:Addr}{k:Nat}{its:List Value}{Q:Value->Shared->Prop}(hh:A.handled=none) (st:s.heap.IsTupleIter it t k) (ht:s.heap.IsTuple t its.toArray) (hx:its[k]? = none)
  (hE:∀ h' e,Heap.ExtBut it s.heap h'->(∃ o,h'.get? e=some o/\o.cls = .type "StopIteration")->E (.ref e) {s with heap:=h' }):wpAny (model P w) A (Builtin.SmallTypes.nextOf (.ref it)) Q E s:=by
 obtain ⟨o,ho,hc,hd⟩:=id st
 obtain ⟨ot,hot,_,nt,hdt⟩:=id ht
 unfold Builtin.SmallTypes.nextOf
 refine wpAny_bind (wpAny_callSpecial?_slot (name:=Str.ofString "__next__") st.typeIs F.slot_tuple_iterator_next (wpAny_call_entry F.slot_tuple_iterator_next st.typeIs F.entry_tuple_iterator_next ?_ (F.args_tuple_iterator_next_1 _)))
 show wpAny _ _ (field (.ref it) 0 >>= _) _ _ s
 refine wpAny_bind (wpAny_field ho hd (x:=.ref t) rfl ?_)
 show wpAny _ _ (if (Value.ref t == Value.none)=true then _ else _) _ _ s
 rw [if_neg (show ¬ ((Value.ref t == Value.none)=true) from xE)]
 show wpAny _ _ (field (.ref it) 1 >>= _) _ _ s
 refine wpAny_bind (wpAny_field ho hd (x:=.int k 0) rfl ?_)
 show wpAny _ _ (seqItems? (.ref t) >>= _) _ _ s
 refine wpAny_bind (wpAny_seqItems hot hdt ?_)
 have hx':its.toArray[k]? = none:=by simpa using hx
 simp only [Int.toNat_natCast,hx']
 refine wpAny_bind (wpAny_rule (wpAny_bind (wpAny_setField ho hd (by simp) ?_)))
 show wpAny _ _ (newExc (.type "StopIteration") [] >>= _) _ _ _
 refine wpAny_bind ?_
 simp only [newExc,newTuple]
 refine wpAny_bind (wpAny_newObj_type ?_ (by size_fits))
 refine wpAny_bind (m:=firstArgMember _ _) (wpAny_of_eq (a:=Value.none) (by first | rfl | (simp only [firstArgMember]; rfl)) ?_)
 refine wpAny_newObj_type ?_ (by size_fits)
 simp only [raiseNew]
 refine wpAny_bind (wpAny_handled ?_)
 first | rw [show A.in1.handled=none from hh] | rw [hh]
 refine wpAny_bind (wpAny_pure (wpAny_throw ?_))
 exact hE _ _ (((Heap.SameBut.update ..).extBut.push _).push _) ⟨_,xI _ rfl,rfl⟩
end
theorem Zno {P:Program}{w:World}(it l:Addr):Drw P w it l (fun k h=>h.IsTupleIter it l k) (fun h its=>h.IsTuple l its.toArray) where
 obj:=fun k h st=>by
  obtain ⟨o,e,c,d⟩:=st
  exact ⟨o,e,fun v z=>by rw [d] at z; cases z⟩
 keep:=fun k h h' st kk=>st.at kk
 src:=fun h h' its hl kk=>let ⟨o,e,r⟩:=hl; ⟨o,kk o e,r⟩
 item:=fun A k s its x Q E st hl hx hQ=>Zvt st hl hx fun h'=>hQ x h' s.toks (.inl rfl)
 done:=fun A k s its Q E hh st hl hx hE=>Zxe hh st hl hx hE
structure ZA (z TI TO i1 i2 l1 l2:Addr):Prop where
 a1:TI≠z
 a2:TO≠z
 a3:i1≠z
 a4:i2≠z
 a5:TI≠TO
 a6:TI≠i1
 a7:TI≠i2
 a8:TO≠i1
 a9:TO≠i2
 a10:i1≠i2
 b1:l1≠z
 b2:l1≠TO
 b3:l1≠i1
 b4:l1≠i2
 b5:l2≠z
 b6:l2≠TO
 b7:l2≠i1
 b8:l2≠i2
section
variable {P:Program}{w:World}{A:Around}{E:Value->Shared->Prop}{s:Shared}{z TI TO i1 i2 l1 l2:Addr}{S1 S2:Nat->Heap->Prop}{H1 H2:Heap->List Value->Prop}{k:Nat}{xs ys:List Value}{x y a b:Value}
theorem Zxf {Q:Value->Shared->Prop}(Z:ZA z TI TO i1 i2 l1 l2) (D1:Drw P w i1 l1 S1 H1) (D2:Drw P w i2 l2 S2 H2) (hz:IsZip s.heap z TI TO .none) (hTI:IsPair s.heap TI (.ref i1) (.ref i2)) (hTO:IsPair s.heap TO a b)
  (st1:S1 k s.heap) (st2:S2 k s.heap) (h1:H1 s.heap xs) (h2:H2 s.heap ys) (hx:xs[k]? = some x) (hy:ys[k]? = some y)
  (hQ:∀ x' y' h' tk,Lik x x'->Lik y y'->IsZip h' z TI TO (rawInt s.heap.objs.size)->IsPair h' TO x' y'->S1 (k+1) h'->S2 (k+1) h'->IsPair h' s.heap.objs.size x' y' ->
   (∀ c o,c≠z->c≠TO->c≠i1->c≠i2->s.heap.get? c=some o->h'.get? c=some o)->Q (.ref s.heap.objs.size) {s with heap:=h',toks:=tk }) :
  wpAny (model P w) A (Builtin.«zip.__next__» ⟨[.ref z],[]⟩) (fun fin s'=>∃ v,fin = .done (.ret v)/\Q v s') E s:=by
 show wpAny _ _ (field (.ref z) 2 >>= _) _ _ _
 refine wpAny_bind (wpAny_field hz rfl (x:=.bool false) rfl ?_)
 show wpAny _ _ (field (.ref z) 3 >>= _) _ _ _
 refine wpAny_bind (wpAny_field hz rfl (x:=.ref TI) rfl (wpAny_bind (wpAny_seqItems hTI rfl ?_)))
 show wpAny _ _ (Builtin.SmallTypes.ownedTupleIsFree (.ref z) >>= _) _ _ _
 refine wpAny_bind ?_
 unfold Builtin.SmallTypes.ownedTupleIsFree
 refine wpAny_bind (wpAny_field hz rfl (x:=.none) rfl (wpAny_pure ?_))
 simp only [if_true]
 refine wpAny_bind (wpAny_rule (wpAny_bind (wpAny_field hz rfl (x:=.ref TO) rfl (wpAny_bind (wpAny_setField_rec hz (by simp) fun g1 z1 e1=>?_)))))
 replace z1:IsZip g1 z TI TO .ellipsis:=z1
 refine wpAny_bind ?_
 simp only [List.zipIdx_cons,List.zipIdx_nil,List.forIn_cons,List.forIn_nil]
 refine wpAny_bind (wpAny_bind (wpAny_onRaise ?_))
 show wpAny _ _ (Builtin.SmallTypes.nextOf (.ref i1) >>= _) _ _ _
 refine wpAny_bind (D1.item _ k _ xs x _ _ (D1.keep _ _ _ st1 fun o e=>e1.extBut _ _ Z.a3 e) (D1.src _ _ _ h1 fun o e=>e1.extBut _ _ Z.b1 e) hx fun x' g2 tk2 lx s12 e2=>wpAny_pure ?_)
 have t2:IsPair g2 TO a b:=e2.extBut _ _ Z.a8 (e1.extBut _ _ Z.a2 hTO)
 refine wpAny_bind (wpAny_seqItems t2 rfl (wpAny_bind (wpAny_updateSeq_pair t2 fun g3 t3 e3=>?_)))
 replace t3:IsPair g3 TO x' b:=t3
 refine wpAny_bind (wpAny_letGo (wpAny_pure (wpAny_bind (wpAny_bind (wpAny_onRaise ?_)))))
 show wpAny _ _ (Builtin.SmallTypes.nextOf (.ref i2) >>= _) _ _ _
 have up3:∀ c o,c≠z->c≠TO->c≠i1->s.heap.get? c=some o->g3.get? c=some o:=fun c o c1 c2 c3 e=>e3.extBut _ _ c2 (e2.extBut _ _ c3 (e1.extBut _ _ c1 e))
 refine wpAny_bind (D2.item _ k _ ys y _ _ (D2.keep _ _ _ st2 fun o e=>up3 _ _ Z.a4 Z.a9.symm Z.a10.symm e) (D2.src _ _ _ h2 fun o e=>up3 _ _ Z.b5 Z.b6 Z.b7 e) hy fun y' g4 tk4 ly s24 e4=>wpAny_pure ?_)
 have t4:IsPair g4 TO x' b:=e4.extBut _ _ Z.a9 t3
 refine wpAny_bind (wpAny_seqItems t4 rfl (wpAny_bind (wpAny_updateSeq_pair t4 fun g5 t5 e5=>?_)))
 replace t5:IsPair g5 TO x' y':=t5
 refine wpAny_bind (wpAny_letGo (wpAny_pure (wpAny_pure (wpAny_bind (wpAny_seqItems t5 rfl (wpAny_bind (wpAny_newTuple ?_)))))))
 have size5:g5.objs.size=s.heap.objs.size:=by rw [e5.1,e4.1,e3.1,e2.1,e1.1]
 have z5:IsZip g5 z TI TO .ellipsis:=e5.extBut _ _ Z.a2.symm (e4.extBut _ _ Z.a4.symm (e3.extBut _ _ Z.a2.symm (e2.extBut _ _ Z.a3.symm z1)))
 have up5:∀ c o,c≠z->c≠TO->c≠i1->c≠i2->s.heap.get? c=some o->g5.get? c=some o:=fun c o c1 c2 c3 c4 e=>e5.extBut _ _ c2 (e4.extBut _ _ c4 (up3 c o c1 c2 c3 e))
 have s15:S1 (k+1) g5:=D1.keep _ _ _ s12 fun o e=>e5.extBut _ _ Z.a8.symm (e4.extBut _ _ Z.a10 (e3.extBut _ _ Z.a8.symm e))
 have s25:S2 (k+1) g5:=D2.keep _ _ _ s24 fun o e=>e5.extBut _ _ Z.a9.symm e
 have zlt:z < g5.objs.size:=xF z5
 show wpAny _ _ (Builtin.SmallTypes.ownedTupleHandOut (.ref z) (.ref g5.objs.size) >>= _) _ _ _
 refine wpAny_bind ?_
 unfold Builtin.SmallTypes.ownedTupleHandOut
 have z6:IsZip (g5.push {cls:=.type "tuple", data:=.seq #[x',y'] }) z TI TO .ellipsis:=xA _ z5
 refine wpAny_bind (wpAny_setField_rec z6 (by simp) fun g7 z7 e7=>?_)
 replace z7:IsZip g7 z TI TO (rawInt g5.objs.size):=z7
 refine wpAny_setField_rec z7 (by simp) fun g8 z8 e8=>?_
 replace z8:IsZip g8 z TI TO (rawInt g5.objs.size):=z8
 have up8:∀ c o,c≠z->g5.get? c=some o->g8.get? c=some o:=fun c o c1 e=>e8.extBut _ _ c1 (e7.extBut _ _ c1 (xA _ e))
 have p8:IsPair g8 g5.objs.size x' y':=e8.extBut _ _ (Nat.ne_of_gt zlt) (e7.extBut _ _ (Nat.ne_of_gt zlt) (xI _ rfl))
 rw [size5] at z8 p8
 refine wpAny_pure ⟨_,rfl,?_⟩
 show Q (.ref g5.objs.size) _
 rw [size5]
 exact hQ x' y' g8 _ lx ly z8 (up8 _ _ Z.a2 t5) (D1.keep _ _ _ s15 fun o e=>up8 _ _ Z.a3 e) (D2.keep _ _ _ s25 fun o e=>up8 _ _ Z.a4 e) p8 fun c o c1 c2 c3 c4 e=>up8 c o c1 (up5 c o c1 c2 c3 c4 e)
theorem Zyw {Q:PySem.Fin->Shared->Prop}(hh:A.handled=none) (Z:ZA z TI TO i1 i2 l1 l2) (D1:Drw P w i1 l1 S1 H1) (D2:Drw P w i2 l2 S2 H2) (hz:IsZip s.heap z TI TO .none) (hTI:IsPair s.heap TI (.ref i1) (.ref i2)) (hTO:IsPair s.heap TO a b)
  (st1:S1 k s.heap) (st2:S2 k s.heap) (h1:H1 s.heap xs) (h2:H2 s.heap ys) (hend:xs[k]? = none\/ys[k]? = none)
  (hE:∀ h' e tk,(∀ c o,c≠z->c≠TO->c≠i1->c≠i2->s.heap.get? c=some o->h'.get? c=some o)->(∃ o,h'.get? e=some o/\o.cls = .type "StopIteration")->E (.ref e) {s with heap:=h',toks:=tk }) :
  wpAny (model P w) A (Builtin.«zip.__next__» ⟨[.ref z],[]⟩) Q E s:=by
 show wpAny _ _ (field (.ref z) 2 >>= _) _ _ _
 refine wpAny_bind (wpAny_field hz rfl (x:=.bool false) rfl ?_)
 show wpAny _ _ (field (.ref z) 3 >>= _) _ _ _
 refine wpAny_bind (wpAny_field hz rfl (x:=.ref TI) rfl (wpAny_bind (wpAny_seqItems hTI rfl ?_)))
 show wpAny _ _ (Builtin.SmallTypes.ownedTupleIsFree (.ref z) >>= _) _ _ _
 refine wpAny_bind ?_
 unfold Builtin.SmallTypes.ownedTupleIsFree
 refine wpAny_bind (wpAny_field hz rfl (x:=.none) rfl (wpAny_pure ?_))
 simp only [if_true]
 refine wpAny_bind (wpAny_rule (wpAny_bind (wpAny_field hz rfl (x:=.ref TO) rfl (wpAny_bind (wpAny_setField_rec hz (by simp) fun g1 z1 e1=>?_)))))
 replace z1:IsZip g1 z TI TO .ellipsis:=z1
 refine wpAny_bind ?_
 simp only [List.zipIdx_cons,List.zipIdx_nil,List.forIn_cons,List.forIn_nil]
 refine wpAny_bind (wpAny_bind (wpAny_onRaise ?_))
 show wpAny _ _ (Builtin.SmallTypes.nextOf (.ref i1) >>= _) _ _ _
 have st1':=D1.keep _ _ _ st1 fun o e=>e1.extBut _ _ Z.a3 e
 have h1':=D1.src _ _ _ h1 fun o e=>e1.extBut _ _ Z.b1 e
 cases hx:xs[k]? with
 | none =>
  refine wpAny_bind (D1.done _ k _ xs _ _ hh st1' h1' hx fun g2 e e2 ⟨oe,hoe,hce⟩=>?_)
  have z2:IsZip g2 z TI TO .ellipsis:=e2 _ _ Z.a3.symm z1
  have ne:e≠z:=fun q=>by subst q; rw [z2] at hoe; cases hoe; simp at hce
  exact wpAny_setField_rec z2 (by simp) fun g3 _ e3=>hE g3 e s.toks (fun c o c1 _ c3 _ q=>e3.extBut _ _ c1 (e2 _ _ c3 (e1.extBut _ _ c1 q))) ⟨oe,e3.extBut _ _ ne hoe,hce⟩
 | some x =>
  have hy:ys[k]? = none:=hend.elim (fun q=>by rw [hx] at q; cases q) id
  refine wpAny_bind (D1.item _ k _ xs x _ _ st1' h1' hx fun x' g2 tk2 lx s12 e2=>wpAny_pure ?_)
  have t2:IsPair g2 TO a b:=e2.extBut _ _ Z.a8 (e1.extBut _ _ Z.a2 hTO)
  refine wpAny_bind (wpAny_seqItems t2 rfl (wpAny_bind (wpAny_updateSeq_pair t2 fun g3 t3 e3=>?_)))
  refine wpAny_bind (wpAny_letGo (wpAny_pure (wpAny_bind (wpAny_bind (wpAny_onRaise ?_)))))
  show wpAny _ _ (Builtin.SmallTypes.nextOf (.ref i2) >>= _) _ _ _
  have up3:∀ c o,c≠z->c≠TO->c≠i1->s.heap.get? c=some o->g3.get? c=some o:=fun c o c1 c2 c3 e=>e3.extBut _ _ c2 (e2.extBut _ _ c3 (e1.extBut _ _ c1 e))
  refine wpAny_bind (D2.done _ k _ ys _ _ hh (D2.keep _ _ _ st2 fun o e=>up3 _ _ Z.a4 Z.a9.symm Z.a10.symm e) (D2.src _ _ _ h2 fun o e=>up3 _ _ Z.b5 Z.b6 Z.b7 e) hy fun g4 e e4 ⟨oe,hoe,hce⟩=>?_)
  have z4:IsZip g4 z TI TO .ellipsis:=e4 _ _ Z.a4.symm (e3.extBut _ _ Z.a2.symm (e2.extBut _ _ Z.a3.symm z1))
  have ne:e≠z:=fun q=>by subst q; rw [z4] at hoe; cases hoe; simp at hce
  exact wpAny_setField_rec z4 (by simp) fun g5 _ e5=>hE g5 e _ (fun c o c1 c2 c3 c4 q=>e5.extBut _ _ c1 (e4 _ _ c4 (up3 c o c1 c2 c3 q))) ⟨oe,e5.extBut _ _ ne hoe,hce⟩
end
structure SqK (sq:uFg->Hp->Addr->List V->Prop) (Hs:Addr->Heap->List Value->Prop):Prop where
 get:∀ {X:Cx}{pins:List (Addr×Obj)}{σ:St}{H:Hp}{s:Shared}{l:Addr}{xs:List V},Inv X pins σ H s->sq X.K H l xs->∃ its,Vals xs its/\Hs l s.heap its
 inj:∀ {X:Cx}{pins:List (Addr×Obj)}{σ:St}{H:Hp}{s:Shared}{l:Addr}{xs ys:List V},Inv X pins σ H s->sq X.K H l xs->sq X.K H l ys->xs=ys
theorem Zyx:SqK SqL (fun l h its=>h.IsList l its.toArray):=⟨fun I h=>let ⟨its,r,p,_⟩:=I.list h; ⟨its,r,p.isList⟩,fun I h h'=>I.list_inj h h'⟩
theorem Z0z:SqK SqT (fun l h its=>h.IsTuple l its.toArray):=⟨fun I h=>let ⟨its,r,p,_⟩:=I.tuple h; ⟨its,r,p⟩,fun I h h'=>I.tuple_inj h h'⟩
def Itz (sq:uFg->Hp->Addr->List V->Prop) (K:uFg) (l1 l2:Addr):It :=
 ⟨fun i H=>∃ xs ys,sq K H l1 xs/\sq K H l2 ys/\i < xs.length/\i < ys.length,fun i H v H'=>∃ p a b,v = .ref p/\H p=none/\H'=upd H p (.tup [a,b])/\∀ xs ys,sq K H l1 xs->sq K H l2 ys->xs[i]? = some a/\ys[i]? = some b,
  fun i H=>∃ xs ys,sq K H l1 xs/\sq K H l2 ys/\(xs.length<=i\/ys.length<=i)⟩
theorem Zyy {P:Program}{w:World}{K:uFg}{elts:List Expr}{ek:Nat}{epos:Pos}{sq:uFg->Hp->Addr->List V->Prop}{Hs:Addr->Heap->List Value->Prop}{z TI TO i1 i2 l1 l2:Addr}{S1 S2:Nat->Heap->Prop}
  (SK:SqK sq Hs) (Z:ZA z TI TO i1 i2 l1 l2) (D1:Drw P w i1 l1 S1 (Hs l1)) (D2:Drw P w i2 l2 S2 (Hs l2)) :
  Turn P w K (.Tuple elts ek epos) (Itz sq K l1 l2) [z,TI,TO,i1,i2] z (fun i h=>IsZip h z TI TO .none/\IsPair h TI (.ref i1) (.ref i2)/\(∃ a b,IsPair h TO a b)/\S1 i h/\S2 i h) where
 mem:=by simp
 obj:=fun i h st b hb=>by
  obtain ⟨hz,hTI,⟨a,c,hTO⟩,s1,s2⟩:=st
  simp only [xC,xQ,or_false] at hb
  rcases hb with rfl | rfl | rfl | rfl | rfl
  ·exact ⟨_,hz,fun v q=>by cases q⟩
  ·exact ⟨_,hTI,fun v q=>by cases q⟩
  ·exact ⟨_,hTO,fun v q=>by cases q⟩
  ·exact D1.obj _ _ s1
  ·exact D2.obj _ _ s2
 keep:=fun i h h' st k=>by
  obtain ⟨hz,hTI,⟨a,c,hTO⟩,s1,s2⟩:=st
  exact ⟨k z (by simp) _ hz,k TI (by simp) _ hTI,⟨a,c,k TO (by simp) _ hTO⟩,D1.keep _ _ _ s1 fun o e=>k i1 (by simp) o e,D2.keep _ _ _ s2 fun o e=>k i2 (by simp) o e⟩
 item:=by
  intro X hP hw hK hc i pins s σ H E I hf st hg
  subst hP hw hK
  obtain ⟨hz,hTI,⟨a,b,hTO⟩,s1,s2⟩:=st
  obtain ⟨xs,ys,q1,q2,hx,hy⟩:=hg
  obtain ⟨its1,r1,w1⟩:=SK.get I q1
  obtain ⟨its2,r2,w2⟩:=SK.get I q2
  have gx:xs[i]? = some xs[i]:=xH hx
  have gy:ys[i]? = some ys[i]:=xH hy
  obtain ⟨u1,hu1,ru1⟩:=r1.get gx
  obtain ⟨u2,hu2,ru2⟩:=r2.get gy
  have hT:s.TypeIs (.ref z) "zip" := ⟨_,hz,rfl⟩
  unfold pyNext
  refine wpAny_bind (wpAny_attempt (wpAny_callSpecial?_slot (name:=Str.ofString "__next__") hT F.slot_zip_next (wpAny_call_entry F.slot_zip_next hT F.entry_zip_next
   (Zxf Z D1 D2 hz hTI hTO s1 s2 w1 w2 hu1 hu2 fun u1' u2' h' tk l1' l2' z1 t1 n1 n2 p1 kp=>wpAny_pure ?_) (F.args_zip_next_1 _))))
  refine ⟨_,rfl,?_⟩
  have nfp:∀ c,c ∈ [z,TO,i1,i2]->c ∈ [z,TI,TO,i1,i2]:=fun c hc=>by
   simp only [xC,xQ,or_false] at hc ⊢
   rcases hc with q | q | q | q
   ·exact .inl q
   ·exact .inr (.inr (.inl q))
   ·exact .inr (.inr (.inr (.inl q)))
   ·exact .inr (.inr (.inr (.inr q)))
  have kp':∀ c o,c ∉ [z,TO,i1,i2]->s.heap.get? c=some o->h'.get? c=some o:=fun c o hc e=>kp c o (fun q=>hc (by simp [q])) (fun q=>hc (by simp [q])) (fun q=>hc (by simp [q])) (fun q=>hc (by simp [q])) e
  have hp:H s.heap.objs.size=none:=I.hok.fresh (xB _)
  have ltp:∀ c o,s.heap.get? c=some o->c≠s.heap.objs.size:=fun c o e=>yD (xF e)
  have ntr:∀ c u,H c=some u->c ∉ [z,TO,i1,i2]:=fun c u e hc=>by
   have:=(hf c (nfp c hc)).1
   rw [this] at e; cases e
  have there4:∀ c,c ∈ [z,TO,i1,i2]->∃ o',h'.get? c=some o':=fun c hc=>by
   simp only [xC,xQ,or_false] at hc
   rcases hc with rfl | rfl | rfl | rfl
   ·exact ⟨_,z1⟩
   ·exact ⟨_,t1⟩
   ·obtain ⟨o,e,_⟩:=D1.obj _ _ n1; exact ⟨o,e⟩
   ·obtain ⟨o,e,_⟩:=D2.obj _ _ n2; exact ⟨o,e⟩
  have I1:Inv X pins σ (upd H s.heap.objs.size (.tup [xs[i],ys[i]])) {s with heap:=h',toks:=tk }:=by
   refine I.step (g':=s.gens) (d':=s.drawn) (t':=tk) (ch:=[z,TO,i1,i2]) (fun c hc=>?_) (fun c o _ _ hc e _=>kp' c o hc e) (fun c o _ _ hc e _=>⟨o.slots,kp' c o hc e⟩) (fun c o hc e n=>by rw [Zd (ltp c o e)]; exact n)
    (fun c o hc e=>⟨o,kp' c o hc e⟩) (fun c us e=>by rw [Zd (Zj e hp)]; exact e) (fun c o u e=>by rw [Zd (Zj e hp)]; exact e) (fun c ps e=>⟨#[],by rw [Zd (Zj e hp),e]; simp⟩) (fun m hm=>?_) ?_ I.bare
   ·obtain ⟨f0,f1,f2,f3,f4,f5⟩:=hf c (nfp c hc)
    exact ⟨f3,f1,f4,f5⟩
   ·refine hm.at fun o e=>kp' _ o (fun hc=>?_) e
    exact (hf _ (nfp _ hc)).2.1 rfl
   ·intro c u e
    by_cases hcp:c=s.heap.objs.size
    ·subst hcp
     rw [Zi] at e
     cases e
     exact ⟨by show 2<=sizeLine; decide,[u1',u2'],.cons (l1'.rel ru1) (.cons (l2'.rel ru2) .nil),⟨_,p1,rfl,_,rfl⟩⟩
    ·rw [Zd hcp] at e
     refine (I.hok c u e).stay (fun d v hd q=>kp' d v ?_ q) (fun d q=>by rw [Zd (Zj q hp)]; exact q) fun d us q=>by rw [Zd (Zj q hp)]; exact q
     rcases hd with rfl | hd
     ·exact ntr _ u e
     ·exact ntr _ _ hd
  refine wpAny_letOwnedTupleGo_zip (s:={s with heap:=h',toks:=tk }) z1 fun h2 z2 e2=>?_
  obtain ⟨f0,f1,f2,f3,f4,f5⟩:=hf z (by simp)
  have nz:z≠s.heap.objs.size:=ltp z _ hz
  have I2:Inv X pins σ (upd H s.heap.objs.size (.tup [xs[i],ys[i]])) {s with heap:=h2,toks:=tk }:=I1.turned (s:={s with heap:=h',toks:=tk }) (it:=z) (t':=tk) (fun c o hc e=>(e2.2 c hc).trans e) (by rw [Zd nz]; exact f0) f1 f3 f4 f5
  refine ⟨.ref s.heap.objs.size,_,I2,rfl,⟨s.heap.objs.size,xs[i],ys[i],rfl,hp,rfl,fun xs' ys' q1' q2'=>?_⟩,⟨z2,(e2.2 _ Z.a1).trans (kp' TI _ (fun hc=>?_) hTI),⟨_,_,(e2.2 _ Z.a2).trans t1⟩,D1.keep _ _ _ n1 fun o e=>(e2.2 _ Z.a3).trans e,D2.keep _ _ _ n2 fun o e=>(e2.2 _ Z.a4).trans e⟩,fun c hc=>?_⟩
  ·rw [SK.inj I q1' q1,SK.inj I q2' q2]
   exact ⟨gx,gy⟩
  ·simp only [xC,xQ,or_false] at hc
   rcases hc with q | q | q | q
   ·exact Z.a1 q
   ·exact Z.a5 q
   ·exact Z.a6 q
   ·exact Z.a7 q
  ·obtain ⟨o,ho⟩:∃ o,s.heap.get? c=some o:=by
    simp only [xC,xQ,or_false] at hc
    rcases hc with rfl | rfl | rfl | rfl | rfl
    ·exact ⟨_,hz⟩
    ·exact ⟨_,hTI⟩
    ·exact ⟨_,hTO⟩
    ·obtain ⟨o,e,_⟩:=D1.obj _ _ s1; exact ⟨o,e⟩
    ·obtain ⟨o,e,_⟩:=D2.obj _ _ s2; exact ⟨o,e⟩
   rw [Zd (ltp c o ho)]
   exact (hf c hc).1
 done:=by
  intro X hP hw hK hc i pins s σ H E I hf st hg
  subst hP hw hK
  obtain ⟨hz,hTI,⟨a,b,hTO⟩,s1,s2⟩:=st
  obtain ⟨xs,ys,q1,q2,hend⟩:=hg
  obtain ⟨its1,r1,w1⟩:=SK.get I q1
  obtain ⟨its2,r2,w2⟩:=SK.get I q2
  have hT:s.TypeIs (.ref z) "zip" := ⟨_,hz,rfl⟩
  have hend':its1[i]? = none\/its2[i]? = none:=by
   have e1:=r1.length
   have e2:=r2.length
   rcases hend with q | q
   ·exact .inl (List.getElem?_eq_none (by lia))
   ·exact .inr (List.getElem?_eq_none (by lia))
  unfold pyNext
  refine wpAny_bind (wpAny_attempt (wpAny_callSpecial?_slot (name:=Str.ofString "__next__") hT F.slot_zip_next (wpAny_call_entry F.slot_zip_next hT F.entry_zip_next (Zyw (I.ok.hd hc) Z D1 D2 hz hTI hTO s1 s2 w1 w2 hend' fun h' e tk kp ⟨o,ho,hcl⟩=>?_) (F.args_zip_next_1 _))))
  refine wpAny_bind (wpAny_isInstance (T := "StopIteration") (b:=true) ⟨o,ho,hcl⟩ isSubtype_stop (wpAny_pure ⟨rfl,?_⟩))
  have nfp:∀ c,c ∈ [z,TO,i1,i2]->c ∈ [z,TI,TO,i1,i2]:=fun c hc=>by
   simp only [xC,xQ,or_false] at hc ⊢
   rcases hc with q | q | q | q
   ·exact .inl q
   ·exact .inr (.inr (.inl q))
   ·exact .inr (.inr (.inr (.inl q)))
   ·exact .inr (.inr (.inr (.inr q)))
  have kp':∀ c o,c ∉ [z,TO,i1,i2]->s.heap.get? c=some o->h'.get? c=some o:=fun c o hc e=>kp c o (fun q=>hc (by simp [q])) (fun q=>hc (by simp [q])) (fun q=>hc (by simp [q])) (fun q=>hc (by simp [q])) e
  have ntr:∀ c u,H c=some u->c ∉ [z,TO,i1,i2]:=fun c u e hc=>by
   have:=(hf c (nfp c hc)).1
   rw [this] at e; cases e
  refine I.step (g':=s.gens) (d':=s.drawn) (t':=tk) (ch:=[z,TO,i1,i2]) (fun c hc=>?_) (fun c o _ _ hc e _=>kp' c o hc e) (fun c o _ _ hc e _=>⟨o.slots,kp' c o hc e⟩) (fun c o hc e n=>n)
   (fun c o hc e=>⟨o,kp' c o hc e⟩) (fun c us e=>e) (fun c o u e=>e) (fun c ps e=>⟨#[],by rw [e]; simp⟩) (fun m hm=>?_) ?_ I.bare
  ·obtain ⟨f0,f1,f2,f3,f4,f5⟩:=hf c (nfp c hc)
   exact ⟨f3,f1,f4,f5⟩
  ·refine hm.at fun o e=>kp' _ o (fun hc=>?_) e
   exact (hf _ (nfp _ hc)).2.1 rfl
  ·intro c u e
   refine (I.hok c u e).stay (fun d v hd q=>kp' d v ?_ q) (fun d q=>q) fun d us q=>q
   rcases hd with rfl | hd
   ·exact ntr _ u e
   ·exact ntr _ _ hd
 self:=fun A i s Q E st h=>wpAny_pyIter_zip st.1 h
abbrev tzA (h:Heap) (t1:Addr):Heap:=h.push {cls:=.type "tuple_iterator", data:=.fields #[.ref t1,.int 0 0] }
abbrev tzB (h:Heap) (t1 t2:Addr):Heap:=(tzA h t1).push {cls:=.type "tuple_iterator", data:=.fields #[.ref t2,.int 0 0] }
abbrev tzC (h:Heap) (t1 t2:Addr):Heap:=(tzB h t1 t2).push {cls:=.type "tuple", data:=.seq #[.ref h.objs.size,.ref (tzA h t1).objs.size] }
abbrev tzD (h:Heap) (t1 t2:Addr):Heap:=(tzC h t1 t2).push {cls:=.type "tuple", data:=.seq #[.none,.none] }
abbrev tzE (h:Heap) (t1 t2:Addr):Heap:=(tzD h t1 t2).push {cls:=.type "zip", data:=.fields #[.none,.bool false,.bool false,.ref (tzB h t1 t2).objs.size,.ref (tzC h t1 t2).objs.size] }
theorem Zvu (l1 l2:Addr) (xs ys:Array Value):Meets (Builtin.«zip.__new__» ⟨[.type "zip", .ref l1,.ref l2],[]⟩) (fun _ R s=>s.heap.IsTuple l1 xs/\s.heap.IsTuple l2 ys/\R (.ok (.ret (.ref (tzD s.heap l1 l2).objs.size))) {s with heap:=tzE s.heap l1 l2 }) :=
 .of_wp fun prog w A R s h=>by
  obtain ⟨hp,g,d,tk,os⟩:=s; obtain ⟨hl1,hl2,h⟩:=h
  have hsub:=sub_zip
  have hL1:Heap.IsTuple (Shared.heap ⟨hp,g,d,tk,os⟩) l1 xs:=hl1
  have hL2:Heap.IsTuple (Shared.heap ⟨tzA hp l1,g,d,tk,os⟩) l2 ys:=let ⟨o,e,r⟩:=hl2; ⟨o,xA _ e,r⟩
  wp_walk using wpAny_pyIter_tuple hL1,wpAny_pyIter_tuple hL2
  exact ⟨_,rfl,h⟩
section
variable {P:Program}{w:World}{A:Around}{E:Value->Shared->Prop}{s:Shared}
theorem Zxg {l1 l2:Addr}{xs ys:Array Value}{Q:Value->Shared->Prop}(hl1:s.heap.IsTuple l1 xs) (hl2:s.heap.IsTuple l2 ys)
  (h:∀ h',IsZip h' (s.heap.objs.size+4) (s.heap.objs.size+2) (s.heap.objs.size+3) .none->IsPair h' (s.heap.objs.size+2) (.ref s.heap.objs.size) (.ref (s.heap.objs.size+1)) ->
   IsPair h' (s.heap.objs.size+3) .none .none->h'.IsTupleIter s.heap.objs.size l1 0->h'.IsTupleIter (s.heap.objs.size+1) l2 0 ->
   (∀ c o,s.heap.get? c=some o->h'.get? c=some o)->Q (.ref (s.heap.objs.size+4)) {s with heap:=h' }):wpAny (model P w) A (call (.type "zip") [.ref l1,.ref l2]) Q E s:=by
 refine callType_new F.called_zip (by decide) (F.typeCall_zip_2 _ _) (F.newCall_zip_2 _ _) (fun obj=>F.args_object_init_3 obj _ _) F.entry_zip_new (Zvu l1 l2 xs ys) ⟨hl1,hl2,?_⟩
 have n1:(tzA s.heap l1).objs.size=s.heap.objs.size+1:=Heap.size_push ..
 have n2:(tzB s.heap l1 l2).objs.size=s.heap.objs.size+2:=by rw [Heap.size_push,n1]
 have n3:(tzC s.heap l1 l2).objs.size=s.heap.objs.size+3:=by rw [Heap.size_push,n2]
 have n4:(tzD s.heap l1 l2).objs.size=s.heap.objs.size+4:=by rw [Heap.size_push,n3]
 have q5:(tzE s.heap l1 l2).get? (tzD s.heap l1 l2).objs.size=some _:=xI _ rfl
 have q4:(tzE s.heap l1 l2).get? (tzC s.heap l1 l2).objs.size=some _:=xA _ (xI _ rfl)
 have q3:(tzE s.heap l1 l2).get? (tzB s.heap l1 l2).objs.size=some _:=xA _ (xA _ (xI _ rfl))
 have q2:(tzE s.heap l1 l2).get? (tzA s.heap l1).objs.size=some _:=xA _ (xA _ (xA _ (xI _ rfl)))
 have q1:(tzE s.heap l1 l2).get? s.heap.objs.size=some _:=xA _ (xA _ (xA _ (xA _ (xI _ rfl))))
 show _/\_
 rw [n2,n3,n4] at q5
 rw [n1,n2] at q3
 rw [n3] at q4
 rw [n1] at q2
 rw [n4]
 exact ⟨⟨_,q5,rfl⟩,h _ q5 q3 q4 ⟨_,q1,rfl,rfl⟩ ⟨_,q2,rfl,rfl⟩ fun c o x=>xA _ (xA _ (xA _ (xA _ (xA _ x))))⟩
end
theorem Z4h {n l1 l2:Addr}(h1:l1 < n) (h2:l2 < n):ZA (n+4) (n+2) (n+3) n (n+1) l1 l2:=by
 have h1 : @LT.lt Nat _ l1 n:=h1
 have h2 : @LT.lt Nat _ l2 n:=h2
 have key:∀ (a b:Nat),(a < b\/b < a)->¬ (@Eq Nat a b):=fun a b h q=>by lia
 exact ⟨key _ _ (by lia),key _ _ (by lia),key _ _ (by lia),key _ _ (by lia),key _ _ (by lia),key _ _ (by lia),key _ _ (by lia),key _ _ (by lia),key _ _ (by lia),key _ _ (by lia),
  key _ _ (by lia),key _ _ (by lia),key _ _ (by lia),key _ _ (by lia),key _ _ (by lia),key _ _ (by lia),key _ _ (by lia),key _ _ (by lia)⟩
def Zt9 (K:uFg) (ta:TA):TI:=fun σ H R=>ta σ H fun vs H1=>∃ l1 l2,vs = [.ref l1,.ref l2] /\
 ((∃ xs ys,SqL K H1 l1 xs/\SqL K H1 l2 ys/\R (Itz SqL K l1 l2) H1)\/(∃ xs ys,SqT K H1 l1 xs/\SqT K H1 l2 ys/\R (Itz SqT K l1 l2) H1))
theorem Z3d {X:Cx}{a b:Expr}{ta:TA}{p pos:Pos}{elts:List Expr}{ek:Nat}{epos:Pos}(hg:Gl X "zip") (hm:X.mg "zip" = none) (ha:PA X [a,b] ta) (hs:starEach [a,b] X.env = [(false,eval a X.env),(false,eval b X.env)]:=by rfl) (hs2:starEach [b] X.env = [(false,eval b X.env)]:=by rfl) :
  PI X (.Tuple elts ek epos) (.Call (.Name "zip" p) [a,b] [] pos) (Zt9 X.K ta):=by
 intro pins s σ H R I h
 refine Call_ (Zc3 I hg hm boot_zip (PyProof.Rows.callWith_type1 (thn (ha pos pins s σ H _ I h) fun us s1 ⟨vs,H1,I1,r1,q1⟩=>?_) (by rw [hs,hs2]) (by rw [hs2]; rfl)))
 obtain ⟨l1,l2,e,q1⟩:=q1
 subst e
 obtain ⟨u1,u2,rfl,ru1,ru2⟩:=Zra r1
 cases ru1
 cases ru2
 have fin:∀ {sq:uFg->Hp->Addr->List V->Prop}{Hs:Addr->Heap->List Value->Prop}{S1 S2:Nat->Heap->Prop}{h':Heap},SqK sq Hs->l1 < s1.heap.objs.size->l2 < s1.heap.objs.size->Drw X.prog X.w s1.heap.objs.size l1 S1 (Hs l1)->Drw X.prog X.w (s1.heap.objs.size+1) l2 S2 (Hs l2) ->
   IsZip h' (s1.heap.objs.size+4) (s1.heap.objs.size+2) (s1.heap.objs.size+3) .none->IsPair h' (s1.heap.objs.size+2) (.ref s1.heap.objs.size) (.ref (s1.heap.objs.size+1))->IsPair h' (s1.heap.objs.size+3) .none .none->S1 0 h'->S2 0 h'->(∀ c o,s1.heap.get? c=some o->h'.get? c=some o)->R (Itz sq X.K l1 l2) H1 ->
   wpAny (model X.prog X.w) X.A (pyIter (.ref (s1.heap.objs.size+4))) (PIE X pins σ (.Tuple elts ek epos) R) X.xe {s1 with heap:=h' }:=by
  intro sq Hs S1 S2 h' SK b1 b2 D1 D2 z0 t1 t0 st1 st2 kp q
  refine wpAny_pyIter_zip z0 ?_
  refine ⟨s1.heap.objs.size+4,_,_,_,H1,rfl,I1.kept (h':=h') (t':=s1.toks) kp,Zyy SK (Z4h b1 b2) D1 D2,⟨z0,t1,⟨_,_,t0⟩,st1,st2⟩,fun c hc=>?_,q⟩
  have hle:s1.heap.objs.size<=c:=by
   simp only [xC,xQ,or_false] at hc
   have:(s1.heap.objs.size:Nat)<=(c:Nat):=by rcases hc with rfl | rfl | rfl | rfl | rfl <;> lia
   exact this
  exact I1.fpOk hle (I1.hok.fresh hle)
 rcases q1 with ⟨xs,ys,h1,h2,q⟩ | ⟨xs,ys,h1,h2,q⟩
 ·obtain ⟨its1,r1,p1,_⟩:=I1.list h1
  obtain ⟨its2,r2,p2,_⟩:=I1.list h2
  have b1:l1 < s1.heap.objs.size:=by obtain ⟨o,n,e,_⟩:=p1; exact xF e
  have b2:l2 < s1.heap.objs.size:=by obtain ⟨o,n,e,_⟩:=p2; exact xF e
  exact call_zip_2 p1.isList p2.isList fun h' z0 t1 t0 st1 st2 _ kp=>fin Zyx b1 b2 (Zn6 _ _) (Zn6 _ _) z0 t1 t0 st1 st2 kp q
 ·obtain ⟨its1,r1,p1,_⟩:=I1.tuple h1
  obtain ⟨its2,r2,p2,_⟩:=I1.tuple h2
  have b1:l1 < s1.heap.objs.size:=by obtain ⟨o,e,_⟩:=p1; exact xF e
  have b2:l2 < s1.heap.objs.size:=by obtain ⟨o,e,_⟩:=p2; exact xF e
  exact Zxg p1 p2 fun h' z0 t1 t0 st1 st2 kp=>fin Z0z b1 b2 (Zno _ _) (Zno _ _) z0 t1 t0 st1 st2 kp q
theorem Z3e {X:Cx}{a b:Expr}{ta:TA}{p pos:Pos}{elts:List Expr}{ek:Nat}{epos:Pos}(hg:Gl X "zip") (hm:X.mg "zip" = none) (ha:QA X [a,b] ta) (hs:starEach [a,b] X.env = [(false,eval a X.env),(false,eval b X.env)]:=by rfl) (hs2:starEach [b] X.env = [(false,eval b X.env)]:=by rfl) :
  QI X (.Tuple elts ek epos) (.Call (.Name "zip" p) [a,b] [] pos) (Zt9 X.K ta):=⟨Z3d hg hm ha.h hs hs2⟩
theorem Zn7 {sq:uFg->Hp->Addr->List V->Prop}{K:uFg}{l1 l2:Addr}{g:TG}{tb:TS}{D:Ends}{σ:St}{H:Hp}(xs ys:List V) (hxy:xs.length=ys.length) (Pv:Nat->St->Hp->Prop) (h0:Pv 0 σ H) (hl:∀ i σ H,i<=xs.length->Pv i σ H->sq K H l1 xs/\sq K H l2 ys)
  (hs:∀ i x y p σ H,xs[i]? = some x->ys[i]? = some y->Pv i σ H->H p=none->g (.ref p) σ (upd H p (.tup [x,y])) fun σ2 H2=>tb {D with nx:=Pv (i+1),ct:=Pv (i+1),bk:=D.nx } σ2 H2) (hd:∀ σ H,Pv xs.length σ H->D.nx σ H):Zb4 (Itz sq K l1 l2) g tb D σ H:=by
 refine ⟨fun i m σ H=>m=xs.length - i/\i<=xs.length/\Pv i σ H,⟨xs.length,by simp,yQ _,h0⟩,?_⟩
 rintro i m σ H ⟨rfl,hi,p⟩
 obtain ⟨q1,q2⟩:=hl i σ H hi p
 by_cases hlt:i < xs.length
 ·refine .inr ⟨⟨xs,ys,q1,q2,hlt,by lia⟩,Pv (i+1),fun σ' H' p'=>⟨xs.length - (i+1),by lia,rfl,hlt,p'⟩,fun v H' y=>?_⟩
  obtain ⟨pp,a,b,rfl,hp,rfl,hv⟩:=y
  obtain ⟨e1,e2⟩:=hv xs ys q1 q2
  exact hs i a b pp σ H e1 e2 p hp
 ·have e:i=xs.length:=by lia
  subst e
  exact .inl ⟨⟨xs,ys,q1,q2,.inl (xB _)⟩,hd σ H p⟩
end L2
end
section
namespace L2
open PySem PySem.Spec PyProof.Rows
inductive D where
 | non | bl (b:Bool) | int (i:Int) | str (x:Str) | tup (xs:List D) | lst (xs:List D)
mutual
def Rep (H:Hp):D->V->Prop
 | .non,v=>v = .non
 | .bl b,v=>v = .bl b
 | .int i,v=>v = .int i
 | .str x,v=>v = .str x
 | .tup ds,v=>∃ a vs,v = .ref a/\H a=some (.tup vs)/\RepL H ds vs
 | .lst ds,v=>∃ a vs,v = .ref a/\H a=some (.lst vs)/\RepL H ds vs
def RepL (H:Hp):List D->List V->Prop
 | [],vs=>vs = []
 | d::ds,vs=>∃ v r,vs=v::r/\Rep H d v/\RepL H ds r
end
mutual
theorem Rep.mono {H H':Hp}(k:Same H H'):∀ (d:D) (v:V),Rep H d v->Rep H' d v
 | .non,v,h=>h
 | .bl b,v,h=>h
 | .int i,v,h=>h
 | .str x,v,h=>h
 | .tup ds,v,h=>by
  obtain ⟨a,vs,e,h1,h2⟩:=h
  exact ⟨a,vs,e,k _ _ h1,RepL.mono k ds vs h2⟩
 | .lst ds,v,h=>by
  obtain ⟨a,vs,e,h1,h2⟩:=h
  exact ⟨a,vs,e,k _ _ h1,RepL.mono k ds vs h2⟩
theorem RepL.mono {H H':Hp}(k:Same H H'):∀ (ds:List D) (vs:List V),RepL H ds vs->RepL H' ds vs
 | [],vs,h=>h
 | d::ds,vs,h=>by
  obtain ⟨v,r,e,h1,h2⟩:=h
  exact ⟨v,r,e,Rep.mono k d v h1,RepL.mono k ds r h2⟩
end
theorem RepL.length {H:Hp}:∀ {ds:List D}{vs:List V},RepL H ds vs->vs.length=ds.length
 | [],vs,h=>by cases h; rfl
 | d::ds,vs,h=>by
  obtain ⟨v,r,rfl,h1,h2⟩:=h
  rw [xG,xG,RepL.length h2]
theorem RepL.get {H:Hp}:∀ {ds:List D}{vs:List V}{i:Nat}{v:V},RepL H ds vs->vs[i]? = some v->∃ d,ds[i]? = some d/\Rep H d v
 | [],vs,i,v,h,e=>by cases h; simp at e
 | d::ds,vs,i,v,h,e=>by
  obtain ⟨w,r,rfl,h1,h2⟩:=h
  cases i with
  | zero=>simp at e; subst e; exact ⟨d,rfl,h1⟩
  | succ i=>simp at e; exact RepL.get (i:=i) h2 e
theorem RepL.snoc {H:Hp}{d:D}{v:V}(hd:Rep H d v):∀ {ds:List D}{vs:List V},RepL H ds vs->RepL H (ds ++ [d]) (vs ++ [v])
 | [],vs,h=>by cases h; exact ⟨v,[],rfl,hd,rfl⟩
 | e::ds,vs,h=>by
  obtain ⟨w,r,rfl,h1,h2⟩:=h
  exact ⟨w,r ++ [v],rfl,h1,RepL.snoc hd h2⟩
mutual
def Yn:D->D->Bool
 | .non,.non=>true
 | .bl a,.bl b=>a == b
 | .int a,.int b=>a == b
 | .str a,.str b=>a == b
 | .tup a,.tup b=>Y8 a b
 | .lst a,.lst b=>Y8 a b
 | _,_=>false
def Y8:List D->List D->Bool
 | [],[]=>true
 | a::r,b::s=>Yn a b && Y8 r s
 | _,_=>false
end
mutual
theorem Zgl:∀ d:D,Yn d d=true
 | .non=>rfl
 | .bl _=>by simp [Yn]
 | .int _=>by simp [Yn]
 | .str _=>by simp [Yn]
 | .tup ds=>by rw [Yn]; exact Zgm ds
 | .lst ds=>by rw [Yn]; exact Zgm ds
theorem Zgm:∀ ds:List D,Y8 ds ds=true
 | []=>rfl
 | d::ds=>by rw [Y8,Zgl d,Zgm ds]; rfl
end
mutual
def D.deep:D->Nat
 | .tup ds=>Y9 ds+1
 | .lst ds=>Y9 ds+1
 | _=>0
def Y9:List D->Nat
 | []=>0
 | d::ds=>max d.deep (Y9 ds)
end
theorem Zhb:∀ {ds:List D}{i:Nat}{d:D},ds[i]? = some d->d.deep<=Y9 ds
 | [],i,d,h=>by simp at h
 | e::ds,0,d,h=>by simp at h; subst h; rw [Y9]; lia
 | e::ds,i+1,d,h=>by
  simp at h
  have:=Zhb h
  rw [Y9]; lia
def isI:D->String->Bool
 | .non,_=>false
 | .bl _,c=>c == "bool" || c == "int"
 | .int _,c=>c == "int"
 | .str _,c=>c == "str"
 | .tup _,c=>c == "tuple"
 | .lst _,c=>c == "list"
def Zro:List String:=["bool", "int", "str", "list", "tuple"]
theorem isi {K:uFg}{H:Hp}{d:D}{v:V}(r:Rep H d v) (c:String) (hc:c∈Zro):∃ t,TyOf K H v t/\PySem.W.kitOne K t (.type c)=some (isI d c):=by
 unfold Zro at hc
 simp only [xC,xQ,or_false] at hc
 cases d with
 | non=>cases r; refine ⟨_,.non,?_⟩; rcases hc with rfl | rfl | rfl | rfl | rfl <;> rfl
 | bl b=>cases r; refine ⟨_,.bl b,?_⟩; rcases hc with rfl | rfl | rfl | rfl | rfl <;> rfl
 | int i=>cases r; refine ⟨_,.int i,?_⟩; rcases hc with rfl | rfl | rfl | rfl | rfl <;> rfl
 | str x=>cases r; refine ⟨_,.str x,?_⟩; rcases hc with rfl | rfl | rfl | rfl | rfl <;> rfl
 | tup ds=>obtain ⟨a,vs,rfl,h1,h2⟩:=r; refine ⟨_,.tup h1,?_⟩; rcases hc with rfl | rfl | rfl | rfl | rfl <;> rfl
 | lst ds=>obtain ⟨a,vs,rfl,h1,h2⟩:=r; refine ⟨_,.lst h1,?_⟩; rcases hc with rfl | rfl | rfl | rfl | rfl <;> rfl
theorem Rep.none_iff {H:Hp}{d:D}{v:V}(r:Rep H d v):decide (v = .non)=(match d with | .non=>true | _=>false):=by
 cases d with
 | non=>cases r; rfl
 | bl b=>cases r; rfl
 | int i=>cases r; rfl
 | str x=>cases r; rfl
 | tup ds=>obtain ⟨a,vs,rfl,h1,h2⟩:=r; rfl
 | lst ds=>obtain ⟨a,vs,rfl,h1,h2⟩:=r; rfl
theorem Zm8 {as bs:List D}:∀ {i:Nat}{a b:D},as[i]? = some a->bs[i]? = some b->Y8 (as.take (i+1)) (bs.take (i+1))=(Y8 (as.take i) (bs.take i) && Yn a b):=by
 induction as generalizing bs with
 | nil=>intro i a b h; simp at h
 | cons x as ih =>
  intro i a b h1 h2
  cases bs with
  | nil=>simp at h2
  | cons y bs =>
   cases i with
   | zero=>simp at h1 h2; subst h1; subst h2; simp [Y8]
   | succ i =>
    simp at h1 h2
    have:=ih h1 h2
    rw [List.take_succ_cons,List.take_succ_cons,Y8,this,List.take_succ_cons,List.take_succ_cons,Y8,Bool.and_assoc]
theorem Zmn {as bs:List D}(h:as.length≠bs.length):Y8 as bs=false:=by
 induction as generalizing bs with
 | nil=>cases bs with
  | nil=>exact absurd rfl h
  | cons y bs=>rfl
 | cons x as ih=>cases bs with
  | nil=>rfl
  | cons y bs=>rw [Y8,ih (fun e=>h (by rw [xG,xG,e])),Bool.and_false]
theorem Zmp {as bs:List D}{i:Nat}{a b:D}(h1:as[i]? = some a) (h2:bs[i]? = some b) (h:Yn a b=false):Y8 as bs=false:=by
 induction as generalizing bs i with
 | nil=>simp at h1
 | cons x as ih =>
  cases bs with
  | nil=>simp at h2
  | cons y bs =>
   cases i with
   | zero=>simp at h1 h2; subst h1; subst h2; rw [Y8,h,Bool.false_and]
   | succ i=>simp at h1 h2; rw [Y8,ih h1 h2,Bool.and_false]
end L2
namespace L2
theorem Rep.mono' {H H':Hp}{d:D}{v:V}(h:Rep H d v) (k:Same H H'):Rep H' d v:=Rep.mono k d v h
theorem RepL.mono' {H H':Hp}{ds:List D}{vs:List V}(h:RepL H ds vs) (k:Same H H'):RepL H' ds vs:=RepL.mono k ds vs h
end L2
end
section
namespace L2
open PySem PySem.Spec PyProof.Rows
section
variable {X:Cx}{tg:Expr}
end
section
variable {g:TG}{tb:TS}{D:Ends}{σ:St}{H:Hp}
end
section
variable {X:Cx}{o i value:Expr}{pos pos':Pos}{td ty tv:TE}
def Zox:R2:=fun y x H Q=>∃ a o,x = .ref a/\DGet H a y o/\Q (.bl (!o.isSome)) H
def Zua:R2:=fun y x H Q=>∃ a o,x = .ref a/\DGet H a y o/\Q (.bl o.isSome) H
theorem Zxh (hu:X.A.units+1 < cLine):OpR X (compareOp .NotIn) Zox:=by
 intro pins s σ H y x iv u Q I ry rx ⟨a,ov,ex,g,q⟩
 subst ex
 obtain rfl:u=Value.ref a:=rx
 exact Z0j hu I g ry fun s3 I3=>⟨.bl (!ov.isSome),H,I3,rfl,q⟩
theorem Z3f (hu:X.A.units+1 < cLine):OpR X (compareOp .In) Zua:=by
 intro pins s σ H y x iv u Q I ry rx ⟨a,ov,ex,g,q⟩
 subst ex
 obtain rfl:u=Value.ref a:=rx
 exact Yad hu I g ry fun s3 I3=>⟨.bl ov.isSome,H,I3,rfl,q⟩
theorem Zvv {k:Nat}(hr:Room k X.A):QOp X (compareOp .NotIn) Zox:=⟨Zxh (by have:=hr.units; lia)⟩
theorem Zhv {k:Nat}(hr:Room k X.A):QOp X (compareOp .In) Zua:=⟨Z3f (by have:=hr.units; lia)⟩
theorem Zn8:QE X (.Dict [] [] pos) Zpv:=⟨Zyd⟩
theorem U6 {k:Nat}(hr:Room k X.A) (ho:QE X o td) (hi:QE X i ty) (hv:QE X value tv) (hs:swapsWith value (some (.Subscript o i pos')) pos.line X.env=pure false:=by rfl) :
  QS X (.Assign [.Subscript o i pos'] value pos) (Zri td ty tv):=⟨Z0m (by have:=hr.units; lia) ho.h hi.h hv.h hs⟩
end
end L2
end
section
namespace L2
open PySem PySem.Spec PyProof.Rows
section
variable {X:Cx}
end
end L2
end
section
namespace L2
open PySem PySem.Spec PyProof.Rows
section
variable {X:Cx}
end
end L2
end
section
namespace L2
open PySem PySem.Spec PyProof.Rows
section
variable {prog:Program}{w:World}{K:Type} [DecidableEq K] {knd:HeapKind prog w K}{A:Around}{E:Value->Shared->Prop}{s:Shared}
end
section
variable {X:Cx}{pins:List (Addr×Obj)}{σ:St}{H:Hp}{s:Shared}{a b:Addr}{z:V}{r:Value}{kvs:List (List Key×V)}{k:List Key}{A:Around}{E:Value->Shared->Prop}
end
section
variable {X:Cx}{o e f:Expr}{apos cpos:Pos}{td ty tx:TE}{n:Nat}
theorem Zhc (hr:Room n X.A) (ho:QE X o td) (he:QE X e ty) (hf:QE X f tx) (m:M2 X o "get" apos e f cpos:=by exact ⟨rfl,rfl,rfl,rfl⟩):QE X (.Call (.Attribute o "get" apos) [e,f] [] cpos) (Zpw td ty tx):=⟨Zyf (by have:=hr.units; lia) ho.h he.h hf.h m⟩
end
end L2
end
section
namespace L2
open PySem PySem.Spec PyProof.Rows PySem.W
def V2 (cmp:Nat->Nat->(Bool->Shared->Prop)->Shared->Prop) (r:Nat->Nat) (N:Nat) (s:Shared):Prop:=∀ (i j:Nat) (C:Bool->Shared->Prop),i < N->j < N->C (decide (r i < r j)) s->cmp i j C s
def kp (r:Nat->Nat) (p:Array Nat) (i:Nat):Nat:=r (p.getD i 0)
def Pm (N:Nat) (p:Array Nat):Prop:=p.toList.Perm (List.range N)
def UpTo (r:Nat->Nat) (p:Array Nat) (m:Nat):Prop:=∀ i,i+1 < m->kp r p i<=kp r p (i+1)
def Zbx (r:Nat->Nat) (p:Array Nat) (m:Nat):Prop:=∀ i,i+1 < m->kp r p (i+1)<=kp r p i
section
variable {s:Shared}{cmp:Nat->Nat->(Bool->Shared->Prop)->Shared->Prop}{r:Nat->Nat}{N:Nat}{p:Array Nat}
theorem Pm.size (h:Pm N p):p.size=N:=by
 have:=h.length_eq
 rw [List.length_range] at this
 simpa using this
theorem Pm.lt (h:Pm N p) {i:Nat}(hi:i < N):p.getD i 0 < N:=by
 have hs:i < p.size:=by rw [h.size]; exact hi
 have e:p.getD i 0=p[i]:=by simp [Array.getD,hs]
 have m:p[i]∈p.toList:=by simp
 rw [e]
 exact List.mem_range.mp (h.mem_iff.mp m)
theorem Pm.rev (h:Pm N p) (i j:Nat):Pm N (kas_rev p i j):=(Array.perm_iff_toList_perm.mp (mirror_perm p i j _)).trans h
theorem Pm.bub (h:Pm N p) (i d:Nat):Pm N (bubble p i d):=(Array.perm_iff_toList_perm.mp (bubble_perm p i d)).trans h
theorem Zdb {p q:Array Nat}{i j:Nat}(h:p[i]? = q[j]?):kp r p i=kp r q j:=by
 unfold kp
 rw [Array.getD_eq_getD_getElem?,Array.getD_eq_getD_getElem?,h]
theorem Zio (h:Pm N p) {i j k:Nat}(hj:j<=N):kp r (kas_rev p i j) k=if i<=k/\k < j then kp r p (i+j - 1 - k) else kp r p k:=by
 have e:=getElem?_mirror_all (xs:=p) (i:=i) (j:=j) (by rw [h.size]; exact hj) k
 by_cases c:i<=k/\k < j
 ·rw [if_pos c] at e ⊢; exact Zdb e
 ·rw [if_neg c] at e ⊢; exact Zdb e
theorem Zp0 (h:Pm N p) {k l i:Nat}(hk:k < N) (hl:l<=k):kp r (bubble p k (k - l)) i=if i=l then kp r p k else if l < i/\i<=k then kp r p (i - 1) else kp r p i:=by
 have e:=getElem?_bubble (xs:=p) (src:=k) (by rw [h.size]; exact hk) (k - l) (by lia) i
 have x:k - (k - l)=l:=by lia
 rw [x] at e
 by_cases c:i=l
 ·rw [if_pos c] at e ⊢; exact Zdb e
 ·rw [if_neg c] at e ⊢
  by_cases d:l < i/\i<=k
  ·rw [if_pos d] at e ⊢; exact Zdb e
  ·rw [if_neg d] at e ⊢; exact Zdb e
theorem Zip (hR:V2 cmp r N s) (hp:Pm N p) {Q:Nat->Shared->Prop}:∀ (f n:Nat),1<=n->n+f<=N->UpTo r p n->(∀ m,n<=m->m<=n+f->UpTo r p m->(m < n+f->kp r p m < kp r p (m - 1))->Q m s)->(kas_asc p f n).kasWp cmp Q s
 | 0,n,h1,h2,hu,k=>k n (xB _) (xB _) hu (fun z=>by lia)
 | f+1,n,h1,h2,hu,k=>by
  refine hR _ _ _ (hp.lt (by lia)) (hp.lt (by lia)) ?_
  by_cases c:r (p.getD n 0) < r (p.getD (n - 1) 0)
  ·rw [xM c]
   exact k n (xB _) (by lia) hu fun _=>c
  ·rw [xU c]
   refine Zip hR hp f (n+1) (by lia) (by lia) (fun i hi=>?_) fun m a b u d=>k m (by lia) (by lia) u (fun z=>d (by lia))
   by_cases e:i+1 < n
   ·exact hu i e
   ·have:i=n - 1:=by lia
    subst this
    rw [show n - 1+1=n by lia]
    unfold kp
    lia
theorem Zgh (h:Pm N p) {a n k:Nat}(hn:n<=N) (he:∀ i,a<=i->i < n->kp r p i=kp r p (n - 1)):kp r (kas_rev p a n) k=kp r p k:=by
 rw [Zio h hn]
 by_cases c:a<=k/\k < n
 ·rw [if_pos c,he (a+n - 1 - k) (by lia) (by lia),he k c.1 c.2]
 ·rw [if_neg c]
theorem Zek (hR:V2 cmp r N s) {Q:Array Nat×Nat×Nat->Shared->Prop}:∀ (f:Nat) (p:Array Nat) (n q:Nat),Pm N p->1<=n->n+f<=N->q+1<=n->Zbx r p n->(∀ k,n - (q+1)<=k->k < n->kp r p k=kp r p (n - 1)) ->
  (∀ (p':Array Nat) (m q':Nat),Pm N p'->n<=m->m<=n+f->q'+1<=m->Zbx r p' m->(∀ k,m - (q'+1)<=k->k < m->kp r p' k=kp r p' (m - 1))->Q (p',m,q') s)->(kas_desc f p n q).kasWp cmp Q s
 | 0,p,n,q,hp,h1,h2,hq,hd,he,k=>k p n q hp (xB _) (xB _) hq hd he
 | f+1,p,n,q,hp,h1,h2,hq,hd,he,k=>by
  refine hR _ _ _ (hp.lt (by lia)) (hp.lt (by lia)) ?_
  by_cases c:r (p.getD n 0) < r (p.getD (n - 1) 0)
  ·rw [xM c]
   have step:Zbx r p (n+1):=fun i hi=>by
    by_cases e:i+1 < n
    ·exact hd i e
    ·have:i=n - 1:=by lia
     subst this
     rw [show n - 1+1=n by lia]
     unfold kp
     lia
   show (if true=true then (if q > 0 then kas_desc f (kas_rev p (n - (q+1)) n) (n+1) 0 else kas_desc f p (n+1) 0) else _).kasWp cmp Q s
   rw [if_pos rfl]
   by_cases z:q > 0
   ·rw [if_pos z]
    have same:∀ k,kp r (kas_rev p (n - (q+1)) n) k=kp r p k:=fun k=>Zgh hp (by lia) he
    refine Zek hR f _ (n+1) 0 (hp.rev _ _) (by lia) (by lia) (by lia) (fun i hi=>?_) (fun k a b=>?_) fun p' m q' a b c' d e g=>k p' m q' a (by lia) (by lia) d e g
    ·rw [same,same]; exact step i hi
    ·have:k=n+1 - 1:=by lia
     rw [this]
   ·rw [if_neg z]
    refine Zek hR f p (n+1) 0 hp (by lia) (by lia) (by lia) step (fun k a b=>?_) fun p' m q' a b c' d e g=>k p' m q' a (by lia) (by lia) d e g
    have:k=n+1 - 1:=by lia
    rw [this]
  ·rw [xU c]
   show (if false=true then _ else KasT.ask (p.getD (n - 1) 0) (p.getD n 0) fun d=>if d=true then .ret (p,n,q) else kas_desc f p (n+1) (q+1)).kasWp cmp Q s
   rw [if_neg xE]
   refine hR _ _ _ (hp.lt (by lia)) (hp.lt (by lia)) ?_
   by_cases d:r (p.getD (n - 1) 0) < r (p.getD n 0)
   ·rw [xM d]
    exact k p n q hp (xB _) (by lia) hq hd he
   ·rw [xU d]
    have eq:kp r p n=kp r p (n - 1):=by unfold kp; lia
    refine Zek hR f p (n+1) (q+1) hp (by lia) (by lia) (by lia) (fun i hi=>?_) (fun k a b=>?_) fun p' m q' a b c' d e g=>k p' m q' a (by lia) (by lia) d e g
    ·by_cases e:i+1 < n
     ·exact hd i e
     ·have:i=n - 1:=by lia
      subst this
      rw [show n - 1+1=n by lia,eq]
      exact xB _
    ·rw [show n+1 - 1=n by lia,eq]
     by_cases e:k < n
     ·exact he k (by lia) e
     ·rw [show k=n by lia,eq]
theorem Zb6 (h:UpTo r p m):∀ (d i:Nat),i+d < m->kp r p i<=kp r p (i+d)
 | 0,i,_=>xB _
 | d+1,i,hi=>yK (Zb6 h d i (by lia)) (h (i+d) (by lia))
theorem Z3g (h:Pm N p) {n:Nat}(hn:n<=N) (hd:Zbx r p n):UpTo r (kas_rev p 0 n) n:=fun i hi=>by
 rw [Zio h hn,Zio h hn,if_pos (by lia),if_pos (by lia)]
 have:=hd (0+n - 1 - (i+1)) (by lia)
 rw [show 0+n - 1 - (i+1)+1=0+n - 1 - i by lia] at this
 exact this
def Zk7 (r:Nat->Nat) (N:Nat) (Q:Nat×Array Nat->Shared->Prop) (s:Shared):Prop:=∀ (m:Nat) (p:Array Nat),1<=m->m<=N->Pm N p->UpTo r p m->Q (m,p) s
theorem Zoy (hR:V2 cmp r N s) (h:Pm N p) {Q:Nat×Array Nat->Shared->Prop}(k:Zk7 r N Q s) {n:Nat}(h1 : 1<=n) (hn:n<=N) (hd:Zbx r p n):(kas_tail3 n N p).kasWp cmp Q s:=by
 unfold kas_tail3
 rw [KasT.kasWp_bind]
 exact Zip hR (h.rev 0 n) (N - n) n h1 (by lia) (Z3g h hn hd) fun m a b u _=>k m _ (by lia) (by lia) (h.rev 0 n) u
theorem Zoz (hR:V2 cmp r N s) (h:Pm N p) {Q:Nat×Array Nat->Shared->Prop}(k:Zk7 r N Q s) {n:Nat}(hn:n+1<=N) (hd:Zbx r p (n+1)):(kas_descPart n N p).kasWp cmp Q s:=by
 unfold kas_descPart
 rw [KasT.kasWp_bind]
 refine Zek hR (N - (n+1)) p (n+1) 0 h (by lia) (by lia) (by lia) hd (fun k a b=>by rw [show k=n+1 - 1 by lia]) fun p' m q' a b c d e g=>?_
 dsimp only
 by_cases z:q' > 0
 ·rw [if_pos z]
  have same:∀ k,kp r (kas_rev p' (m - (q'+1)) m) k=kp r p' k:=fun k=>Zgh a (by lia) g
  exact Zoy hR (a.rev _ _) k (by lia) (by lia) fun i hi=>by rw [same,same]; exact e i hi
 ·rw [if_neg z]
  exact Zoy hR a k (by lia) (by lia) e
theorem Zyz (hR:V2 cmp r N s) (h:Pm N p) (h1 : 1<=N) {Q:Nat×Array Nat->Shared->Prop}(k:Zk7 r N Q s):(kas_count N p).kasWp cmp Q s:=by
 unfold kas_count
 rw [KasT.kasWp_bind]
 refine Zip hR h (N - 1) 1 (xB _) (by lia) (fun i hi=>by lia) fun m a b u d=>?_
 by_cases z:m=N
 ·rw [if_pos (by rw [z]; exact beq_self_eq_true N)]
  exact k m p a (by lia) h u
 ·rw [if_neg (fun e=>z (eq_of_beq e))]
  have dm:=d (by lia)
  by_cases y:m > 1
  ·rw [if_pos y]
   refine hR _ _ _ (h.lt (by lia)) (h.lt (by lia)) ?_
   by_cases c:r (p.getD 0 0) < r (p.getD (m - 1) 0)
   ·rw [xM c]
    exact k m p a (by lia) h u
   ·rw [xU c]
    have all:∀ i,0<=i->i < m->kp r p i=kp r p (m - 1):=fun i _ hi=>by
     have h0:=Zb6 u i 0 (by lia)
     have h2:=Zb6 u (m - 1 - i) i (by lia)
     rw [show 0+i=i by lia] at h0
     rw [show i+(m - 1 - i)=m - 1 by lia] at h2
     have h3:kp r p (m - 1)<=kp r p 0:=by unfold kp; lia
     lia
    have same:∀ k,kp r (kas_rev p 0 m) k=kp r p k:=fun k=>Zgh h (by lia) all
    refine Zoz hR (h.rev _ _) k (by lia) fun i hi=>?_
    rw [same,same]
    by_cases e:i+1 < m
    ·rw [all i (by lia) (by lia),all (i+1) (by lia) e]; exact xB _
    ·rw [show i=m - 1 by lia,show m - 1+1=m by lia]
     exact Nat.le_of_lt dm
  ·rw [if_neg y]
   refine Zoz hR h k (by lia) fun i hi=>?_
   rw [show i=m - 1 by lia,show m - 1+1=m by lia]
   exact Nat.le_of_lt dm
theorem Zhd (hR:V2 cmp r N s) (h:Pm N p) {Q:Nat->Shared->Prop}{k:Nat}(hk:k < N) (hu:UpTo r p k) (q:∀ l,l<=k->(∀ i,i < l->kp r p i<=kp r p k)->(∀ i,l<=i->i < k->kp r p k<=kp r p i)->Q l s) :
  ∀ (f l m:Nat),l<=m->m<=k->m - l<=f->(∀ i,i < l->kp r p i<=kp r p k)->(∀ i,m<=i->i < k->kp r p k<=kp r p i)->(kas_place p k f l m).kasWp cmp Q s
 | 0,l,m,a,b,c,lo,hi=>q l (by lia) lo fun i x y=>hi i (by lia) y
 | f+1,l,m,a,b,c,lo,hi=>by
  show (if l>=m then KasT.ret l else _).kasWp cmp Q s
  by_cases z:l>=m
  ·rw [if_pos z]
   exact q l (by lia) lo fun i x y=>hi i (by lia) y
  ·rw [if_neg z]
   refine hR _ _ _ (h.lt hk) (h.lt (by lia)) ?_
   by_cases y:r (p.getD k 0) < r (p.getD ((l+m) / 2) 0)
   ·rw [xM y]
    refine Zhd hR h hk hu q f l ((l+m) / 2) (by lia) (by lia) (by lia) lo fun i x w=>?_
    have:=Zb6 hu (i - (l+m) / 2) ((l+m) / 2) (by lia)
    rw [show (l+m) / 2+(i - (l+m) / 2)=i by lia] at this
    exact yK (Nat.le_of_lt y) this
   ·rw [xU y]
    refine Zhd hR h hk hu q f ((l+m) / 2+1) m (by lia) b (by lia) (fun i x=>?_) hi
    have:=Zb6 hu ((l+m) / 2 - i) i (by lia)
    rw [show i+((l+m) / 2 - i)=(l+m) / 2 by lia] at this
    exact yK this (Nat.le_of_not_lt y)
theorem Zp1 (hR:V2 cmp r N s) {Q:Array Nat->Shared->Prop}:∀ (f:Nat) (p:Array Nat) (k:Nat),Pm N p->k+f<=N->UpTo r p k->(∀ p',Pm N p'->UpTo r p' (k+f)->Q p' s)->(kas_bin f p k).kasWp cmp Q s
 | 0,p,k,h,hk,hu,q=>q p h hu
 | f+1,p,k,h,hk,hu,q=>by
  show ((kas_place p k k 0 k).bind fun l=>kas_bin f (bubble p k (k - l)) (k+1)).kasWp cmp Q s
  rw [KasT.kasWp_bind]
  refine Zhd hR h (by lia) hu (fun l a lo hi=>?_) k 0 k (by lia) (by lia) (by lia) (fun i x=>by lia) fun i x y=>by lia
  refine Zp1 hR f _ (k+1) (h.bub _ _) (by lia) (fun i x=>?_) fun p' a b=>q p' a (by rw [show k+(f+1)=k+1+f by lia]; exact b)
  rw [Zp0 h (by lia) a,Zp0 h (by lia) a]
  by_cases c:i=l
  ·rw [if_pos c,if_neg (by lia),if_pos (by lia)]
   by_cases d:i+1<=k/\l < k
   ·rw [show i+1 - 1=l by lia]
    exact hi l (by lia) (by lia)
   ·lia
  ·rw [if_neg c]
   by_cases d:i+1=l
   ·rw [if_pos d,if_neg (by lia)]
    exact lo i (by lia)
   ·rw [if_neg d]
    by_cases e:l < i
    ·rw [if_pos (by lia),if_pos (by lia),show i+1 - 1=i - 1+1 by lia]
     exact hu (i - 1) (by lia)
    ·rw [if_neg (by lia),if_neg (by lia)]
     exact hu i (by lia)
theorem Z00 (hR:V2 cmp r N s) (h2 : 1<=N) {Q:Array Nat->Shared->Prop}(q:∀ p,Pm N p->UpTo r p N->Q p s):(kas_sort N).kasWp cmp Q s:=by
 unfold kas_sort
 rw [KasT.kasWp_bind]
 refine Zyz hR (by show (List.toArray (List.range N)).toList.Perm _; exact List.Perm.refl _) h2 fun m p a b hp u=>?_
 by_cases c:m < N
 ·rw [if_pos c]
  refine Zp1 hR _ p _ hp (by lia) (by rw [Nat.max_eq_left a]; exact u) fun p' x y=>q p' x ?_
  rw [show max m 1+(N - max m 1)=N by lia] at y
  exact y
 ·rw [if_neg c]
  exact q p hp (by rw [show N=m by lia]; exact u)
end
end L2
namespace L2
structure Weak (lt:Nat->Nat->Bool):Prop where
 irr:∀ i,lt i i=false
 tr:∀ i j k,lt i j=true->lt j k=true->lt i k=true
 neg:∀ i j k,lt i j=true->lt i k=true\/lt k j=true
def rk (lt:Nat->Nat->Bool) (N i:Nat):Nat:=(List.range N).countP fun k=>lt k i
theorem Zmy {p q:Nat->Bool}(h:∀ k,p k=true->q k=true) {i:Nat}(hp:p i=false) (hq:q i=true):∀ l:List Nat,i∈l->l.countP p < l.countP q
 | [],m=>nomatch m
 | x::l,m=>by
  have le:=List.countP_mono_left (l:=l) (p:=p) (q:=q) fun k _=>h k
  rw [List.countP_cons,List.countP_cons]
  rcases xC.mp m with rfl | m
  ·rw [hp,hq]
   simp
   lia
  ·have:=Zmy h hp hq l m
   by_cases z:p x=true
   ·rw [z,h x z]; simp; lia
   ·cases e:q x with
    | true=>simp [z]; lia
    | false=>simp [z]; lia
theorem Zp2 {lt:Nat->Nat->Bool}(W:Weak lt) {N i j:Nat}(hi:i < N):decide (rk lt N i < rk lt N j)=lt i j:=by
 unfold rk
 cases e:lt i j with
 | true=>exact xM (Zmy (fun k h=>W.tr k i j h e) (W.irr i) e _ (List.mem_range.mpr hi))
 | false =>
  refine xU (Nat.not_lt.mpr (List.countP_mono_left fun k _ h=>?_))
  rcases W.neg k j i h with z | z
  ·exact z
  ·rw [e] at z; cases z
theorem Pm.out {α:Type}{p:Array Nat}{vs:List α}{d : α}(h:Pm vs.length p):(p.toList.map fun i=>vs.getD i d).Perm vs:=by
 have e:(List.range vs.length).map (fun i=>vs.getD i d)=vs:=by
  apply List.ext_getElem
  ·simp
  ·intro i h1 h2
   simp [h2]
 have:=h.map fun i=>vs.getD i d
 rw [e] at this
 exact this
theorem UpTo.pair {r:Nat->Nat}{p:Array Nat}{N:Nat}(hp:Pm N p) (u:UpTo r p N):p.toList.Pairwise fun i j=>r i<=r j:=by
 rw [List.pairwise_iff_getElem]
 intro i j hi hj hij
 have hs:=hp.size
 have hi':i < p.size:=by simpa using hi
 have hj':j < p.size:=by simpa using hj
 have:=Zb6 u (j - i) i (by lia)
 rw [show i+(j - i)=j by lia] at this
 unfold kp at this
 simpa [Array.getD,hi',hj'] using this
theorem Zxi {α:Type}{p:Array Nat}{vs:List α}{d : α}{lt : α->α->Bool}(hp:Pm vs.length p) (W:Weak fun i j=>lt (vs.getD i d) (vs.getD j d)) (u:UpTo (rk (fun i j=>lt (vs.getD i d) (vs.getD j d)) vs.length) p vs.length) :
  (p.toList.map fun i=>vs.getD i d).Perm vs/\(p.toList.map fun i=>vs.getD i d).Pairwise fun a b=>lt b a=false:=by
 refine ⟨hp.out,?_⟩
 rw [List.pairwise_map]
 have h1:=u.pair hp
 have hm:∀ i∈p.toList,i < vs.length:=fun i hi=>List.mem_range.mp (hp.mem_iff.mp hi)
 refine List.Pairwise.imp_of_mem ?_ h1
 intro i j hi hj h
 have:=Zp2 W (i:=j) (j:=i) (hm j hj)
 rw [xU (Nat.not_lt.mpr h)] at this
 exact this.symm
end L2
namespace L2
open PySem PySem.Spec PyProof.Rows
def ltK:List Key->List Key->Bool
 | .inl x::r,.inl y::t=>if x=y then ltK r t else decide (x < y)
 | .inr x::r,.inr y::t=>if x=y then ltK r t else decide (x.cps.toList < y.cps.toList)
 | _,_=>false
def shp (k:List Key):List Bool:=k.map Sum.isLeft
theorem Zhw {x y:Str}(h:x≠y) (h2:¬ x.cps.toList < y.cps.toList):y.cps.toList < x.cps.toList:=by
 by_cases c:y.cps.toList < x.cps.toList
 ·exact c
 ·exfalso
  apply h
  have e:x.cps.toList=y.cps.toList:=List.le_antisymm (List.not_lt.mp c) (List.not_lt.mp h2)
  cases x; cases y
  simp only [Str.mk.injEq]
  exact Array.toList_inj.mp e
theorem Zp3 {x y:Str}(h:x.cps.toList < y.cps.toList):x≠y:=fun e=>by subst e; exact List.lt_irrefl _ h
theorem Zhx:∀ a:List Key,ltK a a=false
 | []=>rfl
 | .inl x::r=>by rw [ltK,if_pos rfl]; exact Zhx r
 | .inr x::r=>by rw [ltK,if_pos rfl]; exact Zhx r
theorem Ziq:∀ a b c:List Key,ltK a b=true->ltK b c=true->ltK a c=true
 | .inl x::r,.inl y::t,.inl z::u,h1,h2=>by
  rw [ltK] at h1 h2 ⊢
  by_cases e1:x=y
  ·rw [if_pos e1] at h1
   subst e1
   by_cases e2:x=z
   ·rw [if_pos e2] at h2 ⊢; exact Ziq r t u h1 h2
   ·rw [if_neg e2] at h2 ⊢; exact h2
  ·rw [if_neg e1] at h1
   have l1:=of_decide_eq_true h1
   by_cases e2:y=z
   ·subst e2; rw [if_neg e1]; exact h1
   ·rw [if_neg e2] at h2
    have l2:=of_decide_eq_true h2
    rw [if_neg (by lia)]
    exact xM (by lia)
 | .inr x::r,.inr y::t,.inr z::u,h1,h2=>by
  rw [ltK] at h1 h2 ⊢
  by_cases e1:x=y
  ·rw [if_pos e1] at h1
   subst e1
   by_cases e2:x=z
   ·rw [if_pos e2] at h2 ⊢; exact Ziq r t u h1 h2
   ·rw [if_neg e2] at h2 ⊢; exact h2
  ·rw [if_neg e1] at h1
   have l1:=of_decide_eq_true h1
   by_cases e2:y=z
   ·subst e2; rw [if_neg e1]; exact h1
   ·rw [if_neg e2] at h2
    have l2:=of_decide_eq_true h2
    have l3:=List.lt_trans l1 l2
    rw [if_neg (Zp3 l3)]
    exact xM l3
 | [],_,_,h1,_=>by cases h1
 | .inl _::_,[],_,h1,_=>by cases h1
 | .inr _::_,[],_,h1,_=>by cases h1
 | .inl _::_,.inr _::_,_,h1,_=>by cases h1
 | .inr _::_,.inl _::_,_,h1,_=>by cases h1
 | .inl _::_,.inl _::_,[],_,h2=>by cases h2
 | .inr _::_,.inr _::_,[],_,h2=>by cases h2
 | .inl _::_,.inl _::_,.inr _::_,_,h2=>by cases h2
 | .inr _::_,.inr _::_,.inl _::_,_,h2=>by cases h2
theorem Zhy:∀ a b c:List Key,shp a=shp c->ltK a b=true->ltK a c=true\/ltK c b=true
 | .inl x::r,.inl y::t,.inl z::u,hs,h=>by
  have hs':shp r=shp u:=by unfold shp at hs ⊢; simpa using hs
  rw [ltK] at h
  rw [ltK,ltK]
  by_cases e1:x=z
  ·subst e1
   rw [if_pos rfl]
   by_cases e2:x=y
   ·rw [if_pos e2] at h ⊢; exact Zhy r t u hs' h
   ·rw [if_neg e2] at h ⊢; exact .inr h
  ·rw [if_neg e1]
   by_cases l:x < z
   ·exact .inl (xM l)
   ·by_cases e2:x=y
    ·subst e2; rw [if_neg (fun q=>e1 q.symm)]; exact .inr (xM (by lia))
    ·rw [if_neg e2] at h
     have:=of_decide_eq_true h
     rw [if_neg (by lia)]
     exact .inr (xM (by lia))
 | .inr x::r,.inr y::t,.inr z::u,hs,h=>by
  have hs':shp r=shp u:=by unfold shp at hs ⊢; simpa using hs
  rw [ltK] at h
  rw [ltK,ltK]
  by_cases e1:x=z
  ·subst e1
   rw [if_pos rfl]
   by_cases e2:x=y
   ·rw [if_pos e2] at h ⊢; exact Zhy r t u hs' h
   ·rw [if_neg e2] at h ⊢; exact .inr h
  ·rw [if_neg e1]
   by_cases l:x.cps.toList < z.cps.toList
   ·exact .inl (xM l)
   ·have l2:=Zhw e1 l
    by_cases e2:x=y
    ·subst e2; rw [if_neg (fun q=>e1 q.symm)]; exact .inr (xM l2)
    ·rw [if_neg e2] at h
     have:=List.lt_trans l2 (of_decide_eq_true h)
     rw [if_neg (Zp3 this)]
     exact .inr (xM this)
 | [],_,_,_,h1=>by cases h1
 | .inl _::_,[],_,_,h1=>by cases h1
 | .inr _::_,[],_,_,h1=>by cases h1
 | .inl _::_,.inr _::_,_,_,h1=>by cases h1
 | .inr _::_,.inl _::_,_,_,h1=>by cases h1
 | .inl _::_,.inl _::_,[],hs,_=>by simp [shp] at hs
 | .inr _::_,.inr _::_,[],hs,_=>by simp [shp] at hs
 | .inl _::_,.inl _::_,.inr _::_,hs,_=>by simp [shp] at hs
 | .inr _::_,.inr _::_,.inl _::_,hs,_=>by simp [shp] at hs
theorem Zhz:∀ a b:List Key,shp a=shp b->ltK a b=false->ltK b a=false->a=b
 | [],[],_,_,_=>rfl
 | .inl x::r,.inl y::t,hs,h1,h2=>by
  have hs':shp r=shp t:=by unfold shp at hs ⊢; simpa using hs
  rw [ltK] at h1 h2
  by_cases e:x=y
  ·subst e; rw [if_pos rfl] at h1 h2; rw [Zhz r t hs' h1 h2]
  ·rw [if_neg e] at h1; rw [if_neg (fun q=>e q.symm)] at h2
   have:=of_decide_eq_false h1; have:=of_decide_eq_false h2; lia
 | .inr x::r,.inr y::t,hs,h1,h2=>by
  have hs':shp r=shp t:=by unfold shp at hs ⊢; simpa using hs
  rw [ltK] at h1 h2
  by_cases e:x=y
  ·subst e; rw [if_pos rfl] at h1 h2; rw [Zhz r t hs' h1 h2]
  ·rw [if_neg e] at h1; rw [if_neg (fun q=>e q.symm)] at h2
   exact absurd (Zhw e (of_decide_eq_false h1)) (of_decide_eq_false h2)
 | [],_::_,hs,_,_=>by simp [shp] at hs
 | .inl _::_,[],hs,_,_=>by simp [shp] at hs
 | .inr _::_,[],hs,_,_=>by simp [shp] at hs
 | .inl _::_,.inr _::_,hs,_,_=>by simp [shp] at hs
 | .inr _::_,.inl _::_,hs,_,_=>by simp [shp] at hs
end L2
namespace L2
open PySem PySem.Spec PyProof.Rows PySem.W
section
variable {prog:Program}{w:World}{A:Around}{E:Value->Shared->Prop}{s:Shared}
theorem Z4i {i:Nat}{x y:Int}{t u:Tok}{Q:Bool->Shared->Prop}(h:Q (decide (x < y)) s):wpAny (model prog w) A (oneLt' (true && i == 0) (.int x t) (.int y u)) Q E s:=by
 rw [Bool.true_and]
 cases i == 0 with
 | true=>exact oneLt_int h
 | false=>exact kat_one _ _ (lt_int (show PySem.W.BoolBack Q (.bool (decide (x < y))) s from h))
theorem Z3h {i:Nat}{x y:Str}{t u:Tok}{Q:Bool->Shared->Prop}(h:Q (decide (x.cps.toList < y.cps.toList)) s):wpAny (model prog w) A (oneLt' (true && i == 0) (.str x t) (.str y u)) Q E s:=by
 rw [Bool.true_and]
 cases i == 0 with
 | true=>exact oneLt_str h
 | false=>exact kat_one _ _ (lt_str (show PySem.W.BoolBack Q (.bool (decide (x.cps.toList < y.cps.toList))) s from h))
theorem Zir {Q:Bool->Shared->Prop}:∀ (k1 k2:List Key) (us vs:List Value) (i:Nat),shp k1=shp k2->Vals (k1.map kV) us->Vals (k2.map kV) vs->Q (ltK k1 k2) s->KatLex prog w A true false Q (us.zip vs) i s
 | [],[],_,_,i,_,.nil,.nil,h=>kat_nil h
 | .inl x::r,.inl y::t,_,_,i,hs,.cons r1 rr,.cons q1 qq,h=>by
  obtain ⟨t1,rfl⟩:=r1
  obtain ⟨t2,rfl⟩:=q1
  have hs':shp r=shp t:=by unfold shp at hs ⊢; simpa using hs
  rw [ltK] at h
  refine kat_cons (wpAny_eqBool_int ?_)
  by_cases e:x=y
  ·rw [if_pos e] at h
   rw [beq_iff_eq.mpr e]
   exact kat_yes (Zir r t _ _ (i+1) hs' rr qq h)
  ·rw [if_neg e] at h
   rw [beq_eq_false_iff_ne.mpr e]
   exact kat_no (Z4i h)
 | .inr x::r,.inr y::t,_,_,i,hs,.cons r1 rr,.cons q1 qq,h=>by
  obtain ⟨t1,rfl⟩:=r1
  obtain ⟨t2,rfl⟩:=q1
  have hs':shp r=shp t:=by unfold shp at hs ⊢; simpa using hs
  rw [ltK] at h
  refine kat_cons (wpAny_eqBool_str ?_)
  by_cases e:x=y
  ·rw [if_pos e] at h
   rw [xM e]
   exact kat_yes (Zir r t _ _ (i+1) hs' rr qq h)
  ·rw [if_neg e] at h
   rw [xU e]
   exact kat_no (Z3h h)
 | .inl _::_,.inr _::_,_,_,_,hs,_,_,_=>by simp [shp] at hs
 | .inr _::_,.inl _::_,_,_,_,hs,_,_,_=>by simp [shp] at hs
 | [],_::_,_,_,_,hs,_,_,_=>by simp [shp] at hs
 | _::_,[],_,_,_,hs,_,_,_=>by simp [shp] at hs
def Zrp (prog:Program) (w:World) (A:Around) (s:Shared) (a:Addr) (vs:List Value) (r:Nat->Nat):Prop:=2<=vs.length->∀ h':Heap,(∀ b o,b≠a->s.heap.get? b=some o->h'.get? b=some o) ->
 ∀ Q:SortKind->Shared->Prop,(∀ κ,V2 (kas_ask prog w A κ vs) r vs.length {s with heap:=h' }->Q κ {s with heap:=h' })->wpAny (model prog w) A (keyKind' vs.toArray) Q (fun _ _=>False) {s with heap:=h' }
theorem Zxj {a:Addr}{vs:List Value}{n:Nat}{P:PySem.Fin->Shared->Prop}{r:Nat->Nat}(ho:s.heap.get? a=some (seqObj "list" vs.toArray n)) (h64:vs.length < 64) (hk:Zrp prog w A s a vs r)
  (q:∀ p:Array Nat,Pm vs.length p->UpTo r p vs.length->P (.done (.ret .none)) {s with heap:=sortedHeap s.heap a vs (List.toArray (p.toList.map fun i=>vs.getD i Value.none)) }):wpAny (model prog w) A (Builtin.«list.sort» ⟨[.ref a],[]⟩) P E s:=by
 have la:a < s.heap.objs.size:=xF ho
 obtain ⟨e1,h1⟩:∃ e1,(s.heap.update a (Obj.mapSeq fun _=>(#[]:Array Value))).get? a=some (seqObj "list" #[] e1):=⟨_,get?_update_seq ho fun _=>#[]⟩
 have old:∀ b o,b≠a->s.heap.get? b=some o->(((s.heap.update a (Obj.mapSeq fun _=>(#[]:Array Value))).push (seqObj "tuple" vs.toArray 0)).push (seqObj "list" #[] 0)).get? b=some o:=fun b o nb e =>
  xA _ (xA _ (by rw [Heap.get?_update_ne _ _ _ _ nb]; exact e))
 have h6:(((s.heap.update a (Obj.mapSeq fun _=>(#[]:Array Value))).push (seqObj "tuple" vs.toArray 0)).push (seqObj "list" #[] 0)).get? a=some (seqObj "list" #[] e1):=xA _ (xA _ h1)
 rw [list_sort_plain]; refine wpAny_bind (listItems_at ho rfl (wpAny_bind (listUpdate_at ho rfl (wpAny_bind (seqEpoch_at h1 rfl (wpAny_bind (wpAny_newTuple (wpAny_bind (wpAny_newList (wpAny_holding ?_)))))))))) <;> try (rw [sizeLine_eq]; simp; lia)
 show wpAny (model prog w) A _ P E {s with heap:=((s.heap.update a (Obj.mapSeq fun _=>(#[]:Array Value))).push (seqObj "tuple" vs.toArray 0)).push (seqObj "list" #[] 0) }
 dsimp only
 by_cases h2:vs.toArray.size < 2
 ·have l2:vs.length < 2:=by simpa using h2
  rw [if_pos h2,if_pos h2]; refine wpAny_bind (wpAny_pure ?_); rw [StateT.run_pure]; refine wpAny_bind (wpAny_pure ?_)
  dsimp only
  have em:(Array.map (fun x=>x.2) (arrOf (SortSt.mk' general' (vs.toArray.zip vs.toArray) #[] 7 none)))=List.toArray ((List.toArray (List.range vs.length)).toList.map fun i=>vs.getD i Value.none):=by
   show Array.map (fun x=>x.2) (vs.toArray.zip vs.toArray)=_
   match vs,l2 with
   | [],_=>simp
   | [v],_=>simp [List.range_succ]
  rw [em]
  have pm:Pm vs.length (List.toArray (List.range vs.length)):=List.Perm.refl _
  have sz:(List.toArray ((List.toArray (List.range vs.length)).toList.map fun i=>vs.getD i Value.none)).size<=sizeLine+1:=by rw [sizeLine_eq]; simp; lia
  refine wpAny_bind (seqEpoch_at h6 rfl (wpAny_bind (listUpdate_at h6 rfl ?_ (yQ _) sz)))
  simp only [bne_self_eq_false,Bool.false_eq_true,if_false]; exact wpAny_pure (q _ pm fun i hi=>by lia)
 ·have l2 : 2<=vs.length:=by simp at h2; lia
  rw [if_neg h2,if_neg h2]
  refine wpAny_bind (wpAny_mono (hk l2 _ old (fun κ s'=>s'={s with heap:=((s.heap.update a (Obj.mapSeq fun _=>(#[]:Array Value))).push (seqObj "tuple" vs.toArray 0)).push (seqObj "list" #[] 0) }/\V2 (kas_ask prog w A κ vs) r vs.length s') fun κ hr=>⟨rfl,hr⟩) (fun κ s0 hq=>?_) fun _ _ x=>x.elim)
  obtain ⟨rfl,hr⟩:=hq
  refine wpAny_bind (wpAny_mono (kat_run (ks:=vs) (vs:=vs) (κ:=κ) (G:=fun p s'=>s'={s with heap:=((s.heap.update a (Obj.mapSeq fun _=>(#[]:Array Value))).push (seqObj "tuple" vs.toArray 0)).push (seqObj "list" #[] 0) }/\Pm vs.length p/\UpTo r p vs.length)
   (Q:=fun st' s'=>s'={s with heap:=((s.heap.update a (Obj.mapSeq fun _=>(#[]:Array Value))).push (seqObj "tuple" vs.toArray 0)).push (seqObj "list" #[] 0) }/\∃ p:Array Nat,(arrOf st').map (·.2)=List.toArray (p.toList.map fun i=>vs.getD i Value.none)/\failedOf st'=none/\Pm vs.length p/\UpTo r p vs.length)
   rfl l2 h64 (fun p st' s' a1 a2 a3 a4=>⟨a4.1,p,kat_snds rfl a2,a3,a4.2⟩) (Z00 hr (by lia) fun p a b=>⟨rfl,a,b⟩)) ?_ fun _ _ e=>e)
  rintro ⟨⟨⟩,st'⟩ s' ⟨rfl,p,ho',hf,hp,hu⟩
  dsimp only
  rw [ho']
  have sz:(List.toArray (p.toList.map fun i=>vs.getD i Value.none)).size<=sizeLine+1:=by rw [sizeLine_eq]; simp [hp.size]; lia
  refine wpAny_bind (seqEpoch_at h6 rfl (wpAny_bind (listUpdate_at h6 rfl ?_ (yQ _) sz)))
  rw [hf]; simp only [bne_self_eq_false,Bool.false_eq_true,if_false]; exact wpAny_pure (q p hp hu)
theorem Zu8 {l:Addr}{vs:List Value}{Q:Value->Shared->Prop}{r:Nat->Nat}(hl:s.heap.IsList l vs.toArray) (h64:vs.length < 64)
  (hk:∀ h0:Heap,(∀ b o,s.heap.get? b=some o->h0.get? b=some o)->Zrp prog w A.in1.in1 {s with heap:=h0 } (s.heap.objs.size+1) vs r)
  (q:∀ p:Array Nat,Pm vs.length p->UpTo r p vs.length->Q (.ref (s.heap.objs.size+1)) {s with heap:=sortedAll s.heap vs (List.toArray (p.toList.map fun i=>vs.getD i Value.none)) }):wpAny (model prog w) A (call (.builtin "sorted") [.ref l]) Q E s:=by
 refine Calls.call_function_entry kind_sorted plain_sorted entry_sorted (args_sorted1 _) ?_
 have hz:vs.length<=sizeLine:=by rw [sizeLine_eq]; lia
 unfold Builtin.«sorted»; refine wpAny_bind (m:=checkCount "sorted" 1 1 _) (wpAny_pure (wpAny_bind (collect_list hl (wpAny_bind (wpAny_newList ?_ hz)) hz)))
 have zz:((s.heap.push (seqObj "list" #[] 0)).update s.heap.objs.size (Obj.mapSeq (· ++ vs.toArray))).objs.size=s.heap.objs.size+1:=by rw [Heap.size_update]; exact size_push' _ _
 have hL:(((s.heap.push (seqObj "list" #[] 0)).update s.heap.objs.size (Obj.mapSeq (· ++ vs.toArray))).push (seqObj "list" vs.toArray 0)).get? (s.heap.objs.size+1)=some (seqObj "list" vs.toArray 0):=by have:=xI ((s.heap.push (seqObj "list" #[] 0)).update s.heap.objs.size (Obj.mapSeq (· ++ vs.toArray))) (o:=seqObj "list" vs.toArray 0) rfl; rw [zz] at this; exact this
 have old:∀ b o,s.heap.get? b=some o->(((s.heap.push (seqObj "list" #[] 0)).update s.heap.objs.size (Obj.mapSeq (· ++ vs.toArray))).push (seqObj "list" vs.toArray 0)).get? b=some o:=fun b o e =>
  xA _ (by rw [Heap.get?_update_ne _ _ _ _ (yD (xF e))]; exact xA _ e)
 show wpAny _ _ _ _ _ {s with heap:=((s.heap.push (seqObj "list" #[] 0)).update s.heap.objs.size (Obj.mapSeq (· ++ vs.toArray))).push (seqObj "list" vs.toArray 0) }
 rw [zz]
 exact wpAny_bind (wpAny_holding (wpAny_call_entry slot_list_sort ⟨_,hL,rfl⟩ entry_list_sort (Zxj hL h64 (hk _ old) fun p hp hu=>⟨_,rfl,wpAny_pure ⟨_,rfl,q p hp hu⟩⟩) (args_list_sort _)))
end
section
variable {X:Cx}
def TupAt (H:Hp) (p:Addr×List Key):Prop:=H p.1=some (.tup (p.2.map kV))
def Zn9 (K:uFg):List V->Hp->VK->Prop:=fun xs H Q=>∃ (a:Addr) (ps:List (Addr×List Key)) (sh:List Bool),xs = [.ref a]/\SqL K H a (ps.map fun p=>V.ref p.1)/\ps.length < 64/\(∀ p∈ps,TupAt H p/\shp p.2=sh)/\sh ≠ [] /\
  ∀ (l:Addr) (ms:List (Addr×List Key)),H l=none->ms.Perm ps->ms.Pairwise (fun p q=>ltK q.2 p.2=false)->Q (.ref l) (upd H l (.lst (ms.map fun p=>V.ref p.1)))
theorem Zo0:∀ {ps:List (Addr×List Key)}{its:List Value},Vals (ps.map fun p=>V.ref p.1) its->its=ps.map fun p=>Value.ref p.1
 | [],_,.nil=>rfl
 | p::ps,_,.cons r rr=>by cases r; rw [xP,Zo0 rr]
theorem Znp:∀ ps:List (Addr×List Key),Vals (ps.map fun p=>V.ref p.1) (ps.map fun p=>Value.ref p.1)
 | []=>.nil
 | p::ps=>.cons rfl (Znp ps)
theorem Zo1 {pins:List (Addr×Obj)}{σ:St}{H:Hp}{s:Shared}(I:Inv X pins σ H s) {sh:List Bool}(hne:sh ≠ []) {h':Heap}(hk:∀ (p:Addr×List Key) (o:Obj),TupAt H p->s.heap.get? p.1=some o->h'.get? p.1=some o):∀ ps:List (Addr×List Key),(∀ p∈ps,TupAt H p/\shp p.2=sh) ->
  ∃ fs,KatTups h' (ps.map fun p=>Value.ref p.1) fs/\fs.length=ps.length/\∀ v∈fs,Looks (model X.prog X.w) h' (typeOf v) (.type (if sh.head hne then "int" else "str"))
 | [],_=>⟨[],.nil,rfl,fun v hv=>by simp at hv⟩
 | p::ps,h=>by
  obtain ⟨fs,h1,h2,h3⟩:=Zo1 I hne hk ps fun q hq=>h q (xT _ hq)
  obtain ⟨ht,hs⟩:=h p xR
  obtain ⟨a,ks⟩:=p
  obtain ⟨its,rv,⟨o,e1,e2,n,e3⟩,_⟩:=I.tuple (SqT.of ht)
  cases ks with
  | nil=>exact absurd hs.symm hne
  | cons k r =>
   cases k with
   | inl x =>
    subst hs
    cases rv with
    | cons r1 rr =>
     obtain ⟨t,rfl⟩:=r1
     refine ⟨.int x t::fs,KatTups.cons (hk (a,.inl x::r) o ht e1) e2 e3 (by simp) h1,by rw [xG,xG,h2],fun v hv=>?_⟩
     rcases xC.mp hv with rfl | hv
     ·exact Looks.of_pure rfl
     ·exact h3 v hv
   | inr x =>
    subst hs
    cases rv with
    | cons r1 rr =>
     obtain ⟨t,rfl⟩:=r1
     refine ⟨.str x t::fs,KatTups.cons (hk (a,.inr x::r) o ht e1) e2 e3 (by simp) h1,by rw [xG,xG,h2],fun v hv=>?_⟩
     rcases xC.mp hv with rfl | hv
     ·exact Looks.of_pure rfl
     ·exact h3 v hv
theorem Z01 {ps:List (Addr×List Key)}{sh:List Bool}{H:Hp}(ht:∀ p∈ps,TupAt H p/\shp p.2=sh):∃ sh',∀ i,shp (ps.getD i (ps.headD (0,[]))).2=sh':=by
 cases ps with
 | nil=>exact ⟨[],fun i=>by simp [shp]⟩
 | cons p ps =>
  refine ⟨sh,fun i=>?_⟩
  rw [yE]
  cases e:(p::ps)[i]? with
  | none=>exact (ht p xR).2
  | some x=>exact (ht x (xK e)).2
theorem Zu3:Wn X (.builtin "sorted") (Zn9 X.K):=by
 intro pins s σ H xs us Q I r h
 obtain ⟨a,ps,sh,rfl,ha,hl,ht,hne,q⟩:=h
 obtain ⟨u,rfl,ru⟩:=Vz r
 cases ru
 obtain ⟨its,rv,p,_⟩:=I.list ha
 have ei:=Zo0 rv
 subst ei
 obtain ⟨sh',hsh⟩:=Z01 ht
 have W:Weak fun i j=>ltK (ps.getD i (ps.headD (0,[]))).2 (ps.getD j (ps.headD (0,[]))).2:=⟨fun i=>Zhx _,fun i j k=>Ziq _ _ _,fun i j k=>Zhy _ _ _ ((hsh i).trans (hsh k).symm)⟩
 have hlen:(ps.map fun p=>Value.ref p.1).length=ps.length:=xD ..
 refine Zu8 (r:=rk (fun i j=>ltK (ps.getD i (ps.headD (0,[]))).2 (ps.getD j (ps.headD (0,[]))).2) ps.length) p.isList (by rw [hlen]; exact hl) (fun h0 hk0 l2 h' hk Q' hQ=>?_) fun pa hp hu=>?_
 ·have hold:∀ (p:Addr×List Key) (o:Obj),TupAt H p->s.heap.get? p.1=some o->h'.get? p.1=some o:=fun p o _ e=>hk _ _ (yD (Nat.lt_succ_of_lt (xF e))) (hk0 _ _ e)
  obtain ⟨fs,f1,f2,f3⟩:=Zo1 (h':=h') I hne hold ps ht
  have tt:(Value.type (if sh.head hne then "int" else "str") != Value.type "tuple")=true:=by cases sh.head hne <;> rfl
  have t2:(Value.type (if sh.head hne then "int" else "str") == Value.type (if sh.head hne then "int" else "str"))=true:=by cases sh.head hne <;> rfl
  refine kat_kind (s:={s with heap:=h' }) f1 (by lia) f3 t2 (hQ _ fun i j C hi hj hC=>?_)
  rw [tt]
  rw [hlen] at hi hj
  have get:∀ {i},i < ps.length->∃ p its o n,ps.getD i (ps.headD (0,[]))=p/\(ps.map fun p=>Value.ref p.1).getD i Value.none = .ref p.1/\Vals (p.2.map kV) its/\h'.get? p.1=some o/\o.data = .seq its.toArray n:=fun {i} hi=>by
   have e:ps[i]? = some ps[i]:=xH hi
   have m:=List.getElem_mem hi
   obtain ⟨its,rv,⟨o,e1,e2,n,e3⟩,_⟩:=I.tuple (SqT.of (ht _ m).1)
   exact ⟨ps[i],its,o,n,by rw [yE,e]; rfl,by rw [yE,xW,e]; rfl,rv,hold _ o (ht _ m).1 e1,e3⟩
  obtain ⟨x,xs,ox,nx,ex,gx,vx,hx,dx⟩:=get hi
  obtain ⟨y,ys,oy,ny,ey,gy,vy,hy,dy⟩:=get hj
  rw [Zp2 W hi] at hC
  have s1:=hsh i
  have s2:=hsh j
  rw [ex] at hC s1
  rw [ey] at hC s2
  show wpAny (model X.prog X.w) X.A.in1.in1 (keyLt' (tuples' true) _ _) C (fun _ _=>False) {s with heap:=h' }
  rw [gx,gy]
  have sz:xs.length=ys.length:=by
   have a1:=vx.length; have a2:=vy.length
   have a3:(shp x.2).length=(shp y.2).length:=by rw [s1,s2]
   unfold shp at a3
   rw [xD] at a1 a2 a3
   rw [xD] at a3
   lia
  refine kat_lt hx dx hy dy ?_
  rw [xU (by simp [sz])]
  exact Zir x.2 y.2 xs ys 0 (s1.trans s2.symm) vx vy hC
 ·rw [hlen] at hp hu
  obtain ⟨b1,b2⟩:=Zxi (lt:=fun a b:Addr×List Key=>ltK a.2 b.2) hp W hu
  obtain ⟨e,he⟩:=sortedAll_at s.heap (ps.map fun p=>Value.ref p.1) (List.toArray (pa.toList.map fun i=>(ps.map fun p=>Value.ref p.1).getD i Value.none))
  have eo:(pa.toList.map fun i=>(ps.map fun p=>Value.ref p.1).getD i Value.none)=(pa.toList.map fun i=>ps.getD i (ps.headD (0,[]))).map fun p=>Value.ref p.1:=by
   rw [List.map_map]
   refine List.map_congr_left fun i hi=>?_
   have li:i < ps.length:=List.mem_range.mp (hp.mem_iff.mp hi)
   show _=Value.ref (ps.getD i (ps.headD (0,[]))).1
   rw [yE,yE,xW,xH li]
   rfl
  rw [eo] at he ⊢
  generalize (pa.toList.map fun i=>ps.getD i (ps.headD (0,[])))=ms at b1 b2 he ⊢
  have hz:ms.length=ps.length:=b1.length_eq
  refine ⟨.ref (s.heap.objs.size+1),_,I.laid (t':=s.toks) (o:=.lst (ms.map fun p=>V.ref p.1)) (fun b o=>sortedAll_old) (Nat.le_succ _) ?_,rfl,q _ ms (I.hok.fresh (Nat.le_succ _)) b1 b2⟩
  exact ⟨by rw [xD,hz]; exact yK (Nat.le_of_lt hl) (by decide),ms.map fun p=>Value.ref p.1,e,Znp ms,by simpa using he⟩
theorem Zmr:QC X (.builtin "sorted") (Zn9 X.K):=⟨Zu3⟩
end
end L2
end
section
namespace L2
open PySem PySem.Spec PyProof.Rows PySem.W
def e0:Str:=⟨#[]⟩
def ltS (x y:Str):Bool:=decide (x.cps.toList < y.cps.toList)
theorem Zo2 (x:Str):ltS x x=false:=xU (List.lt_irrefl _)
theorem Z3i {x y z:Str}(a:ltS x y=true) (b:ltS y z=true):ltS x z=true:=xM (List.lt_trans (of_decide_eq_true a) (of_decide_eq_true b))
theorem Zo3 {x y:Str}(a:ltS x y=false) (b:ltS y x=false):x=y:=by
 by_cases e:x=y
 ·exact e
 ·exact absurd (Zhw e (of_decide_eq_false a)) (of_decide_eq_false b)
section
variable {X:Cx}
end
end L2
end
section
namespace L2
open PySem PySem.Spec PyProof.Rows PySem.W
def Ents (h:Heap) (d:Addr) (es:Array DictEntry) (ep:Nat):Prop:=∃ o,h.get? d=some o/\o.ExactDict/\o.data = .dict es ep
theorem Ents.ty {s:Shared}{d:Addr}{es:Array DictEntry}{ep:Nat}(h:Ents s.heap d es ep):s.TypeIs (.ref d) "dict" := let ⟨o,e,c,_⟩:=h; ⟨o,e,c.1⟩
section
variable {prog:Program}{w:World}{A:Around}{E:Value->Shared->Prop}{s:Shared}{d it:Addr}{es:Array DictEntry}{ep i:Nat}
end
section
variable {X:Cx}
end
end L2
end
section
namespace L2
open PySem PySem.Spec PyProof.Rows
theorem Yh {X:Cx}{st:Stmt}:QS X st (fun _ _ _=>False):=⟨fun _ _ _ _ _ _ h=>h.elim⟩
end L2
end
section
namespace L2
open PySem PySem.Spec PyProof.Rows
end L2
end
section
namespace L2
open PySem PySem.Spec PyProof.Rows
structure HasM (K:uFg) (C:Addr) (m qual:Str) (st:Stmt):Prop where
 ex:∃ (f:Addr) (fd:FuncData),Fun K m qual st f fd/\Meth K C m f
structure Mt (P:Program) (w:World) (K:uFg) (mg:Str->Option Value) (base:Heap) (C:Addr) (m:Str) (ps:List Str) (k:Nat) (sp:Sp):Prop where
 ex:∃ (f:Addr) (fd:FuncData),Meth K C m f/\FnOk P w K mg base CX0 k f fd ps sp/\Binds K fd ps []
section
variable {P:Program}{w:World}{K:uFg}{mg:Str->Option Value}{base:Heap}{C:Addr}{m qual:Str}{st:Stmt}{N ps:List Str}{k:Nat}{sp:Sp}
theorem HasM.mtQ (h:HasM K C m qual st) (S:FnScope N ps (Zb st))
  (hb:∀ (kV doc pm:Value) (an:Option Addr) (cdv ct:Value) (us:List Value),us.length=ps.length->bindArgs (PySem.W.fnOf m qual (Wk st) (Yi st) (Zb st) .none kV doc pm an cdv ct) ⟨us,[]⟩=pure (ps.zip us))
  (len:∀ vs H Q E,sp vs H Q E->vs.length=ps.length)
  (hbody:∀ (f:Addr) (cdv:Value) (A:Around) (outer:List Env) (s:Shared) (H:Hp) (vs:List V) (Q:VK) (E:XK),Room k (A.deeper (envOfC qual (Zb st) s.heap.objs.size f cdv))->sp vs H Q E ->
   ∃ t,QSs (Yo CX0 P w K mg base N qual (Zb st) f cdv A outer s H E).nox (Yi st) t/\t {nx:=fun _ H'=>Q .non H',rt:=Q } (start N vs) H):Mt P w K mg base C m ps (k+1) sp:=by
 obtain ⟨f,fd,F,M⟩:=h.ex
 exact ⟨f,fd,M,F.okQ S len (hbody f),F.binds hb⟩
theorem Z02 {f:Addr}{oc:Value}{od an:Option Addr}{osl:Array (Option Value)}{kV doc pm cdv ct:Value}(a:PySem.W.findIn K (.ref C) m=some (some (.ref f))) (i:PySem.W.isFn K (.ref f)=true) (l:K.lookup f=some ⟨oc,od,.func (PySem.W.fnOf m qual (Wk st) (Yi st) (Zb st) .none kV doc pm an cdv ct),osl⟩)
  (c:PySem.W.codeIn K cdv qual=true) (kp:PySem.W.keepIn K (.ref f)=true):HasM K C m qual st:=⟨f,_,Zim l c kp,⟨a,i,kp⟩⟩
theorem hMQ {K:uFg}(C:Addr) (m qual:Str) (st:Stmt) (f c:Addr) (pm:Value)
  (e:PySem.W.findIn K (.ref C) m=some (some (.ref f))/\PySem.W.isFn K (.ref f)=true/\K.lookup f=some ⟨.type "function", none,.func (PySem.W.fnOf m qual (Wk st) (Yi st) (Zb st) .none .none .none pm none (.ref c) .none),#[]⟩/\PySem.W.codeIn K (.ref c) qual=true/\PySem.W.keepIn K (.ref f)=true):HasM K C m qual st:=Z02 e.1 e.2.1 e.2.2.1 e.2.2.2.1 e.2.2.2.2
structure Mks (P:Program) (w:World) (K:uFg) (mg:Str->Option Value) (base:Heap) (C:Addr) (x:Str) (k:Nat) (sp:Sp):Prop where
 ex:∃ (f:Addr) (fd:FuncData),Mk K C f/\FnOk P w K mg base CX0 k f fd ["self"] sp/\Binds K fd ["self"] []/\mg x=some (.ref C)
theorem Mt.mks {x:Str}(h:Mt P w K mg base C "__init__" ["self"] k sp) (mk:PySem.W.makesIn K C=true) (kc:PySem.W.keepIn K (.ref C)=true) (g:mg x=some (.ref C)):Mks P w K mg base C x k sp:=by
 obtain ⟨f,fd,M,F,B⟩:=h.ex
 exact ⟨f,fd,⟨mk,M.at_,M.fn,kc⟩,F,B,g⟩
end
section
variable {X:Cx}{C:Addr}{m x f:Str}{ps:List Str}{k:Nat}{sp:Sp}{o e value i:Expr}{es:List Expr}{ta td ty tv:TE}{t:TA}{apos pos pos' p:Pos}
theorem Z6 {pl:Sem Bool}(he:QE X o ta) (c:Cls X.K C) (M:Mt X.prog X.w X.K X.mg X.base C m ps k sp) (hr:Room k X.A) (ha:QA X (e::es) t)
  (hst:starEach (e::es) X.env=(false,eval e X.env)::starEach es X.env:=by rfl) (hpl:(backTo pos (starEach es X.env)).any (·.1)=false:=by rfl)
  (ht:eval (.Call (.Attribute o m apos) (e::es) [] pos) X.env=(do
   let ov ← eval o X.env
   standAt apos.atName
   let (f,first) ← holding [ov] (getMethod ov m pl)
   callWith pos f first (backTo pos (starEach (e::es) X.env)) (backToKw pos (keywordEach [] X.env))):=by rfl) :
  QE X (.Call (.Attribute o m apos) (e::es) [] pos) (Ze5 C m sp [] E0 ta t):=by
 obtain ⟨f,fd,M,F,B⟩:=M.ex
 exact ⟨Z0f he.h c M F hr B .nil Ze6 ha.h hst hpl ht⟩
theorem Vq {pl:Sem Bool}(he:QE X o ta) (c:Cls X.K C) (M:Mt X.prog X.w X.K X.mg X.base C m ps k sp) (hr:Room k X.A)
  (ht:eval (.Call (.Attribute o m apos) [] [] pos) X.env=(do
   let ov ← eval o X.env
   standAt apos.atName
   let (f,first) ← holding [ov] (getMethod ov m pl)
   callWith pos f first (backTo pos (starEach [] X.env)) (backToKw pos (keywordEach [] X.env))):=by rfl) :
  QE X (.Call (.Attribute o m apos) [] [] pos) (Ze5 C m sp [] E0 ta Wj):=by
 obtain ⟨f,fd,M,F,B⟩:=M.ex
 exact ⟨Zx4 he.h c M F hr B .nil Ze6 ht⟩
theorem Zev (M:Mks X.prog X.w X.K X.mg X.base C x k sp) (hr:Room (k+1) X.A) (n:Nm X.env.scope x .globalImplicit):QE X (.Call (.Name x p) [] [] pos) (Zrb C sp [] E0 Wj):=by
 obtain ⟨f,fd,M,F,B,g⟩:=M.ex
 exact ⟨Zx6 M F hr n.1 g B .nil Ze6 n.2.1⟩
theorem Zq (he:QE X e ta) (hb:attributeBase e f X.env (eval e X.env)=eval e X.env:=by rfl):QE X (.Attribute e f pos) (Zk2 X.K ta f):=⟨Zpq he.h hb⟩
theorem Wc (ha:QE X o ta) (hv:QE X value tv) (hs:swapsWith value (some (.Attribute o f pos')) pos.line X.env=pure false:=by rfl):QS X (.Assign [.Attribute o f pos'] value pos) (Ztw X.K ta tv f):=⟨Z2s ha.h hv.h hs⟩
theorem Zcx:QE X (.Dict [] [] pos) Zpu:=⟨Zyc⟩
theorem Zel (hr:Room k X.A) (ho:QE X o td) (hi:QE X i ty) (hs:Zk4 i):QE X (.Subscript o i pos) (Zrh td ty):=⟨Z0l (by have:=hr.units; lia) ho.h hi.h hs⟩
theorem Zy0 {ek ev:Expr}{tk tw:TE}(hk:QE X ek tk) (hv:QE X ev tw):QE X (.Dict [some ek] [ev] pos) (Zrj [(tk,tw)]):=⟨Z0o (Zye hk.h hv.h Z0n) rfl rfl (by simp) (by show 1<=15; decide)⟩
def Z4j:List V->Hp->VK->Prop:=fun xs H Q=>∃ a kvs,xs = [V.ref a]/\H a=some (.dK kvs)/\Q (.int kvs.length) H
theorem Zvw:QC X (.builtin "len") Z4j:=⟨Zw8⟩
end
end L2
end
section
namespace L2
open PySem PySem.Spec PyProof.Rows
section
variable {X:Cx}{pins:List (Addr×Obj)}{σ:St}{H:Hp}{s:Shared}
end
section
variable {X:Cx}{e:Expr}{te:TE}
end
section
variable {X:Cx}{tg l:Expr}{te:TE}
end
section
variable {X:Cx}
end
end L2
end
section
namespace L2
open PySem PySem.Spec PyProof.Rows
section
variable {X:Cx}{o:Expr}{te:TE}
end
end L2
end
section
namespace L2
open PySem PySem.Spec PyProof.Rows
end L2
end
section
namespace L2
open PySem PySem.Spec PyProof.Rows PySem.W
section
variable {prog:Program}{w:World}{A:Around}{E:Value->Shared->Prop}{s:Shared}{d it:Addr}{es:Array DictEntry}{ep i:Nat}
theorem Zxk (d:Addr) (lo:(d == sysModules)=false):MeetsIn prog w (Builtin.«dict.items» ⟨[.ref d],[]⟩) (fun _ R s=>s.TypeIs (.ref d) "dict" /\ R (.ok (.ret (.ref s.heap.objs.size))) {s with heap:=s.heap.push {cls:=.type "dict_items", data:=.fields #[.ref d] } }) :=
 .of_wp fun A R s ⟨ty,q⟩=>by
  unfold Builtin.«dict.items» Builtin.Dict.noArgs; refine wpAny_bind (wpAny_bind (wpAny_notOrdered_dict ty ?_))
  show wpAny _ _ (pure d) _ _ s; refine wpAny_pure ?_
  show wpAny _ _ (Builtin.Dict.showsAll d >>= _) _ _ s; unfold Builtin.Dict.showsAll; rw [if_neg (by rw [lo]; simp)]
  exact wpAny_bind (wpAny_pure (wpAny_bind (wpAny_newObj_type (wpAny_pure ⟨_,rfl,q⟩))))
theorem Zvx {v:Addr}{Q:Value->Shared->Prop}(hv:s.heap.IsItemsView v d) (h:Ents s.heap d es ep)
  (q:Q (.ref s.heap.objs.size) {s with heap:=s.heap.push {cls:=.type "dict_itemiterator", data:=.fields #[.none,.bool false,.ref d,.int 0 0,.int es.size 0,.int ep 0,.none,.none] } }):wpAny (model prog w) A (pyIter (.ref v)) Q E s:=by
 have ty:=hv.typeIs
 obtain ⟨ov,v1,v2,v3⟩:=hv
 obtain ⟨o,e1,e2,e3⟩:=h
 refine wpAny_pyIter_slot ty PySem.F.slot_dict_items_iter (wpAny_call_entry PySem.F.slot_dict_items_iter ty PySem.F.entry_dict_items_iter ?_ (PySem.F.args_dict_items_iter_1 _))
 unfold Builtin.«dict_items.__iter__»; refine wpAny_bind (wpAny_pure (wpAny_bind ?_)); unfold Builtin.Dict_items.dictOf
 refine wpAny_bind (wpAny_field v1 v3 (x:=.ref d) rfl (wpAny_pure (wpAny_bind ?_))); unfold Builtin.Dict_items.newIterator; refine wpAny_bind (wpAny_dictEntries e1 e3 (wpAny_bind (wpAny_dictEpoch e1 e3 ?_)))
 simp only [show Builtin.Dict_items.ownsTuple "dict_itemiterator" = true by decide,if_true]
 refine wpAny_newObj_type (wpAny_pure ⟨_,rfl, "dict_itemiterator", _,⟨_,xI _ rfl,rfl⟩,PySem.F.slot_dict_itemiterator_next.lookup,?_⟩) (by simp only [sizeOk,Builtin.Dict_items.ownedTupleFields,xL,xJ,xG,yF,sizeLine_eq]; lia)
 simpa [rawInt,Builtin.Dict_items.ownedTupleFields] using q
theorem Zvy {ok ov:Value}{Q:Option Value->Shared->Prop}(hI:IsItemIter s.heap it d i es.size ep ok ov) (h:Ents s.heap d es ep) (hi:i < es.size)
  (q:∀ h',IsItemIterOut h' it d (i+1) es.size ep es[i].key es[i].val s.heap.objs.size->h'.get? s.heap.objs.size=some {cls:=.type "tuple", data:=.seq #[es[i].key,es[i].val] }->h'.objs.size=s.heap.objs.size+1->(∀ b o,b≠it->s.heap.get? b=some o->h'.get? b=some o)->Q (some (.ref s.heap.objs.size)) {s with heap:=h' }) :
  wpAny (model prog w) A (pyNext (.ref it)) Q E s:=by
 obtain ⟨hp,g,dr,tk,os⟩:=s
 obtain ⟨od,e1,e2,e3⟩:=h
 have ty:Shared.TypeIs ⟨hp,g,dr,tk,os⟩ (.ref it) "dict_itemiterator" := ⟨_,hI,rfl⟩
 unfold pyNext; refine wpAny_bind (wpAny_attempt (wpAny_callSpecial?_slot (name:=Str.ofString "__next__") ty PySem.F.slot_dict_itemiterator_next (wpAny_call_entry PySem.F.slot_dict_itemiterator_next ty PySem.F.entry_dict_itemiterator_next ?_ (PySem.F.args_dict_itemiterator_next_1 _))))
 refine wpAny_bind (wpAny_pure (wpAny_bind (wpAny_bind ?_)))
 first | refine wpAny_bind (wpAny_typeNameOfWhole_itemiter ty (wpAny_pure (wpAny_bind (wpAny_fieldsOf hI rfl ?_)))) | refine wpAny_bind (wpAny_typeNameOf_itemiter ty (wpAny_pure (wpAny_bind (wpAny_fieldsOf hI rfl ?_))))
 simp only [show Builtin.Dict_items.ownsTuple "dict_itemiterator" = true by decide,if_true]
 show wpAny _ _ (if (Value.ref d == Value.none)=true then _ else _) _ _ _; rw [if_neg (show ¬ ((Value.ref d == Value.none)=true) from xE)]
 refine wpAny_bind (wpAny_pure (wpAny_bind (wpAny_dictEntries e1 e3 ?_))); rw [if_neg (by simp)]
 refine wpAny_bind (wpAny_pure (wpAny_bind (wpAny_dictEpoch e1 e3 ?_))); rw [if_neg (by simp)]; refine wpAny_pure ?_
 simp only [show ¬ ((i:Int) < 0) from by lia,if_false,Int.toNat_natCast,Array.getElem?_eq_getElem hi]; refine wpAny_bind ?_
 first | refine wpAny_bind (wpAny_typeNameOfWhole_itemiter ty (wpAny_pure (wpAny_bind (wpAny_isOneOf_itemiter ty ?_)))) | refine wpAny_bind (wpAny_typeNameOf_itemiter ty (wpAny_pure (wpAny_bind (wpAny_isOneOf_itemiter ty ?_))))
 show wpAny _ _ (setField (.ref it) 3 (rawInt ((i:Int)+1)) >>= _) _ _ ⟨hp,g,dr,tk,os⟩; refine wpAny_bind (wpAny_setField_rec hI (by simp) fun h1 a1 b1=>?_)
 have b1:Heap.SameBut it hp h1:=b1
 have a1:IsItemIter h1 it d (i+1) es.size ep ok ov:=by
  have e:((i+1:Nat):Int)=(i:Int)+1:=by lia
  unfold IsItemIter; rw [e]; simpa [rawInt] using a1
 have ty1:Shared.TypeIs ⟨h1,g,dr,tk,os⟩ (.ref it) "dict_itemiterator" := ⟨_,a1,rfl⟩
 refine wpAny_bind (wpAny_holding (wpAny_bind (wpAny_isOneOf_itemiter ty1 (wpAny_bind (wpAny_isOneOf_itemiter ty1 ?_)))))
 show wpAny _ _ (Builtin.Dict_items.pairFromOwner (.ref it) 6 es[i].key es[i].val) _ _ ⟨h1,g,dr,tk,os⟩; unfold Builtin.Dict_items.pairFromOwner; refine wpAny_bind (wpAny_newTuple ?_)
 have a2:IsItemIter (h1.push {cls:=.type "tuple", data:=.seq #[es[i].key,es[i].val] }) it d (i+1) es.size ep ok ov:=xA _ a1
 have z1:h1.objs.size=hp.objs.size:=b1.1
 have hil:it < hp.objs.size:=xF hI
 have t2:(h1.push {cls:=.type "tuple", data:=.seq #[es[i].key,es[i].val] }).get? hp.objs.size=some {cls:=.type "tuple", data:=.seq #[es[i].key,es[i].val] }:=by rw [← z1]; exact xI _ rfl
 have z2:(h1.push {cls:=.type "tuple", data:=.seq #[es[i].key,es[i].val] }).objs.size=hp.objs.size+1:=by rw [Heap.size_push,z1]
 have k2:∀ b o,b≠it->hp.get? b=some o->(h1.push {cls:=.type "tuple", data:=.seq #[es[i].key,es[i].val] }).get? b=some o:=fun b o hb e=>xA _ (b1.extBut b o hb e)
 generalize h1.push {cls:=.type "tuple", data:=.seq #[es[i].key,es[i].val] }=h2 at a2 t2 z2 k2
 show wpAny _ _ (Builtin.Dict_items.ownedTupleIsFree (.ref it) >>= _) _ _ ⟨h2,g,dr,tk,os⟩
 rw [z1]
 refine wpAny_bind ?_; unfold Builtin.Dict_items.ownedTupleIsFree; refine wpAny_bind (wpAny_field a2 rfl (x:=.none) rfl (wpAny_pure ?_)); simp only [if_true]
 refine wpAny_bind (wpAny_field a2 rfl (x:=ok) rfl (wpAny_bind (wpAny_field a2 rfl (x:=ov) rfl (wpAny_bind (wpAny_setField_rec a2 (by simp) fun h3 a3 b3=>?_)))))
 have b3:Heap.SameBut it h2 h3:=b3
 have a3:IsItemIter h3 it d (i+1) es.size ep es[i].key ov:=a3
 refine wpAny_bind (wpAny_setField_rec a3 (by simp) fun h4 a4 b4=>?_)
 have b4:Heap.SameBut it h3 h4:=b4
 have a4:IsItemIter h4 it d (i+1) es.size ep es[i].key es[i].val:=a4
 refine wpAny_bind (wpAny_setField_rec a4 (by simp) fun h5 a5 b5=>?_)
 have b5:Heap.SameBut it h4 h5:=b5
 have a5:IsItemIterOut h5 it d (i+1) es.size ep es[i].key es[i].val hp.objs.size:=a5
 refine wpAny_bind (wpAny_setField_rec a5 (by simp) fun h6 a6 b6=>?_)
 have b6:Heap.SameBut it h5 h6:=b6
 have a6:IsItemIterOut h6 it d (i+1) es.size ep es[i].key es[i].val hp.objs.size:=a6
 have kk:∀ b o,b≠it->h2.get? b=some o->h6.get? b=some o:=fun b o hb e=>b6.extBut b o hb (b5.extBut b o hb (b4.extBut b o hb (b3.extBut b o hb e)))
 exact wpAny_bind (wpAny_letGo (wpAny_pure (wpAny_pure ⟨_,rfl,wpAny_pure (q h6 a6 (kk _ _ (Nat.ne_of_gt hil) t2) (by show h6.objs.size=hp.objs.size+1; rw [b6.1,b5.1,b4.1,b3.1,z2]) fun b o hb e=>kk b o hb (k2 b o hb e))⟩)))
theorem Zxl {ok ov:Value}{Q:Option Value->Shared->Prop}(hh:A.handled=none) (hI:IsItemIter s.heap it d i es.size ep ok ov) (h:Ents s.heap d es ep) (hi:es.size<=i) (q:∀ h',Heap.ExtBut it s.heap h'->Q none {s with heap:=h' }):wpAny (model prog w) A (pyNext (.ref it)) Q E s:=by
 obtain ⟨od,e1,e2,e3⟩:=h
 have ty:s.TypeIs (.ref it) "dict_itemiterator" := ⟨_,hI,rfl⟩
 unfold pyNext; refine wpAny_bind (wpAny_attempt (wpAny_callSpecial?_slot (name:=Str.ofString "__next__") ty PySem.F.slot_dict_itemiterator_next (wpAny_call_entry PySem.F.slot_dict_itemiterator_next ty PySem.F.entry_dict_itemiterator_next ?_ (PySem.F.args_dict_itemiterator_next_1 _))))
 refine wpAny_bind (wpAny_pure (wpAny_bind (wpAny_bind ?_)))
 first | refine wpAny_bind (wpAny_typeNameOfWhole_itemiter ty (wpAny_pure (wpAny_bind (wpAny_fieldsOf hI rfl ?_)))) | refine wpAny_bind (wpAny_typeNameOf_itemiter ty (wpAny_pure (wpAny_bind (wpAny_fieldsOf hI rfl ?_))))
 simp only [show Builtin.Dict_items.ownsTuple "dict_itemiterator" = true by decide,if_true]
 show wpAny _ _ (if (Value.ref d == Value.none)=true then _ else _) _ _ s; rw [if_neg (show ¬ ((Value.ref d == Value.none)=true) from xE)]
 refine wpAny_bind (wpAny_pure (wpAny_bind (wpAny_dictEntries e1 e3 ?_))); rw [if_neg (by simp)]
 refine wpAny_bind (wpAny_pure (wpAny_bind (wpAny_dictEpoch e1 e3 ?_))); rw [if_neg (by simp)]; refine wpAny_pure ?_
 simp only [show ¬ ((i:Int) < 0) from by lia,if_false,Int.toNat_natCast,Array.getElem?_eq_none hi]; refine wpAny_bind ?_
 first | refine wpAny_bind (wpAny_typeNameOfWhole_itemiter ty (wpAny_pure ?_)) | refine wpAny_bind (wpAny_typeNameOf_itemiter ty (wpAny_pure ?_))
 show wpAny _ _ (setField (.ref it) 2 .none >>= _) _ _ s; refine wpAny_bind (wpAny_setField hI rfl (by simp) ?_)
 show wpAny _ _ (newExc (.type "StopIteration") [] >>= _) _ _ _; refine wpAny_bind ?_; simp only [newExc,newTuple]; refine wpAny_bind (wpAny_newObj_type ?_ (by size_fits))
 refine wpAny_bind (m:=firstArgMember _ _) (wpAny_of_eq (a:=Value.none) (by first | rfl | (simp only [firstArgMember]; rfl)) ?_); refine wpAny_newObj_type ?_ (by size_fits); simp only [raiseNew]
 refine wpAny_bind (wpAny_handled ?_); rw [show A.in1.handled=none from hh]; refine wpAny_bind (wpAny_pure (wpAny_throw ?_))
 exact wpAny_bind (wpAny_isInstance (T := "StopIteration") (b:=true) ⟨_,xI _ rfl,rfl⟩ isSubtype_stop (wpAny_pure (q _ (((Heap.SameBut.update ..).extBut.push _).push _))))
end
section
variable {X:Cx}{pins:List (Addr×Obj)}{σ:St}{H:Hp}{s:Shared}
theorem Inv.freezeT {d:Addr}{o:Obj}{kvs:List (List Key×V)}(I:Inv X pins σ H s) (e:H d=some (.dT kvs)) (ho:s.heap.get? d=some o):Inv X pins σ (upd H d (.frz o (.dT kvs))) s:=by
 have ne:∀ b u,H b=some u->(∀ ks,u ≠ .dT ks)->b≠d:=fun b u q n z=>by rw [z,e] at q; exact n _ (Option.some.inj q).symm
 exact I.write (h':=s.heap) (t':=s.toks) (x:=d) (e:=d) (o:=.frz o (.dT kvs)) (by rw [e]; exact True.intro) (.inl rfl) (fun _ _ _ q=>q) ⟨o,ho⟩
  ⟨ho,(show ObjOk X.prog X.w H s.heap d (.dT kvs) from I.hok d _ e).stay (fun _ _ _ z=>z) (fun c z=>by rw [Zd (ne c _ z fun _ y=>nomatch y)]; exact z) fun c xs z=>by rw [Zd (ne c _ z fun _ y=>nomatch y)]; exact z⟩
theorem Inv.nofrzT {d:Addr}{kvs:List (List Key×V)}(I:Inv X pins σ H s) (e:H d=some (.dT kvs)):∀ o u,X.H₀ d≠some (.frz o u):=fun o u z=>by
 have:=I.base.frzs d o u z
 rw [e] at this; cases this
theorem Inv.thawT {d:Addr}{o:Obj}{kvs:List (List Key×V)}(I:Inv X pins σ H s) (e:H d=some (.frz o (.dT kvs))) (nf:∀ o u,X.H₀ d≠some (.frz o u)):Inv X pins σ (upd H d (.dT kvs)) s:=by
 have hne:∀ b u,H b=some u->(∀ x,u ≠ .frz o x)->b≠d:=fun b u q n z=>by rw [z,e] at q; exact n _ (Option.some.inj q).symm
 have hnn:∀ b,H b=none->b≠d:=fun b q z=>by rw [z,e] at q; cases q
 refine ⟨I.ok,I.os,I.bare,⟨I.base.keep,I.base.slot,fun b ob q n hx=>?_,I.base.there,fun b xs q=>?_,fun b ob u q=>?_,fun b ps q=>?_⟩,I.loc,I.cell,?_,fun x c q=>?_,fun p hp=>?_,fun b u q=>?_,I.len⟩
 ·have:=I.base.free b ob q n hx
  rw [Zd (hnn b this)]; exact this
 ·have:=I.base.tups b xs q
  rw [Zd (hne b _ this fun _ z=>nomatch z)]; exact this
 ·have:=I.base.frzs b ob u q
  rw [Zd (fun z=>nf ob u (by rw [← z]; exact q))]; exact this
 ·obtain ⟨m,hm⟩:=I.base.tbls b ps q
  exact ⟨m,by rw [Zd (hne b _ hm fun _ z=>nomatch z)]; exact hm⟩
 ·rw [Zd (hnn _ I.free)]; exact I.free
 ·rw [Zd (hnn _ (I.freeC x c q))]; exact I.freeC x c q
 ·obtain ⟨p1,p2,p3,p4,p5⟩:=I.pin p hp
  exact ⟨p1,by rw [Zd (hnn _ p2)]; exact p2,p3,p4,p5⟩
 ·have st:∀ {u:HO},ObjOk X.prog X.w H s.heap b u->ObjOk X.prog X.w (upd H d (.dT kvs)) s.heap b u:=fun k=>k.stay (fun _ _ _ z=>z) (fun c z=>by rw [Zd (hne c _ z fun _ y=>nomatch y)]; exact z) fun c xs z=>by rw [Zd (hne c _ z fun _ y=>nomatch y)]; exact z
  by_cases hb:b=d
  ·subst hb
   rw [Zi] at q
   cases q
   exact st (show ObjOk X.prog X.w H s.heap b (.frz o (.dT kvs)) from I.hok b _ e).2
  ·rw [Zd hb] at q
   exact st (I.hok b u q)
end
section
variable {X:Cx}{e:Expr}{te:TE}
def Z3j (te:TE):TE:=fun σ H Q=>∃ d kvs,H d=some (.dT kvs)/\∀ o,te σ (upd H d (.frz o (.dT kvs))) fun v H'=>H' d=some (.frz o (.dT kvs))/\Q v (upd H' d (.dT kvs))
theorem Zoa (h:QE X e te):QE X e (Z3j te):=⟨by
 intro pins s σ H Q I q
 obtain ⟨d,kvs,ed,q⟩:=q
 obtain ⟨z,y,vs,r,o,es,ep,ho,c⟩:=(show ObjOk X.prog X.w H s.heap d (.dT kvs) from I.hok d _ ed)
 have nf:=I.nofrzT ed
 exact thn (h.h pins s σ _ _ (I.freezeT ed ho) (q o)) fun u s1 ⟨x,H1,I1,r1,e1,q1⟩=>⟨x,_,I1.thawT e1 nf,r1,q1⟩⟩
end
def ItT (d:Addr) (o:Obj) (kvs:List (List Key×V)):It :=
 ⟨fun i H=>H d=some (.frz o (.dT kvs))/\i < kvs.length,fun i H v H'=>∃ p a x,kvs[i]? = some x/\H a=some (.tup (x.1.map kV))/\v = .ref p/\H p=none/\H'=upd H p (.tup [.ref a,x.2]),fun i H=>H d=some (.frz o (.dT kvs))/\kvs.length<=i⟩
theorem KT.at {H:Hp}:∀ {kvs:List (List Key×V)}{xs:List (List Key×Addr×Value)},Paired (fun (p:List Key×V) (q:List Key×Addr×Value)=>p.1=q.1/\H q.2.1=some (.tup (p.1.map kV))/\RelV p.2 q.2.2) kvs xs->∀ {i:Nat}{x:List Key×V}{y:List Key×Addr×Value},kvs[i]? = some x->xs[i]? = some y->H y.2.1=some (.tup (x.1.map kV))/\RelV x.2 y.2.2:=by
 intro kvs xs h
 induction h with
 | nil=>intro i x y h1; simp at h1
 | @cons a b as bs r t ih =>
  intro i x y h1 h2
  cases i with
  | zero=>cases h1; cases h2; exact r.2
  | succ i=>exact ih h1 h2
theorem Zu9 {P:Program}{w:World}{K:uFg}{elts:List Expr}{ek:Nat}{epos:Pos}(it d:Addr) (o:Obj) (kvs:List (List Key×V)) (es:Array DictEntry) (ep:Nat) (hne:d≠it) (hsz:es.size=kvs.length) (hD:o.ExactDict/\o.data = .dict es ep) :
  Turn P w K (.Tuple elts ek epos) (ItT d o kvs) [it] it (fun i h=>∃ ok ov,IsItemIter h it d i es.size ep ok ov) where
 mem:=by simp
 obj:=fun i h st b hb=>by
  have e:b=it:=by simpa using hb
  subst e
  obtain ⟨ok,ov,st⟩:=st
  exact ⟨_,st,fun v q=>by cases q⟩
 keep:=fun i h h' st k=>by
  obtain ⟨ok,ov,st⟩:=st
  exact ⟨ok,ov,k it (by simp) _ st⟩
 item:=by
  intro X hP hw hK hc i pins s σ H E I hf st hg
  subst hP hw hK
  obtain ⟨ok,ov,st⟩:=st
  obtain ⟨f0,f1,f2,f3,f4,f5⟩:=hf it (by simp)
  obtain ⟨ed,hi⟩:=hg
  obtain ⟨hod,z,lo,xs,rel,o',es',ep',ho',c1,c2,c3,c4⟩:=(show ObjOk X.prog X.w H s.heap d (.frz o (.dT kvs)) from I.hok d _ ed)
  rw [hod] at ho'
  cases ho'
  rw [hD.2] at c2
  cases c2
  have hi':i < es.size:=by lia
  obtain ⟨x,hx⟩:∃ x,kvs[i]? = some x:=⟨_,xH hi⟩
  obtain ⟨y,hy⟩:∃ y,xs[i]? = some y:=⟨_,xH (by rw [← rel.length]; exact hi)⟩
  have ee:es[i]'hi'=entryOfKey (tupleKind (Ys X.prog X.w)) y:=by
   have:es.toList[i]? = some (entryOfKey (tupleKind (Ys X.prog X.w)) y):=by rw [c3,xW,hy]; rfl
   rw [Array.getElem?_toList,Array.getElem?_eq_getElem hi'] at this
   exact Option.some.inj this
  obtain ⟨ha,rv⟩:=KT.at rel hx hy
  refine Zvy st ⟨o,hod,hD⟩ hi' fun h' ho hT hsz' kp=>?_
  rw [ee] at ho hT
  refine ⟨_,rfl,?_⟩
  have hp:H s.heap.objs.size=none:=I.hok.fresh (xB _)
  have ltp:∀ c o,s.heap.get? c=some o->c≠s.heap.objs.size:=fun c o e=>yD (xF e)
  have kp':∀ c o,c ∉ [it]->s.heap.get? c=some o->h'.get? c=some o:=fun c o hc e=>kp c o (fun q=>hc (by simp [q])) e
  have ntr:∀ c u,H c=some u->c ∉ [it]:=fun c u e hc=>by
   have:=(hf c hc).1
   rw [this] at e; cases e
  have I1:Inv X pins σ (upd H s.heap.objs.size (.tup [.ref y.2.1,x.2])) {s with heap:=h' }:=by
   refine I.step (g':=s.gens) (d':=s.drawn) (t':=s.toks) (ch:=[it]) (fun c hc=>?_) (fun c o _ _ hc e _=>kp' c o hc e) (fun c o _ _ hc e _=>⟨o.slots,kp' c o hc e⟩) (fun c o hc e n=>by rw [Zd (ltp c o e)]; exact n)
    (fun c o hc e=>⟨o,kp' c o hc e⟩) (fun c us e=>by rw [Zd (Zj e hp)]; exact e) (fun c o u e=>by rw [Zd (Zj e hp)]; exact e) (fun c ps e=>⟨#[],by rw [Zd (Zj e hp),e]; simp⟩) (fun m hm=>?_) ?_ I.bare
   ·obtain ⟨f0,f1,f2,f3,f4,f5⟩:=hf c hc
    exact ⟨f3,f1,f4,f5⟩
   ·refine hm.at fun o e=>kp' _ o (fun hc=>?_) e
    exact (hf _ hc).2.1 rfl
   ·intro c u e
    by_cases hcp:c=s.heap.objs.size
    ·subst hcp
     rw [Zi] at e
     cases e
     exact ⟨by show 2<=sizeLine; decide,[.ref y.2.1,y.2.2],.cons rfl (.cons rv .nil),⟨_,hT,rfl,_,rfl⟩⟩
    ·rw [Zd hcp] at e
     refine (I.hok c u e).stay (fun d v hd q=>kp' d v ?_ q) (fun d q=>by rw [Zd (Zj q hp)]; exact q) fun d us q=>by rw [Zd (Zj q hp)]; exact q
     rcases hd with rfl | hd
     ·exact ntr _ u e
     ·exact ntr _ _ hd
  refine wpAny_letOwnedTupleGo_items (s:={s with heap:=h' }) ho fun h2 z2 e2=>?_
  have nz:it≠s.heap.objs.size:=ltp it _ st
  have I2:Inv X pins σ (upd H s.heap.objs.size (.tup [.ref y.2.1,x.2])) {s with heap:=h2 }:=I1.turned (s:={s with heap:=h' }) (it:=it) (t':=s.toks) (fun c o hc e=>(e2.2 c hc).trans e) (by rw [Zd nz]; exact f0) f1 f3 f4 f5
  refine ⟨.ref s.heap.objs.size,_,I2,rfl,⟨s.heap.objs.size,y.2.1,x,hx,ha,rfl,hp,rfl⟩,⟨_,_,z2⟩,fun c hc=>?_⟩
  obtain rfl:c=it:=by simpa using hc
  rw [Zd nz]
  exact f0
 done:=by
  intro X hP hw hK hc i pins s σ H E I hf st hg
  subst hP hw hK
  obtain ⟨ok,ov,st⟩:=st
  obtain ⟨f0,f1,f2,f3,f4,f5⟩:=hf it (by simp)
  obtain ⟨ed,hi⟩:=hg
  obtain ⟨hod,_⟩:=(show ObjOk X.prog X.w H s.heap d (.frz o (.dT kvs)) from I.hok d _ ed)
  exact Zxl (I.ok.hd hc) st ⟨o,hod,hD⟩ (by lia) fun h' eb=>⟨rfl,I.turned (t':=s.toks) (fun b ob hb e=>eb b ob hb e) f0 f1 f3 f4 f5⟩
 self:=fun _ _ _ _ _ st h=>by
  obtain ⟨ok,ov,st⟩:=st
  exact PySem.W.kcp_self st h
section
variable {X:Cx}{o:Expr}{te:TE}
def Z03 (te:TE):TI:=fun σ H R=>te σ H fun x H1=>∃ d ob kvs,x = .ref d/\H1 d=some (.frz ob (.dT kvs))/\R (ItT d ob kvs) H1
theorem Znq {elts:List Expr}{ek:Nat}{epos apos cpos:Pos}(hl:QE X o te) (hbase:attributeBase o "items" X.env (eval o X.env)=eval o X.env:=by rfl) (hline:(apos.endLine == cpos.line)=true:=by rfl) :
  QI X (.Tuple elts ek epos) (.Call (.Attribute o "items" apos) [] [] cpos) (Z03 te):=⟨by
 intro pins s σ H R I h
 refine wpAny_Call_method0_late hbase hline (thn (hl.h pins s σ H _ I h) fun u s1 ⟨x,H1,I1,r1,d,ob,kvs,ex,ed,q⟩=>?_)
 subst ex
 obtain rfl:u=Value.ref d:=r1
 obtain ⟨hod,z,lo,xs,rel,o',es,ep,ho',c1,c2,c3,c4⟩:=(show ObjOk X.prog X.w H1 s1.heap d (.frz ob (.dT kvs)) from I1.hok d _ ed)
 rw [hod] at ho'
 cases ho'
 have hE:Ents s1.heap d es ep:=⟨ob,hod,c1,c2⟩
 have hsz:es.size=kvs.length:=by rw [← Array.length_toList,c3,xD,rel.length]
 refine ⟨"dict", "dict.items", PySem.F.plainAttrs_dict,PySem.F.slot_dict_items,PySem.F.type_dict_items,hE.ty,fun b hb=>?_,Calls.callWith_builtin rfl (PySem.evalArgs_none ?_)⟩
 ·cases hb
  exact ⟨ob,hod,c1.2.1⟩
 refine call_meetsIn PySem.F.slot_dict_items hE.ty PySem.F.entry_dict_items (PySem.F.args_dict_items_1 _) (Zxk d lo) ⟨hE.ty,?_⟩
 have I2:Inv X pins σ H1 {s1 with heap:=s1.heap.push {cls:=.type "dict_items", data:=.fields #[.ref d] } }:=I1.kept (t':=s1.toks) fun b ob e=>xA _ e
 have lt2:d < (s1.heap.push {cls:=.type "dict_items", data:=.fields #[.ref d] }).objs.size:=xF (xA _ hod)
 refine Zvx (es:=es) (ep:=ep) (v:=s1.heap.objs.size) ⟨_,xI _ rfl,rfl,rfl⟩ ⟨ob,xA _ hod,c1,c2⟩ ?_
 refine ⟨_,[_],_,_,H1,rfl,I2.kept (t':=s1.toks) fun b ob e=>xA _ e,Zu9 _ d ob kvs es ep (yD lt2) hsz ⟨c1,c2⟩,⟨.none,.none,xI _ rfl⟩,fun b hb=>?_,q⟩
 obtain rfl:=yC.mp hb
 exact I2.fpOk (xB _) (I2.hok.fresh (xB _))⟩
end
theorem Zmz {d:Addr}{o:Obj}{kvs:List (List Key×V)}{nl:Nat}{fv:St}{g:TG}{tt:TTs}{te:TE}{Q:VK}{H:Hp}(Pv:Nat->List V->Hp->Prop) (h0:Pv 0 [] H) (hn:kvs.length<=1000000)
  (hl:∀ i ys H,i<=kvs.length->Pv i ys H->H d=some (.frz o (.dT kvs))) (hlen:∀ i ys H,Pv i ys H->ys.length<=i)
  (step:∀ i x a p ys H,kvs[i]? = some x->H a=some (.tup (x.1.map kV))->Pv i ys H->H p=none->Vg nl fv g tt te (.ref p) (upd H p (.tup [.ref a,x.2])) (fun y H'=>Pv (i+1) (ys ++ [y]) H') fun H'=>Pv (i+1) ys H')
  (hd:∀ ys H,Pv kvs.length ys H->∀ l,H l=none->Q (.ref l) (upd H l (.lst ys))) :
  Zat (ItT d o kvs) nl fv g tt te Q H:=by
 have mono:∀ {x:V}{H:Hp}{Y Y':V->Hp->Prop}{N N':Hp->Prop},Vg nl fv g tt te x H Y N->Y=Y'->N=N'->Vg nl fv g tt te x H Y' N':=fun h e1 e2=>by subst e1; subst e2; exact h
 refine ⟨fun i m ys H=>m=kvs.length - i/\i<=kvs.length/\Pv i ys H,⟨kvs.length,by simp,yQ _,h0⟩,?_⟩
 rintro i m ys H ⟨rfl,hi,p⟩
 have hl':=hlen i ys H p
 have hz:(1000000:Nat) < sizeLine:=by decide
 by_cases hlt:i < kvs.length
 ·refine .inr ⟨⟨hl i ys H hi p,hlt⟩,by lia,kvs.length - (i+1),by lia,fun x H' y=>?_⟩
  obtain ⟨q,a,x',hx,ha,rfl,hq,rfl⟩:=y
  refine mono (step i x' a q ys H hx ha p hq) ?_ ?_
  ·funext y H4
   apply propext
   exact ⟨fun q=>⟨rfl,hlt,q⟩,fun q=>q.2.2⟩
  ·funext H3
   apply propext
   exact ⟨fun q=>⟨rfl,hlt,q⟩,fun q=>q.2.2⟩
 ·have e:i=kvs.length:=by lia
  subst e
  exact .inl ⟨⟨hl _ ys H (xB _) p,xB _⟩,by lia,hd ys H p⟩
end L2
end
section
namespace L2
open PySem PySem.Spec PyProof.Rows
section
variable {X:Cx}
end
end L2
end
section
namespace L2
open PySem PySem.Spec PyProof.Rows
section
variable {X:Cx}{scope:Scope}{cl:List (Str×Addr)}{C:Addr}{N':List Str}{s0:Shared}{H0:Hp}{ex:List Addr}{pn:List (Addr×Obj)}{f:Str}{pos:Pos}{e:Expr}{ta:TE}
theorem Z04 (he:QE (ccx X scope cl C N' s0 H0 ex pn) e ta) (hb:attributeBase e f (ccx X scope cl C N' s0 H0 ex pn).env (eval e (ccx X scope cl C N' s0 H0 ex pn).env)=eval e (ccx X scope cl C N' s0 H0 ex pn).env:=by rfl):QE (ccx X scope cl C N' s0 H0 ex pn) (.Attribute e f pos) (Zk2 X.K ta f):=⟨Zpq (X:=ccx X scope cl C N' s0 H0 ex pn) he.h hb⟩
end
end L2
end
section
namespace L2
open PySem PySem.Spec PyProof.Rows
def XTr (h0:Heap) (H:Hp) (h:Heap) (a:Addr) (vs:Array Value):Prop:=∃ T oT ts v3,vs[1]? = some (.ref T)/\T≠a/\h.get? T=some oT/\oT.data = .fields ts/\ts[3]? = some v3/\H T=none/\h0.get? T=none
def XAt (h0:Heap) (H:Hp) (h:Heap) (a C:Addr):Prop:=H a=none/\h0.get? a=none/\∃ oe vs a0,h.get? a=some oe/\oe.cls = .ref C/\oe.data = .fields vs/\vs[0]? = some a0/\(vs[1]? = some .none\/XTr h0 H h a vs)
def XOn (h0:Heap) (H:Hp) (h:Heap) (a C:Addr):Prop:=H a=none/\h0.get? a=none/\∃ oe vs a0,h.get? a=some oe/\oe.cls = .ref C/\oe.data = .fields vs/\vs[0]? = some a0/\XTr h0 H h a vs
theorem XOn.at_ {h0:Heap}{H:Hp}{h:Heap}{a C:Addr}(x:XOn h0 H h a C):XAt h0 H h a C:=let ⟨p,q,oe,vs,a0,h1,h2,h3,h4,h5⟩:=x; ⟨p,q,oe,vs,a0,h1,h2,h3,h4,.inr h5⟩
def CXE (P:Program) (w:World):CXT:=fun outer H s E e s'=>∃ a C H',e = .ref a/\s'.os=s.os/\AllBare s'.gens/\Un (frs outer) [] H H' s.heap s'.heap/\HOk P w H' s'.heap/\XAt s.heap H' s'.heap a C/\E (.ref C) none H'
structure Xp (X:Cx) (E:St->XK):Prop where
 h:∀ pins σ H s a C,Inv X pins σ H s->XAt X.s₀.heap H s.heap a C->E σ (.ref C) none H->X.xe (.ref a) s
theorem ObjOk.ex {P:Program}{w:World}{H:Hp}{h:Heap}{a:Addr}{o:HO}(x:ObjOk P w H h a o):∃ u,h.get? a=some u:=by
 cases o with
 | lst xs=>obtain ⟨_,_,_,_,e⟩:=x; exact ⟨_,e⟩
 | tup xs=>obtain ⟨_,_,_,_,e,_⟩:=x; exact ⟨_,e⟩
 | dK kvs=>obtain ⟨_,_,_,_,o,_,_,e,_⟩:=x; exact ⟨_,e⟩
 | dT kvs=>obtain ⟨_,_,_,_,o,_,_,e,_⟩:=x; exact ⟨_,e⟩
 | set S n=>obtain ⟨o,_,_,_,e,_⟩:=x; exact ⟨_,e⟩
 | ins C dx fs=>obtain ⟨_,_,_,e,_⟩:=x; exact ⟨_,e⟩
 | own y=>exact x
 | xd fs=>obtain ⟨_,⟨_,_,_,e,_⟩,_⟩:=x; exact ⟨_,e⟩
 | rng lo hi=>obtain ⟨_,_,_,e⟩:=x; exact ⟨_,e⟩
 | frz ob u=>obtain ⟨e,_⟩:=x; exact ⟨_,e⟩
 | tbl ps=>obtain ⟨_,_,_,e,_⟩:=x; exact ⟨_,e⟩
 | met f y=>exact ⟨_,x⟩
 | ext φ=>obtain ⟨_,e,_⟩:=x; exact e
section
variable {X:Cx}{σ:List (Option V)}{H H':Hp}{s:Shared}{h':Heap}
theorem Inv.stepN {g':Array GenState}{t':Nat}{d':Drawn}{ch:List Addr}(I:Inv X [] σ H s) (hpn:X.pn = [])
  (hch:∀ b∈ch,X.s₀.heap.get? b=none/\b≠X.env.locals/\∀ x c,X.env.cells.lookup x=some c->c≠b)
  (keep:∀ b o,b≠X.env.locals->b∉X.fs->b∉ch->s.heap.get? b=some o->H b=none->h'.get? b=some o)
  (slot:∀ b o,b≠X.env.locals->b∈X.fs->b∉ch->s.heap.get? b=some o->H b=none->∃ sl,h'.get? b=some {o with slots:=sl })
  (there:∀ b o,b∉ch->s.heap.get? b=some o->∃ o',h'.get? b=some o')
  (ns:∀ m,s.heap.Ns X.env.locals m->h'.Ns X.env.locals m) (hok:HOk X.prog X.w H h') (hg:AllBare g') :
  Inv X [] σ H {s with heap:=h',gens:=g',drawn:=d',toks:=t' }:=by
 have neL:∀ b o,X.s₀.heap.get? b=some o->b≠X.env.locals:=fun b o e=>yD (xY (xF e) I.ok.above)
 have neC:∀ b o,X.s₀.heap.get? b=some o->b∉ch:=fun b o e hb=>by
  have:=(hch b hb).1
  rw [e] at this; cases this
 have cellK:∀ x c,X.env.cells.lookup x=some c->∀ v,s.heap.IsCell c v->h'.IsCell c v:=fun x c e v ⟨o,ho,hd⟩=>by
  have nch:c∉ch:=fun z=>(hch c z).2.2 x c e rfl
  by_cases hc:c∈X.fs
  ·obtain ⟨sl,q⟩:=slot c o (I.cne x c e) hc nch ho (I.freeC x c e)
   exact ⟨_,q,hd⟩
  ·exact ⟨o,keep c o (I.cne x c e) hc nch ho (I.freeC x c e),hd⟩
 refine ⟨I.ok,I.os,hg,⟨fun b o e n hb hx=>?_,fun b o e n hb hx=>?_,fun b o e n hx=>I.base.free b o e n hx,fun b o e hx=>?_,I.base.tups,I.base.frzs,I.base.tbls⟩,?_,fun x c e=>?_,I.free,I.freeC,fun p hp=>?_,hok,I.len⟩
 ·exact keep b o (neL b o e) hb (neC b o e) (I.base.keep b o e n hb hx) (I.base.free b o e n hx)
 ·obtain ⟨sl,e1⟩:=I.base.slot b o e n hb hx
  obtain ⟨sl',e2⟩:=slot b _ (neL b o e) hb (neC b o e) e1 (I.base.free b o e n hx)
  exact ⟨sl',e2⟩
 ·obtain ⟨o',e1⟩:=I.base.there b o e hx
  exact there b o' (neC b o e) e1
 ·obtain ⟨m,hn,hl⟩:=I.loc
  refine ⟨m,ns m hn,fun i x v e1 e2 e3=>?_⟩
  obtain ⟨u,r,l⟩:=hl i x v e1 e2 e3
  refine ⟨u,r,?_⟩
  rcases l with l | ⟨k,c,e,z⟩
  ·exact .inl l
  ·exact .inr ⟨k,c,e,cellK x c e _ z⟩
 ·obtain ⟨v,z⟩:=I.cell x c e
  exact ⟨v,cellK x c e v z⟩
 ·rw [hpn] at hp; cases hp
theorem Inv.noted {hs:List Addr}(I:Inv X [] σ H s) (hpn:X.pn = []) (hh:∀ b∈hs,X.s₀.heap.get? b=none/\H b=none/\∃ o vs,s.heap.get? b=some o/\o.data = .fields vs)
  (st:(PySem.W.hideAll s.heap (hs++frs X.stack)).StaysIn h') (up:∀ b o,s.heap.get? b=some o->(∀ vs,o.data ≠ .fields vs)->∃ sl,h'.get? b=some {o with slots:=sl }):Inv X [] σ H {s with heap:=h' }:=by
 obtain ⟨m,⟨oL,esL,epL,hoL,hdL,rL⟩,_⟩:=id I.loc
 have kp:∀ b o,b∉hs->b∉frs X.stack->s.heap.get? b=some o->h'.get? b=some o:=fun b o n1 n2 e=>st b o (PySem.W.hideAll_get _ e fun hm=>(xS.mp hm).elim n1 n2)
 have fr:∀ b,b∈frs X.stack->∃ o,s.heap.get? b=some o/\∀ vs,o.data ≠ .fields vs:=fun b hb=>(I.stack.mem hb).2
 refine I.stepN (g':=s.gens) (d':=s.drawn) (t':=s.toks) (ch:=hs) hpn (fun b hb=>?_) (fun b o hL hf hc e _=>kp b o hc (fun z=>(xC.mp (I.stkSub b z)).elim hL hf) e) (fun b o hL hf _ e _=>?_) (fun b o hc e=>?_) (fun m' hm=>?_) (fun b u e=>?_) I.bare
 ·obtain ⟨h1,h2,o,vs,e,d⟩:=hh b hb
  refine ⟨h1,fun z=>?_,fun x c ec z=>?_⟩
  ·rw [z,hoL] at e; cases e; rw [hdL] at d; cases d
  ·obtain ⟨v,oc,ho,hd⟩:=I.cell x c ec
   rw [z,e] at ho; cases ho; rw [d] at hd; cases hd
 ·obtain ⟨o',e',d⟩:=(I.funs.mem (show b∈X.outer.filterMap (·.frame) from hf)).2
  rw [e] at e'; cases e'
  exact up b o e d
 ·by_cases hb:b∈frs X.stack
  ·obtain ⟨o',e',d⟩:=fr b hb
   rw [e] at e'; cases e'
   obtain ⟨sl,q⟩:=up b o e d
   exact ⟨_,q⟩
  ·exact ⟨o,kp b o hc hb e⟩
 ·obtain ⟨o,es,ep,ho,d,r⟩:=hm
  obtain ⟨sl,q⟩:=up _ o ho fun vs z=>by rw [d] at z; cases z
  exact ⟨_,es,ep,q,d,r⟩
 ·have nh:∀ c v,H c=some v->c∉hs/\c∉frs X.stack:=fun c v ec=>⟨(fun z=>by rw [(hh c z).2.1] at ec; cases ec),(fun z=>by rw [I.stkFree c z] at ec; cases ec)⟩
  refine (I.hok b u e).stay (fun c v hc q=>?_) (fun _ q=>q) fun _ _ q=>q
  rcases hc with rfl | hc
  ·exact kp c v (nh c _ e).1 (nh c _ e).2 q
  ·exact kp c v (nh c _ hc).1 (nh c _ hc).2 q
end
section
variable {X:Cx}{σ:List (Option V)}{H:Hp}{s:Shared}{a C:Addr}{M:Model}{E:Value->Shared->Prop}{Q:Unit->Shared->Prop}
theorem Zy1 (I:Inv X [] σ H s) (hpn:X.pn = []) (hex:X.ex = []) (stk:X.stack=X.env::X.outer) (hf:X.env.frame=some X.env.locals) (x:XAt X.s₀.heap H s.heap a C)
  (k:∀ h',Inv X [] σ H {s with heap:=h' }->XOn X.s₀.heap H h' a C->(∀ b o,s.heap.get? b=some o->(∀ vs,o.data ≠ .fields vs)->∃ sl,h'.get? b=some {o with slots:=sl })->Q () {s with heap:=h' }) :
  wpAny M X.A (noteFrame (.ref a) X.env) Q E s:=by
 obtain ⟨ha,h0a,oe,vs,a0,he,hc,hd,v0,tr⟩:=x
 have fin:∀ (hs:List Addr),a∈hs->(∀ b∈hs,X.s₀.heap.get? b=none/\H b=none/\∃ o vs,s.heap.get? b=some o/\o.data = .fields vs) ->
   ∀ h1,Heap.NotedW (PySem.W.hideAll s.heap (hs++frs X.stack)) (X.env::X.outer) a (.ref C) a0 (rawInt X.env.locals) s.heap h1->Q () {s with heap:=h1 }:=by
  intro hs has hh h1 N
  refine k h1 (I.noted hpn hh N.1 N.2.2.2) ?_ N.2.2.2
  obtain ⟨oe',vs',T,oT,ts,he',⟨hc',v0'⟩,hd',h1',hnT,hTe,hT,hdT,h3⟩:=N.2.2.1
  have no:∀ o,s.heap.get? T=some o->T∉hs->T∉frs X.stack->False:=fun o e n1 n2=>by
   have:=PySem.W.hideAll_get (hs++frs X.stack) e fun hm=>(xS.mp hm).elim n1 n2
   rw [this] at hnT; cases hnT
  have nfr:T∉frs X.stack:=fun z=>by
   rw [stk] at z
   obtain ⟨_,o,e,d⟩:=N.2.1.mem (show T∈(X.env::X.outer).filterMap (·.frame) from z)
   rw [hT] at e; cases e; exact d ts hdT
  refine ⟨ha,h0a,oe',vs',a0,he',hc',hd',v0',T,oT,ts,_,h1',hTe,hT,hdT,h3,?_,?_⟩
  ·cases q:H T with
   | none=>rfl
   | some u =>
    obtain ⟨o,e⟩:=(I.hok T u q).ex
    exact (no o e (fun z=>by rw [(hh T z).2.1] at q; cases q) nfr).elim
  ·cases q:X.s₀.heap.get? T with
   | none=>rfl
   | some o =>
    obtain ⟨o',e⟩:=I.base.there T o q (by rw [hex]; simp)
    exact (no o' e (fun z=>by rw [(hh T z).1] at q; cases q) nfr).elim
 have hfr:X.A.frames=some (X.env::X.outer):=by rw [← stk]; exact I.ok.frames
 have hl:∀ hs:List Addr,s.heap.FunFrames (PySem.W.hideAll s.heap (hs++frs X.stack)) (X.env::X.outer):=fun hs=>by
  rw [← stk]
  exact PySem.W.funFrames_hide I.stack fun env he b hb=>xN _ (List.mem_filterMap.mpr ⟨env,he,hb⟩)
 have hkb:∀ hs:List Addr,(PySem.W.hideAll s.heap (hs++frs X.stack)).StaysIn s.heap:=fun hs b o q=>PySem.W.of_hideAll _ q
 rcases tr with v1 | ⟨T,oT,ts,v3,v1,hTe,hT,hdT,h3,hHT,h0T⟩
 ·have hh:∀ b ∈ [a],X.s₀.heap.get? b=none/\H b=none/\∃ o vs,s.heap.get? b=some o/\o.data = .fields vs:=fun b hb=>by
   rw [yC] at hb; subst hb; exact ⟨h0a,ha,oe,vs,he,hd⟩
  unfold noteFrame
  simp only [hf]
  refine wpAny_bind (wpAny_field he hd v1 ?_)
  rw [if_neg (by decide)]
  refine wpAny_entryW (base:=PySem.W.hideAll s.heap ([a]++frs X.stack)) hfr (hl _) hf he (hkb _) (PySem.W.hideAll_none _ (by simp)) hd (Array.getElem?_eq_some_iff.mp v1).1 v0 fun h1 N=>?_
  rw [hc] at N
  exact fin [a] (by simp) hh h1 N
 ·have hh:∀ b ∈ [a,T],X.s₀.heap.get? b=none/\H b=none/\∃ o vs,s.heap.get? b=some o/\o.data = .fields vs:=fun b hb=>by
   rcases xC.mp hb with rfl | hb
   ·exact ⟨h0a,ha,oe,vs,he,hd⟩
   ·rw [yC] at hb; subst hb; exact ⟨h0T,hHT,oT,ts,hT,hdT⟩
  unfold noteFrame
  simp only [hf]
  refine wpAny_bind (wpAny_field he hd v1 ?_)
  rw [if_pos (show (Value.ref T != Value.none)=true from by simp)]
  refine wpAny_bind (wpAny_field hT hdT h3 ?_)
  by_cases zz:(v3 == rawInt X.env.locals)=true
  ·rw [if_pos zz]
   exact wpAny_pure (k s.heap I ⟨ha,h0a,oe,vs,a0,he,hc,hd,v0,T,oT,ts,v3,v1,hTe,hT,hdT,h3,hHT,h0T⟩ fun b o e _=>⟨o.slots,e⟩)
  ·rw [if_neg zz]
   refine wpAny_bind (wpAny_setField hT hdT (Array.getElem?_eq_some_iff.mp h3).1 ?_)
   have oth:∀ b,b≠T->(s.heap.update T (Obj.mapFields (·.setIfInBounds 3 Value.none))).get? b=s.heap.get? b:=fun b hb=>Heap.get?_update_other _ _ (Ne.symm hb)
   have nr:∀ b o,s.heap.get? b=some o->(∀ vs,o.data ≠ .fields vs)->b≠T:=fun b o hb hn q=>by
    rw [q,hT] at hb; injection hb with hb; subst hb; exact hn ts hdT
   have hbT:(PySem.W.hideAll s.heap ([a,T]++frs X.stack)).get? T=none:=PySem.W.hideAll_none _ (by simp)
   refine wpAny_entryW (base:=PySem.W.hideAll s.heap ([a,T]++frs X.stack)) hfr ((hl _).of_keeps fun b o hb hn=>⟨o,(oth b (nr b o hb hn)).trans hb,rfl⟩) hf ((oth a (Ne.symm hTe)).trans he)
    (fun b o hbo=>(oth b fun q=>by rw [q,hbT] at hbo; cases hbo).trans (hkb _ b o hbo)) (PySem.W.hideAll_none _ (by simp)) hd (Array.getElem?_eq_some_iff.mp v1).1 v0
    fun h1 ⟨x1,x2,x3,x4⟩=>?_
   rw [hc] at x3
   exact fin [a,T] (by simp) hh h1 ⟨x1,x2,x3,fun b o hb hn=>x4 b o ((oth b (nr b o hb hn)).trans hb) hn⟩
theorem Znr {A:Around}{fr:Option Addr}(I:Inv X [] σ H s) (hpn:X.pn = []) (x:XOn X.s₀.heap H s.heap a C)
  (k:∀ h',Inv X [] σ H {s with heap:=h' }->XOn X.s₀.heap H h' a C->Q () {s with heap:=h' }):wpAny M A (setFlight (.ref a) fr) Q E s:=by
 obtain ⟨ha,h0a,oe,vs,a0,he,hc,hd,v0,T,oT,ts,v3,v1,hTe,hT,hdT,h3,hHT,h0T⟩:=x
 have sz3:=(Array.getElem?_eq_some_iff.mp h3).1
 unfold setFlight
 refine wpAny_bind (wpAny_field he hd v1 ?_)
 rw [if_pos (show (Value.ref T != Value.none)=true from by simp)]
 refine wpAny_setField hT hdT sz3 ?_
 have oth:∀ b,b≠T->(s.heap.update T (Obj.mapFields (·.setIfInBounds 3 (fr.elim Value.none fun f=>rawInt f)))).get? b=s.heap.get? b:=fun b hb=>Heap.get?_update_other _ _ (Ne.symm hb)
 refine k _ (I.noted (hs:=[T]) hpn (fun b hb=>by rw [yC] at hb; subst hb; exact ⟨h0T,hHT,oT,ts,hT,hdT⟩) (fun b o q=>?_) fun b o hb hn=>⟨o.slots,(oth b fun q=>by rw [q,hT] at hb; cases hb; exact hn ts hdT).trans hb⟩)
  ⟨ha,h0a,oe,vs,a0,(oth a (Ne.symm hTe)).trans he,hc,hd,v0,T,_,_,(fr.elim Value.none fun f=>rawInt f),v1,hTe,Heap.get?_update_self _ hT (Obj.isFreed_of_fields (Obj.data_mapFields hdT _)),Obj.data_mapFields hdT _,by simp [sz3],hHT,h0T⟩
 refine (oth b fun z=>?_).trans (PySem.W.of_hideAll _ q)
 rw [z,PySem.W.hideAll_none _ (by simp)] at q
 cases q
theorem Zns (I:Inv X [] σ H s) (hpn:X.pn = []) (hex:X.ex = []) (stk:X.stack=X.env::X.outer) (hf:X.env.frame=some X.env.locals) (x:XAt X.s₀.heap H s.heap a C)
  (k:∀ h',Inv X [] σ H {s with heap:=h' }->XAt X.s₀.heap H h' a C->Q () {s with heap:=h' }) :
  wpAny M X.A (noteFrame (.ref a) X.env) (fun _ s₂=>wpAny M X.A (setFlight (.ref a) none) Q E s₂) E s :=
 Zy1 I hpn hex stk hf x fun h1 I1 x1 _=>Znr (s:={s with heap:=h1 }) I1 hpn x1 fun h2 I2 x2=>k h2 I2 x2.at_
end
end L2
namespace L2
open PySem PySem.Spec PyProof.Rows
theorem XAt.mono {h0 h1 h:Heap}{H:Hp}{a C:Addr}(x:XAt h0 H h a C) (k:∀ b,h0.get? b=none->h1.get? b=none):XAt h1 H h a C:=by
 obtain ⟨ha,h0a,oe,vs,a0,he,hc,hd,v0,tr⟩:=x
 refine ⟨ha,k a h0a,oe,vs,a0,he,hc,hd,v0,?_⟩
 rcases tr with v1 | ⟨T,oT,ts,v3,v1,hTe,hT,hdT,h3,hHT,h0T⟩
 ·exact .inl v1
 ·exact .inr ⟨T,oT,ts,v3,v1,hTe,hT,hdT,h3,hHT,k T h0T⟩
theorem Zc7 {P:Program}{w:World}{K:uFg}{mg:Str->Option Value}{base:Heap}{N:List Str}{qual:Str}{scope:Scope}{f:Addr}{cd:Value}{A:Around}{outer:List Env}{s:Shared}{H:Hp}{E:XK} :
  Xp (Yo (CXE P w) P w K mg base N qual scope f cd A outer s H E) fun _=>E:=⟨fun pins σ H1 s1 a C I x hE=>by
 have I':=I.pins_of (pins':=[]) (fun p hp=>nomatch hp)
 show wpAny _ _ (noteFrame _ _ >>= fun _=>setFlight _ none) _ _ _
 refine wpAny_bind (Zns (X:=Yo (CXE P w) P w K mg base N qual scope f cd A outer s H E) I' rfl rfl rfl rfl x fun h' J y=>?_)
 exact ⟨a,C,H1,rfl,J.os,J.bare,J.base,J.hok,y,hE⟩⟩
section
variable {X:Cx}{E:St->XK}
theorem Inv.newer {pins:List (Addr×Obj)}{σ:St}{H:Hp}{s:Shared}(I:Inv X pins σ H s) (hex:X.ex = []):∀ b,s.heap.get? b=none->X.s₀.heap.get? b=none:=fun b e=>by
 cases q:X.s₀.heap.get? b with
 | none=>rfl
 | some o =>
  obtain ⟨o',e'⟩:=I.base.there b o q (by rw [hex]; simp)
  rw [e] at e'; cases e'
structure Xq (X:Cx) (E:St->XK):Prop where
 h:(∀ σ c d H,¬ E σ c d H)\/(X.ex = []/\Xp X E)
theorem Xq.pass {pins:List (Addr×Obj)}{σ:St}{H:Hp}{s s':Shared}{e:Value}(hx:Xq X E) (I:Inv X pins σ H s) (h:CXE X.prog X.w X.stack H s (E σ) e s'):X.xe e s':=by
 obtain ⟨a,C,H',rfl,os,bare,un,hok,x,hE⟩:=h
 rcases hx.h with z | ⟨hex,hx⟩
 ·exact (z _ _ _ _ hE).elim
 obtain ⟨hh,g,d,t,os'⟩:=s'
 obtain rfl:os'=s.os:=os
 have J:=I.call (h':=hh) (g':=g) (d':=d) (t':=t) (ch:=[]) un hok bare (fun b z=>absurd z (by simp))
 exact hx.h pins σ H' _ a C J (x.mono (I.newer hex)) hE
theorem Zew {P:Program}{w:World}{K:uFg}{mg:Str->Option Value}{base:Heap}{N:List Str}{qual:Str}{scope:Scope}{f:Addr}{cd:Value}{A:Around}{outer:List Env}{s:Shared}{H:Hp}{E:XK} :
  Xq (Yo (CXE P w) P w K mg base N qual scope f cd A outer s H E) fun _=>E:=⟨.inr ⟨rfl,Zc7⟩⟩
end
structure Run (P:Program) (w:World) (K:uFg) (mg:Str->Option Value) (base:Heap) (k:Nat) (f:Addr) (sp:Sp):Prop where
 run:∀ (A:Around) (outer:List Env) (s:Shared) (H:Hp) (us:List Value) (vs:List V) (Q:VK) (E:XK),Room k A->Env0 P w K mg base A outer s H->Vals vs us->sp vs H Q E->codeAny (model P w) A (.call (.ref f) ⟨us,[]⟩) (CR (CXE P w) outer P w H s Q E) s
theorem FnOk.runX {P:Program}{w:World}{K:uFg}{mg:Str->Option Value}{base:Heap}{k:Nat}{f:Addr}{fd:FuncData}{ps:List Str}{sp:Sp}(F:FnOk P w K mg base (CXE P w) k f fd ps sp) (hb:Binds K fd ps []):Run P w K mg base k f sp :=
 ⟨fun A outer s H us vs Q E hr e0 r h=>by
  have KX:K.In s.heap:=e0.mod.kin.keeps fun b o e=>(e0.bs b o e).1
  have hl:us.length=ps.length:=by rw [← r.length]; exact F.len _ _ _ _ h
  have hb':BindsTo s fd ⟨us,[]⟩ (ps.zip us):=by
   have:=hb s us KX (by rw [List.append_nil]; exact hl)
   rw [List.append_nil] at this
   exact this
  exact F.run A outer s H ⟨us,[]⟩ us vs Q E hr e0 hb' r h⟩
def FnX (P:Program) (w:World) (K:uFg) (mg:Str->Option Value) (base:Heap) (x:Str) (k:Nat) (sp:Sp):Prop :=
 ∃ f,mg x=some (.ref f)/\PySem.W.keepIn K (.ref f)=true/\Run P w K mg base k f sp
structure MtX (P:Program) (w:World) (K:uFg) (mg:Str->Option Value) (base:Heap) (C:Addr) (m:Str) (k:Nat) (sp:Sp):Prop where
 ex:∃ (f:Addr),Meth K C m f/\Run P w K mg base k f sp
theorem FnOk.cxe {P:Program}{w:World}{K:uFg}{mg:Str->Option Value}{base:Heap}{k:Nat}{f:Addr}{fd:FuncData}{ps:List Str}{sp:Sp}(F:FnOk P w K mg base CX0 k f fd ps sp):FnOk P w K mg base (CXE P w) k f fd ps sp :=
 ⟨F.len,fun A outer s H args us vs Q E hr e0 hb r h=>codeAny_mono (F.run A outer s H args us vs Q E hr e0 hb r h) fun r s' q=>by
  cases r with
  | error e=>exact False.elim q
  | ok fl=>cases fl <;> exact q⟩
section
variable {P:Program}{w:World}{K:uFg}{mg:Str->Option Value}{base:Heap}{C:Addr}{x:Str}{ps:List Str}{k k':Nat}{sp sp':Sp}
theorem Fn.toX (F:Fn P w K mg base x ps k sp):FnX P w K mg base x k sp:=let ⟨f,fd,a,b,c,d⟩:=F; ⟨f,a,b,d.cxe.runX c⟩
def Sp.or (a b:Sp):Sp:=fun vs H Q E=>a vs H Q E\/b vs H Q E
theorem Run.or {f:Addr}(F:Run P w K mg base k f sp) (G:Run P w K mg base k' f sp'):Run P w K mg base (max k k') f (sp.or sp') :=
 ⟨fun A outer s H us vs Q E hr e0 r h=>h.elim (fun h=>F.run A outer s H us vs Q E (hr.mono (Nat.le_max_left _ _)) e0 r h) fun h=>G.run A outer s H us vs Q E (hr.mono (Nat.le_max_right _ _)) e0 r h⟩
theorem FnX.or (F:FnX P w K mg base x k sp) (G:FnX P w K mg base x k' sp'):FnX P w K mg base x (max k k') (sp.or sp'):=by
 obtain ⟨f,a,b,d⟩:=F
 obtain ⟨f',a',b',d'⟩:=G
 rw [a] at a'; cases a'
 exact ⟨f,a,b,d.or d'⟩
end
def Yal (sp:Sp) (E:St->XK) (t:TA):TE:=fun σ H Q=>t σ H fun vs H1=>sp vs H1 Q (E σ)
def Zub (C:Addr) (m:Str) (sp:Sp) (E:St->XK) (ta:TE) (t:TA):TE:=fun σ H Q=>ta σ H fun x H1=>∃ a dx fs,x = .ref a/\H1 a=some (.ins C dx fs)/\fs.lookup m=none/\t σ H1 fun vs H2=>sp (x::vs) H2 Q (E σ)
section
variable {X:Cx}{E:St->XK}{k:Nat}{f C:Addr}{sp:Sp}{x m:Str}{p pos apos:Pos}{e o:Expr}{es:List Expr}{ta:TE}{t:TA}
theorem Zh0 {pins:List (Addr×Obj)}{σ:St}{H:Hp}{s:Shared}{Q:VK}{us:List Value}{vs:List V}(F:Run X.prog X.w X.K X.mg X.base k f sp) (hr:Room k X.A) (hx:Xq X E)
  (I:Inv X pins σ H s) (r:Vals vs us) (h:sp vs H Q (E σ)):wpAny (model X.prog X.w) X.A (call (.ref f) us) (EP X pins σ Q) X.xe s:=by
 refine wpAny_call (codeAny_mono (F.run X.A X.stack s H us vs Q (E σ) hr I.env0 r h) fun r s' hq=>?_)
 cases r with
 | error e=>exact hx.pass I hq
 | ok fl =>
  cases fl with
  | ret u=>exact I.after hq
  | next=>exact False.elim hq
  | brk=>exact False.elim hq
  | cont=>exact False.elim hq
theorem Zp4 (hx:Xq X E) (F:FnX X.prog X.w X.K X.mg X.base x k sp) (hr:Room k X.A) (n:Nm X.env.scope x .globalImplicit) (ha:QA X (e::es) t)
  (he:starEach (e::es) X.env=(false,eval e X.env)::starEach es X.env:=by rfl) (hpl:(backTo pos (starEach es X.env)).any (·.1)=false:=by rfl) :
  QE X (.Call (.Name x p) (e::es) [] pos) (Yal sp E t):=⟨by
 obtain ⟨f,hm,hk,G⟩:=F
 intro pins s σ H Q I h
 refine wpAny_Call_Name_kw (Zbp I n.1 hm ?_ n.2.1)
 refine PySem.W.callWith_K (h₀:=X.base) I.ok.mod.kin hk (thn (ha.h pos pins s σ H _ I h) fun us s1 ⟨vs,H1,I1,r,q⟩=>⟨I1.kIn,?_⟩) he hpl
 exact Zh0 G hr hx I1 r q⟩
theorem Zp5 {pl:Sem Bool}(hx:Xq X E) (he:QE X o ta) (c:Cls X.K C) (M:MtX X.prog X.w X.K X.mg X.base C m k sp) (hr:Room k X.A) (ha:QA X (e::es) t)
  (hst:starEach (e::es) X.env=(false,eval e X.env)::starEach es X.env:=by rfl) (hpl:(backTo pos (starEach es X.env)).any (·.1)=false:=by rfl)
  (ht:eval (.Call (.Attribute o m apos) (e::es) [] pos) X.env=(do
   let ov ← eval o X.env
   standAt apos.atName
   let (f,first) ← holding [ov] (getMethod ov m pl)
   callWith pos f first (backTo pos (starEach (e::es) X.env)) (backToKw pos (keywordEach [] X.env))):=by rfl) :
  QE X (.Call (.Attribute o m apos) (e::es) [] pos) (Zub C m sp E ta t):=⟨by
 obtain ⟨f,hm,F⟩:=M.ex
 intro pins s σ H Q I h
 refine PySem.W.methodCall_KW (pl:=pl) (thn (he.h pins s σ H _ I h) fun u s1 ⟨x,H1,I1,rx,a,dx,fs,ex,ea,l,q⟩=>?_) ht
 subst ex
 obtain rfl:u=Value.ref a:=rx
 refine Zd5 I1 ea c hm l ?_
 refine PySem.W.callWith_K (first:=[.ref a]) (h₀:=X.base) I.ok.mod.kin hm.kp (thn (ha.h pos pins s1 σ H1 _ I1 q) fun us s2 ⟨vs,H2,I2,r,q2⟩=>⟨I2.kIn,?_⟩) hst hpl
 exact Zh0 (us:=.ref a::us) (vs:=.ref a::vs) F hr hx I2 (.cons rfl r) q2⟩
theorem Zh1 {pl:Sem Bool}(hx:Xq X E) (he:QE X o ta) (c:Cls X.K C) (M:MtX X.prog X.w X.K X.mg X.base C m k sp) (hr:Room k X.A)
  (ht:eval (.Call (.Attribute o m apos) [] [] pos) X.env=(do
   let ov ← eval o X.env
   standAt apos.atName
   let (f,first) ← holding [ov] (getMethod ov m pl)
   callWith pos f first (backTo pos (starEach [] X.env)) (backToKw pos (keywordEach [] X.env))):=by rfl) :
  QE X (.Call (.Attribute o m apos) [] [] pos) (Zub C m sp E ta Wj):=⟨by
 obtain ⟨f,hm,F⟩:=M.ex
 intro pins s σ H Q I h
 refine PySem.W.methodCall_KW (pl:=pl) (thn (he.h pins s σ H _ I h) fun u s1 ⟨x,H1,I1,rx,a,dx,fs,ex,ea,l,q⟩=>?_) ht
 subst ex
 obtain rfl:u=Value.ref a:=rx
 refine Zd5 I1 ea c hm l ?_
 exact PySem.W.callWith_K0 (first:=[.ref a]) I1.kIn hm.kp (Zh0 (us:=[.ref a]) (vs:=[.ref a]) F hr hx I1 (.cons rfl .nil) q)⟩
end
section
variable {P:Program}{w:World}{K:uFg}{mg:Str->Option Value}{base:Heap}
theorem Fun.okX {x qual:Str}{st:Stmt}{f:Addr}{fd:FuncData}{N ps:List Str}{k:Nat}{sp:Sp}(F:Fun K x qual st f fd) (S:FnScope N ps (Zb st)) (len:∀ vs H Q E,sp vs H Q E->vs.length=ps.length)
  (hbody:∀ (cdv:Value) (A:Around) (outer:List Env) (s:Shared) (H:Hp) (vs:List V) (Q:VK) (E:XK),Room k (A.deeper (envOfC qual (Zb st) s.heap.objs.size f cdv))->sp vs H Q E ->
   ∃ t,QSs (Yo (CXE P w) P w K mg base N qual (Zb st) f cdv A outer s H E) (Yi st) t/\t {nx:=fun _ H'=>Q .non H',rt:=Q } (start N vs) H):FnOk P w K mg base (CXE P w) (k+1) f fd ps sp:=by
 obtain ⟨oc,od,kV,doc,pm,an,cdv,ct,osl,rfl,lk,hcd⟩:=F.ex
 refine Zrc lk hcd S len fun A outer s H vs Q E hr hsp=>?_
 obtain ⟨t,h,q⟩:=hbody cdv A outer s H vs Q E hr hsp
 exact ⟨t,h.h,q⟩
theorem Has.fnX {x:Str}{st:Stmt}{N ps:List Str}{k:Nat}{sp:Sp}(h:Has K mg x st) (S:FnScope N ps (Zb st))
  (hb:∀ (kV doc pm:Value) (an:Option Addr) (cdv ct:Value) (us:List Value),us.length=ps.length->bindArgs (PySem.W.fnOf x x (Wk st) (Yi st) (Zb st) .none kV doc pm an cdv ct) ⟨us,[]⟩=pure (ps.zip us))
  (len:∀ vs H Q E,sp vs H Q E->vs.length=ps.length)
  (hbody:∀ (f:Addr) (cdv:Value) (A:Around) (outer:List Env) (s:Shared) (H:Hp) (vs:List V) (Q:VK) (E:XK),Room k (A.deeper (envOfC x (Zb st) s.heap.objs.size f cdv))->sp vs H Q E ->
   ∃ t,QSs (Yo (CXE P w) P w K mg base N x (Zb st) f cdv A outer s H E) (Yi st) t/\t {nx:=fun _ H'=>Q .non H',rt:=Q } (start N vs) H):FnX P w K mg base x (k+1) sp:=by
 obtain ⟨f,fd,F,hm⟩:=h
 exact ⟨f,hm,F.kp,(F.okX S len (hbody f)).runX (F.binds hb)⟩
theorem HasM.mtX {C:Addr}{m qual:Str}{st:Stmt}{N ps:List Str}{k:Nat}{sp:Sp}(h:HasM K C m qual st) (S:FnScope N ps (Zb st))
  (hb:∀ (kV doc pm:Value) (an:Option Addr) (cdv ct:Value) (us:List Value),us.length=ps.length->bindArgs (PySem.W.fnOf m qual (Wk st) (Yi st) (Zb st) .none kV doc pm an cdv ct) ⟨us,[]⟩=pure (ps.zip us))
  (len:∀ vs H Q E,sp vs H Q E->vs.length=ps.length)
  (hbody:∀ (f:Addr) (cdv:Value) (A:Around) (outer:List Env) (s:Shared) (H:Hp) (vs:List V) (Q:VK) (E:XK),Room k (A.deeper (envOfC qual (Zb st) s.heap.objs.size f cdv))->sp vs H Q E ->
   ∃ t,QSs (Yo (CXE P w) P w K mg base N qual (Zb st) f cdv A outer s H E) (Yi st) t/\t {nx:=fun _ H'=>Q .non H',rt:=Q } (start N vs) H):MtX P w K mg base C m (k+1) sp:=by
 obtain ⟨f,fd,F,M⟩:=h.ex
 exact ⟨f,M,(F.okX S len (hbody f)).runX (F.binds hb)⟩
end
end L2
namespace L2
open PySem PySem.Spec PyProof.Rows
def nsX (K:uFg) (N:Addr):Bool:=match K.lookup N with
 | some ⟨_,_,.dict es _,_⟩=>(es.toList.all fun e=>match e.key with | .str _ _=>true | _=>false) && (nsFind es "__init__").isNone
 | _=>false
def vE:List Value:=[.type "ValueError", .type "Exception", .type "BaseException", .type "object"]
def Zk8:List (Option Value)->Bool
 | [_,_,_,_,some v,_]=>v == .builtin "ValueError.__new__"
 | _=>false
def Zuc (K:uFg):List Value->Bool
 | .ref M::r=>r == vE && (match K.lookup M with | some ⟨_,_,.cls cd,_⟩=>nsX K cd.ns | _=>false)
 | _=>false
def Zag (K:uFg) (C:Addr):Bool:=match K.lookup C with
 | some ⟨c,_,.cls cd,sl⟩=>(c == .type "type") && (cd.hasDel == false) && nsX K cd.ns && Zk8 sl.toList && (match cd.mro with | v::r=>(v == .ref C) && Zuc K r | _=>false)
 | _=>false
theorem Zp6 {K:uFg}{h:Heap}{N:Addr}(X:K.In h) (e:nsX K N=true):∃ mN,h.Ns N mN/\mN "__init__" = none:=by
 unfold nsX at e
 split at e
 ·rename_i c d es n sl q
  rw [yP] at e
  refine ⟨nsFind es,⟨_,es,n,X _ _ q,rfl,fun en hen=>?_,fun _=>rfl⟩,Option.isNone_iff_eq_none.mp e.2⟩
  have z:=List.all_eq_true.mp e.1 en (Array.mem_toList_iff.mpr hen)
  cases k:en.key with
  | str x t=>exact ⟨x,t,rfl⟩
  | _=>rw [k] at z; cases z
 ·cases e
theorem Z05:∀ {l:List (Option Value)},Zk8 l=true->∃ k0 k1 k2 k3 k5,l = [k0,k1,k2,k3,some (.builtin "ValueError.__new__"),k5]:=by
 intro l e
 unfold Zk8 at e
 split at e
 ·exact ⟨_,_,_,_,_,by rw [beq_iff_eq.mp e]⟩
 ·exact Bool.noConfusion e
theorem Zrq {K:uFg}{h:Heap}{C:Addr}(X:K.In h) (e:Zag K C=true) :
  ∃ nm q N bs bm hdct sn sub ab col dd k0 k1 k2 k3 k5 mN,h.get? C=some (excClassObj nm q C N bs bm hdct sn sub ab col dd k0 k1 k2 k3 k5 "ValueError.__new__")/\h.Ns N mN/\mN "__init__" = none/\OwnTail h vE bm:=by
 unfold Zag at e
 split at e
 ·rename_i c d cd sl q
  simp only [yP] at e
  obtain ⟨⟨⟨⟨e1,e2⟩,e3⟩,e4⟩,e5⟩:=e
  have e1:=beq_iff_eq.mp e1
  subst e1
  obtain ⟨mN,hn,hi⟩:=Zp6 X e3
  obtain ⟨nm,bs,mro,N,qn,hdc,sn,sub,ab,col,hdl⟩:=cd
  have e2:hdl=false:=beq_iff_eq.mp e2
  subst e2
  cases mro with
  | nil=>cases e5
  | cons v r =>
   dsimp only at e5
   rw [yP] at e5
   have e6:=beq_iff_eq.mp e5.1
   subst e6
   have e7:=e5.2
   unfold Zuc at e7
   split at e7
   ·rename_i M r
    rw [yP] at e7
    have e8:=beq_iff_eq.mp e7.1
    subst e8
    have e9:=e7.2
    split at e9
    ·rename_i c2 d2 cd2 sl2 q2
     obtain ⟨mM,hM,hMi⟩:=Zp6 X e9
     obtain ⟨sl⟩:=sl
     obtain ⟨k0,k1,k2,k3,k5,rfl⟩:=Z05 (l:=sl) e4
     ·exact ⟨nm,qn,N,bs,.ref M::vE,hdc,sn,sub,ab,col,d,k0,k1,k2,k3,k5,mN,X _ _ q,hn,hi,.own (X _ _ q2) hM hMi .base⟩
    ·cases e9
   ·cases e7
 ·cases e
def Z3k (E:St->XK) (C:Addr) (te:TE):TS:=fun _ σ H=>te σ H fun _ H1=>E σ (.ref C) none H1
section
variable {X:Cx}{E:St->XK}{C:Addr}{x:Str}{np cpos pos:Pos}{e:Expr}{te:TE}
theorem Zea (hx:Xp X E) (hcl:X.calm=true) (hex:X.ex = []) (xc:Zag X.K C=true) (n:Nm X.env.scope x .globalImplicit) (hm:X.mg x=some (.ref C)) (he:QE X e te)
  (hs:starEach [e] X.env = [(false,eval e X.env)]:=by rfl):QS X (.Raise (some (.Call (.Name x np) [e] [] cpos)) none pos) (Z3k E C te):=⟨by
 intro pins s σ H D I h
 obtain ⟨nm,q,N,bs,bm,hdct,sn,sub,ab,col,dd,k0,k1,k2,k3,k5,mN,hC,hn,hi,T⟩:=Zrq I.kIn xc
 refine wpAny_Raise_call_subU (C:=C) (N:=N) (nm:=nm) (q:=q) (bs:=bs) (bm:=bm) (bmB:=vE) (hdct:=hdct) (sn:=sn) (sub:=sub) (ab:=ab) (col:=col) (dd:=dd) (k0:=k0) (k1:=k1) (k2:=k2) (k3:=k3) (k5:=k5) (mN:=mN)
  F.excBase_ValueError (by decide) F.excBase_ValueError (T.hasType (by decide)) (I.ok.hd hcl) (by rw [hs]; rfl) hi (Zbp I n.1 hm ⟨rfl,?_⟩ n.2.1)
 rw [hs]
 refine Calls.evalArgs_plain (Calls.spliced_cons (thn (he.h pins s σ H _ I h) fun u s1 ⟨v,H1,I1,r1,q1⟩=>Calls.spliced_nil ?_))
 have K1:∀ b o,X.base.get? b=some o->s1.heap.get? b=some o:=I1.bk
 obtain ⟨nm',q',N',bs',bm',hdct',sn',sub',ab',col',dd',k0',k1',k2',k3',k5',mN',hC',hn',hi',T'⟩:=Zrq I1.kIn xc
 have lk:∃ o,X.K.lookup C=some o:=by
  unfold Zag at xc
  split at xc
  ·rename_i z; exact ⟨_,z⟩
  ·cases xc
 obtain ⟨oC,hoC⟩:=lk
 have z1:=(I.kIn _ _ hoC).symm.trans hC
 have z2:=(I1.kIn _ _ hoC).symm.trans hC'
 have hC1:s1.heap.get? C=some (excClassObj nm q C N bs bm hdct sn sub ab col dd k0 k1 k2 k3 k5 "ValueError.__new__"):=by rw [hC',← z2,z1]
 have zz:=hC1.symm.trans hC'
 have eN:N=N':=by
  have:=congrArg (fun o:Option Obj=>match o with | some ⟨_,_,.cls cd,_⟩=>cd.ns | _=>0) zz
  exact this
 have ebm:bm=bm':=by
  have:=congrArg (fun o:Option Obj=>match o with | some ⟨_,_,.cls cd,_⟩=>cd.mro | _=>[]) zz
  exact (List.cons.inj this).2
 subst eN ebm
 refine ⟨rfl,by show 1<=sizeLine; decide,hC1,?_,T',fun h' a hx'=>?_⟩
 ·-- the namespace is the same object
  have lkN:∃ o,X.K.lookup N=some o:=by
   unfold Zag at xc
   rw [hoC] at xc
   obtain ⟨c,d,dt,sl⟩:=oC
   cases dt with
   | cls cd =>
    simp only [yP] at xc
    have e3:=xc.1.1.2
    have eN:cd.ns=N:=by
     have:=congrArg (fun o:Option Obj=>match o with | some ⟨_,_,.cls cd,_⟩=>cd.ns | _=>0) z1
     exact this
    rw [eN] at e3
    unfold nsX at e3
    split at e3
    ·rename_i z; exact ⟨_,z⟩
    ·cases e3
   | _=>cases xc
  obtain ⟨oN,hoN⟩:=lkN
  obtain ⟨o1,es1,ep1,ho1,r1⟩:=hn
  have:=(I.kIn _ _ hoN).symm.trans ho1
  cases this
  exact ⟨_,es1,ep1,I1.kIn _ _ hoN,r1⟩
 ·obtain ⟨t,e1,e2,e3⟩:=hx'.there
  have I2:Inv X pins σ H1 {s1 with heap:=h' }:=I1.kept (t':=s1.toks) hx'.keeps
  have fr:∀ b,s1.heap.get? b=none->H1 b=none:=fun b z=>by
   cases q:H1 b with
   | none=>rfl
   | some u=>obtain ⟨o,e⟩:=(I1.hok b u q).ex; rw [z] at e; cases e
  refine hx.h pins σ H1 {s1 with heap:=h' } a C I2 ⟨fr a hx'.new,?_,_,_,_,e1,rfl,rfl,rfl,.inl rfl⟩ q1
  cases q:X.s₀.heap.get? a with
  | none=>rfl
  | some o =>
   obtain ⟨o',e'⟩:=I1.base.there a o q (by rw [hex]; simp)
   rw [hx'.new] at e'; cases e'⟩
end
end L2
end
section
namespace L2
open PySem PySem.Spec PyProof.Rows
abbrev TJ:=St->Hp->(Hp->Prop)->Prop
def PJ (X:Cx) (es:List Expr) (t:TJ):Prop:=∀ (pins:List (Addr×Obj)) (s:Shared) (σ:St) (H:Hp) (Q:Hp->Prop) (acc:Str),Inv X pins σ H s->acc.length+es.length * 1000000<=sizeLine->t σ H Q ->
 Joins (model X.prog X.w) X.A X.xe (evalEach es X.env) acc (fun out s₁=>out.length<=sizeLine/\∃ H',Inv X pins σ H' s₁/\Q H') s
structure QJ (X:Cx) (es:List Expr) (t:TJ):Prop where
 h:PJ X es t
def tJt (n:Nat) (t:TJ):TJ:=fun σ H Q=>n<=1000000/\t σ H Q
def tJf (te:TE) (t:TJ):TJ:=fun σ H Q=>te σ H fun v H1=>((∃ x,v = .str x/\x.length<=1000000)\/(∃ i,v = .int i/\i.natAbs.log2 < 1920))/\t σ H1 Q
def tJ0:TJ:=fun _ H Q=>Q H
def Z4k (t:TJ):TE:=fun σ H Q=>t σ H fun H1=>∀ x:Str,Q (.str x) H1
section
variable {X:Cx}{es:List Expr}{e:Expr}{te:TE}{t:TJ}{pos:Pos}
theorem Zp7:QJ X [] tJ0:=⟨fun pins s σ H Q acc I hl h=>⟨by simpa using hl,H,I,h⟩⟩
theorem Zbr (a b:Str):(a++b).length=a.length+b.length:=strLen_append a b
theorem Zis {x:Str}{j:Nat}(h:QJ X es t) (he:evalEach (.Constant (.str x) j pos::es) X.env=eval (.Constant (.str x) j pos) X.env::evalEach es X.env:=by rfl):QJ X (.Constant (.str x) j pos::es) (tJt x.length t):=⟨by
 intro pins s σ H Q acc I hl hq
 obtain ⟨hx,hq⟩:=hq
 rw [xG] at hl
 rw [he]
 refine Calls.Constant_str ⟨x,_,rfl,?_,h.h pins _ σ H Q (acc++x) (I.tok _) ?_ hq⟩
 ·rw [Zbr]; lia
 ·rw [Zbr]; lia⟩
theorem Zp8 (h1:QE X e te) (h:QJ X es t) (he:evalEach (.FormattedValue e (-1) none pos::es) X.env=eval (.FormattedValue e (-1) none pos) X.env::evalEach es X.env:=by rfl):QJ X (.FormattedValue e (-1) none pos::es) (tJf te t):=⟨by
 intro pins s σ H Q acc I hl hq
 rw [xG] at hl
 rw [he]
 refine wpAny_FormattedValue_plain (thn (h1.h pins s σ H _ I hq) fun u s1 ⟨v,H1,I1,rv,hv,q⟩=>?_)
 rcases hv with ⟨x,rfl,hx⟩ | ⟨i,rfl,hi⟩
 ·obtain ⟨tk,rfl⟩:=rv
  refine formatField_str (fun t' tk'=>⟨x,t',rfl,?_,h.h pins _ σ H1 Q (acc++x) (I1.tok _) ?_ q⟩) (by rw [sizeLine_eq]; lia)
  ·rw [Zbr]; lia
  ·rw [Zbr]; lia
 ·obtain ⟨tk,rfl⟩:=rv
  have hn:(Str.ofString (toString i)).length<=1921:=by rw [PySem.ofString_length]; exact int_text_length_le (by decide) hi
  refine wpAny_formatField_int hi ⟨_,_,rfl,?_,h.h pins _ σ H1 Q _ (I1.tok _) ?_ q⟩
  ·rw [Zbr]; lia
  ·rw [Zbr]; lia⟩
theorem Zm9 {M:Model}{A:Around}{E:Value->Shared->Prop}{Q Q':Str->Shared->Prop}(hQ:∀ o s,Q o s->Q' o s):∀ {l:List (Sem Value)}{acc:Str}{s:Shared},Joins M A E l acc Q s->Joins M A E l acc Q' s
 | [],_,_,h=>hQ _ _ h
 | _::_,_,_,h=>wpAny_mono h (fun _ _ ⟨y,t,a,b,c⟩=>⟨y,t,a,b,Zm9 hQ c⟩) fun _ _ z=>z
theorem Znt {e1 e2:Expr}(h:QJ X (e1::e2::es) t) (hn:es.length<=8:=by decide):QE X (.JoinedStr (e1::e2::es) pos) (Z4k t):=⟨by
 intro pins s σ H Q I hq
 have hs:(Str.empty).length+(e1::e2::es).length * 1000000<=sizeLine:=by
  have:Str.empty.length=0:=rfl
  rw [this,xG,xG,sizeLine_eq]; lia
 refine wpAny_JoinedStr ?_
 have key:=h.h pins s σ H _ Str.empty I hs hq
 refine Zm9 (fun out s1 ⟨h1,H1,I1,q⟩=>⟨h1,.str out,H1,I1.tok _,⟨_,rfl⟩,q out⟩) key⟩
end
end L2
end
section
namespace L2
open PySem PySem.Spec PyProof.Rows PySem.W PySem.Calls PySem.Builtin PySem.Builtin.ObjectAttr PySem.Builtin.Getset_descriptor
def Zk9 (K:Frag) (C:Addr):Bool:=(clsIn K C).isSome && (findIn K (.ref C) "__getattribute__" == some (some (.builtin "BaseException.__getattribute__"))) && (findIn K (.ref C) "__getattr__" == some none) && (findIn K (.ref C) "__class__" == some (some (.builtin "object.__class__"))) &&
 (mroIn K C (.type "object") == some true) && (mroIn K C (.type "BaseException") == some true)
section
variable {prog:Program}{w:World}{A:Around}{E:Value->Shared->Prop}{h:Heap}{g:Array GenState}{d:Drawn}{t:Nat}{os:OsState}{a C:Addr}{o:Obj}{K:Frag}
structure ExA (h:Heap) (a:Addr) (o:Obj) (C:Addr):Prop where
 at_:h.get? a=some o
 cls:o.cls = .ref C
end
section
variable {K:Frag}{a C:Addr}{o:Obj}
end
end L2
end
section
namespace L2
open PySem PySem.Spec PyProof.Rows
abbrev Cx.hnd (X:Cx) (a:Addr) (o:Obj):Cx:={X with A:=X.A.mark (some (.ref a)),calm:=false,pn:=[(a,o)],xe:=fun _ _=>False }
section
variable {X:Cx}{σ:St}{H:Hp}{s:Shared}{a C:Addr}{o:Obj}
theorem Inv.hnd (I:Inv X [] σ H s) (ho:s.heap.get? a=some o) (hH:H a=none) (hd:∃ vs,o.data = .fields vs):Inv (X.hnd a o) [] σ H s:=by
 obtain ⟨vs,hd⟩:=hd
 obtain ⟨m,⟨oL,esL,epL,hoL,hdL,rL⟩,_⟩:=id I.loc
 refine ⟨⟨I.ok.mod,I.ok.kind,I.ok.glob,I.ok.blt,I.ok.above,I.ok.inj,I.ok.has,I.ok.cab,fun z=>Bool.noConfusion z,I.ok.frames,I.ok.stk,I.ok.exf,I.ok.bs,I.ok.bsz,I.ok.noex,I.ok.exfs,I.ok.funs,I.ok.frf⟩,I.os,I.bare,I.base,I.loc,I.cell,I.free,I.freeC,fun p hp=>?_,I.hok,I.len⟩
 have e:p=(a,o):=by simpa using hp
 subst e
 refine ⟨ho,hH,fun z=>?_,fun z=>?_,fun v z=>?_⟩
 ·have z:a=X.env.locals:=z
  rw [z,hoL] at ho; cases ho; rw [hdL] at hd; cases hd
 ·obtain ⟨_,o',e',d⟩:=I.funs.mem (show a∈X.outer.filterMap (·.frame) from z)
  rw [ho] at e'; cases e'; exact d vs hd
 ·have z:o.data = .cell v:=z
  rw [hd] at z; cases z
theorem Inv.unhnd (I:Inv (X.hnd a o) [] σ H s) (ok:X.Ok) (hpn:X.pn = []):Inv X [] σ H s :=
 ⟨ok,I.os,I.bare,I.base,I.loc,I.cell,I.free,I.freeC,(fun p hp=>by rw [hpn] at hp; cases hp),I.hok,I.len⟩
theorem Zy2 {M:Model}{A:Around}{E:Value->Shared->Prop}{Q:Unit->Shared->Prop}(I:Inv X [] σ H s) (hpn:X.pn = []) (hex:X.ex = []) (stk:X.stack=X.env::X.outer) (x:XAt X.s₀.heap H s.heap a C)
  (k:∀ h',Inv X [] σ H {s with heap:=h' }->XAt X.s₀.heap H h' a C->Q () {s with heap:=h' }):wpAny M A (setFlight (.ref a) none) Q E s:=by
 obtain ⟨ha,h0a,oe,vs,a0,he,hc,hd,v0,tr⟩:=id x
 rcases tr with v1 | tr
 ·unfold setFlight
  refine wpAny_bind (wpAny_field he hd v1 ?_)
  rw [if_neg (by decide)]
  exact wpAny_pure (k s.heap I x)
 ·exact Znr I hpn ⟨ha,h0a,oe,vs,a0,he,hc,hd,v0,tr⟩ fun h' I' x'=>k h' I' x'.at_
end
def Up (K:uFg) (C D:Addr):Option Bool:=if ((PySem.W.clsIn K D).isSome && (PySem.W.typeIn K (.ref D) == some (.type "type")) && (PySem.W.subIn K (.ref D) (.type "BaseException") == some true))=true then PySem.W.subIn K (.ref C) (.ref D) else none
theorem Zux {M:Model}{A:Around}{E:Value->Shared->Prop}{s:Shared}{K:uFg}{a C D:Addr}{oe:Obj}{b:Bool}{Q:Bool->Shared->Prop}(X:K.In s.heap) (he:s.heap.get? a=some oe) (hc:oe.cls = .ref C)
  (e:Up K C D=some b) (q:Q b s):wpAny M A (excMatches (.ref a) (.ref D)) Q E s:=by
 unfold Up at e
 split at e
 ·rename_i z
  simp only [yP] at z
  obtain ⟨⟨z0,z1⟩,z2⟩:=z
  have L0:=PySem.W.looks_typeIn (M:=M) X (beq_iff_eq.mp z1)
  have L1:=PySem.W.looks_subIn (M:=M) X (beq_iff_eq.mp z2)
  have L2:=PySem.W.looks_subIn (M:=M) X e
  have LI:PySem.W.Looks M s.heap (isInstance (.ref D) (.type "tuple")) false:=L0.andThen (PySem.W.Looks.of_pure tc_notTuple)
  obtain ⟨cdD,hcD⟩:=Option.isSome_iff_exists.mp z0
  have LT:PySem.W.Looks M s.heap (isType (.ref D)) true:=by
   unfold PySem.W.clsIn at hcD
   split at hcD
   ·rename_i c' d' cd' sl' ho
    intro A' Q' E' s' k q
    unfold isType loadHead
    exact wpAny_bind (wpAny_loadPart (k _ _ (X _ _ ho)) (wpAny_pure q))
   ·cases hcD
  have LE:PySem.W.Looks M s.heap (isExcClass (.ref D)) true:=LT.andThen L1
  have Lt:PySem.W.Looks M s.heap (typeOf (.ref a)) (.ref C):=hc▸(PySem.W.Looks.ld he).andThen .now
  obtain ⟨h0,g,d,t,os⟩:=s
  unfold excMatches
  refine wpAny_bind (LI.at ?_)
  simp only [Bool.false_eq_true,if_false]
  refine wpAny_bind (wpAny_pure ?_)
  simp only [List.forIn_cons,List.forIn_nil]
  refine wpAny_bind (wpAny_bind (wpAny_bind (LE.at ?_)))
  simp only [Bool.not_true,Bool.false_eq_true,if_false]
  refine wpAny_pure (wpAny_pure ?_)
  refine wpAny_bind (Lt.at (wpAny_bind (wpAny_bind (wpAny_bind (L2.at ?_)))))
  cases b with
  | true=>simp only [if_true]; exact wpAny_pure (wpAny_pure (wpAny_pure q))
  | false=>simp only [Bool.false_eq_true,if_false]; exact wpAny_pure (wpAny_pure (wpAny_pure q))
 ·cases e
def PH (X:Cx) (hs:List ExceptHandler) (t:Addr->TS):Prop:=∀ (a C:Addr) (s:Shared) (σ:St) (H:Hp) (D:Ends),Inv X [] σ H s->XAt X.s₀.heap H s.heap a C->t C D σ H->wpAny (model X.prog X.w) X.A (handleBy (.ref a) X.env hs) (SP X [] D) X.xe s
structure QH (X:Cx) (hs:List ExceptHandler) (t:Addr->TS):Prop where
 h:PH X hs t
def tH0:Addr->TS:=fun _ _ _ _=>False
def Yam (K:uFg) (Dc:Addr) (ts:TS) (tr:Addr->TS):Addr->TS:=fun C D σ H=>∃ b,Up K C Dc=some b/\if b=true then ts D σ H else tr C D σ H
structure Pl (X:Cx):Prop where
 pn:X.pn = []
 ex:X.ex = []
 stk:X.stack=X.env::X.outer
 fr:X.env.frame=some X.env.locals
section
variable {X:Cx}{x n:Str}{np pos:Pos}{b₀:Stmt}{suite:List Stmt}{rest:List ExceptHandler}{Dc:Addr}{tr:Addr->TS}
theorem Zp9:QH X [] tH0:=⟨fun _ _ _ _ _ _ _ _ h=>h.elim⟩
theorem Zy3 {a:Addr}{o:Obj}{D:Ends}{f:Flow}{s:Shared}(ok:X.Ok) (hpn:X.pn = []) (h:SP (X.hnd a o) [] D f s):SP X [] D f s:=by
 cases f with
 | next=>obtain ⟨σ,H,I,q⟩:=h; exact ⟨σ,H,I.unhnd ok hpn,q⟩
 | brk=>obtain ⟨σ,H,I,q⟩:=h; exact ⟨σ,H,I.unhnd ok hpn,q⟩
 | cont=>obtain ⟨σ,H,I,q⟩:=h; exact ⟨σ,H,I.unhnd ok hpn,q⟩
 | ret u=>obtain ⟨v,σ,H,I,r,q⟩:=h; exact ⟨v,σ,H,I.unhnd ok hpn,r,q⟩
theorem Zex {ts:TS}(p:Pl X) (nm:Nm X.env.scope x .globalImplicit) (hm:X.mg x=some (.ref Dc)) (hb:∀ a o,QSs (X.hnd a o) (b₀::suite) ts) (hr:QH X rest tr) :
  QH X (.ExceptHandler (some (.Name x np)) none (b₀::suite) pos::rest) (Yam X.K Dc ts tr):=⟨by
 intro a C s σ H D I xa h
 obtain ⟨b,eb,h⟩:=h
 obtain ⟨ha,h0a,oe,vs,a0,he,hc,hd,v0,_⟩:=id xa
 have J:=I.hnd he ha ⟨vs,hd⟩
 refine wpAny_handleBy_cons (codeAny_handlers_test (Zbp (X:=X.hnd a oe) J nm.1 hm ?_ nm.2.1)) (by intro q; cases q)
 refine Zux J.kIn he hc eb ?_
 cases b with
 | false=>exact hr.h a C s σ H D I xa h
 | true =>
  refine codeAny_handlers_suite (Zy2 I p.pn p.ex p.stk xa fun h' I' xa'=>?_)
  obtain ⟨ha',_,oe',vs',_,he',_,hd',_⟩:=xa'
  refine wpAny_mono ((hb a oe').h [] _ σ H D (I'.hnd he' ha' ⟨vs',hd'⟩) h) (fun f s2 q=>Zy3 I.ok p.pn q) fun _ _ z=>z.elim⟩
end
end L2
namespace L2
open PySem PySem.Spec PyProof.Rows
def PS0 (X:Cx) (st:Stmt) (t:TS):Prop:=∀ (s:Shared) (σ:St) (H:Hp) (D:Ends),Inv X [] σ H s->t D σ H->wpAny (model X.prog X.w) X.A (exec st X.env) (SP X [] D) X.xe s
def Yan (X:Cx) (st:List Stmt) (t:TS):Prop:=∀ (s:Shared) (σ:St) (H:Hp) (D:Ends),Inv X [] σ H s->t D σ H->wpAny (model X.prog X.w) X.A (execs st X.env) (SP X [] D) X.xe s
structure QS0 (X:Cx) (st:Stmt) (t:TS):Prop where
 h:PS0 X st t
structure QSs0 (X:Cx) (st:List Stmt) (t:TS):Prop where
 h:Yan X st t
def Yao (tb:(St->XK)->TS) (th:Addr->TS):TS:=fun D σ H=>tb (fun σ' c _ H'=>∃ C,c = .ref C/\th C D σ' H') D σ H
section
variable {X:Cx}{st:Stmt}{rest body:List Stmt}{t u:TS}{h₀:ExceptHandler}{hs:List ExceptHandler}{tb:(St->XK)->TS}{th:Addr->TS}{pos:Pos}
theorem QS.q0 (h:QS X st t):QS0 X st t:=⟨fun s σ H D I q=>h.h [] s σ H D I q⟩
theorem QSs.q0 (h:QSs X rest t):QSs0 X rest t:=⟨fun s σ H D I q=>h.h [] s σ H D I q⟩
theorem Zbm (h1:QS0 X st t) (h2:QSs0 X rest u):QSs0 X (st::rest) (Ul t u):=⟨by
 intro s σ H D I h
 rw [execs]
 refine wpAny_bind (thn (h1.h s σ H _ I h) fun f s1 q=>?_)
 cases f with
 | next =>
  obtain ⟨σ1,H1,I1,q⟩:=q
  exact h2.h s1 σ1 H1 D I1 q
 | brk=>exact wpAny_pure q
 | cont=>exact wpAny_pure q
 | ret u=>exact wpAny_pure q⟩
theorem Zqa (p:Pl X) (hb:∀ (E':Value->Shared->Prop) (EH:St->XK),Xq (X.wish E') EH->QSs (X.wish E') body (tb EH)) (hh:QH X (h₀::hs) th):QS0 X (.Try body (h₀::hs) [] [] pos) (Yao tb th):=⟨by
 intro s σ H D I h
 refine wpAny_Try_except ?_
 have wish:∀ {E'} {σ:St}{H:Hp}{s:Shared},Inv X [] σ H s->Inv (X.wish E') [] σ H s:=fun I=>⟨⟨I.ok.mod,I.ok.kind,I.ok.glob,I.ok.blt,I.ok.above,I.ok.inj,I.ok.has,I.ok.cab,I.ok.hd,I.ok.frames,I.ok.stk,I.ok.exf,I.ok.bs,I.ok.bsz,I.ok.noex,I.ok.exfs,I.ok.funs,I.ok.frf⟩,I.os,I.bare,I.base,I.loc,I.cell,I.free,I.freeC,I.pin,I.hok,I.len⟩
 have unw:∀ {E'} {σ:St}{H:Hp}{s:Shared}{pins:List (Addr×Obj)},Inv (X.wish E') pins σ H s->Inv X pins σ H s:=fun I=>⟨⟨I.ok.mod,I.ok.kind,I.ok.glob,I.ok.blt,I.ok.above,I.ok.inj,I.ok.has,I.ok.cab,I.ok.hd,I.ok.frames,I.ok.stk,I.ok.exf,I.ok.bs,I.ok.bsz,I.ok.noex,I.ok.exfs,I.ok.funs,I.ok.frf⟩,I.os,I.bare,I.base,I.loc,I.cell,I.free,I.freeC,I.pin,I.hok,I.len⟩
 have hx:Xq (X.wish fun e s₁=>wpAny (model X.prog X.w) X.A (noteFrame e X.env) (fun _ s₂=>wpAny (model X.prog X.w) X.A (setFlight e none) (fun _ s₃=>wpAny (model X.prog X.w) X.A (handleBy e X.env (h₀::hs)) (SP X [] D) X.xe s₃) X.xe s₂) X.xe s₁)
   fun σ' c _ H'=>∃ C,c = .ref C/\th C D σ' H':=⟨.inr ⟨p.ex,⟨fun pins σ1 H1 s1 a C I1 x q=>by
  obtain ⟨C',eC,q⟩:=q
  cases eC
  have I2:=(unw I1).pins_of (pins':=[]) (fun p hp=>nomatch hp)
  exact Zns I2 p.pn p.ex p.stk p.fr x fun h' J y=>hh.h a C _ σ1 H1 D J y q⟩⟩⟩
 refine wpAny_mono ((hb _ _ hx).h [] s σ H D (wish I) h) (fun f s1 q=>?_) fun _ _ z=>z
 have q':SP X [] D f s1:=by
  cases f with
  | next=>obtain ⟨σ,H,I,q⟩:=q; exact ⟨σ,H,unw I,q⟩
  | brk=>obtain ⟨σ,H,I,q⟩:=q; exact ⟨σ,H,unw I,q⟩
  | cont=>obtain ⟨σ,H,I,q⟩:=q; exact ⟨σ,H,unw I,q⟩
  | ret u=>obtain ⟨v,σ,H,I,r,q⟩:=q; exact ⟨v,σ,H,unw I,r,q⟩
 cases f with
 | next=>exact wpAny_pure q'
 | brk=>exact q'
 | cont=>exact q'
 | ret u=>exact q'⟩
end
section
variable {P:Program}{w:World}{K:uFg}{mg:Str->Option Value}{base:Heap}
theorem Fun.ok0 {x qual:Str}{st:Stmt}{f:Addr}{fd:FuncData}{N ps:List Str}{k:Nat}{sp:Sp}(F:Fun K x qual st f fd) (S:FnScope N ps (Zb st)) (len:∀ vs H Q E,sp vs H Q E->vs.length=ps.length)
  (hbody:∀ (cdv:Value) (A:Around) (outer:List Env) (s:Shared) (H:Hp) (vs:List V) (Q:VK) (E:XK),Room k (A.deeper (envOfC qual (Zb st) s.heap.objs.size f cdv))->sp vs H Q E ->
   ∃ t,QSs0 (Yo CX0 P w K mg base N qual (Zb st) f cdv A outer s H E).nox (Yi st) t/\t {nx:=fun _ H'=>Q .non H',rt:=Q } (start N vs) H):FnOk P w K mg base CX0 (k+1) f fd ps sp:=by
 obtain ⟨oc,od,kV,doc,pm,an,cdv,ct,osl,rfl,lk,hcd⟩:=F.ex
 refine ⟨len,fun A outer s H args us vs Q E hr e0 hb r hsp=>?_⟩
 have hl:=len _ _ _ _ hsp
 have KX:K.In s.heap:=e0.mod.kin.keeps fun b o e=>(e0.bs b o e).1
 have lim:s.heap.NoLimit:=e0.mod.nolimit.keeps fun b o e=>(e0.bs b o e).1
 have hkind:∀ y∈ps.zip us,(Zb st).names.lookup y.1=some .local\/((Zb st).names.lookup y.1=some .cell/\((cellsFrom (s.heap.objs.size+1) (Zb st).names []).lookup y.1).isSome=true):=fun ⟨n,v⟩ hy=>by
  rcases S.par n (List.of_mem_zip hy).1 with q | q
  ·exact .inl q
  ·exact .inr ⟨q,PySem.W.cellsFrom_some _ _ _ (.inl q)⟩
 refine codeAny_call_function hr.depth (KX _ _ lk) rfl S.co S.gen rfl (PySem.W.codeRec_of KX hcd) (hb _ _ _ _ ?_)
 refine wpAny_newFunctionEnv_cells S.kind hkind fun env he s1 x=>?_
 subst he
 refine ⟨lim.keeps x.toInCall.keep,codeAny_func ?_⟩
 obtain ⟨t,ht,hq⟩:=hbody cdv A outer s H vs Q E (hr.deeper _) hsp
 have I0:Inv (Yo CX0 P w K mg base N qual (Zb st) f cdv A outer s H E) [] (start N vs) H s1:=Znk S hr.hd e0 hl r x
 have I:Inv (Yo CX0 P w K mg base N qual (Zb st) f cdv A outer s H E).nox [] (start N vs) H s1:=⟨⟨I0.ok.mod,I0.ok.kind,I0.ok.glob,I0.ok.blt,I0.ok.above,I0.ok.inj,I0.ok.has,I0.ok.cab,I0.ok.hd,I0.ok.frames,I0.ok.stk,I0.ok.exf,I0.ok.bs,I0.ok.bsz,I0.ok.noex,I0.ok.exfs,I0.ok.funs,I0.ok.frf⟩,I0.os,I0.bare,I0.base,I0.loc,I0.cell,I0.free,I0.freeC,I0.pin,I0.hok,I0.len⟩
 refine wpAny_mono (ht.h s1 (start N vs) H _ I hq) (fun fl s' hs=>?_) fun e s' hs=>hs.elim
 have fin:∀ {σ':St}{H':Hp}{v:V}{u:Value},Inv (Yo CX0 P w K mg base N qual (Zb st) f cdv A outer s H E).nox [] σ' H' s'->RelV v u->Q v H'->CE outer P w H s Q u s' :=
  fun {σ' H' v u} J rv q=>⟨v,H',J.os,J.bare,J.base,J.hok,rv,q⟩
 cases fl with
 | ret u =>
  obtain ⟨v,σ',H',J,rv,q⟩:=hs
  exact fin J rv q
 | next =>
  obtain ⟨σ',H',J,q⟩:=hs
  exact fin (v:=V.non) (u:=Value.none) J rfl q
 | brk=>obtain ⟨_,_,_,z⟩:=hs; exact z.elim
 | cont=>obtain ⟨_,_,_,z⟩:=hs; exact z.elim
theorem Has.fn0 {x:Str}{st:Stmt}{N ps:List Str}{k:Nat}{sp:Sp}(h:Has K mg x st) (S:FnScope N ps (Zb st))
  (hb:∀ (kV doc pm:Value) (an:Option Addr) (cdv ct:Value) (us:List Value),us.length=ps.length->bindArgs (PySem.W.fnOf x x (Wk st) (Yi st) (Zb st) .none kV doc pm an cdv ct) ⟨us,[]⟩=pure (ps.zip us))
  (len:∀ vs H Q E,sp vs H Q E->vs.length=ps.length)
  (hbody:∀ (f:Addr) (cdv:Value) (A:Around) (outer:List Env) (s:Shared) (H:Hp) (vs:List V) (Q:VK) (E:XK),Room k (A.deeper (envOfC x (Zb st) s.heap.objs.size f cdv))->sp vs H Q E ->
   ∃ t,QSs0 (Yo CX0 P w K mg base N x (Zb st) f cdv A outer s H E).nox (Yi st) t/\t {nx:=fun _ H'=>Q .non H',rt:=Q } (start N vs) H):Fn P w K mg base x ps (k+1) sp:=by
 obtain ⟨f,fd,F,hm⟩:=h
 exact ⟨f,fd,hm,F.kp,F.binds hb,F.ok0 S len (hbody f)⟩
end
theorem Zby {CX:CXT}{P:Program}{w:World}{K:uFg}{mg:Str->Option Value}{base:Heap}{N:List Str}{qual:Str}{scope:Scope}{f:Addr}{cd:Value}{A:Around}{outer:List Env}{s:Shared}{H:Hp}{E:XK} :
  Pl (Yo CX P w K mg base N qual scope f cd A outer s H E).nox:=⟨rfl,rfl,rfl,rfl⟩
structure Er (K:uFg) (mg:Str->Option Value) (c:Str->Addr) (errs:List Str):Prop where
 g:∀ x,x∈errs->mg x=some (.ref (c x))
 x:∀ x,x∈errs->Zag K (c x)=true
 k:∀ x,x∈errs->Zk9 K (c x)=true
 m:mg "MootError" = some (.ref (c "MootError"))
 e:∀ x,x∈errs->Up K (c x) (c "MootError")=some true
 s:∀ x,x∈errs->∀ y,y∈errs->Up K (c x) (c y)=some (decide (x=y))
 i:∀ x,x∈errs->∀ y,y∈errs->PySem.W.kitOne K (.ref (c x)) (.ref (c y))=some (decide (x=y))
 v:∀ x,x∈errs->PySem.W.kitOne K (.ref (c x)) (.type "ValueError")=some true
end L2
end
section
namespace L2
open PySem PySem.Spec PyProof.Rows
section
variable {X:Cx}
def Zla:List V->Hp->VK->Prop:=fun xs H Q=>(∃ x,xs = [.str x]/\Q (.str x) H)\/∃ i:Int,xs = [.int i]/\i.natAbs.log2 < 1920/\Q (.str (Str.ofString (toString i))) H
theorem Zy4:Wn X (.type "str") Zla:=by
 intro pins s σ H xs us Q I r h
 rcases h with ⟨x,rfl,q⟩ | ⟨i,rfl,hi,q⟩
 ·obtain ⟨u,rfl,t,rfl⟩:=Vz r
  exact P.str_of_str ⟨.str x,H,I,⟨t,rfl⟩,q⟩
 ·obtain ⟨u,rfl,t,rfl⟩:=Vz r
  exact P.str_of_int hi ⟨.str _,H,I.tok _,⟨_,rfl⟩,q⟩
theorem Zg3:QC X (.type "str") Zla:=⟨Zy4⟩
end
end L2
end
section
namespace L2
open PySem PySem.Spec PyProof.Rows
def Zlb (K:uFg) (P:Params) (d:Addr) (kvs:List (Str×Tok×Addr)):Prop:=(∃ n,K.lookup d=some ⟨.type "dict", none,.dict (kvs.map fun x=>de P x.1 x.2.1 (.ref x.2.2)).toArray n,#[]⟩)/\(kvs.map (·.1)).Nodup/\(d == sysModules)=false
def kdK (kvs:List (Str×Tok×Addr)):List (Key×Value):=kvs.map fun x=>(Sum.inr x.1,Value.ref x.2.2)
theorem Z3l {K:uFg}{Pg:Program}{w:World}{h:Heap}{d:Addr}{kvs:List (Str×Tok×Addr)}(X:K.In h) (D:Zlb K w.params d kvs):h.DictOf (Ys Pg w) d (kdK kvs):=by
 obtain ⟨⟨n,e⟩,nd,_⟩:=D
 refine ⟨_,_,n,X _ _ e,⟨rfl,rfl,rfl⟩,rfl,fun x hx=>?_,?_,?_⟩
 ·obtain ⟨y,_,rfl⟩:=yO.mp (Array.mem_toList_iff.mpr hx)
  exact ⟨Sum.inr y.1,Zg1 y.1 y.2.1,rfl⟩
 ·have:∀ l:List (Str×Tok×Addr),PySem.Pairs (Ys Pg w) (l.map fun x=>de w.params x.1 x.2.1 (.ref x.2.2)) (kdK l):=by
   intro l
   induction l with
   | nil=>exact .nil
   | cons y l ih=>exact .cons (Zg1 y.1 y.2.1) rfl ih
  exact this kvs
 ·unfold kdK
  rw [List.map_map]
  have e2:((fun x:Key×Value=>x.1)∘fun x:Str×Tok×Addr=>((Sum.inr x.1:Key),Value.ref x.2.2))=fun x=>Sum.inr x.1:=rfl
  rw [e2]
  rw [List.nodup_iff_pairwise_ne] at nd ⊢
  rw [List.pairwise_map] at nd ⊢
  exact nd.imp fun h z=>h (Sum.inr.inj z)
def Zce (kvs:List (Str×Tok×Addr)) (n:Str):Option Addr:=(kvs.find? fun x=>decide (x.1=n)).map (·.2.2)
theorem Zqb (n:Str):∀ kvs:List (Str×Tok×Addr),valueAt (kdK kvs) (Sum.inr n)=(Zce kvs n).map Value.ref
 | []=>rfl
 | x::l=>by
  have ih:=Zqb n l
  unfold valueAt kdK Zce at *
  rw [xP,List.find?_cons,List.find?_cons]
  dsimp only
  rw [Zpm]
  cases decide (x.1=n) with
  | true=>rfl
  | false=>exact ih
section
variable {X:Cx}
def Zrr (K:uFg) (P:Params):R2:=fun x y H Q=>∃ (n:Str) (d:Addr) (kvs:List (Str×Tok×Addr)),x = .str n/\y = .ref d/\Zlb K P d kvs/\Q (.bl (Zce kvs n).isSome) H
theorem Z06:OpR X (compareOp .In) (Zrr X.K X.w.params):=by
 intro pins s σ H x y v u Q I rx ry ⟨n,d,kvs,ex,ey,D,q⟩
 subst ex ey
 obtain rfl:u=Value.ref d:=ry
 refine wpAny_in_of (U0 (P:=X.prog) (w:=X.w) (k:=Sum.inr n) rx) D.2.2 (Z3l I.kIn D).mapOf ?_
 rw [Zqb,Option.isSome_map]
 exact ⟨.bl _,H,I.tok _,rfl,q⟩
theorem Zy5:QOp X (compareOp .In) (Zrr X.K X.w.params):=⟨Z06⟩
end
end L2
end
section
namespace L2
open PySem PySem.Spec PyProof.Rows
def jn:List (List Nat)->List Nat
 | []=>[]
 | [a]=>a
 | a::b::r=>a++32::jn (b::r)
theorem Zh2:∀ ws:List Str,cs (Str.join " " ws)=jn (ws.map cs)
 | []=>by decide +kernel
 | [w]=>rfl
 | w::v::r=>by
  show cs (w ++ " " ++ Str.join " " (v::r))=cs w++32::jn ((v::r).map cs)
  rw [U3,U3,Zh2 (v::r),yH]
  have:cs (" " : Str) = [32]:=by decide +kernel
  rw [this]
  rfl
end L2
end
section
namespace L2
open PySem PySem.Spec PyProof.Rows
section
variable {P:Program}{w:World}{A:Around}{E:Value->Shared->Prop}{s:Shared}
end
end L2
end
section
namespace L2
open PySem PySem.Spec PyProof.Rows
theorem Zob {K:uFg}{a:Addr}{xs:List V}{nl:Nat}{fv:St}{g:TG}{tt:TTs}{te:TE}{Q:VK}{H:Hp}(Pv:Nat->List V->Hp->Prop) (h0:Pv 0 [] H) (hn:xs.length<=1000000)
  (hl:∀ i ys H,i<=xs.length->Pv i ys H->SqT K H a xs)
  (hlen:∀ i ys H,Pv i ys H->ys.length<=i)
  (step:∀ i x ys H,xs[i]? = some x->Pv i ys H->Vg nl fv g tt te x H (fun y H'=>Pv (i+1) (ys ++ [y]) H') fun H'=>Pv (i+1) ys H')
  (hd:∀ ys H,Pv xs.length ys H->∀ l,H l=none->Q (.ref l) (upd H l (.lst ys))) :
  Zat (Itt K a) nl fv g tt te Q H:=by
 refine Zeg (xs:=xs) Pv h0 hn ?_ ?_ ?_ hlen step hd
 ·intro i H ys hi p
  exact ⟨xs,xs[i],hl i ys H (Nat.le_of_lt hi) p,by simp [hi]⟩
 ·rintro i H x H' ys hi p ⟨rfl,y⟩
  exact ⟨rfl,y xs (hl i ys _ (Nat.le_of_lt hi) p)⟩
 ·intro H ys p
  exact ⟨xs,hl _ ys H (xB _) p,xB _⟩
section
variable {X:Cx}
def Z3m (K:uFg):List V->Hp->VK->Prop:=fun xs H Q=>∃ p ys,xs = [.ref p]/\((SqL K H p ys/\∀ l,H l=none->Q (.ref l) (upd H l (.tup ys)))\/(SqT K H p ys/\Q (.ref p) H))
theorem Zup:QC X (.type "tuple") (Z3m X.K):=⟨Zut⟩
structure QPs (X:Cx) (pos:Pos) (keys:List (Option Expr)) (values:List Expr) (trs:List (TE×TE)):Prop where
 h:PPs X pos keys values trs
end
end L2
end
section
namespace L2
open PySem PySem.Spec PyProof.Rows
structure InnX (X:Cx) (scope:Scope) (N':List Str) (tg:Expr) (ifs:List Expr) (x:Str) (e:Expr) (es:List Expr) (pos:Pos) (g:TG) (tt:TTs) (t:TA):Prop where
 h:∀ (cl:List (Str×Addr)) (C:Addr) (s0:Shared) (H0:Hp) (ex:List Addr) (pn:List (Addr×Obj)),QG (ccx X scope cl C N' s0 H0 ex pn) tg g/\QTs (ccx X scope cl C N' s0 H0 ex pn) ifs tt/\QA (ccx X scope cl C N' s0 H0 ex pn) (e::es) t/\Nm (ccx X scope cl C N' s0 H0 ex pn).env.scope x .globalImplicit /\
  starEach (e::es) (ccx X scope cl C N' s0 H0 ex pn).env=(false,eval e (ccx X scope cl C N' s0 H0 ex pn).env)::starEach es (ccx X scope cl C N' s0 H0 ex pn).env/\(backTo pos (starEach es (ccx X scope cl C N' s0 H0 ex pn).env)).any (·.1)=false
section
variable {X:Cx}{tg iter e:Expr}{es ifs:List Expr}{scope:Scope}{pos cpos np:Pos}{locs:List Str}{fr:List (Str×Nat)}{g:TG}{tt:TTs}{t:TA}{x:Str}
end
end L2
end
section
namespace L2
open PySem PySem.Spec PyProof.Rows
structure QST (X:Cx) (st:Stmt) (t:TS):Prop where
 h:∀ (pins:List (Addr×Obj)) (s:Shared) (σ:St) (H:Hp) (D:Ends),1<=s.toks->Inv X pins σ H s->t D σ H->wpAny (model X.prog X.w) X.A (exec st X.env) (SP X pins D) X.xe s
structure QSsT (X:Cx) (st:List Stmt) (t:TS):Prop where
 h:∀ (pins:List (Addr×Obj)) (s:Shared) (σ:St) (H:Hp) (D:Ends),1<=s.toks->Inv X pins σ H s->t D σ H->wpAny (model X.prog X.w) X.A (execs st X.env) (SP X pins D) X.xe s
structure QS1 (X:Cx) (st:Stmt) (t:TS):Prop where
 h:∀ (pins:List (Addr×Obj)) (s:Shared) (σ:St) (H:Hp) (D:Ends),Inv X pins σ H s->t D σ H->wpAny (model X.prog X.w) X.A (exec st X.env) (fun f s'=>1<=s'.toks/\SP X pins D f s') X.xe s
section
variable {X:Cx}{st:Stmt}{rest:List Stmt}{t u:TS}{o:Expr}{to:TE}{x y z name:Str}{apos cpos p1 p2 pos pos':Pos}{j1 j2:Nat}{T id:String}{r:V->List V->Hp->VK->Prop}
end
end L2
end
section
namespace L2
open PySem PySem.Spec PyProof.Rows PySem.W
def LL (r:Nat->Nat) (a b:Nat):Prop:=r a < r b\/(r a=r b/\a < b)
structure Tl (N m:Nat) (p:Array Nat):Prop where
 pm:Pm N p
 tl:∀ j,m<=j->j < N->p.getD j 0=j
 hd:∀ j,j < m->p.getD j 0 < m
section
variable {s:Shared}{cmp:Nat->Nat->(Bool->Shared->Prop)->Shared->Prop}{r:Nat->Nat}{N:Nat}{p:Array Nat}
structure Dn (r:Nat->Nat) (p:Array Nat) (z n:Nat):Prop where
 a:∀ i,i+1<=z->LL r (p.getD (i+1) 0) (p.getD i 0)
 b:∀ i,i+1=z->r (p.getD (i+1) 0) < r (p.getD i 0)
 c:∀ i,z<=i->i+1 < n->r (p.getD i 0)=r (p.getD (i+1) 0)/\p.getD i 0 < p.getD (i+1) 0
end
end L2
end
section
namespace L2
open PySem PySem.Spec PyProof.Rows PySem.W
section
variable {P:Program}{w:World}{K:Frag}{mg:Str->Option Value}{base:Heap}
end
structure LamX (X:Cx) (c P:Addr) (nm:Str):Prop where
 code:X.env.code = .ref c
 hd:CodeHd X.base c P
 blt:X.base.BuiltinsAt X.mg P
 nmq:X.env.qual ++ "<lambda>" = nm
 gl:mainGlobals≠P
section
variable {X:Cx}{pins:List (Addr×Obj)}{σ:St}{H:Hp}{s:Shared}{c P:Addr}{nm:Str}{params:Arguments}{body:Expr}{scope:Scope}{lpos:Pos}
end
end L2
end
section
namespace L2
open PySem PySem.Spec PyProof.Rows PySem.W
section
variable {X:Cx}{pins:List (Addr×Obj)}{σ:St}{H:Hp}{s:Shared}
variable {f:Value}{c' a kS:Addr}{oc:Obj}{vs:List Value}{ks:List Int}{keys:Array Value}{b:Bool}{e e1:Nat}{Pf:PySem.Fin->Shared->Prop}{E:Value->Shared->Prop}
end
end L2
end
section
namespace L2
open PySem PySem.Spec PyProof.Rows PySem.W
section
variable {X:Cx}{c P:Addr}{nm x:Str}{params:Arguments}{body:Expr}{scope:Scope}{lpos p kp kp2 pos:Pos}{e:Expr}{te1 te:TE}{k:Nat}
structure LamOk (X:Cx) (nm x:Str) (params:Arguments) (body:Expr) (scope:Scope) (te:TE):Prop where
 cl:closureFor scope X.env=pure []
 df:defaultsOf params X.env=([],[])
 S:FnScope [x] [x] scope
 bd:∀ (pm cv ctv u:Value),bindArgs (kla_fn "<lambda>" nm params body scope [] pm cv ctv) ⟨[u],[]⟩=pure [(x,u)]
 bo:∀ (f:Addr) (cv:Value) (A:Around) (s:Shared) (H2:Hp),QE (Yo CX0 X.prog X.w X.K X.mg X.base [x] nm scope f cv A X.stack s H2 E0) body te
end
end L2
end
section
namespace L2
open PySem PySem.Spec PyProof.Rows PySem.W
/- the library's own look at a code's head (KE.KNestM): a match of its own cost 37,000 objects -/
structure LamB (K:Frag) (mg:Str->Option Value) (c P:Addr):Prop where
 hd:PySem.W.codeHdIn K c P=true
 bm:∃ bm o,mg "__builtins__" = some (.ref bm)/\bm≠builtinsNs/\bm≠mainGlobals/\bm≠P/\K.lookup bm=some o/\o.cls = .type "module" /\ o.dict=some builtinsNs/\o.data = .plain
 gl:mainGlobals≠P
section
variable {P:Program}{w:World}{K:uFg}{mg:Str->Option Value}{base:Heap}
end
section
variable {P:Program}{w:World}{K:uFg}{mg:Str->Option Value}{base:Heap}{x nm:Str}{scope:Scope}{f:Addr}{cv:Value}{A:Around}{outer:List Env}{s:Shared}{H:Hp}{E:XK}{pos:Pos}
end
structure Tb where
 c:Addr
 P:Addr
 nm:Str
end L2
namespace L2
open PySem PySem.Spec PyProof.Rows PySem.W
end L2
namespace L2
open PySem PySem.Spec PyProof.Rows PySem.W
section
variable {X:Cx}{a:Expr}{ta:TE}
def Yap (K:Frag) (ta:TE):TT:=fun σ H Q=>ta σ H fun x H'=>∃ k,Zk1 K x H' k/\Q k H'
theorem Zy6 (ha:QE X a ta) (he:∀ whole,isTrue a X.env whole=(do let v ← whole; standAt a.pos; holding [v] (truthy v))):QT X a (Yap X.K ta):=⟨Zx1 ha.h he⟩
end
end L2
end
section
namespace L2
open PySem PySem.Spec PyProof.Rows
section
variable {X:Cx}{o:Expr}{to:TE}{name:Str}{apos cpos:Pos}{T id:String}{r:V->List V->Hp->VK->Prop}
theorem Z07:QM X "list.pop" Zt4:=⟨Z22⟩
theorem Z3n (pa:PlainAttrs T) (slot:Slot T name id) (hty:typeOf (.builtin id)=pure (.type "method_descriptor")) (hm:QM X id r) (ho:QE X o to)
  (hbase:attributeBase o name X.env (eval o X.env)=eval o X.env:=by rfl) (hline:(apos.endLine == cpos.line)=true:=by rfl):QE X (.Call (.Attribute o name apos) [] [] cpos) (Zt3 X.K T r to):=⟨Z21 pa slot hty hm.h ho.h hbase hline⟩
end
end L2
end
section
namespace L2
open PySem PySem.Spec PyProof.Rows
def erB (K:uFg) (c:Str->Addr) (errs:List Str):Bool :=
 decide (PySem.W.nsIn K mainGlobals "MootError" = some (some (.ref (c "MootError")))) && errs.all fun x=>decide (PySem.W.nsIn K mainGlobals x=some (some (.ref (c x)))) && Zag K (c x) && Zk9 K (c x) && decide (Up K (c x) (c "MootError")=some true) && decide (PySem.W.kitOne K (.ref (c x)) (.type "ValueError")=some true) &&
  errs.all fun y=>decide (Up K (c x) (c y)=some (decide (x=y))) && decide (PySem.W.kitOne K (.ref (c x)) (.ref (c y))=some (decide (x=y)))
theorem Z4l {K:uFg}{h:Heap}{mg:Str->Option Value}{c:Str->Addr}{errs:List Str}(X:K.In h) (G:h.Ns mainGlobals mg) (e:erB K c errs=true):Er K mg c errs:=by
 unfold erB at e
 rw [yP,List.all_eq_true] at e
 obtain ⟨e0,e⟩:=e
 have e1:∀ x,x∈errs->(((((PySem.W.nsIn K mainGlobals x=some (some (.ref (c x)))/\Zag K (c x)=true)/\Zk9 K (c x)=true)/\Up K (c x) (c "MootError")=some true)/\PySem.W.kitOne K (.ref (c x)) (.type "ValueError")=some true)/\∀ y,y∈errs->Up K (c x) (c y)=some (decide (x=y))/\PySem.W.kitOne K (.ref (c x)) (.ref (c y))=some (decide (x=y))):=fun x hx=>by
  have:=e x hx
  simp only [yP,decide_eq_true_eq,List.all_eq_true] at this
  exact this
 exact ⟨fun x hx=>PySem.W.mg_of X G (e1 x hx).1.1.1.1.1,fun x hx=>(e1 x hx).1.1.1.1.2,fun x hx=>(e1 x hx).1.1.1.2,PySem.W.mg_of X G (of_decide_eq_true e0),fun x hx=>(e1 x hx).1.1.2,fun x hx y hy=>((e1 x hx).2 y hy).1,fun x hx y hy=>((e1 x hx).2 y hy).2,fun x hx=>(e1 x hx).1.2⟩
end L2
end
section
namespace L2
open PySem PySem.Spec PyProof.Rows
section
variable {prog:Program}{w:World}{A:Around}{E:Value->Shared->Prop}
theorem Znu {it l:Addr}{items:Array Value}(hne:l≠it):∀ (n i:Nat) (s:Shared) (Q:List Value->Shared->Prop),s.heap.IsListIter it l i->s.heap.IsList l items->i+n<=items.size ->
  (∀ h',h'.IsListIter it l (i+n)->Heap.SameBut it s.heap h'->Q ((items.toList.drop i).take n) {s with heap:=h' })->wpAny (model prog w) A (draw (.ref it) n) Q E s
 | 0,i,s,Q,hit,_,_,hQ=>by
  show wpAny _ _ (pure []) Q E s
  exact wpAny_pure (by simpa using hQ s.heap hit (Heap.SameBut.refl ..))
 | n+1,i,s,Q,hit,ht,hle,hQ=>by
  have hlt:i < items.size:=by lia
  show wpAny _ _ (pyNext (.ref it) >>= _) Q E s
  refine wpAny_bind (wpAny_pyNext_list_item hit ht (x:=items[i]) (by simp [hlt]) fun h₁ hit₁ hs₁=>?_)
  refine wpAny_bind (wpAny_holding (Znu hne n (i+1) _ _ hit₁ (ht.extBut hs₁.extBut hne) (by lia) fun h₂ hit₂ hs₂=>wpAny_pure ?_))
  have hd:items.toList.drop i=items[i]::items.toList.drop (i+1):=by simp [List.drop_eq_getElem_cons,hlt]
  have:=hQ h₂ (by rw [show i+(n+1)=i+1+n by lia]; exact hit₂) (hs₁.trans hs₂)
  rw [hd,List.take_succ_cons] at this
  exact this
variable {s:Shared}
theorem Zuj {env:Env}{elts:List Expr}{x1} {pos:Pos}{l:Addr}{items:Array Value}{Q:Unit->Shared->Prop}(hh:A.handled=none) (ht:s.heap.IsList l items)
  (hn:(assignEach elts env).length=items.size) (hstar:(assignEach elts env).findIdx? (·.1)=none)
  (h:∀ h',Heap.ExtBut s.heap.objs.size s.heap h'->wpAny (model prog w) A (assignInOrder ((assignEach elts env).map (·.2)) items.toList) Q E {s with heap:=h' }) :
  wpAny (model prog w) A (assign (.Tuple elts x1 pos) env (.ref l)) Q E s:=by
 have hlt:l≠s.heap.objs.size:=by obtain ⟨o,ho,_⟩:=ht; exact yD (xF ho)
 rw [assign_Tuple]
 refine wpAny_bind (wpAny_standAt ?_)
 unfold unpack
 rw [hn,hstar]
 refine wpAny_bind (wpAny_holding ?_)
 unfold unpackItems
 refine wpAny_bind ?_
 ·unfold notIterableAtAll
  refine wpAny_bind (wpAny_specialOf ht.typeIs slot_list_iter.lookup ?_)
  refine wpAny_pure ?_
  simp only [Bool.false_eq_true,if_false]
  refine wpAny_bind (wpAny_holding (wpAny_pyIter_list ht ?_))
  refine wpAny_bind (wpAny_holding (Znu hlt items.size 0 _ _ ⟨_,xI _ rfl,rfl,rfl⟩ (ht.push _) (by lia) fun h₁ hit₁ hs₁=>?_))
  have hall:List.take items.size (List.drop 0 items.toList)=items.toList:=by
   rw [List.drop_zero]; exact yJ (by simp)
  rw [hall]
  rw [if_neg (by simp)]
  have ht₁:h₁.IsList l items:=(ht.push _).extBut hs₁.extBut hlt
  refine wpAny_bind (wpAny_holding (wpAny_pyNext_list_end hh hit₁ ht₁ (by simp) fun h₂ he₂=>?_))
  simp only [Option.isSome_none,Bool.false_eq_true,if_false]
  refine wpAny_pure (h h₂ fun b o hb e=>he₂ b o hb (hs₁.extBut b o hb (xA _ e)))
end
section
variable {X:Cx}{pos:Pos}
def Yaq (K:uFg) (n:Nat) (t:TGs):TG:=fun v σ H Q=>∃ a xs,v = .ref a/\SqL K H a xs/\xs.length=n/\t xs σ H Q
theorem Z08 {es:List Expr}{k:Nat}{t:TGs}{n:Nat}(hc:X.calm=true) (h:QGs X es t)
  (hn:(assignEach es X.env).length=n:=by rfl) (hst:(assignEach es X.env).findIdx? (·.1)=none:=by rfl):QG X (.Tuple es k pos) (Yaq X.K n t):=⟨by
 intro pins s σ H v u Q I r hw
 obtain ⟨a,xs,e1,hq,hl,hw⟩:=hw
 subst e1
 cases r
 obtain ⟨its,rv,⟨o,m,ho,hcl,_,hd⟩,hz⟩:=I.list hq
 refine Zuj (I.ok.hd hc) ⟨o,ho,hcl,m,hd⟩ (by simp [hn,← hl,rv.length]) hst fun h' hx=>?_
 have I1:Inv X pins σ H {s with heap:=h' }:=I.kept (t':=s.toks) fun b o e=>hx b o (yD (xF e)) e
 exact h.h pins _ σ H xs _ Q I1 (by simpa using rv) hw⟩
end
end L2
end
namespace Law
open PySem L2
local macro_rules | `(tactic| walk_at "hp")=>`(tactic| first | exact Zi | assumption | (rw [Zd (by first | assumption | (apply Ne.symm; assumption))]; walk_at "hp"))
local macro_rules | `(tactic| walk_at "sq")=>`(tactic| first | assumption | exact SqL.of (by walk_at "hp"))
local macro_rules | `(tactic| walk_at "dc")=>`(tactic| first | decide | assumption | lia)
local macro_rules | `(tactic| walk_at "rd1")=>`(tactic| first | refine Yj ?_ | refine Zx ?_ | refine Z0 (fun _=>?_) (fun _=>?_) | refine Ym (fun _=>?_) (fun _=>?_) | refine Zt7 (fun _=>?_) (fun _=>?_) | refine ⟨_,rfl,?_⟩ | refine ⟨_,_,rfl,rfl,?_⟩ | refine ⟨(.inr ⟨by decide,by decide⟩:CMul _ _),?_⟩ | refine ⟨(⟨by walk_at "dc", by walk_at "dc"⟩:Zkz _ _),?_⟩ | refine ⟨(⟨by decide,by decide,by decide⟩:Zk0 _ _),?_⟩ | refine ⟨(show (0:Int) < _ by walk_at "dc"),?_⟩ | refine ⟨_,_,_,_,rfl,rfl,(by walk_at "sq"),(by rfl),?_⟩ | refine ⟨_,_,_,_,rfl,rfl,(by walk_at "sq"),Z0u (by lia) (by lia),?_⟩ | refine ⟨_,_,_,_,rfl,rfl,(by walk_at "hp"),(by rfl),?_⟩ | refine ⟨_,_,rfl,.inl (by walk_at "sq"),?_⟩ | fail "rd")
local macro_rules | `(tactic| walk_at "rd")=>`(tactic| repeat' walk_at "rd1")
def top (i:Nat):Stmt:=PySem.Challenge.pw_forsworn_k59_whole_long_pasts.main.body.getD i (.Pass ⟨0,0,0,0⟩)
structure Txt (mg:Str->Option Value):Prop where
 len:mg "len" = none
 list:mg "list" = none
 range:mg "range" = none
 isinstance:mg "isinstance" = none
 bool:mg "bool" = none
 int:mg "int" = none
 str:mg "str" = none
 tuple:mg "tuple" = none
 zip:mg "zip" = none
 all:mg "all" = none
 sorted:mg "sorted" = none
section
variable {P:Program}{w:World}{K:uFg}{mg:Str->Option Value}{base:Heap}
def isInt:D->Bool
 | .int _=>true
 | _=>false
def Zh3:Sp:=fun vs H Q _=>∃ (v:V) (d:D),vs = [v]/\Rep H d v/\Q (.bl (isInt d)) H
abbrev Za0:Stmt:=top 76
theorem Z4m:FnScope ["_law_found"] ["_law_found"] (Zb Za0):=⟨rfl,rfl,rfl,by decide +kernel,rfl,by decide +kernel,by decide +kernel⟩
theorem Zrs:Nm (Zb Za0) "_law_found" .local:=by decide +kernel
theorem Z4n:Nm (Zb Za0) "bool" .globalImplicit:=by decide +kernel
theorem Z4o:Nm (Zb Za0) "int" .globalImplicit:=by decide +kernel
theorem Zrt:Nm (Zb Za0) "isinstance" .globalImplicit:=by decide +kernel
theorem Z4p (Zi3:Has K mg "_law_whole" Za0) (T:Txt mg):Fn P w K mg base "_law_whole" ["_law_found"] 1 Zh3:=by
 refine Zi3.fnQ Z4m (fun _ _ _ _ _ _ us hl=>match us,hl with | [_],_=>rfl) (fun vs H Q E h=>?_) (fun f cdv A outer s H vs Q E hr h=>?_)
 ·obtain ⟨v,d,rfl,_⟩:=h
  rfl
 ·obtain ⟨v,d,rfl,r,k⟩:=h
  refine ⟨_,(Zg (Zr (Zbw (Z8 Vl Zrt T.isinstance Vc (Za (qvN 0 Zrs) (Za (Vd (v:=.ty "int") Z4o T.int Zrl rfl) Zc))) (Zaw (Zpy (Z8 Vl Zrt T.isinstance Vc (Za (qvN 0 Zrs) (Za (Vd (v:=.ty "bool") Z4n T.bool Zin rfl) Zc)))))))),?_⟩
  obtain ⟨t1,ty1,e1⟩:=isi (K:=K) r "int" (by decide)
  obtain ⟨t2,ty2,e2⟩:=isi (K:=K) r "bool" (by decide)
  refine ⟨_,rfl,v, "int", t1,_,rfl,ty1,e1,_,rfl,Zt7 (fun h1=>?_) (fun h1=>?_)⟩
  ·refine ⟨_,rfl,v, "bool", t2,_,rfl,ty2,e2,_,rfl,?_⟩
   have e:(!isI d "bool")=isInt d:=by cases d <;> first | rfl | (simp [isI] at h1)
   rw [e]
   exact k
  ·have e:false=isInt d:=by cases d <;> first | rfl | (simp [isI] at h1)
   rw [e]
   exact k
def Zey (n:Nat):Sp:=fun vs H Q _=>∃ (v1 v2:V) (d1 d2:D),vs = [v1,v2]/\Rep H d1 v1/\Rep H d2 v2/\d2.deep<=n/\∀ H',Same H H'->Q (.bl (Yn d1 d2)) H'
abbrev Yy:Stmt:=top 77
theorem Zi4:FnScope ["_law_found", "_law_due", "_law_one", "_law_other"] ["_law_found", "_law_due"] (Zb Yy):=⟨rfl,rfl,rfl,by decide +kernel,rfl,by decide +kernel,by decide +kernel⟩
theorem Vx:Nm (Zb Yy) "_law_due" .local:=by decide +kernel
theorem Vy:Nm (Zb Yy) "_law_found" .local:=by decide +kernel
theorem Zru:Nm (Zb Yy) "_law_one" .local:=by decide +kernel
theorem Zrv:Nm (Zb Yy) "_law_other" .local:=by decide +kernel
theorem Z4q:Nm (Zb Yy) "_law_same" .globalImplicit:=by decide +kernel
theorem Z4r:Nm (Zb Yy) "_law_whole" .globalImplicit:=by decide +kernel
theorem Zrw:Nm (Zb Yy) "bool" .globalImplicit:=by decide +kernel
theorem Z4s:Nm (Zb Yy) "int" .globalImplicit:=by decide +kernel
theorem Uy:Nm (Zb Yy) "isinstance" .globalImplicit:=by decide +kernel
theorem Zrx:Nm (Zb Yy) "len" .globalImplicit:=by decide +kernel
theorem Zry:Nm (Zb Yy) "list" .globalImplicit:=by decide +kernel
theorem Zrz:Nm (Zb Yy) "str" .globalImplicit:=by decide +kernel
theorem Zr0:Nm (Zb Yy) "tuple" .globalImplicit:=by decide +kernel
theorem Z4t:Nm (Zb Yy) "zip" .globalImplicit:=by decide +kernel
theorem Znv {n k:Nat}(V3:Has K mg "_law_same" Yy) (T:Txt mg) (Zdc:Fn P w K mg base "_law_whole" ["_law_found"] 1 Zh3)
  (Zb7:Fn P w K mg base "_law_same" ["_law_found", "_law_due"] (k+1) (fun vs H Q E=>0 < n/\Zey (n - 1) vs H Q E)):Fn P w K mg base "_law_same" ["_law_found", "_law_due"] (k+2) (Zey n):=by
 refine V3.fnQ Zi4 (fun _ _ _ _ _ _ us hl=>match us,hl with | [_,_],_=>rfl) (fun vs H Q E h=>?_) (fun f cdv A outer s H vs Q E hr h=>?_)
 ·obtain ⟨v1,v2,d1,d2,rfl,_⟩:=h
  rfl
 ·obtain ⟨v1,v2,d1,d2,rfl,r1,r2,hn,q⟩:=h
  have hk : 1<=k+1:=Nat.le_add_left _ _
  refine ⟨_,(Zf (Zl (Zp Zhs (qvN 1 Vx) Wo (Zo _)) (Zg (Zr (U4 Zhs (qvN 0 Vy) Wo (Zo _)))) Zn)
 (Zf (Zl (Wb (Z8 Vl Uy T.isinstance Vc (Za (qvN 1 Vx) (Za (Vd (v:=.ty "bool") Zrw T.bool Zin rfl) Zc)))) (Zg (Zr (Zbw (Z8 Vl Uy T.isinstance Vc (Za (qvN 0 Vy) (Za (Vd (v:=.ty "bool") Zrw T.bool Zin rfl) Zc))) (Zaw (U4 Yd (qvN 0 Vy) (qvN 1 Vx) (Zo _)))))) Zn)
 (Zf (Zl (Wb (Z8 Vl Uy T.isinstance Vc (Za (qvN 1 Vx) (Za (Vd (v:=.ty "int") Z4s T.int Zrl rfl) Zc)))) (Zg (Zr (Zbw (Zw Zdc (hr.mono (by lia)) Z4r (Za (qvN 0 Vy) Zc)) (Zaw (U4 Yd (qvN 0 Vy) (qvN 1 Vx) (Zo _)))))) Zn)
 (Zf (Zl (Wb (Z8 Vl Uy T.isinstance Vc (Za (qvN 1 Vx) (Za (Vd (v:=.ty "str") Zrz T.str Zda rfl) Zc)))) (Zg (Zr (Zbw (Z8 Vl Uy T.isinstance Vc (Za (qvN 0 Vy) (Za (Vd (v:=.ty "str") Zrz T.str Zda rfl) Zc))) (Zaw (U4 Yd (qvN 0 Vy) (qvN 1 Vx) (Zo _)))))) Zn)
 (Zf (Zl (QW.pt (Ze7 (Zp V1 (Z8 Vl Uy T.isinstance Vc (Za (qvN 1 Vx) (Za (Vd (v:=.ty "list") Zry T.list Zbu rfl) Zc))) (Z8 Vl Uy T.isinstance Vc (Za (qvN 0 Vy) (Za (Vd (v:=.ty "list") Zry T.list Zbu rfl) Zc))) (Zo _)) (Zet (Zp V1 (Z8 Vl Uy T.isinstance Vc (Za (qvN 1 Vx) (Za (Vd (v:=.ty "tuple") Zr0 T.tuple Zhq rfl) Zc))) (Z8 Vl Uy T.isinstance Vc (Za (qvN 0 Vy) (Za (Vd (v:=.ty "tuple") Zr0 T.tuple Zhq rfl) Zc))) (Zo _))))) (Zg (Zr Wy)) Zn)
 (Zf (Zl (Zp V1 (Z8 Wt Zrx T.len Y1 (Za (qvN 0 Vy) Zc)) (Z8 Wt Zrx T.len Y1 (Za (qvN 1 Vx) Zc)) (Zo _)) (Zg (Zr Wy)) Zn)
 (Zf (We PassesOwn.never rfl (Z3e Z4t.1 T.zip (Za (qvN 0 Vy) (Za (qvN 1 Vx) Zc))) (Zpx (by rfl) (Wa (Yp (i:=2) Zi4.nd Zru) (Wa (Yp (i:=3) Zi4.nd Zrv) Zau)))
 (Zg (Zl (Wx (Wb (Zw Zb7 (hr.mono (by lia)) Z4q (Za (qvN 2 Zru) (Za (qvN 3 Zrv) Zc))))) (Zg (Zr Wy)) Zn)))
 (Zg (Zr Wy))))))))),?_⟩
  have q0:Q (.bl (Yn d1 d2)) H:=q H (Same.refl _)
  obtain ⟨tb2,yb2,eb2⟩:=isi (K:=K) r2 "bool" (by decide)
  obtain ⟨ti2,yi2,ei2⟩:=isi (K:=K) r2 "int" (by decide)
  obtain ⟨ts2,ys2,es2⟩:=isi (K:=K) r2 "str" (by decide)
  obtain ⟨tl2,yl2,el2⟩:=isi (K:=K) r2 "list" (by decide)
  obtain ⟨tt2,yt2,et2⟩:=isi (K:=K) r2 "tuple" (by decide)
  obtain ⟨tb1,yb1,eb1⟩:=isi (K:=K) r1 "bool" (by decide)
  obtain ⟨ts1,ys1,es1⟩:=isi (K:=K) r1 "str" (by decide)
  obtain ⟨tl1,yl1,el1⟩:=isi (K:=K) r1 "list" (by decide)
  obtain ⟨tt1,yt1,et1⟩:=isi (K:=K) r1 "tuple" (by decide)
  refine ⟨_,rfl,rfl,_,rfl,?_⟩
  rw [r2.none_iff]
  cases d2 with
  | non =>
   refine Yj ⟨_,rfl,rfl,?_⟩
   rw [r1.none_iff]
   cases d1 <;> exact q0
  | bl b2 =>
   refine Zx ?_
   refine ⟨_,rfl,v2, "bool", tb2,_,rfl,yb2,eb2,_,rfl,Yj ?_⟩
   refine ⟨_,rfl,v1, "bool", tb1,_,rfl,yb1,eb1,_,rfl,?_⟩
   cases r2
   cases d1 with
   | bl b1 =>
    cases r1
    refine Yj ⟨_,rfl,_,rfl,rfl,?_⟩
    rw [Zij]
    exact q0
   | non=>exact Zx q0
   | int _=>exact Zx q0
   | str _=>exact Zx q0
   | tup _=>exact Zx q0
   | lst _=>exact Zx q0
  | int i2 =>
   refine Zx ?_
   refine ⟨_,rfl,v2, "bool", tb2,_,rfl,yb2,eb2,_,rfl,Zx ?_⟩
   refine ⟨_,rfl,v2, "int", ti2,_,rfl,yi2,ei2,_,rfl,Yj ?_⟩
   refine ⟨_,rfl,v1,d1,rfl,r1,_,rfl,?_⟩
   cases r2
   cases d1 with
   | int i1 =>
    cases r1
    refine Yj ⟨_,rfl,_,rfl,rfl,?_⟩
    rw [Zhk]
    exact q0
   | non=>exact Zx q0
   | bl _=>exact Zx q0
   | str _=>exact Zx q0
   | tup _=>exact Zx q0
   | lst _=>exact Zx q0
  | str x2 =>
   refine Zx ?_
   refine ⟨_,rfl,v2, "bool", tb2,_,rfl,yb2,eb2,_,rfl,Zx ?_⟩
   refine ⟨_,rfl,v2, "int", ti2,_,rfl,yi2,ei2,_,rfl,Zx ?_⟩
   refine ⟨_,rfl,v2, "str", ts2,_,rfl,ys2,es2,_,rfl,Yj ?_⟩
   refine ⟨_,rfl,v1, "str", ts1,_,rfl,ys1,es1,_,rfl,?_⟩
   cases r2
   cases d1 with
   | str x1 =>
    cases r1
    refine Yj ⟨_,rfl,_,rfl,rfl,?_⟩
    rw [Zhl]
    exact q0
   | non=>exact Zx q0
   | bl _=>exact Zx q0
   | int _=>exact Zx q0
   | tup _=>exact Zx q0
   | lst _=>exact Zx q0
  | lst ds2 =>
   refine Zx ?_
   refine ⟨_,rfl,v2, "bool", tb2,_,rfl,yb2,eb2,_,rfl,Zx ?_⟩
   refine ⟨_,rfl,v2, "int", ti2,_,rfl,yi2,ei2,_,rfl,Zx ?_⟩
   refine ⟨_,rfl,v2, "str", ts2,_,rfl,ys2,es2,_,rfl,Zx ?_⟩
   refine ⟨_,rfl,v2, "list", tl2,_,rfl,yl2,el2,_,rfl,v1, "list", tl1,_,rfl,yl1,el1,rfl,_,rfl,?_⟩
   have ne1:∀ {A B:Prop},B->if (!decide (V.bl true=V.bl true))=true then A else B:=fun h=>Ym (fun z=>absurd rfl z) fun _=>h
   have ne2:∀ {A B:Prop},B->if (!decide (V.bl false=V.bl false))=true then A else B:=fun h=>Ym (fun z=>absurd rfl z) fun _=>h
   have nt1:∀ {A B:Prop},A->if (!decide (V.bl true=V.bl false))=true then A else B:=fun h=>Ym (fun _=>h) fun z=>by cases z
   have nt2:∀ {A B:Prop},A->if (!decide (V.bl false=V.bl true))=true then A else B:=fun h=>Ym (fun _=>h) fun z=>by cases z
   have two:∀ {R:Prop},R->R:=id
   cases d1 with
   | lst ds1 =>
    refine ne1 ?_
    refine ⟨_,rfl,v2, "tuple", tt2,_,rfl,yt2,et2,_,rfl,v1, "tuple", tt1,_,rfl,yt1,et1,rfl,_,rfl,?_⟩
    refine ne2 ?_
    obtain ⟨a1,vs1,rfl,g1,p1⟩:=r1
    obtain ⟨a2,vs2,rfl,g2,p2⟩:=r2
    refine ⟨_,rfl,a1,vs1,rfl,.inl (SqL.of g1),_,rfl,a2,vs2,rfl,.inl (SqL.of g2),rfl,_,rfl,Ym (fun hne=>?_) (fun heq=>?_)⟩
    ·have:ds1.length≠ds2.length:=fun z=>hne (by rw [p1.length,p2.length,z])
     have e:Yn (.lst ds1) (.lst ds2)=false:=by rw [Yn]; exact Zmn this
     rw [e] at q0
     exact q0
    ·have hl:vs1.length=vs2.length:=by injection heq with z; lia
     have hl1:=p1.length
     have hl2:=p2.length
     refine ⟨_,rfl,_,rfl,a1,a2,rfl,.inl ⟨vs1,vs2,SqL.of g1,SqL.of g2,?_⟩⟩
     refine Zn7 vs1 vs2 hl (fun i σ H'=>Same H H'/\∃ w3 w4,σ = [some (.ref a1),some (.ref a2),w3,w4]/\Y8 (ds1.take i) (ds2.take i)=true) ⟨Same.refl _,none,none,rfl,rfl⟩ (fun i σ H' _ ⟨sm,_⟩=>⟨SqL.of (sm _ _ g1),SqL.of (sm _ _ g2)⟩) ?_ ?_
     ·rintro i x y p σ H' hx hy ⟨sm,w3,w4,rfl,hs⟩ hp
      obtain ⟨dx,ex,rx⟩:=p1.get hx
      obtain ⟨dy,ey,ry⟩:=p2.get hy
      have sm':=sm.trans (Same.new (o:=.tup [x,y]) hp)
      have dd:=Zhb ey
      have hn':Y9 ds2+1<=n:=hn
      refine ⟨p,_,rfl,SqT.of Zi,rfl,x,[y],rfl,y,[],rfl,rfl,?_⟩
      refine ⟨_,rfl,_,rfl,by lia,x,y,dx,dy,rfl,rx.mono' sm',ry.mono' sm',by lia,fun H2 sm2=>⟨_,rfl,Zi2 (fun hf=>?_) (fun ht=>?_)⟩⟩
      ·have e:Yn (.lst ds1) (.lst ds2)=false:=by rw [Yn]; exact Zmp ex ey hf
       have qq:=q H2 (sm'.trans sm2)
       rw [e] at qq
       exact qq
      ·exact ⟨sm'.trans sm2,_,_,rfl,by rw [Zm8 ex ey,hs,ht]; rfl⟩
     ·rintro σ H' ⟨sm,w3,w4,rfl,hs⟩
      have e:Yn (.lst ds1) (.lst ds2)=true:=by
       rw [Yn]
       rw [yJ (by lia),yJ (by lia)] at hs
       exact hs
      have qq:=q H' sm
      rw [e] at qq
      exact qq
   | tup _=>exact nt1 (Yj q0)
   | non=>exact nt1 (Yj q0)
   | bl _=>exact nt1 (Yj q0)
   | int _=>exact nt1 (Yj q0)
   | str _=>exact nt1 (Yj q0)
  | tup ds2 =>
   refine Zx ?_
   refine ⟨_,rfl,v2, "bool", tb2,_,rfl,yb2,eb2,_,rfl,Zx ?_⟩
   refine ⟨_,rfl,v2, "int", ti2,_,rfl,yi2,ei2,_,rfl,Zx ?_⟩
   refine ⟨_,rfl,v2, "str", ts2,_,rfl,ys2,es2,_,rfl,Zx ?_⟩
   refine ⟨_,rfl,v2, "list", tl2,_,rfl,yl2,el2,_,rfl,v1, "list", tl1,_,rfl,yl1,el1,rfl,_,rfl,?_⟩
   have ne1:∀ {A B:Prop},B->if (!decide (V.bl true=V.bl true))=true then A else B:=fun h=>Ym (fun z=>absurd rfl z) fun _=>h
   have ne2:∀ {A B:Prop},B->if (!decide (V.bl false=V.bl false))=true then A else B:=fun h=>Ym (fun z=>absurd rfl z) fun _=>h
   have nt1:∀ {A B:Prop},A->if (!decide (V.bl true=V.bl false))=true then A else B:=fun h=>Ym (fun _=>h) fun z=>by cases z
   have nt2:∀ {A B:Prop},A->if (!decide (V.bl false=V.bl true))=true then A else B:=fun h=>Ym (fun _=>h) fun z=>by cases z
   have two:∀ {R:Prop},R->R:=id
   cases d1 with
   | tup ds1 =>
    refine ne2 ?_
    refine ⟨_,rfl,v2, "tuple", tt2,_,rfl,yt2,et2,_,rfl,v1, "tuple", tt1,_,rfl,yt1,et1,rfl,_,rfl,?_⟩
    refine ne1 ?_
    obtain ⟨a1,vs1,rfl,g1,p1⟩:=r1
    obtain ⟨a2,vs2,rfl,g2,p2⟩:=r2
    refine ⟨_,rfl,a1,vs1,rfl,.inr (SqT.of g1),_,rfl,a2,vs2,rfl,.inr (SqT.of g2),rfl,_,rfl,Ym (fun hne=>?_) (fun heq=>?_)⟩
    ·have:ds1.length≠ds2.length:=fun z=>hne (by rw [p1.length,p2.length,z])
     have e:Yn (.tup ds1) (.tup ds2)=false:=by rw [Yn]; exact Zmn this
     rw [e] at q0
     exact q0
    ·have hl:vs1.length=vs2.length:=by injection heq with z; lia
     have hl1:=p1.length
     have hl2:=p2.length
     refine ⟨_,rfl,_,rfl,a1,a2,rfl,.inr ⟨vs1,vs2,SqT.of g1,SqT.of g2,?_⟩⟩
     refine Zn7 vs1 vs2 hl (fun i σ H'=>Same H H'/\∃ w3 w4,σ = [some (.ref a1),some (.ref a2),w3,w4]/\Y8 (ds1.take i) (ds2.take i)=true) ⟨Same.refl _,none,none,rfl,rfl⟩ (fun i σ H' _ ⟨sm,_⟩=>⟨SqT.of (sm _ _ g1),SqT.of (sm _ _ g2)⟩) ?_ ?_
     ·rintro i x y p σ H' hx hy ⟨sm,w3,w4,rfl,hs⟩ hp
      obtain ⟨dx,ex,rx⟩:=p1.get hx
      obtain ⟨dy,ey,ry⟩:=p2.get hy
      have sm':=sm.trans (Same.new (o:=.tup [x,y]) hp)
      have dd:=Zhb ey
      have hn':Y9 ds2+1<=n:=hn
      refine ⟨p,_,rfl,SqT.of Zi,rfl,x,[y],rfl,y,[],rfl,rfl,?_⟩
      refine ⟨_,rfl,_,rfl,by lia,x,y,dx,dy,rfl,rx.mono' sm',ry.mono' sm',by lia,fun H2 sm2=>⟨_,rfl,Zi2 (fun hf=>?_) (fun ht=>?_)⟩⟩
      ·have e:Yn (.tup ds1) (.tup ds2)=false:=by rw [Yn]; exact Zmp ex ey hf
       have qq:=q H2 (sm'.trans sm2)
       rw [e] at qq
       exact qq
      ·exact ⟨sm'.trans sm2,_,_,rfl,by rw [Zm8 ex ey,hs,ht]; rfl⟩
     ·rintro σ H' ⟨sm,w3,w4,rfl,hs⟩
      have e:Yn (.tup ds1) (.tup ds2)=true:=by
       rw [Yn]
       rw [yJ (by lia),yJ (by lia)] at hs
       exact hs
      have qq:=q H' sm
      rw [e] at qq
      exact qq
   | lst _=>exact nt2 (Yj q0)
   | non=>exact ne2 ⟨_,rfl,v2, "tuple", tt2,_,rfl,yt2,et2,_,rfl,v1, "tuple", tt1,_,rfl,yt1,et1,rfl,_,rfl,nt1 q0⟩
   | bl _=>exact ne2 ⟨_,rfl,v2, "tuple", tt2,_,rfl,yt2,et2,_,rfl,v1, "tuple", tt1,_,rfl,yt1,et1,rfl,_,rfl,nt1 q0⟩
   | int _=>exact ne2 ⟨_,rfl,v2, "tuple", tt2,_,rfl,yt2,et2,_,rfl,v1, "tuple", tt1,_,rfl,yt1,et1,rfl,_,rfl,nt1 q0⟩
   | str _=>exact ne2 ⟨_,rfl,v2, "tuple", tt2,_,rfl,yt2,et2,_,rfl,v1, "tuple", tt1,_,rfl,yt1,et1,rfl,_,rfl,nt1 q0⟩
theorem Zvz {k:Nat}(V3:Has K mg "_law_same" Yy):Fn P w K mg base "_law_same" ["_law_found", "_law_due"] k (fun _ _ _ _=>False):=by
 obtain ⟨f,fd,F,hm⟩:=V3
 exact ⟨f,fd,hm,F.kp,F.binds fun _ _ _ _ _ _ us hl=>match us,hl with | [_,_],_=>rfl,⟨fun _ _ _ _ h=>h.elim,fun _ _ _ _ _ _ _ _ _ _ _ _ _ h=>h.elim⟩⟩
theorem Zr1 (V3:Has K mg "_law_same" Yy) (T:Txt mg) (Zdc:Fn P w K mg base "_law_whole" ["_law_found"] 1 Zh3):∀ n:Nat,Fn P w K mg base "_law_same" ["_law_found", "_law_due"] (n+2) (Zey n)
 | 0=>Znv (k:=0) V3 T Zdc ((Zvz V3).imp fun _ _ _ _ h=>absurd h.1 (Nat.lt_irrefl _))
 | n+1=>Znv (k:=n+1) V3 T Zdc ((Zr1 V3 T Zdc n).imp fun _ _ _ _ h=>h.2)
end
section
variable {P:Program}{w:World}{K:uFg}{mg:Str->Option Value}{base:Heap}
def Zr2 (K:uFg):Sp:=fun vs H Q _=>∃ (a:Addr) (ns:List Int),vs = [.ref a]/\SqL K H a (ns.map V.int)/\∀ (s la:Addr) (H':Hp),H s=none->H la=none->SrcAt H' s la->Same H H'->Q (.ref s) H'
abbrev Zdd:Stmt:=top 74
theorem Z4u:FnScope ["_law_script"] ["_law_script"] (Zb Zdd):=⟨rfl,rfl,rfl,by decide +kernel,rfl,by decide +kernel,by decide +kernel⟩
theorem Z4v:Nm (Zb Zdd) "_law_script" .local:=by decide +kernel
theorem Z4w:Nm (Zb Zdd) "list" .globalImplicit:=by decide +kernel
theorem Z4x (Zi5:Has K mg "_law_src" Zdd) (T:Txt mg):Fn P w K mg base "_law_src" ["_law_script"] 1 (Zr2 K):=by
 refine Zi5.fnQ Z4u (fun _ _ _ _ _ _ us hl=>match us,hl with | [_],_=>rfl) (fun vs H Q E h=>?_) (fun f cdv A outer s H vs Q E hr h=>?_)
 ·obtain ⟨a,ns,rfl,_⟩:=h
  rfl
 ·obtain ⟨a,ns,rfl,hS,k⟩:=h
  refine ⟨_,(Zg (Zr (Yu (Za (Zbl Zuv Z4w T.list Zbu (Za (Ue Zg9 (qvN 0 Z4v) Uc (Ud Ze)) Zc)) (Za Ze (Za Ze (Za Ze (Za Ze Zc)))))))),?_⟩
  refine ⟨_,rfl,_,rfl,a,_,rfl,hS,fun l hl=>?_⟩
  have hc:∃ ms:List Int,Ws (ns.map V.int) none (some 63)=ms.map V.int:=by
   unfold Ws
   rw [← List.map_drop,← List.map_take]
   exact ⟨_,rfl⟩
  obtain ⟨ms,ec⟩:=hc
  refine ⟨l,_,rfl,.inl (SqL.of Zi),fun l2 hl2=>⟨by show 5<=sizeLine; decide,fun s hs=>?_⟩⟩
  have n1:l2≠l:=fun z=>by rw [z,Zi] at hl2; cases hl2
  have s1:Same H (upd H l (.lst (Ws (ns.map V.int) none (some 63)))):=Same.new hl
  have s2:=s1.trans (Same.new (o:=.lst (Ws (ns.map V.int) none (some 63))) hl2)
  have n2:l2≠s:=fun z=>by rw [← z,Zi] at hs; cases hs
  refine k s l2 _ (s2.free hs) (s1.free hl2) ⟨ms,0,0,1,0,Zi,by rw [Zd n2,Zi,ec],by decide,n2⟩ (s2.trans (Same.new hs))
def Zbz:Sp:=fun vs H Q _=>∃ (s la:Addr) (b:Int),vs = [.ref s,.int b]/\SrcAt H s la/\0 < b/\b < 1073741824/\∀ (d:Int) (H':Hp),0<=d->d < b->SrcAt H' s la->SameX s H H'->Q (.int d) H'
abbrev U7:Stmt:=top 75
theorem Ze9:FnScope ["_law_src_here", "_law_base", "_law_cell", "_law_digit"] ["_law_src_here", "_law_base"] (Zb U7):=⟨rfl,rfl,rfl,by decide +kernel,rfl,by decide +kernel,by decide +kernel⟩
theorem Zlc:Nm (Zb U7) "_law_base" .local:=by decide +kernel
theorem Zdu:Nm (Zb U7) "_law_cell" .local:=by decide +kernel
theorem Zr3:Nm (Zb U7) "_law_digit" .local:=by decide +kernel
theorem Y6:Nm (Zb U7) "_law_src_here" .local:=by decide +kernel
theorem Z4y:Nm (Zb U7) "len" .globalImplicit:=by decide +kernel
theorem Z4z (Zi6:Has K mg "_law_next" U7) (T:Txt mg):Fn P w K mg base "_law_next" ["_law_src_here", "_law_base"] 1 Zbz:=by
 refine Zi6.fnQ Ze9 (fun _ _ _ _ _ _ us hl=>match us,hl with | [_,_],_=>rfl) (fun vs H Q E h=>?_) (fun f cdv A outer s H vs Q E hr h=>?_)
 ·obtain ⟨s,la,b,rfl,_⟩:=h
  rfl
 ·obtain ⟨s,la,b,rfl,⟨ns,i,big,st,cnt,hs,hla,hi,hne⟩,hb0,hb1,k⟩:=h
  refine ⟨_,(Zf (Zbv (Zy Y4 (Zk Yt (qvN 0 Y6) Ze (fun _ _=>rfl)) Ze) (Zc4 (qvN 0 Y6) Ze Zcv))
 (Zf (Zl (Zp Wp (Zk Yt (qvN 0 Y6) Ze (fun _ _=>rfl)) Ze (Zo _)) (Zf (Z1 (i:=2) Ze9.nd Zdu Ze)
 (Zf (Zl (Zp Zc5 (Zk Yt (qvN 0 Y6) Ze (fun _ _=>rfl)) (Z8 Wt Z4y T.len Y1 (Za (Zk Yt (qvN 0 Y6) Ze (fun _ _=>rfl)) Zc)) (Zo _)) (Zf (Z1 (i:=2) Ze9.nd Zdu (Zk Yt (Zk Yt (qvN 0 Y6) Ze (fun _ _=>rfl)) (Zk Yt (qvN 0 Y6) Ze (fun _ _=>rfl)) (fun _ _=>rfl)))
 (Zg (Zbv (Zy Y4 (Zk Yt (qvN 0 Y6) Ze (fun _ _=>rfl)) Ze) (Zc4 (qvN 0 Y6) Ze Zcv)))) Zn)
 (Zf (Zbv (Zy Zax (Zy Y4 (Zy Y4 (Zy Zos (Zk Yt (qvN 0 Y6) Ze (fun _ _=>rfl)) Ze) (Zy Zax (qvN 2 Zdu) Ze)) (Zk Yt (qvN 0 Y6) Ze (fun _ _=>rfl))) Ze) (Zc4 (qvN 0 Y6) Ze Zcv))
 (Zg (Zl (Zp Zc6 (qvN 2 Zdu) (Zy Z0x Ze Ze) (Zo _)) (Zg (Zbv (qvN 2 Zdu) (Zc4 (qvN 0 Y6) Ze Zcv))) Zn))))) Zn)
 (Zf (Zl (Zp Zpz (Zk Yt (qvN 0 Y6) Ze (fun _ _=>rfl)) Ze (Zo _)) (Zf (Z1 (i:=3) Ze9.nd Zr3 (Zy Zax (Zk Yt (qvN 0 Y6) Ze (fun _ _=>rfl)) (qvN 1 Zlc)))
 (Zf (Zbv (Zy Zd8 (Zk Yt (qvN 0 Y6) Ze (fun _ _=>rfl)) (qvN 1 Zlc)) (Zc4 (qvN 0 Y6) Ze Zcv))
 (Zg (Zr (qvN 3 Zr3))))) Zn)
 (Zg (Zr (Zy Zax (Zy Zd8 (Zy Zax (Zy Zos (Zk Yt (qvN 0 Y6) Ze (fun _ _=>rfl)) Ze) Ze) Ze) (qvN 1 Zlc))))))),?_⟩
  have fin:∀ (H1:Hp) (i' big st cnt d:Int),0<=d->d < b->SameX s H H1->H1 s=some (.lst [.ref la,.int i',.int big,.int st,.int cnt])->0<=i'->Q (.int d) H1:=fun H1 i' big st cnt d h0 h1 sx hs1 hi1 =>
   k d H1 h0 h1 ⟨ns,i',big,st,cnt,hs1,sx _ _ hne hla,hi1,hne⟩ sx
  walk_at "rd"
  all_goals refine fin _ _ _ _ _ _ (Int.emod_nonneg _ (by lia)) (Int.emod_lt_of_pos _ hb0) ?_ Zi (by lia)
  all_goals repeat (first | exact SameX.refl | refine SameX.trans ?_ SameX.upd)
end
section
variable {P:Program}{w:World}{K:uFg}{mg:Str->Option Value}{base:Heap}
def Zit:Sp:=fun vs H Q _=>∃ (s la:Addr) (n:Int),vs = [.ref s,.int n]/\SrcAt H s la/\0<=n/\n<=100/\∀ (x:Str) (H':Hp),(x.length:Int)=n->Low x->SrcAt H' s la->SameX s H H'->Q (.str x) H'
theorem Zu4 (cl:List Nat):(List.map cs (cl.map fun c=>(⟨#[c]⟩:Str))).flatten=cl:=by
 induction cl with
 | nil=>rfl
 | cons c r ih=>rw [xP,xP,List.flatten_cons,ih]; rfl
abbrev Za1:Stmt:=top 79
theorem Zr4:FnScope ["_law_src_here", "_law_many", "_law_letters"] ["_law_src_here", "_law_many"] (Zb Za1):=⟨rfl,rfl,rfl,by decide +kernel,rfl,by decide +kernel,by decide +kernel⟩
theorem Zr5:Nm (Zb Za1) "_law_letters" .cell:=by decide +kernel
theorem Z40:Nm (Zb Za1) "_law_many" .local:=by decide +kernel
theorem Z41:Nm (Zb Za1) "_law_src_here" .cell:=by decide +kernel
theorem Z42:Nm (Zb Za1) "range" .globalImplicit:=by decide +kernel
theorem Z43 (Zi7:Has K mg "_law_word" Za1) (T:Txt mg) (Yz:Fn P w K mg base "_law_next" ["_law_src_here", "_law_base"] 1 Zbz):Fn P w K mg base "_law_word" ["_law_src_here", "_law_many"] 2 Zit:=by
 refine Zi7.fnQ Zr4 (fun _ _ _ _ _ _ us hl=>match us,hl with | [_,_],_=>rfl) (fun vs H Q E h=>?_) (fun f cdv A outer s H vs Q E hr h=>?_)
 ·obtain ⟨s,la,n,rfl,_⟩:=h
  rfl
 ·obtain ⟨s,la,n,rfl,hsrc,hn0,hn1,k⟩:=h
  refine ⟨_,(Zf (Zys (i:=2) Zr4.nd Zr5 Zm)
 (Zg (Zr (Y7 F.plainAttrs_str F.slot_str_join F.type_str_join Zha Zm (Za (Vt (locs:=["_law_k"]) (fr:=[("_law_src_here", 0),("_law_letters", 2)]) ⟨rfl,by decide +kernel,by decide +kernel,by decide +kernel,by decide +kernel,by decide +kernel⟩ (.consN Z41 (.consN Zr5 .nil)) rfl (Zav Z42.1 T.range (Za (qvN 1 Z40) Zc)) ⟨fun _ _ _ _ _ _=>by
  have cnd:(inN ["_law_k"] [("_law_src_here", 0),("_law_letters", 2)]).Nodup:=by decide +kernel
  exact ⟨(Wl 0 cnd),Uf,(Zk Zht (Zk6 2) (Zw Yz (hr.mono (by lia)) nmC (Za (Zk6 1) (Za Ze Zc))) (fun _ _=>rfl))⟩⟩) Zc))))),?_⟩
  refine ⟨rfl,_,rfl,n,rfl,by lia,by lia,?_⟩
  refine Zvs (n:=n.toNat) (fun i ys H2=>SrcAt H2 s la/\SameX s H H2/\∃ cl:List Nat,cl.length=i/\ys=cl.map (fun c=>V.str ⟨#[c]⟩)/\∀ c∈cl,97<=c/\c<=122) ⟨hsrc,SameX.refl,[],rfl,rfl,(fun _ z=>nomatch z)⟩ (by lia) ?_ ?_ ?_
  ·rintro i ys H2 ⟨_,_,cl,h1,rfl,_⟩
   rw [xD]; lia
  ·rintro i ys H2 hi ⟨hs2,sx2,cl,h1,rfl,hc⟩ ls hls
   obtain ⟨a,rfl⟩:=Zbd hls
   refine ⟨⟨[_],rfl,rfl⟩,?_⟩
   walk_at "rd"
   refine ⟨s,la,26,rfl,hs2,by decide,by decide,fun d H3 d0 d1 hs3 sx3=>?_⟩
   refine ⟨letters,d,_,rfl,rfl,by decide,Zgk d0 d1,hs3,sx2.trans sx3,cl ++ [97+d.toNat],by rw [xJ,h1]; rfl,by rw [xX]; rfl,fun c hc'=>?_⟩
   rcases xS.mp hc' with z | z
   ·exact hc c z
   ·have:c=97+d.toNat:=by simpa using z
    lia
  ·rintro ys H2 ⟨hs2,sx2,cl,h1,rfl,hc⟩ l hl
   have e:(cl.map fun c=>V.str ⟨#[c]⟩)=(cl.map fun c=>(⟨#[c]⟩:Str)).map V.str:=by rw [List.map_map]; rfl
   have sumlen:∀ l:List Nat,((l.map fun c=>(⟨#[c]⟩:Str)).map (·.length)).sum=l.length:=by
    intro l
    induction l with
    | nil=>rfl
    | cons c r ih=>rw [xP,xP,List.sum_cons,ih,xG]; show 1+r.length=_; lia
   refine ⟨_,l,cl.map fun c=>(⟨#[c]⟩:Str),rfl,rfl,SqL.of (by rw [Zi,e]),?_,?_⟩
   ·rw [sumlen,xD]
    show cl.length+cl.length * 0<=16777216
    lia
   ·have ej:cs (Txt.join "" (cl.map fun c=>(⟨#[c]⟩:Str)))=cl:=by rw [Zyp,Zu4]
    refine k _ _ ?_ (fun c hc'=>hc c (by rw [ej] at hc'; exact hc')) (hs2.keep (Same.new hl)) (sx2.trans (SameX.new hl))
    rw [← Y3,ej,h1]
    lia
end
theorem ph {α:Type} [DecidableEq α]:∀ (L M:List α),L.Nodup->(∀ a∈L,a∈M)->L.length<=M.length
 | [],_,_,_=>yQ _
 | a::L,M,nd,h=>by
  obtain ⟨n1,n2⟩:=xZ.mp nd
  have ha:=h a xR
  have:=ph L (M.erase a) n2 fun b hb=>(List.mem_erase_of_ne (fun (e:b=a)=>n1 (by rw [← e]; exact hb))).mpr (h b (xT _ hb))
  rw [List.length_erase_of_mem ha] at this
  have hp : 0 < M.length:=List.length_pos_of_mem ha
  rw [xG]
  lia
def Wm (stem:Str) (j:Nat):Str:=stem++⟨#[97+j % 26]⟩++⟨#[97+j / 26]⟩
theorem Zem (stem:Str) (j:Nat):cs (Wm stem j)=cs stem ++ [97+j % 26,97+j / 26]:=by
 unfold Wm
 rw [U3,U3]
 simp [cs]
theorem Zy7 {stem:Str}{i j:Nat}(h:Wm stem i=Wm stem j):i=j:=by
 have e:cs (Wm stem i)=cs (Wm stem j):=by rw [h]
 rw [Zem,Zem] at e
 have e2:=List.append_cancel_left e
 injection e2 with e3 e4
 injection e4 with e5 _
 lia
theorem Zoc (stem:Str) (j:Nat):(Wm stem j).length=stem.length+2:=by
 rw [← Y3,Zem,xJ,Y3]
 rfl
theorem Zy8 {stem:Str}{j:Nat}(h:Low stem) (hj:j < 676):Low (Wm stem j):=by
 intro c hc
 rw [Zem] at hc
 rcases xS.mp hc with z | z
 ·exact h c z
 ·simp at z
  lia
theorem Zuy {names:List Str}{stem:Str}(h:∀ j,j < names.length->Wm stem j∈names):Wm stem names.length∉names:=by
 intro hm
 have nd:((List.range (names.length+1)).map (Wm stem)).Nodup:=by
  rw [List.nodup_iff_pairwise_ne,List.pairwise_map]
  exact List.Pairwise.imp (fun h e=>h (Zy7 e)) (List.nodup_iff_pairwise_ne.mp List.nodup_range)
 have:=ph _ names nd fun a ha=>by
  obtain ⟨j,hj,rfl⟩:=yO.mp ha
  have hj:=List.mem_range.mp hj
  by_cases e:j=names.length
  ·rw [e]; exact hm
  ·exact h j (by lia)
 rw [xD,List.length_range] at this
 lia
theorem Z09 (x:Str) (names:List Str):inV (.str x) (names.map V.str)=decide (x∈names):=by
 unfold inV
 rw [List.any_map,Bool.eq_iff_iff,List.any_eq_true,decide_eq_true_iff]
 constructor
 ·rintro ⟨y,hy,e⟩
  have:y=x:=by simpa [eqV] using e
  rw [← this]; exact hy
 ·intro h
  exact ⟨x,h,by simp [eqV]⟩
theorem Zxm (names:List Str):(names.map V.str).all Ub=true:=by
 rw [List.all_map,List.all_eq_true]
 intro x _
 rfl
def Yv (x:Str):Prop:=Low x/\1<=x.length/\x.length<=12
section
variable {P:Program}{w:World}{K:uFg}{mg:Str->Option Value}{base:Heap}
def Zeb (K:uFg):Sp:=fun vs H Q _=>∃ (a:Addr) (names:List Str) (x:Str),vs = [.ref a,.str x]/\SqL K H a (names.map V.str)/\names.length<=600/\Yv x/\∀ y:Str,Yv y->y∉names->Q (.str y) H
abbrev V4:Stmt:=top 78
theorem Zde:FnScope ["_law_names_here", "_law_name", "_law_letters", "_law_stem", "_law_tries"] ["_law_names_here", "_law_name"] (Zb V4):=⟨rfl,rfl,rfl,by decide +kernel,rfl,by decide +kernel,by decide +kernel⟩
theorem Zld:Nm (Zb V4) "_law_letters" .local:=by decide +kernel
theorem Zdv:Nm (Zb V4) "_law_name" .local:=by decide +kernel
theorem Zr6:Nm (Zb V4) "_law_names_here" .local:=by decide +kernel
theorem Zr7:Nm (Zb V4) "_law_stem" .local:=by decide +kernel
theorem Zle:Nm (Zb V4) "_law_tries" .local:=by decide +kernel
theorem Z44:Nm (Zb V4) "len" .globalImplicit:=by decide +kernel
theorem Z45:Nm (Zb V4) "range" .globalImplicit:=by decide +kernel
theorem Z46 (Zi8:Has K mg "_law_unlike" V4) (T:Txt mg):Fn P w K mg base "_law_unlike" ["_law_names_here", "_law_name"] 1 (Zeb K):=by
 refine Zi8.fnQ Zde (fun _ _ _ _ _ _ us hl=>match us,hl with | [_,_],_=>rfl) (fun vs H Q E h=>?_) (fun f cdv A outer s H vs Q E hr h=>?_)
 ·obtain ⟨a,names,x,rfl,_⟩:=h
  rfl
 ·obtain ⟨a,names,x,rfl,hS,hn,⟨hx1,hx2,hx3⟩,k⟩:=h
  refine ⟨_,(Zf (Z1 (i:=2) Zde.nd Zld Zm)
 (Zf (Z1 (i:=3) Zde.nd Zr7 (Ue Zei (qvN 1 Zdv) Uc (Ud Ze)))
 (Zf (We PassesOwn.never rfl (Zav Z45.1 T.range (Za (Zy Y4 (Z8 Wt Z44 T.len Y1 (Za (qvN 0 Zr6) Zc)) Ze) Zc)) (Yp (i:=4) Zde.nd Zle)
 (Zf (Zl (Zp Zuu (qvN 1 Zdv) (qvN 0 Zr6) rfl) (Zg (Zr (qvN 1 Zdv))) Zn)
 (Zg (Z1 (i:=1) Zde.nd Zdv (Zy Uo (Zy Uo (qvN 3 Zr7) (Zk Zht (qvN 2 Zld) (Zy Zax (qvN 4 Zle) Ze) (fun _ _=>rfl))) (Zk Zht (qvN 2 Zld) (Zy Zd8 (qvN 4 Zle) Ze) (fun _ _=>rfl)))))))
 (Zg (Zr (qvN 1 Zdv)))))),?_⟩
  have hz:(13:Nat)<=sizeLine:=by decide
  refine ⟨_,rfl,10,rfl,x,rfl,by lia,?_⟩
  have hst:cs (Txt.slice x none (some 10))=(cs x).take 10:=Zhr x (by decide)
  have hstl:(Txt.slice x none (some 10)).length<=10:=by rw [← Y3,hst,xO]; lia
  have hsto:Low (Txt.slice x none (some 10)):=fun c hc=>hx1 c (by rw [hst] at hc; exact List.mem_of_mem_take hc)
  show Ul _ _ _ [some (.ref a),some (.str x),some (.str letters),some (.str (Txt.slice x none (some 10))),none] H
  generalize Txt.slice x none (some 10)=stem at hstl hsto
  refine ⟨_,rfl,a,_,rfl,.inl hS,_,_,rfl,rfl,_,rfl,by lia,by rw [xD]; lia,?_⟩
  refine Zay (names.length+1) (by rw [xD]; lia) (fun i σ H'=>H'=H/\∃ (cur:Str) (v:Option V),σ = [some (.ref a),some (.str cur),some (.str letters),some (.str stem),v]/\Yv cur/\(i=0\/cur=Wm stem (i - 1))/\∀ j,j+1 < i->Wm stem j∈names)
   ⟨rfl,x,none,rfl,⟨hx1,hx2,hx3⟩,.inl rfl,fun j hj=>by lia⟩ ?_ ?_
  ·rintro i σ H' hi ⟨rfl,cur,v,rfl,hc,hci,hal⟩
   refine ⟨_,rfl,_,rfl,a,_,rfl,.inl hS,rfl,Zxm names,_,rfl,?_⟩
   rw [Z09]
   refine Ym (fun hnin=>?_) (fun hin=>?_)
   ·exact ⟨_,rfl,k cur hc hnin⟩
   ·have hi':i<=600:=by lia
    refine ⟨_,rfl,_,rfl,_,rfl,_,_,rfl,rfl,by show (0:Int) < 26; decide,letters,_,_,rfl,rfl,by decide,Zgk (Int.emod_nonneg _ (by decide)) (Int.emod_lt_of_pos _ (by decide)),stem,_,rfl,rfl,?_,?_⟩
    ·show stem.length+1<=sizeLine
     lia
    refine ⟨_,rfl,_,rfl,_,_,rfl,rfl,⟨by decide,by decide⟩,letters,_,_,rfl,rfl,by decide,Zgk (Int.ediv_nonneg (by lia) (by decide)) (by lia),_,_,rfl,rfl,?_,?_⟩
    ·show (stem++_).length+1<=sizeLine
     rw [PySem.Str.length_append]
     show stem.length+1+1<=sizeLine
     lia
    have e1:((0:Int)+(i:Nat)) % 26=((i % 26:Nat):Int):=by lia
    have e2:((0:Int)+(i:Nat)) / 26=((i / 26:Nat):Int):=by lia
    refine ⟨rfl,Wm stem i,some (.int (0+(i:Nat))),?_,⟨Zy8 hsto (by lia),by rw [Zoc]; lia,by rw [Zoc]; lia⟩,.inr rfl,fun j hj=>?_⟩
    ·show [some (V.ref a),some (V.str _),some (V.str letters),some (V.str stem),some (V.int _)]=_
     unfold Wm
     rw [e1,e2]
     rfl
    ·by_cases e:j+1=i
     ·rcases hci with z | z
      ·lia
      ·have:j=i - 1:=by lia
       rw [this,← z]; exact hin
     ·exact hal j (by lia)
  ·rintro σ H' ⟨rfl,cur,v,rfl,hc,hci,hal⟩
   refine ⟨_,rfl,k cur hc ?_⟩
   rcases hci with z | z
   ·lia
   ·rw [z]
    exact Zuy fun j hj=>hal j (by lia)
def Zo4:Sp:=fun vs H Q _=>∃ (s la:Addr) (n:Int),vs = [.ref s,.int n]/\SrcAt H s la/\0<=n/\n<=100 /\
 ∀ (l:Addr) (names:List Str) (H':Hp),(names.length:Int)=n->names.Nodup->(∀ x∈names,Yv x)->H l=none->H' l=some (.lst (names.map V.str))->SrcAt H' s la->SameX s H H'->Q (.ref l) H'
abbrev Wf:Stmt:=top 80
theorem Uq:FnScope ["_law_src_here", "_law_many", "_law_style", "_law_stem", "_law_at", "_law_names_here", "_law_k", "_law_name"] ["_law_src_here", "_law_many"] (Zb Wf):=⟨rfl,rfl,rfl,by decide +kernel,rfl,by decide +kernel,by decide +kernel⟩
theorem Zlf:Nm (Zb Wf) "_law_at" .local:=by decide +kernel
theorem Z47:Nm (Zb Wf) "_law_k" .local:=by decide +kernel
theorem Z48:Nm (Zb Wf) "_law_many" .local:=by decide +kernel
theorem Zfo:Nm (Zb Wf) "_law_name" .local:=by decide +kernel
theorem Zfp:Nm (Zb Wf) "_law_names_here" .local:=by decide +kernel
theorem Zdw:Nm (Zb Wf) "_law_next" .globalImplicit:=by decide +kernel
theorem Zah:Nm (Zb Wf) "_law_src_here" .local:=by decide +kernel
theorem Zcf:Nm (Zb Wf) "_law_stem" .local:=by decide +kernel
theorem Zlg:Nm (Zb Wf) "_law_style" .local:=by decide +kernel
theorem Z49:Nm (Zb Wf) "_law_unlike" .globalImplicit:=by decide +kernel
theorem Zlh:Nm (Zb Wf) "_law_word" .globalImplicit:=by decide +kernel
theorem Zr8:Nm (Zb Wf) "len" .globalImplicit:=by decide +kernel
theorem Z5a:Nm (Zb Wf) "range" .globalImplicit:=by decide +kernel
theorem Z5b (Zi9:Has K mg "_law_names" Wf) (T:Txt mg) (Yz:Fn P w K mg base "_law_next" ["_law_src_here", "_law_base"] 1 Zbz) (Zja:Fn P w K mg base "_law_word" ["_law_src_here", "_law_many"] 2 Zit)
  (Z5c:Fn P w K mg base "_law_unlike" ["_law_names_here", "_law_name"] 1 (Zeb K)):Fn P w K mg base "_law_names" ["_law_src_here", "_law_many"] 3 Zo4:=by
 refine Zi9.fnQ Uq (fun _ _ _ _ _ _ us hl=>match us,hl with | [_,_],_=>rfl) (fun vs H Q E h=>?_) (fun f cdv A outer s H vs Q E hr h=>?_)
 ·obtain ⟨s,la,n,rfl,_⟩:=h
  rfl
 ·obtain ⟨s,la,n,rfl,hsrc,hn0,hn1,k⟩:=h
  refine ⟨_,(Zf (Z1 (i:=2) Uq.nd Zlg (Zw Yz (hr.mono (by lia)) Zdw (Za (qvN 0 Zah) (Za Ze Zc))))
 (Zf (Z1 (i:=3) Uq.nd Zcf (Zw Zja (hr.mono (by lia)) Zlh (Za (qvN 0 Zah) (Za (Zy Y4 Ze (Zw Yz (hr.mono (by lia)) Zdw (Za (qvN 0 Zah) (Za Ze Zc)))) Zc))))
 (Zf (Z1 (i:=4) Uq.nd Zlf (Zw Yz (hr.mono (by lia)) Zdw (Za (qvN 0 Zah) (Za (Z8 Zgg Zr8 T.len Y1 (Za (qvN 3 Zcf) Zc)) Zc))))
 (Zf (Z1 (i:=5) Uq.nd Zfp (Yu Zc))
 (Zf (We PassesOwn.never rfl (Zav Z5a.1 T.range (Za (qvN 1 Z48) Zc)) (Yp (i:=6) Uq.nd Z47)
 (Zf (Z1 (i:=7) Uq.nd Zfo (Zy Uo (Zy Uo (Ue Zei (qvN 3 Zcf) Uc (Ud (qvN 4 Zlf))) (Zw Zja (hr.mono (by lia)) Zlh (Za (qvN 0 Zah) (Za Ze Zc)))) (Ue Zei (qvN 3 Zcf) (Ud (Zy Y4 (qvN 4 Zlf) Ze)) Uc)))
 (Zf (Zl (Zp Yd (qvN 2 Zlg) Ze (Zo _)) (Zg (Z1 (i:=7) Uq.nd Zfo (Ue Zei (qvN 3 Zcf) Uc (Ud (Zy Y4 Ze (Zw Yz (hr.mono (by lia)) Zdw (Za (qvN 0 Zah) (Za (Z8 Zgg Zr8 T.len Y1 (Za (qvN 3 Zcf) Zc)) Zc)))))))) Zn)
 (Zf (Zl (Zp Yd (qvN 2 Zlg) Ze (Zo _)) (Zg (Z1 (i:=7) Uq.nd Zfo (Zw Zja (hr.mono (by lia)) Zlh (Za (qvN 0 Zah) (Za (Zy Y4 Ze (Zw Yz (hr.mono (by lia)) Zdw (Za (qvN 0 Zah) (Za Ze Zc)))) Zc))))) Zn)
 (Zg (Zv (Y7 F.plainAttrs_list F.slot_list_append F.type_list_append Wu (qvN 5 Zfp) (Za (Zw Z5c (hr.mono (by lia)) Z49 (Za (qvN 5 Zfp) (Za (qvN 7 Zfo) Zc))) Zc))))))))
 (Zg (Zr (qvN 5 Zfp)))))))),?_⟩
  have hz:(200:Nat)<=sizeLine:=by decide
  refine ⟨_,rfl,s,la,3,rfl,hsrc,by decide,by decide,fun style H1 st0 st1 hs1 sx1=>?_⟩
  refine ⟨_,rfl,_,rfl,s,la,11,rfl,hs1,by decide,by decide,fun d1 H2 d10 d11 hs2 sx2=>?_⟩
  refine ⟨_,_,rfl,rfl,s,la,_,rfl,hs2,by lia,by lia,fun stem H3 hl3 hlow3 hs3 sx3=>?_⟩
  refine ⟨_,rfl,_,rfl,stem,rfl,by lia,s,la,_,rfl,hs3,by lia,by lia,fun at_ H4 at0 at1 hs4 sx4=>?_⟩
  refine ⟨by show 0<=sizeLine; lia,fun l hl4=>?_⟩
  have sx:SameX s H H4:=((sx1.trans sx2).trans sx3).trans sx4
  obtain ⟨nls,nlla⟩:=hs4.ne hl4
  have hlH:H l=none:=by
   cases e:H l with
   | none=>rfl
   | some o=>exact absurd (sx l o nls e) (by rw [hl4]; simp)
  refine ⟨_,rfl,n,rfl,by lia,by lia,?_⟩
  show Zb4 _ _ _ _ [some (.ref s),some (.int n),some (.int style),some (.str stem),some (.int at_),some (.ref l),none,none] (upd H4 l (.lst []))
  have mkn:∀ x:Str,Low x->1<=x.length->x.length<=12->Yv x:=fun x a b c=>⟨a,b,c⟩
  refine Zay n.toNat rfl (fun i σ H'=>∃ (names:List Str) (v1 v2:Option V),σ = [some (.ref s),some (.int n),some (.int style),some (.str stem),some (.int at_),some (.ref l),v1,v2]/\names.length=i/\names.Nodup/\(∀ x∈names,Yv x)/\H' l=some (.lst (names.map V.str))/\SrcAt H' s la/\SameX s H H')
   ⟨[],none,none,rfl,rfl,List.nodup_nil,(fun _ z=>nomatch z),Zi,hs4.keep (Same.new hl4),sx.trans (SameX.new hl4)⟩ ?_ ?_
  ·rintro i σ H5 hi ⟨names,v1,v2,rfl,hlen,hnd,hall,hl5,hs5,sx5⟩
   have e1:cs (Txt.slice stem none (some at_))=(cs stem).take at_.toNat:=Zhr stem at0
   have e2:cs (Txt.slice stem (some (at_+1)) none)=(cs stem).drop (at_+1).toNat:=Z0w stem (by lia)
   have l1:(Txt.slice stem none (some at_)).length<=11:=by rw [← Y3,e1,xO,Y3]; lia
   have l2:(Txt.slice stem (some (at_+1)) none).length+(at_+1).toNat=stem.length:=by rw [← Y3,e2,List.length_drop,Y3]; lia
   have l1':(Txt.slice stem none (some at_)).length=at_.toNat:=by rw [← Y3,e1,xO,Y3]; lia
   refine ⟨_,rfl,_,rfl,at_,rfl,stem,rfl,by lia,_,rfl,s,la,1,rfl,hs5,by decide,by decide,fun x1 H6 hx1 hlow1 hs6 sx6=>?_⟩
   have hl6:H6 l=some (.lst (names.map V.str)):=sx6 l _ nls hl5
   refine ⟨_,_,rfl,rfl,by lia,?_⟩
   refine ⟨_,rfl,_,rfl,_,_,rfl,rfl,_,rfl,stem,rfl,by lia,?_⟩
   have l3:(Txt.slice stem none (some at_)++x1).length=at_.toNat+1:=by rw [PySem.Str.length_append,l1']; lia
   refine ⟨_,_,rfl,rfl,by rw [l3]; lia,?_⟩
   have hname:Yv (Txt.slice stem none (some at_)++x1++Txt.slice stem (some (at_+1)) none):=by
    refine mkn _ (fun c hc=>?_) ?_ ?_
    ·rw [U3,U3,e1,e2] at hc
     rcases xS.mp hc with hc | hc
     ·rcases xS.mp hc with hc | hc
      ·exact hlow3 c (List.mem_of_mem_take hc)
      ·exact hlow1 c hc
     ·exact hlow3 c (List.mem_of_mem_drop hc)
    ·rw [PySem.Str.length_append,l3]; lia
    ·rw [PySem.Str.length_append,l3]; lia
   generalize Txt.slice stem none (some at_)++x1++Txt.slice stem (some (at_+1)) none=nm0 at hname
   show Ul _ _ _ [some (.ref s),some (.int n),some (.int style),some (.str stem),some (.int at_),some (.ref l),some (.int (0+(i:Nat))),some (.str nm0)] H6
   have app:∀ (D:Ends),(∀ σ H',(∃ (names:List Str) (v1 v2:Option V),σ = [some (.ref s),some (.int n),some (.int style),some (.str stem),some (.int at_),some (.ref l),v1,v2]/\names.length=i+1/\names.Nodup/\(∀ x∈names,Yv x)/\H' l=some (.lst (names.map V.str))/\SrcAt H' s la/\SameX s H H')->D.nx σ H') ->
     ∀ (x:Str) (H6:Hp),Yv x->H6 l=some (.lst (names.map V.str))->SrcAt H6 s la->SameX s H H6 ->
     Ze3 (tBM K "list" Zef (Y2 5) (Vf (tFn (Zeb K) (Vf (Y2 5) (Vf (Y2 7) Wj))) Wj)) D
      [some (.ref s),some (.int n),some (.int style),some (.str stem),some (.int at_),some (.ref l),some (.int (0+(i:Nat))),some (.str x)] H6:=by
    intro D hD x H6 hx hl6 hs6 sx6
    refine ⟨_,rfl,.inl ⟨rfl,_,SqL.of hl6⟩,_,rfl,_,rfl,l,names,x,rfl,SqL.of hl6,by lia,hx,fun y hy hny=>?_⟩
    refine ⟨l,_,_,rfl,rfl,hl6,by rw [xD]; lia,hD _ _ ⟨names ++ [y],_,_,rfl,by rw [xJ,hlen]; rfl,Zhp hnd hny,fun z hz=>?_,?_,?_,?_⟩⟩
    ·rcases xS.mp hz with q | q
     ·exact hall z q
     ·have:z=y:=by simpa using q
      rw [this]; exact hy
    ·rw [Zi,xX]; rfl
    ·exact hs6.keepX SameX.upd nls nlla
    ·intro b o hb e
     have:b≠l:=fun z=>by rw [z,hlH] at e; cases e
     rw [Zd this]
     exact sx6 b o hb e
   have step2:∀ (D:Ends),(∀ σ H',(∃ (names:List Str) (v1 v2:Option V),σ = [some (.ref s),some (.int n),some (.int style),some (.str stem),some (.int at_),some (.ref l),v1,v2]/\names.length=i+1/\names.Nodup/\(∀ x∈names,Yv x)/\H' l=some (.lst (names.map V.str))/\SrcAt H' s la/\SameX s H H')->D.nx σ H') ->
     ∀ (x:Str) (H6:Hp),Yv x->H6 l=some (.lst (names.map V.str))->SrcAt H6 s la->SameX s H H6 ->
     Ul (Zkv (Zc9 (tOp rEq (Y2 2) (tC (.int 2)))) (Zaf (tFn Zit (Vf (Y2 0) (Vf (tOp (rI0 fun i j=>.int (i+j)) (tC (.int 1)) (tFn Zbz (Vf (Y2 0) (Vf (tC (.int 12)) Wj)))) Wj))) (Ww 7)) Z4)
      (Ze3 (tBM K "list" Zef (Y2 5) (Vf (tFn (Zeb K) (Vf (Y2 5) (Vf (Y2 7) Wj))) Wj))) D
      [some (.ref s),some (.int n),some (.int style),some (.str stem),some (.int at_),some (.ref l),some (.int (0+(i:Nat))),some (.str x)] H6:=by
    intro D hD x H6 hx hl6 hs6 sx6
    refine ⟨_,rfl,rfl,_,rfl,Z0 (fun _=>?_) (fun _=>?_)⟩
    ·refine ⟨_,rfl,_,rfl,s,la,12,rfl,hs6,by decide,by decide,fun d H7 d0 d1 hs7 sx7=>?_⟩
     refine ⟨_,_,rfl,rfl,s,la,_,rfl,hs7,by lia,by lia,fun y H8 hy1 hy2 hs8 sx8=>?_⟩
     exact app D hD y H8 ⟨hy2,by lia,by lia⟩ (sx8 l _ nls (sx7 l _ nls hl6)) hs8 ((sx6.trans sx7).trans sx8)
    ·exact app D hD x H6 hx hl6 hs6 sx6
   refine ⟨_,rfl,rfl,_,rfl,Z0 (fun _=>?_) (fun _=>?_)⟩
   ·refine ⟨_,rfl,_,rfl,_,rfl,stem,rfl,by lia,s,la,_,rfl,hs6,by lia,by lia,fun d H7 d0 d1 hs7 sx7=>?_⟩
    refine ⟨_,_,rfl,rfl,_,rfl,stem,rfl,by lia,?_⟩
    have e3:cs (Txt.slice stem none (some (1+d)))=(cs stem).take (1+d).toNat:=Zhr stem (by lia)
    refine step2 _ (fun σ H' h=>h) _ H7 ⟨fun c hc=>hlow3 c (by rw [e3] at hc; exact List.mem_of_mem_take hc),?_,?_⟩ (sx7 l _ nls hl6) hs7 ((sx5.trans sx6).trans sx7)
    ·rw [← Y3,e3,xO,Y3]; lia
    ·rw [← Y3,e3,xO,Y3]; lia
   ·exact step2 _ (fun σ H' h=>h) nm0 H6 hname hl6 hs6 (sx5.trans sx6)
  ·rintro σ H5 ⟨names,v1,v2,rfl,hlen,hnd,hall,hl5,hs5,sx5⟩
   exact ⟨_,rfl,k l names H5 (by lia) hnd hall hlH hl5 hs5 sx5⟩
end
section
variable {P:Program}{w:World}{K:uFg}{mg:Str->Option Value}{base:Heap}
def okc (c:Nat):Bool:=decide (97<=c) && decide (c<=122)
def Ug (x:Str):Bool:=(decide (1<=x.length) && decide (x.length<=12)) && (cs x).all okc
theorem Zv0 {x:Str}(h:Yv x):Ug x=true:=by
 obtain ⟨h1,h2,h3⟩:=h
 unfold Ug
 rw [xM h2,xM h3,Bool.true_and,Bool.true_and,List.all_eq_true]
 intro c hc
 obtain ⟨a,b⟩:=h1 c hc
 unfold okc
 rw [xM a,xM b]
 rfl
def Zod:Sp:=fun vs H Q _=>∃ x:Str,vs = [.str x]/\x.length<=1000/\∀ H',Same H H'->Q (.bl (Ug x)) H'
theorem Zqc {x:Str}{i:Nat}(hi:i < x.length):(cs x)[i]? = some (x.cps.getD i 0):=by
 unfold cs
 have:i < x.cps.size:=hi
 rw [Array.getD_eq_getD_getElem?,Array.getElem?_eq_getElem this,Array.getElem?_toList,Array.getElem?_eq_getElem this]
 rfl
theorem leA (c:Nat):(!decide ((⟨#[c]⟩:Str).cps.toList < ("a" : Str).cps.toList))=decide (97<=c):=by
 have e:("a" : Str).cps.toList = [97]:=by decide +kernel
 rw [e]
 show (!decide (([c]:List Nat) < [97]))=_
 rw [Bool.eq_iff_iff,Bool.not_eq_true',decide_eq_false_iff_not,decide_eq_true_iff,Zm7]
 lia
theorem leZ (c:Nat):(!decide (("z" : Str).cps.toList < (⟨#[c]⟩:Str).cps.toList))=decide (c<=122):=by
 have e:("z" : Str).cps.toList = [122]:=by decide +kernel
 rw [e]
 show (!decide (([122]:List Nat) < [c]))=_
 rw [Bool.eq_iff_iff,Bool.not_eq_true',decide_eq_false_iff_not,decide_eq_true_iff,Zm7]
 lia
theorem Zms {α β:Type}{l:List α}{i:Nat}{a : α}(f : α->β) (h:l[i]? = some a):(l.take (i+1)).map f=(l.take i).map f ++ [f a]:=by
 rw [yG,h,xX]
 rfl
abbrev Za2:Stmt:=top 41
theorem Z5d:FnScope ["text"] ["text"] (Zb Za2):=⟨rfl,rfl,rfl,by decide +kernel,rfl,by decide +kernel,by decide +kernel⟩
theorem Z5e:Nm (Zb Za2) "LONGEST_NAME" .globalImplicit:=by decide +kernel
theorem Z5f:Nm (Zb Za2) "all" .globalImplicit:=by decide +kernel
theorem Z5g:Nm (Zb Za2) "len" .globalImplicit:=by decide +kernel
theorem Zr9:Nm (Zb Za2) "text" .local:=by decide +kernel
theorem Z5h (Zjb:Has K mg "is_name" Za2) (T:Txt mg) (hL:∃ t,mg "LONGEST_NAME" = some (.int 12 t)):Fn P w K mg base "is_name" ["text"] 1 Zod:=by
 obtain ⟨tL,c_LONGEST_NAME⟩:=hL
 have r_LONGEST_NAME:RelV (.int 12) (.int 12 tL):=⟨tL,rfl⟩
 refine Zjb.fnQ Z5d (fun _ _ _ _ _ _ us hl=>match us,hl with | [_],_=>rfl) (fun vs H Q E h=>?_) (fun f cdv A outer s H vs Q E hr h=>?_)
 ·obtain ⟨x,rfl,_⟩:=h
  rfl
 ·obtain ⟨x,rfl,hx,k⟩:=h
  refine ⟨_,(Zg (Zr (Zbw (Zn5 Wp Wp Ze (Z8 Zgg Z5g T.len Y1 (Za (qvN 0 Zr9) Zc)) (V0 Z5e c_LONGEST_NAME r_LONGEST_NAME)) (Zaw (Z8 (Zxc (by rfl)) Z5f T.all Z4a (Za (Vt (locs:=["sign"]) (fr:=[]) ⟨rfl,by decide +kernel,by decide +kernel,by decide +kernel,by decide +kernel,by decide +kernel⟩ .nil rfl (Z3c (qvN 0 Zr9)) ⟨fun _ _ _ _ _ _=>by
  have cnd:(inN ["sign"] []).Nodup:=by decide +kernel
  exact ⟨(Wl 0 cnd),Uf,(Zn5 Zm5 Zm5 Zm (Y5 0) Zm)⟩⟩) Zc)))))),?_⟩
  have hz:(1000:Nat)<=sizeLine:=by decide
  refine ⟨_,rfl,x,rfl,by lia,_,_,rfl,rfl,_,rfl,Z0 (fun h1=>?_) (fun h1=>?_)⟩
  ·refine ⟨_,_,rfl,rfl,_,rfl,Z0 (fun h2=>?_) (fun h2=>?_)⟩
   ·refine ⟨_,rfl,x,rfl,?_⟩
    refine Zyr (fun i ys H'=>H'=H/\ys=((cs x).take i).map fun c=>V.bl (okc c)) ⟨rfl,rfl⟩ (by lia) ?_ ?_ ?_
    ·rintro i ys H' ⟨_,rfl⟩
     rw [xD,xO]; lia
    ·rintro i ys H' hi ⟨rfl,rfl⟩ ls hls
     obtain ⟨a,rfl⟩:=Zbd hls
     refine ⟨⟨[_],rfl,rfl⟩,Yj ?_⟩
     refine ⟨_,rfl,_,_,rfl,rfl,_,rfl,?_⟩
     rw [leA]
     refine Z0 (fun h3=>?_) (fun h3=>?_)
     ·refine ⟨_,_,rfl,rfl,rfl,?_⟩
      dsimp only
      rw [leZ,Zms _ (Zqc hi)]
      unfold okc
      rw [xM h3,Bool.true_and]
     ·refine ⟨rfl,?_⟩
      rw [Zms _ (Zqc hi)]
      unfold okc
      rw [xU h3,Bool.false_and]
    ·rintro ys H' ⟨rfl,rfl⟩ l hl
     refine ⟨l,(cs x).map okc,rfl,SqL.of (by rw [Zi,← Y3,yL,List.map_map]; rfl),?_⟩
     have e:((cs x).map okc).all id=Ug x:=by
      unfold Ug
      rw [List.all_map,xM (show 1<=x.length by lia),xM (show x.length<=12 by lia)]
      rfl
     rw [e]
     exact k _ (Same.new hl)
   ·refine (?_:Q (.bl false) H)
    have e:Ug x=false:=by
     unfold Ug
     rw [xU (show ¬ x.length<=12 by lia),Bool.and_false,Bool.false_and]
    rw [← e]
    exact k H (Same.refl _)
  ·refine ⟨_,rfl,Zx ?_⟩
   have e:Ug x=false:=by
    unfold Ug
    rw [xU (show ¬ 1<=x.length by lia),Bool.false_and,Bool.false_and]
   rw [← e]
   exact k H (Same.refl _)
end
section
variable {P:Program}{w:World}{K:uFg}{mg:Str->Option Value}{base:Heap}
inductive Deed where
 | come (n:Str) (d w:Int) | rise (n:Str) (d w:Int) | die (n:Str) (d:Int) (h:Str)
def Zt:List Deed->Str->Option Int
 | [],_=>none
 | .come m d _::r,n=>if m=n then some d else Zt r n
 | .rise _ _ _::r,n=>Zt r n
 | .die _ _ _::r,n=>Zt r n
def Z5:List Deed->Str->Option (Int×Str)
 | [],_=>none
 | .die m d h::r,n=>if m=n then some (d,h) else Z5 r n
 | .come _ _ _::r,n=>Z5 r n
 | .rise _ _ _::r,n=>Z5 r n
theorem Zg4 (a b:List Deed) (n:Str):Zt (a++b) n=(Zt a n).or (Zt b n):=by
 induction a with
 | nil=>rfl
 | cons x r ih =>
  cases x with
  | come m d w =>
   rw [yN,Zt,Zt]
   by_cases e:m=n
   ·rw [if_pos e,if_pos e]; rfl
   ·rw [if_neg e,if_neg e,ih]
  | rise m d w=>rw [yN,Zt,Zt,ih]
  | die m d h=>rw [yN,Zt,Zt,ih]
theorem Znw (a b:List Deed) (n:Str):Z5 (a++b) n=(Z5 a n).or (Z5 b n):=by
 induction a with
 | nil=>rfl
 | cons x r ih =>
  cases x with
  | come m d w=>rw [yN,Z5,Z5,ih]
  | rise m d w=>rw [yN,Z5,Z5,ih]
  | die m d h =>
   rw [yN,Z5,Z5]
   by_cases e:m=n
   ·rw [if_pos e,if_pos e]; rfl
   ·rw [if_neg e,if_neg e,ih]
theorem Zv1 {ds:List Deed}{n:Str}{d w:Int}(h:Zt ds n=none) (x:Str):Zt (ds ++ [.come n d w]) x=if x=n then some d else Zt ds x:=by
 rw [Zg4,Zt,Zt]
 by_cases e:x=n
 ·subst e
  rw [if_pos rfl,if_pos rfl,h]; rfl
 ·rw [if_neg (Ne.symm e),if_neg e]
  cases Zt ds x <;> rfl
theorem Zgn {ds:List Deed}{n:Str}{d w:Int}(x:Str):Z5 (ds ++ [.come n d w]) x=Z5 ds x:=by
 rw [Znw,Z5,Z5]
 cases Z5 ds x <;> rfl
def Wi (ds:List Deed) (n:Str) (day:Int):Bool:=match Z5 ds n with
 | some x=>decide (x.1<=day)
 | none=>false
inductive Stands (ds:List Deed) (day:Int):Nat->Str->Str->Prop where
 | here {n:Str}:Wi ds n day=false->Stands ds day 0 n n
 | step {n m:Str}{x:Int×Str}{k:Nat}:Z5 ds n=some x->Wi ds n day=true->Stands ds day k x.2 m->Stands ds day (k+1) n m
def Vr (dc dw dd dh:Addr):List (Str×V):=Zh "heirs" (.ref dh) (Zh "deaths" (.ref dd) (Zh "weights" (.ref dw) (Zh "comings" (.ref dc) [])))
theorem Zdx (dc dw dd dh:Addr):(Vr dc dw dd dh).lookup ("comings" : Str)=some (.ref dc):=by
 unfold Vr
 rw [Yb,if_neg (by decide +kernel),Yb,if_neg (by decide +kernel),Yb,if_neg (by decide +kernel),Yb,if_pos rfl]
theorem Zud (dc dw dd dh:Addr):(Vr dc dw dd dh).lookup ("weights" : Str)=some (.ref dw):=by
 unfold Vr
 rw [Yb,if_neg (by decide +kernel),Yb,if_neg (by decide +kernel),Yb,if_pos rfl]
theorem Zli (dc dw dd dh:Addr):(Vr dc dw dd dh).lookup ("deaths" : Str)=some (.ref dd):=by
 unfold Vr
 rw [Yb,if_neg (by decide +kernel),Yb,if_pos rfl]
theorem Yar (dc dw dd dh:Addr):(Vr dc dw dd dh).lookup ("heirs" : Str)=some (.ref dh):=by
 unfold Vr
 rw [Yb,if_pos rfl]
def Zlj (m:Str):Prop:=¬ m = "heirs" /\ ¬ m = "deaths" /\ ¬ m = "weights" /\ ¬ m = "comings"
instance (m:Str):Decidable (Zlj m):=by unfold Zlj; exact inferInstance
theorem Yw (dc dw dd dh:Addr) {m:Str}(h:Zlj m):(Vr dc dw dd dh).lookup m=none:=by
 obtain ⟨a,b,c,d⟩:=h
 unfold Vr
 rw [Yb,if_neg a,Yb,if_neg b,Yb,if_neg c,Yb,if_neg d]
 rfl
structure FL where
 p:Addr
 dc:Addr
 dw:Addr
 dd:Addr
 dh:Addr
structure FolkAt (C:Addr) (H:Hp) (L:FL) (ds:List Deed):Prop where
 ob:∃ dx,H L.p=some (.ins C dx (Vr L.dc L.dw L.dd L.dh))
 c:∃ kvs:List (Key×V),H L.dc=some (.dK kvs)/\kvs.length<=ds.length/\∀ n:Str,Z3 kvs (.inr n)=(Zt ds n).map V.int
 w:∃ kvs:List (Key×V),H L.dw=some (.dK kvs)/\kvs.length<=ds.length
 d:∃ kvs:List (Key×V),H L.dd=some (.dK kvs)/\kvs.length<=ds.length/\∀ n:Str,Z3 kvs (.inr n)=(Z5 ds n).map fun x=>V.int x.1
 h:∃ kvs:List (Key×V),H L.dh=some (.dK kvs)/\kvs.length<=ds.length/\∀ n:Str,Z3 kvs (.inr n)=(Z5 ds n).map fun x=>V.str x.2
 a1:L.dc≠L.dw
 a2:L.dc≠L.dd
 a3:L.dc≠L.dh
 a4:L.dw≠L.dd
 a5:L.dw≠L.dh
 a6:L.dd≠L.dh
def Zjc (H H':Hp):Prop:=∀ b o,(∀ xs,o ≠ .lst xs)->H b=some o->H' b=some o
theorem Same.n {H H':Hp}(h:Same H H'):Zjc H H':=fun b o _ e=>h b o e
theorem FolkAt.keep {C:Addr}{H H':Hp}{L:FL}{ds:List Deed}(h:FolkAt C H L ds) (k:Zjc H H'):FolkAt C H' L ds:=by
 obtain ⟨⟨dx,ob⟩,⟨k1,c1,c2⟩,⟨k2,w1,w2⟩,⟨k3,d1,d2⟩,⟨k4,h1,h2⟩,a1,a2,a3,a4,a5,a6⟩:=h
 exact ⟨⟨dx,k _ _ (fun _ z=>nomatch z) ob⟩,⟨k1,k _ _ (fun _ z=>nomatch z) c1,c2⟩,⟨k2,k _ _ (fun _ z=>nomatch z) w1,w2⟩,⟨k3,k _ _ (fun _ z=>nomatch z) d1,d2⟩,⟨k4,k _ _ (fun _ z=>nomatch z) h1,h2⟩,a1,a2,a3,a4,a5,a6⟩
def SameLT (H H':Hp):Prop:=(∀ b xs,H b=some (.lst xs)->H' b=some (.lst xs))/\∀ b xs,H b=some (.tup xs)->H' b=some (.tup xs)
theorem SameLT.updD {H:Hp}{l:Addr}{kvs kvs':List (Key×V)}(h:H l=some (.dK kvs)):SameLT H (upd H l (.dK kvs')) :=
 ⟨fun b xs e=>by rw [Zd (fun z=>by rw [z,h] at e; cases e)]; exact e,fun b xs e=>by rw [Zd (fun z=>by rw [z,h] at e; cases e)]; exact e⟩
structure TxC (K:uFg) (C:Addr):Prop where
 cl:Cls K C
 nc:NoAttr K C "comings"
 nw:NoAttr K C "weights"
 nd:NoAttr K C "deaths"
 nh:NoAttr K C "heirs"
variable {C:Addr}
def Za3:Sp:=fun vs H Q _=>∃ d:Int,vs = [.int d]/\0<=d/\d<=9999/\Q .non H
abbrev Zdf:Stmt:=top 35
theorem Z5i:FnScope ["day"] ["day"] (Zb Zdf):=⟨rfl,rfl,rfl,by decide +kernel,rfl,by decide +kernel,by decide +kernel⟩
theorem Z5j:Nm (Zb Zdf) "LAST_DAY" .globalImplicit:=by decide +kernel
theorem Z5k:Nm (Zb Zdf) "day" .local:=by decide +kernel
theorem Z5l (Zjd:Has K mg "check_day" Zdf) (C0:∃ t,mg "LAST_DAY" = some (.int 9999 t)):Fn P w K mg base "check_day" ["day"] 1 Za3:=by
 obtain ⟨t0,c_LAST_DAY⟩:=C0
 have r_LAST_DAY:RelV (.int 9999) (.int 9999 t0):=⟨t0,rfl⟩
 refine Zjd.fnQ Z5i (fun _ _ _ _ _ _ us hl=>match us,hl with | [_],_=>rfl) (fun vs H Q E h=>?_) (fun f cdv A outer s H vs Q E hr h=>?_)
 ·obtain ⟨d,rfl,_⟩:=h
  rfl
 ·obtain ⟨d,rfl,h0,h1,k⟩:=h
  refine ⟨_,(Zg (Zl (Wx (Zcw Wp Wp Ze (qvN 0 Z5k) (V0 Z5j c_LAST_DAY r_LAST_DAY))) (Zg Yh) Zn)),?_⟩
  refine ⟨_,rfl,_,_,rfl,rfl,_,rfl,Z0 (fun _=>?_) (fun z=>absurd h0 z)⟩
  refine ⟨_,_,rfl,rfl,_,rfl,Ym (fun z=>absurd h1 z) (fun _=>k)⟩
def Zlk:Sp:=fun vs H Q _=>∃ d:Int,vs = [.int d]/\1<=d/\d<=1000/\Q .non H
abbrev Zdg:Stmt:=top 36
theorem Z5m:FnScope ["weight"] ["weight"] (Zb Zdg):=⟨rfl,rfl,rfl,by decide +kernel,rfl,by decide +kernel,by decide +kernel⟩
theorem Z5n:Nm (Zb Zdg) "MOST_WEIGHT" .globalImplicit:=by decide +kernel
theorem Z5o:Nm (Zb Zdg) "weight" .local:=by decide +kernel
theorem Z5p (Zje:Has K mg "check_weight" Zdg) (C0:∃ t,mg "MOST_WEIGHT" = some (.int 1000 t)):Fn P w K mg base "check_weight" ["weight"] 1 Zlk:=by
 obtain ⟨t0,c_MOST_WEIGHT⟩:=C0
 have r_MOST_WEIGHT:RelV (.int 1000) (.int 1000 t0):=⟨t0,rfl⟩
 refine Zje.fnQ Z5m (fun _ _ _ _ _ _ us hl=>match us,hl with | [_],_=>rfl) (fun vs H Q E h=>?_) (fun f cdv A outer s H vs Q E hr h=>?_)
 ·obtain ⟨d,rfl,_⟩:=h
  rfl
 ·obtain ⟨d,rfl,h0,h1,k⟩:=h
  refine ⟨_,(Zg (Zl (Wx (Zcw Wp Wp Ze (qvN 0 Z5o) (V0 Z5n c_MOST_WEIGHT r_MOST_WEIGHT))) (Zg Yh) Zn)),?_⟩
  refine ⟨_,rfl,_,_,rfl,rfl,_,rfl,Z0 (fun _=>?_) (fun z=>absurd h0 z)⟩
  refine ⟨_,_,rfl,rfl,_,rfl,Ym (fun z=>absurd h1 z) (fun _=>k)⟩
def Zc0 (C:Addr):Sp:=fun vs H Q _=>∃ (L:FL) (ds:List Deed) (n:Str) (d:Int),vs = [.ref L.p,.str n]/\FolkAt C H L ds/\Zt ds n=some d/\Q .non H
abbrev Zdy:Stmt:=Ye (top 45) 17
theorem Z5q:FnScope ["self", "name"] ["self", "name"] (Zb Zdy):=⟨rfl,rfl,rfl,by decide +kernel,rfl,by decide +kernel,by decide +kernel⟩
theorem Z5r:Nm (Zb Zdy) "name" .local:=by decide +kernel
theorem Z5s:Nm (Zb Zdy) "self" .local:=by decide +kernel
theorem Z5t (Zjf:HasM K C "check_known" "Folk.check_known" Zdy) (Tc:TxC K C):Mt P w K mg base C "check_known" ["self", "name"] 1 (Zc0 C):=by
 refine Zjf.mtQ Z5q (fun _ _ _ _ _ _ us hl=>match us,hl with | [_,_],_=>rfl) (fun vs H Q E h=>?_) (fun f cdv A outer s H vs Q E hr h=>?_)
 ·obtain ⟨L,ds,n,d,rfl,_⟩:=h
  rfl
 ·obtain ⟨L,ds,n,d,rfl,F,hn,k⟩:=h
  refine ⟨_,(Zg (Zl (Zp (Zvv hr) (qvN 1 Z5r) (Zq (qvN 0 Z5s)) rfl) (Zg Yh) Zn)),?_⟩
  obtain ⟨dx,ob⟩:=F.ob
  obtain ⟨kvs,c1,c2,c3⟩:=F.c
  refine ⟨_,rfl,_,rfl,L.p,C,dx,_,_,rfl,ob,Tc.cl,Tc.nc,Zdx _ _ _ _,L.dc,_,rfl,DGet.k (k:=Sum.inr n) c1,_,rfl,?_⟩
  rw [c3,hn]
  exact Zx k
def Zh4 (C:Addr):Sp:=fun vs H Q _=>∃ (L:FL) (ds:List Deed) (n:Str) (d day:Int),vs = [.ref L.p,.str n,.int day]/\FolkAt C H L ds/\Zt ds n=some d/\d<=day/\Q .non H
abbrev Zcg:Stmt:=Ye (top 45) 18
theorem Z5u:FnScope ["self", "name", "day"] ["self", "name", "day"] (Zb Zcg):=⟨rfl,rfl,rfl,by decide +kernel,rfl,by decide +kernel,by decide +kernel⟩
theorem Z5v:Nm (Zb Zcg) "day" .local:=by decide +kernel
theorem Z5w:Nm (Zb Zcg) "name" .local:=by decide +kernel
theorem Z5x:Nm (Zb Zcg) "self" .local:=by decide +kernel
theorem Z5y (Zjg:HasM K C "check_there" "Folk.check_there" Zcg) (Tc:TxC K C):Mt P w K mg base C "check_there" ["self", "name", "day"] 1 (Zh4 C):=by
 refine Zjg.mtQ Z5u (fun _ _ _ _ _ _ us hl=>match us,hl with | [_,_,_],_=>rfl) (fun vs H Q E h=>?_) (fun f cdv A outer s H vs Q E hr h=>?_)
 ·obtain ⟨L,ds,n,d,day,rfl,_⟩:=h
  rfl
 ·obtain ⟨L,ds,n,d,day,rfl,F,hn,hd,k⟩:=h
  refine ⟨_,(Zg (Zl (Zp Zc5 (qvN 2 Z5v) (Zel hr (Zq (qvN 0 Z5x)) (qvN 1 Z5w) (fun _ _=>rfl)) (Zo _)) (Zg Yh) Zn)),?_⟩
  obtain ⟨dx,ob⟩:=F.ob
  obtain ⟨kvs,c1,c2,c3⟩:=F.c
  have g:=DGet.k (k:=Sum.inr n) c1
  rw [c3,hn] at g
  refine ⟨_,rfl,_,rfl,L.p,C,dx,_,_,rfl,ob,Tc.cl,Tc.nc,Zdx _ _ _ _,_,rfl,L.dc,.int d,rfl,g,?_⟩
  exact ⟨_,_,rfl,rfl,_,rfl,Z0 (fun z=>absurd z (by lia)) (fun _=>k)⟩
def Zhe (C:Addr):Sp:=fun vs H Q _=>∃ (L:FL) (ds:List Deed) (n:Str) (day:Int),vs = [.ref L.p,.str n,.int day]/\FolkAt C H L ds/\Q (.bl (Wi ds n day)) H
abbrev Zch:Stmt:=Ye (top 45) 11
theorem Z5z:FnScope ["self", "name", "day"] ["self", "name", "day"] (Zb Zch):=⟨rfl,rfl,rfl,by decide +kernel,rfl,by decide +kernel,by decide +kernel⟩
theorem Z50:Nm (Zb Zch) "day" .local:=by decide +kernel
theorem Zsa:Nm (Zb Zch) "name" .local:=by decide +kernel
theorem Zsb:Nm (Zb Zch) "self" .local:=by decide +kernel
theorem Z51 (Zjh:HasM K C "died_by" "Folk.died_by" Zch) (Tc:TxC K C):Mt P w K mg base C "died_by" ["self", "name", "day"] 1 (Zhe C):=by
 refine Zjh.mtQ Z5z (fun _ _ _ _ _ _ us hl=>match us,hl with | [_,_,_],_=>rfl) (fun vs H Q E h=>?_) (fun f cdv A outer s H vs Q E hr h=>?_)
 ·obtain ⟨L,ds,n,day,rfl,_⟩:=h
  rfl
 ·obtain ⟨L,ds,n,day,rfl,F,k⟩:=h
  refine ⟨_,(Zg (Zr (Zbw (U4 (Zhv hr) (qvN 1 Zsa) (Zq (qvN 0 Zsb)) rfl) (Zaw (U4 Wp (Zel hr (Zq (qvN 0 Zsb)) (qvN 1 Zsa) (fun _ _=>rfl)) (qvN 2 Z50) (Zo _)))))),?_⟩
  obtain ⟨dx,ob⟩:=F.ob
  obtain ⟨kvs,c1,c2,c3⟩:=F.d
  have g:=DGet.k (k:=Sum.inr n) c1
  rw [c3] at g
  unfold Wi at k
  refine ⟨_,rfl,_,rfl,L.p,C,dx,_,_,rfl,ob,Tc.cl,Tc.nd,Zli _ _ _ _,L.dd,_,rfl,g,_,rfl,?_⟩
  cases e:Z5 ds n with
  | none =>
   rw [e] at k
   exact Zx k
  | some x =>
   rw [e] at k g
   refine Yj ?_
   exact ⟨_,rfl,L.p,C,dx,_,_,rfl,ob,Tc.cl,Tc.nd,Zli _ _ _ _,_,rfl,L.dd,.int x.1,rfl,g,_,rfl,_,_,rfl,rfl,k⟩
def Znx (C:Addr):Sp:=fun vs H Q _=>∃ (L:FL) (ds:List Deed) (n m:Str) (day:Int) (b:Nat),vs = [.ref L.p,.str n,.int day]/\FolkAt C H L ds/\Stands ds day b n m/\Q (.str m) H
abbrev Zci:Stmt:=Ye (top 45) 10
theorem Zsc:FnScope ["self", "name", "day"] ["self", "name", "day"] (Zb Zci):=⟨rfl,rfl,rfl,by decide +kernel,rfl,by decide +kernel,by decide +kernel⟩
theorem Z52:Nm (Zb Zci) "day" .local:=by decide +kernel
theorem Zfq:Nm (Zb Zci) "name" .local:=by decide +kernel
theorem Zsd:Nm (Zb Zci) "self" .local:=by decide +kernel
theorem Z53 (Zji:HasM K C "stand_in" "Folk.stand_in" Zci) (Tc:TxC K C) (M_died_by:Mt P w K mg base C "died_by" ["self", "name", "day"] 1 (Zhe C)) :
  Mt P w K mg base C "stand_in" ["self", "name", "day"] 2 (Znx C):=by
 refine Zji.mtQ Zsc (fun _ _ _ _ _ _ us hl=>match us,hl with | [_,_,_],_=>rfl) (fun vs H Q E h=>?_) (fun f cdv A outer s H vs Q E hr h=>?_)
 ·obtain ⟨L,ds,n,m,day,b,rfl,_⟩:=h
  rfl
 ·obtain ⟨L,ds,n,m,day,b,rfl,F,hst,k⟩:=h
  refine ⟨_,(Zf (Zyt PassesOwn.never (Wb (Z6 (qvN 0 Zsd) Tc.cl M_died_by (hr.mono (by lia)) (Za (qvN 1 Zfq) (Za (qvN 2 Z52) Zc))))
 (Zg (Z1 (i:=1) Zsc.nd Zfq (Zel hr (Zq (qvN 0 Zsd)) (qvN 1 Zfq) (fun _ _=>rfl)))))
 (Zg (Zr (qvN 1 Zfq)))),?_⟩
  obtain ⟨dx,ob⟩:=F.ob
  obtain ⟨kvs,c1,c2,c3⟩:=F.h
  refine ⟨fun j σ H'=>∃ x,σ = [some (.ref L.p),some (.str x),some (.int day)]/\H'=H/\Stands ds day j x m,⟨b,n,rfl,rfl,hst⟩,?_⟩
  rintro j σ H' ⟨x,rfl,rfl,hx⟩
  refine ⟨_,rfl,L.p,dx,_,rfl,ob,Yw _ _ _ _ (by decide +kernel),_,rfl,_,rfl,L,ds,x,day,rfl,F,?_⟩
  refine ⟨_,rfl,?_⟩
  cases hx with
  | here e =>
   rw [e]
   exact Zx ⟨_,rfl,k⟩
  | step e1 e2 e3 =>
   rename_i y j'
   rw [e2]
   have g:=DGet.k (k:=Sum.inr x) c1
   rw [c3,e1] at g
   refine Yj ⟨fun σ' H''=>∃ m',m' < j'+1/\∃ x,σ' = [some (.ref L.p),some (.str x),some (.int day)]/\H''=H'/\Stands ds day m' x m,fun _ _ h=>h,?_⟩
   exact ⟨_,rfl,L.p,C,dx,_,_,rfl,ob,Tc.cl,Tc.nh,Yar _ _ _ _,_,rfl,L.dh,.str y.2,rfl,g,j',by lia,y.2,rfl,rfl,e3⟩
end
section
variable {P:Program}{w:World}{K:uFg}{mg:Str->Option Value}{base:Heap}{C:Addr}
def Zqd (C:Addr):Sp:=fun vs H Q _=>∃ (p dx:Addr),vs = [.ref p]/\H p=some (.ins C dx [])/\∀ (L:FL) (H':Hp),L.p=p->FolkAt C H' L []->(∀ b o,H b=some o->b≠p->H' b=some o)->(∀ b,b=L.dc\/b=L.dw\/b=L.dd\/b=L.dh->H b=none)->Q .non H'
abbrev Zfa:Stmt:=Ye (top 45) 0
theorem Z54:FnScope ["self"] ["self"] (Zb Zfa):=⟨rfl,rfl,rfl,by decide +kernel,rfl,by decide +kernel,by decide +kernel⟩
theorem Zfr:Nm (Zb Zfa) "self" .local:=by decide +kernel
theorem Z55 (Zjj:HasM K C "__init__" "Folk.__init__" Zfa) (Tc:TxC K C):Mt P w K mg base C "__init__" ["self"] 1 (Zqd C):=by
 refine Zjj.mtQ Z54 (fun _ _ _ _ _ _ us hl=>match us,hl with | [_],_=>rfl) (fun vs H Q E h=>?_) (fun f cdv A outer s H vs Q E hr h=>?_)
 ·obtain ⟨p,dx,rfl,_⟩:=h
  rfl
 ·obtain ⟨p,dx,rfl,hp,k⟩:=h
  refine ⟨_,(Zf (Wc (qvN 0 Zfr) Zcx)
 (Zf (Wc (qvN 0 Zfr) Zcx)
 (Zf (Wc (qvN 0 Zfr) Zcx)
 (Zg (Wc (qvN 0 Zfr) Zcx))))),?_⟩
  intro dc hdc
  have p1:p≠dc:=Zj hp hdc
  refine ⟨_,rfl,p,C,dx,[],rfl,(by rw [Zd p1]; exact hp),Tc.cl,Tc.nc,(by show 0 < 1000; decide),?_⟩
  have g1:(upd (upd H dc (.dK [])) p (.ins C dx (Zh "comings" (.ref dc) []))) p=some (.ins C dx (Zh "comings" (.ref dc) [])):=Zi
  have c1:(upd (upd H dc (.dK [])) p (.ins C dx (Zh "comings" (.ref dc) []))) dc=some (.dK []):=by rw [Zd p1.symm,Zi]
  have s1:∀ b o,H b=some o->b≠p->(upd (upd H dc (.dK [])) p (.ins C dx (Zh "comings" (.ref dc) []))) b=some o:=fun b o e n=>by rw [Zd n,Zd (Zj e hdc)]; exact e
  generalize (upd (upd H dc (.dK [])) p (.ins C dx (Zh "comings" (.ref dc) [])))=H1 at g1 c1 s1 ⊢
  intro dw hdw
  have p2:p≠dw:=Zj g1 hdw
  have q1:dc≠dw:=Zj c1 hdw
  refine ⟨_,rfl,p,C,dx,_,rfl,(by rw [Zd p2]; exact g1),Tc.cl,Tc.nw,(by show 1 < 1000; decide),?_⟩
  have g2:(upd (upd H1 dw (.dK [])) p (.ins C dx (Zh "weights" (.ref dw) (Zh "comings" (.ref dc) [])))) p=some (.ins C dx (Zh "weights" (.ref dw) (Zh "comings" (.ref dc) []))):=Zi
  have c2:(upd (upd H1 dw (.dK [])) p (.ins C dx (Zh "weights" (.ref dw) (Zh "comings" (.ref dc) [])))) dc=some (.dK []):=by rw [Zd p1.symm,Zd q1]; exact c1
  have w2:(upd (upd H1 dw (.dK [])) p (.ins C dx (Zh "weights" (.ref dw) (Zh "comings" (.ref dc) [])))) dw=some (.dK []):=by rw [Zd p2.symm,Zi]
  have s2:∀ b o,H b=some o->b≠p->(upd (upd H1 dw (.dK [])) p (.ins C dx (Zh "weights" (.ref dw) (Zh "comings" (.ref dc) [])))) b=some o:=fun b o e n=>by rw [Zd n,Zd (Zj (s1 b o e n) hdw)]; exact s1 b o e n
  generalize (upd (upd H1 dw (.dK [])) p (.ins C dx (Zh "weights" (.ref dw) (Zh "comings" (.ref dc) []))))=H2 at g2 c2 w2 s2 ⊢
  intro dd hdd
  have p3:p≠dd:=Zj g2 hdd
  have q2:dc≠dd:=Zj c2 hdd
  have q3:dw≠dd:=Zj w2 hdd
  have z1:(Zh "comings" (V.ref dc) []).length<=0+1:=Wr "comings" (V.ref dc) []
  have z2:=Wr "weights" (V.ref dw) (Zh "comings" (V.ref dc) [])
  have z3:=Wr "deaths" (V.ref dd) (Zh "weights" (V.ref dw) (Zh "comings" (V.ref dc) []))
  refine ⟨_,rfl,p,C,dx,_,rfl,(by rw [Zd p3]; exact g2),Tc.cl,Tc.nd,(by lia),?_⟩
  have g3:(upd (upd H2 dd (.dK [])) p (.ins C dx (Zh "deaths" (.ref dd) (Zh "weights" (.ref dw) (Zh "comings" (.ref dc) []))))) p=some (.ins C dx (Zh "deaths" (.ref dd) (Zh "weights" (.ref dw) (Zh "comings" (.ref dc) [])))):=Zi
  have c3:(upd (upd H2 dd (.dK [])) p (.ins C dx (Zh "deaths" (.ref dd) (Zh "weights" (.ref dw) (Zh "comings" (.ref dc) []))))) dc=some (.dK []):=by rw [Zd p1.symm,Zd q2]; exact c2
  have w3:(upd (upd H2 dd (.dK [])) p (.ins C dx (Zh "deaths" (.ref dd) (Zh "weights" (.ref dw) (Zh "comings" (.ref dc) []))))) dw=some (.dK []):=by rw [Zd p2.symm,Zd q3]; exact w2
  have d3:(upd (upd H2 dd (.dK [])) p (.ins C dx (Zh "deaths" (.ref dd) (Zh "weights" (.ref dw) (Zh "comings" (.ref dc) []))))) dd=some (.dK []):=by rw [Zd p3.symm,Zi]
  have s3:∀ b o,H b=some o->b≠p->(upd (upd H2 dd (.dK [])) p (.ins C dx (Zh "deaths" (.ref dd) (Zh "weights" (.ref dw) (Zh "comings" (.ref dc) []))))) b=some o:=fun b o e n=>by rw [Zd n,Zd (Zj (s2 b o e n) hdd)]; exact s2 b o e n
  generalize (upd (upd H2 dd (.dK [])) p (.ins C dx (Zh "deaths" (.ref dd) (Zh "weights" (.ref dw) (Zh "comings" (.ref dc) [])))))=H3 at g3 c3 w3 d3 s3 ⊢
  intro dh hdh
  have p4:p≠dh:=Zj g3 hdh
  have q4:dc≠dh:=Zj c3 hdh
  have q5:dw≠dh:=Zj w3 hdh
  have q6:dd≠dh:=Zj d3 hdh
  refine ⟨_,rfl,p,C,dx,_,rfl,(by rw [Zd p4]; exact g3),Tc.cl,Tc.nh,(by lia),?_⟩
  refine k ⟨p,dc,dw,dd,dh⟩ _ rfl ⟨⟨dx,Zi⟩,⟨[],?_,xB _,fun n=>rfl⟩,⟨[],?_,xB _⟩,⟨[],?_,xB _,fun n=>rfl⟩,⟨[],?_,xB _,fun n=>rfl⟩,q1,q2,q4,q3,q5,q6⟩ (fun b o e n=>?_) fun b hb=>?_
  ·show (upd (upd H3 dh _) p _) dc=_
   rw [Zd p1.symm,Zd q4]; exact c3
  ·show (upd (upd H3 dh _) p _) dw=_
   rw [Zd p2.symm,Zd q5]; exact w3
  ·show (upd (upd H3 dh _) p _) dd=_
   rw [Zd p3.symm,Zd q6]; exact d3
  ·show (upd (upd H3 dh _) p _) dh=_
   rw [Zd p4.symm,Zi]
  ·rw [Zd n,Zd (Zj (s3 b o e n) hdh)]; exact s3 b o e n
  ·cases eb:H b with
   | none=>rfl
   | some o =>
    rcases hb with z | z | z | z <;> subst z
    ·rw [hdc] at eb; cases eb
    ·have:=s1 _ _ eb p2.symm; rw [hdw] at this; cases this
    ·have:=s2 _ _ eb p3.symm; rw [hdd] at this; cases this
    ·have:=s3 _ _ eb p4.symm; rw [hdh] at this; cases this
def Zg5 (C:Addr):Sp:=fun vs H Q _=>∃ (L:FL) (ds:List Deed) (n:Str) (day wt:Int),vs = [.ref L.p,.str n,.int day,.int wt]/\FolkAt C H L ds/\ds.length < 40/\Yv n/\0<=day/\day<=9999/\1<=wt/\wt<=1000/\Zt ds n=none/\∀ H',Same H H'->Q .non H'
abbrev Vm:Stmt:=Ye (top 45) 14
theorem Z56:FnScope ["self", "name", "day", "weight"] ["self", "name", "day", "weight"] (Zb Vm):=⟨rfl,rfl,rfl,by decide +kernel,rfl,by decide +kernel,by decide +kernel⟩
theorem Z57:Nm (Zb Vm) "MOST_FOLK" .globalImplicit:=by decide +kernel
theorem Z58:Nm (Zb Vm) "check_day" .globalImplicit:=by decide +kernel
theorem Z59:Nm (Zb Vm) "check_weight" .globalImplicit:=by decide +kernel
theorem Z6a:Nm (Zb Vm) "day" .local:=by decide +kernel
theorem Z6b:Nm (Zb Vm) "is_name" .globalImplicit:=by decide +kernel
theorem Z6c:Nm (Zb Vm) "len" .globalImplicit:=by decide +kernel
theorem Zse:Nm (Zb Vm) "name" .local:=by decide +kernel
theorem Zsf:Nm (Zb Vm) "self" .local:=by decide +kernel
theorem Z6d:Nm (Zb Vm) "weight" .local:=by decide +kernel
theorem Z6e (Zjk:HasM K C "check_coming" "Folk.check_coming" Vm) (T:Txt mg) (Tc:TxC K C) (C0:∃ t,mg "MOST_FOLK" = some (.int 40 t)) (Z6f:Fn P w K mg base "is_name" ["text"] 1 Zod) (Vu:Fn P w K mg base "check_day" ["day"] 1 Za3) (Zjl:Fn P w K mg base "check_weight" ["weight"] 1 Zlk) :
  Mt P w K mg base C "check_coming" ["self", "name", "day", "weight"] 2 (Zg5 C):=by
 obtain ⟨t0,c_MOST_FOLK⟩:=C0
 have r_MOST_FOLK:RelV (.int 40) (.int 40 t0):=⟨t0,rfl⟩
 refine Zjk.mtQ Z56 (fun _ _ _ _ _ _ us hl=>match us,hl with | [_,_,_,_],_=>rfl) (fun vs H Q E h=>?_) (fun f cdv A outer s H vs Q E hr h=>?_)
 ·obtain ⟨L,ds,n,day,wt,rfl,_⟩:=h
  rfl
 ·obtain ⟨L,ds,n,day,wt,rfl,F0,hl,hnm,d0,d1,w0,w1,hc,k⟩:=h
  refine ⟨_,(Zf (Zl (Wx (Wb (Zw Z6f (hr.mono (by lia)) Z6b (Za (qvN 1 Zse) Zc)))) (Zg Yh) Zn)
 (Zf (Zv (Zw Vu (hr.mono (by lia)) Z58 (Za (qvN 2 Z6a) Zc)))
 (Zf (Zv (Zw Zjl (hr.mono (by lia)) Z59 (Za (qvN 3 Z6d) Zc)))
 (Zf (Zl (Zp (Zhv hr) (qvN 1 Zse) (Zq (qvN 0 Zsf)) rfl) (Zg Yh) Zn)
 (Zg (Zl (Zp Zc6 (Z8 Zvw Z6c T.len Y1 (Za (Zq (qvN 0 Zsf)) Zc)) (V0 Z57 c_MOST_FOLK r_MOST_FOLK) (Zo _)) (Zg Yh) Zn)))))),?_⟩
  refine ⟨_,rfl,n,rfl,by have:=hnm.2.2; lia,fun H1 s1=>⟨_,rfl,?_⟩⟩
  rw [Zv0 hnm]
  refine Zx ?_
  have F:=F0.keep (Same.n s1)
  obtain ⟨dx,ob⟩:=F.ob
  obtain ⟨kvs,c1,c2,c3⟩:=F.c
  have g:=DGet.k (k:=Sum.inr n) c1
  rw [c3,hc] at g
  refine ⟨_,rfl,day,rfl,d0,d1,?_⟩
  refine ⟨_,rfl,wt,rfl,w0,w1,?_⟩
  refine ⟨_,rfl,_,rfl,L.p,C,dx,_,_,rfl,ob,Tc.cl,Tc.nc,Zdx _ _ _ _,L.dc,_,rfl,g,_,rfl,Zx ?_⟩
  refine ⟨_,rfl,L.p,C,dx,_,_,rfl,ob,Tc.cl,Tc.nc,Zdx _ _ _ _,L.dc,kvs,rfl,c1,_,_,rfl,rfl,_,rfl,Z0 (fun z=>absurd z (by lia)) (fun _=>?_)⟩
  exact k H1 s1
end
section
variable {P:Program}{w:World}{K:uFg}{mg:Str->Option Value}{base:Heap}{C:Addr}
def Wz (f:Str->Option (List (Key×V))):Deed->Str->Option (List (Key×V))
 | .come n d w,m=>if m=n then some [(.inl d,.int w)] else f m
 | .rise n d w,m=>if m=n then (f m).map fun l=>Z2 l (.inl d) (.int w) else f m
 | .die _ _ _,m=>f m
def kw (ds:List Deed):Str->Option (List (Key×V)):=ds.foldl Wz fun _=>none
theorem Zbs (ds:List Deed) (x:Deed):kw (ds ++ [x])=Wz (kw ds) x:=by
 unfold kw
 rw [List.foldl_append]
 rfl
def Uh:List Deed->List Str
 | []=>[]
 | .come n _ _::r=>n::Uh r
 | .rise _ _ _::r=>Uh r
 | .die _ _ _::r=>Uh r
theorem Zna (a b:List Deed):Uh (a++b)=Uh a++Uh b:=by
 induction a with
 | nil=>rfl
 | cons x r ih=>cases x <;> simp [Uh,ih]
theorem Znb {ds:List Deed}{n:Str}{d w:Int}(x:Str):Zt (ds ++ [.rise n d w]) x=Zt ds x:=by
 rw [Zg4,Zt,Zt]
 cases Zt ds x <;> rfl
theorem Zd6 {ds:List Deed}{n:Str}{d w:Int}(x:Str):Z5 (ds ++ [.rise n d w]) x=Z5 ds x:=by
 rw [Znw,Z5,Z5]
 cases Z5 ds x <;> rfl
theorem Zy9 {l:List (Key×V)}{k:Key}{v:V}{p:Key×V}(h:p∈Z2 l k v):p=(k,v)\/p∈l:=by
 unfold Z2 at h
 split at h
 ·obtain ⟨q,hq,e⟩:=yO.mp h
  split at e
  ·rename_i e2
   rw [← e,e2]; exact .inl rfl
  ·rw [← e]; exact .inr hq
 ·rcases xS.mp h with z | z
  ·exact .inr z
  ·exact .inl (yC.mp z)
theorem Zo5:∀ (ds:List Deed) (f:Str->Option (List (Key×V))) (g:Str->Option Int),(∀ m,(f m).isSome=(g m).isSome)->∀ m,(ds.foldl Wz f m).isSome=((g m).or (Zt ds m)).isSome
 | [],f,g,h,m=>by rw [Zt]; show (f m).isSome=_; rw [h m]; cases g m <;> rfl
 | x::r,f,g,h,m=>by
  have e:Zt (x::r) m=(Zt [x] m).or (Zt r m):=Zg4 [x] r m
  have ih:=Zo5 r (Wz f x) (fun m=>(g m).or (Zt [x] m)) (fun m=>?_) m
  ·rw [List.foldl_cons,ih,e]
   cases g m <;> rfl
  ·cases x with
   | come n d w =>
    rw [Wz,Zt,Zt]
    by_cases z:m=n
    ·rw [if_pos z,if_pos z.symm]; cases g m <;> rfl
    ·rw [if_neg z,if_neg (Ne.symm z),h m]; cases g m <;> rfl
   | rise n d w =>
    rw [Wz,Zt,Zt]
    have hm:=h m
    by_cases z:m=n
    ·rw [if_pos z]; cases e1:f m <;> cases e2:g m <;> rw [e1,e2] at hm <;> first | rfl | cases hm
    ·rw [if_neg z]; cases e1:f m <;> cases e2:g m <;> rw [e1,e2] at hm <;> first | rfl | cases hm
   | die n d w=>rw [Wz,Zt,Zt,h m]; cases g m <;> rfl
theorem Zqe (ds:List Deed) (n:Str):(kw ds n).isSome=(Zt ds n).isSome:=by
 have:=Zo5 ds (fun _=>none) (fun _=>none) (fun _=>rfl) n
 exact this
structure WtsAt (H:Hp) (L:FL) (ds:List Deed) (wa:Str->Addr):Prop where
 w:∃ kvs:List (Key×V),H L.dw=some (.dK kvs)/\kvs.length<=ds.length/\∀ n l,kw ds n=some l->Z3 kvs (.inr n)=some (.ref (wa n))/\H (wa n)=some (.dK l)/\l.length<=ds.length
 ord:∃ kvs:List (Key×V),H L.dc=some (.dK kvs)/\(kvs.map fun p=>kV p.1)=(Uh ds).map V.str
 ap:∀ n l,kw ds n=some l->wa n≠L.dc/\wa n≠L.dw/\wa n≠L.dd/\wa n≠L.dh
 inj:∀ n m l l',kw ds n=some l->kw ds m=some l'->wa n=wa m->n=m
theorem WtsAt.keep {H H':Hp}{L:FL}{ds:List Deed}{wa:Str->Addr}(h:WtsAt H L ds wa) (k:Zjc H H'):WtsAt H' L ds wa:=by
 obtain ⟨⟨k1,w1,w2,w3⟩,⟨k2,o1,o2⟩,ap,inj⟩:=h
 exact ⟨⟨k1,k _ _ (fun _ z=>nomatch z) w1,w2,fun n l e=>let ⟨a,b,c⟩:=w3 n l e; ⟨a,k _ _ (fun _ z=>nomatch z) b,c⟩⟩,⟨k2,k _ _ (fun _ z=>nomatch z) o1,o2⟩,ap,inj⟩
theorem WtsAt.start {H:Hp}{L:FL}{wa:Str->Addr}(h:FolkAt C H L []):WtsAt H L [] wa:=by
 obtain ⟨k,w1,w2⟩:=h.w
 obtain ⟨k2,c1,c2,_⟩:=h.c
 exact ⟨⟨k,w1,w2,(fun n l e=>by cases e)⟩,⟨k2,c1,by rw [List.eq_nil_of_length_eq_zero (Nat.le_zero.mp c2)]; rfl⟩,(fun n l e=>by cases e),(fun n m l l' e=>by cases e)⟩
def Yas (H:Hp) (L:FL) (ds:List Deed) (wa:Str->Addr):Prop:=∃ kvs:List (Key×V),H L.dw=some (.dK kvs)/\∀ p∈kvs,∃ n l,kw ds n=some l/\p=(Sum.inr n,V.ref (wa n))
def own (L:FL) (ds:List Deed) (wa:Str->Addr) (b:Addr):Prop:=b=L.p\/b=L.dc\/b=L.dw\/b=L.dd\/b=L.dh\/∃ n l,kw ds n=some l/\b=wa n
structure Fk (C:Addr) (H:Hp) (L:FL) (ds:List Deed) (wa:Str->Addr):Prop where
 f:FolkAt C H L ds
 w:WtsAt H L ds wa
 all:Yas H L ds wa
def Touch (L:FL) (ds:List Deed) (wa:Str->Addr) (H H':Hp):Prop:=∀ b o,H b=some o->¬ own L ds wa b->H' b=some o
def Zfb (L:FL) (ds:List Deed) (wa:Str->Addr) (ds':List Deed) (wa':Str->Addr) (H:Hp):Prop:=∀ b,own L ds' wa' b->own L ds wa b\/H b=none
theorem Fk.at {H H':Hp}{L:FL}{ds:List Deed}{wa:Str->Addr}(h:Fk C H L ds wa) (k:∀ b o,own L ds wa b->H b=some o->H' b=some o):Fk C H' L ds wa:=by
 obtain ⟨⟨⟨dx,ob⟩,⟨k1,c1,c2⟩,⟨k2,w1,w2⟩,⟨k3,d1,d2⟩,⟨k4,h1,h2⟩,a1,a2,a3,a4,a5,a6⟩,⟨⟨k5,x1,x2,x3⟩,⟨k6,o1,o2⟩,ap,inj⟩,⟨k7,y1,y2⟩⟩:=h
 have kp:=k L.p _ (.inl rfl) ob
 have kc:=fun o=>k L.dc o (.inr (.inl rfl))
 have kw':=fun o=>k L.dw o (.inr (.inr (.inl rfl)))
 exact ⟨⟨⟨dx,kp⟩,⟨k1,kc _ c1,c2⟩,⟨k2,kw' _ w1,w2⟩,⟨k3,k L.dd _ (.inr (.inr (.inr (.inl rfl)))) d1,d2⟩,⟨k4,k L.dh _ (.inr (.inr (.inr (.inr (.inl rfl))))) h1,h2⟩,a1,a2,a3,a4,a5,a6⟩,
  ⟨⟨k5,kw' _ x1,x2,fun n l e=>let ⟨a,b,c⟩:=x3 n l e; ⟨a,k _ _ (.inr (.inr (.inr (.inr (.inr ⟨n,l,e,rfl⟩))))) b,c⟩⟩,⟨k6,kc _ o1,o2⟩,ap,inj⟩,⟨k7,kw' _ y1,y2⟩⟩
theorem Fk.there {H:Hp}{L:FL}{ds:List Deed}{wa:Str->Addr}(h:Fk C H L ds wa) {b:Addr}(hb:own L ds wa b):∃ o,H b=some o/\(∀ xs,o ≠ .lst xs)/\∀ xs,o ≠ .tup xs:=by
 obtain ⟨⟨⟨dx,ob⟩,⟨k1,c1,c2⟩,⟨k2,w1,w2⟩,⟨k3,d1,d2⟩,⟨k4,h1,h2⟩,_⟩,⟨⟨k5,x1,x2,x3⟩,_⟩,_⟩:=h
 rcases hb with rfl | rfl | rfl | rfl | rfl | ⟨n,l,e,rfl⟩
 ·exact ⟨_,ob,(fun _ z=>nomatch z),(fun _ z=>nomatch z)⟩
 ·exact ⟨_,c1,(fun _ z=>nomatch z),(fun _ z=>nomatch z)⟩
 ·exact ⟨_,w1,(fun _ z=>nomatch z),(fun _ z=>nomatch z)⟩
 ·exact ⟨_,d1,(fun _ z=>nomatch z),(fun _ z=>nomatch z)⟩
 ·exact ⟨_,h1,(fun _ z=>nomatch z),(fun _ z=>nomatch z)⟩
 ·exact ⟨_,(x3 n l e).2.1,(fun _ z=>nomatch z),(fun _ z=>nomatch z)⟩
theorem Touch.lt {H H':Hp}{L:FL}{ds:List Deed}{wa:Str->Addr}(h:Fk C H L ds wa) (k:Touch L ds wa H H'):SameLT H H' :=
 ⟨fun b xs e=>k b _ e fun hb=>by obtain ⟨o',e',n1,_⟩:=h.there hb; rw [e] at e'; cases e'; exact n1 xs rfl,fun b xs e=>k b _ e fun hb=>by obtain ⟨o',e',_,n2⟩:=h.there hb; rw [e] at e'; cases e'; exact n2 xs rfl⟩
def Zo6 (C:Addr):Sp:=fun vs H Q _=>∃ (L:FL) (ds:List Deed) (wa:Str->Addr) (n:Str) (day wt:Int),vs = [.ref L.p,.str n,.int day,.int wt]/\Fk C H L ds wa/\ds.length < 40/\Yv n/\0<=day/\day<=9999/\1<=wt/\wt<=1000/\Zt ds n=none /\
 ∀ (wa':Str->Addr) (H':Hp),Fk C H' L (ds ++ [.come n day wt]) wa'->Touch L ds wa H H'->Zfb L ds wa (ds ++ [.come n day wt]) wa' H->Q .non H'
abbrev Za4:Stmt:=Ye (top 45) 1
theorem Z6g:FnScope ["self", "name", "day", "weight"] ["self", "name", "day", "weight"] (Zb Za4):=⟨rfl,rfl,rfl,by decide +kernel,rfl,by decide +kernel,by decide +kernel⟩
theorem Zll:Nm (Zb Za4) "day" .local:=by decide +kernel
theorem Zlm:Nm (Zb Za4) "name" .local:=by decide +kernel
theorem Zln:Nm (Zb Za4) "self" .local:=by decide +kernel
theorem Zsg:Nm (Zb Za4) "weight" .local:=by decide +kernel
theorem Z6h (Zjm:HasM K C "come" "Folk.come" Za4) (Tc:TxC K C) (M_check_coming:Mt P w K mg base C "check_coming" ["self", "name", "day", "weight"] 2 (Zg5 C)) :
  Mt P w K mg base C "come" ["self", "name", "day", "weight"] 3 (Zo6 C):=by
 refine Zjm.mtQ Z6g (fun _ _ _ _ _ _ us hl=>match us,hl with | [_,_,_,_],_=>rfl) (fun vs H Q E h=>?_) (fun f cdv A outer s H vs Q E hr h=>?_)
 ·obtain ⟨L,ds,wa,n,day,wt,rfl,_⟩:=h
  rfl
 ·obtain ⟨L,ds,wa,n,day,wt,rfl,K0,hl,hnm,d0,d1,w0,w1,hc,k⟩:=h
  refine ⟨_,(Zf (Zv (Z6 (qvN 0 Zln) Tc.cl M_check_coming (hr.mono (by lia)) (Za (qvN 1 Zlm) (Za (qvN 2 Zll) (Za (qvN 3 Zsg) Zc)))))
 (Zf (U6 hr (Zq (qvN 0 Zln)) (qvN 1 Zlm) (qvN 2 Zll))
 (Zg (U6 hr (Zq (qvN 0 Zln)) (qvN 1 Zlm) (Zy0 (qvN 2 Zll) (qvN 3 Zsg)))))),?_⟩
  have F0:=K0.f
  have W0:=K0.w
  have hz:(5000:Nat)<=sizeLine:=by decide
  obtain ⟨dx0,ob0⟩:=F0.ob
  refine ⟨_,rfl,L.p,dx0,_,rfl,ob0,Yw _ _ _ _ (by decide +kernel),_,rfl,_,rfl,_,rfl,L,ds,n,day,wt,rfl,F0,hl,hnm,d0,d1,w0,w1,hc,fun H1 s1=>?_⟩
  have F:=F0.keep (Same.n s1)
  have W:=W0.keep (Same.n s1)
  obtain ⟨k9,y8,y9⟩:=K0.all
  have y7:=s1 _ _ y8
  have hkn:kw ds n=none:=by
   have:=Zqe ds n
   rw [hc] at this
   cases e:kw ds n with
   | none=>rfl
   | some l=>rw [e] at this; cases this
  obtain ⟨⟨dx,ob⟩,⟨k1,c1,c2,c3⟩,_,⟨k3,e1,e2,e3⟩,⟨k4,h1,h2,h3⟩,a1,a2,a3,a4,a5,a6⟩:=F
  obtain ⟨⟨k2,w2,w3,w4⟩,⟨k1',o1,o2⟩,wap,winj⟩:=W
  rw [c1] at o1
  cases o1
  have np:L.p≠L.dc:=fun z=>by rw [z,c1] at ob; cases ob
  have np2:L.p≠L.dw:=fun z=>by rw [z,w2] at ob; cases ob
  refine ⟨_,rfl,_,rfl,L.p,C,dx,_,_,rfl,ob,Tc.cl,Tc.nc,Zdx _ _ _ _,_,rfl,L.dc,_,rfl,DPut.k (k:=Sum.inr n) c1 (by lia),?_⟩
  have T1:=SameLT.updD (kvs':=Z2 k1 (Sum.inr n) (.int day)) c1
  have g0:∀ b o,b≠L.dc->H1 b=some o->(upd H1 L.dc (.dK (Z2 k1 (Sum.inr n) (.int day)))) b=some o:=fun b o nb e=>by rw [Zd nb]; exact e
  have g2:(upd H1 L.dc (.dK (Z2 k1 (Sum.inr n) (.int day)))) L.dc=some (.dK (Z2 k1 (Sum.inr n) (.int day))):=Zi
  generalize (upd H1 L.dc (.dK (Z2 k1 (Sum.inr n) (.int day))))=H2 at T1 g0 g2 ⊢
  have g1:=g0 _ _ np ob
  have g3:=g0 _ _ a1.symm w2
  have g4:=g0 _ _ a2.symm e1
  have g5:=g0 _ _ a3.symm h1
  intro q hq
  refine ⟨_,rfl,_,rfl,Zi,[(Sum.inl day,.int wt)],rfl,by show 1<=15; decide,?_⟩
  have S3:Same H2 (upd (upd H2 q (.dK [])) q (.dK (U2 [] [(Sum.inl day,.int wt)]))):=fun b o e=>by rw [Zd (Zj e hq),Zd (Zj e hq)]; exact e
  have kq:(upd (upd H2 q (.dK [])) q (.dK (U2 [] [(Sum.inl day,.int wt)]))) q=some (.dK [(Sum.inl day,.int wt)]):=Zi
  generalize (upd (upd H2 q (.dK [])) q (.dK (U2 [] [(Sum.inl day,.int wt)])))=H3 at S3 kq ⊢
  refine ⟨_,rfl,L.p,C,dx,_,_,rfl,S3 _ _ g1,Tc.cl,Tc.nw,Zud _ _ _ _,_,rfl,L.dw,_,rfl,DPut.k (k:=Sum.inr n) (S3 _ _ g3) (by lia),?_⟩
  have T4:=SameLT.updD (kvs':=Z2 k2 (Sum.inr n) (.ref q)) (S3 _ _ g3)
  have ll:=Um k1 (Sum.inr n:Key) (V.int day)
  have ll2:=Um k2 (Sum.inr n:Key) (V.ref q)
  have lapp:(ds ++ [Deed.come n day wt]).length=ds.length+1:=by rw [xJ]; rfl
  have q1:q≠L.dc:=fun z=>by rw [z,g2] at hq; cases hq
  have q2:q≠L.dw:=fun z=>by rw [z,g3] at hq; cases hq
  have q3:q≠L.dd:=fun z=>by rw [z,g4] at hq; cases hq
  have q4:q≠L.dh:=fun z=>by rw [z,g5] at hq; cases hq
  have old:∀ m l,kw ds m=some l->H3 (wa m)=some (.dK l)/\wa m≠q:=fun m l e=>by
   have hh:=g0 _ _ (wap m l e).1 (w4 m l e).2.1
   exact ⟨S3 _ _ hh,Zj hh hq⟩
  have hkw:∀ m l,kw (ds ++ [.come n day wt]) m=some l->(m=n/\l = [(Sum.inl day,.int wt)])\/(m≠n/\kw ds m=some l):=fun m l e=>by
   rw [Zbs,Wz] at e
   split at e
   ·rename_i z; cases e; exact .inl ⟨z,rfl⟩
   ·rename_i z; exact .inr ⟨z,e⟩
  refine k (fun m=>if m=n then q else wa m) _ ⟨⟨⟨dx,by rw [Zd np2]; exact S3 _ _ g1⟩,⟨_,by rw [Zd a1]; exact S3 _ _ g2,by lia,fun x=>?_⟩,⟨_,Zi,by lia⟩,⟨k3,by rw [Zd a4.symm]; exact S3 _ _ g4,by lia,fun x=>?_⟩,⟨k4,by rw [Zd a5.symm]; exact S3 _ _ g5,by lia,fun x=>?_⟩,a1,a2,a3,a4,a5,a6⟩,
   ⟨⟨_,Zi,by lia,fun m l e=>?_⟩,⟨_,by rw [Zd a1]; exact S3 _ _ g2,?_⟩,fun m l e=>?_,fun m m' l l' e e' z=>?_⟩,⟨_,Zi,fun p hp=>?_⟩⟩ (fun b o e hn=>?_) (fun b hb=>?_)
  ·rw [Zbn,Zv1 hc]
   by_cases e:x=n
   ·subst e; rw [if_pos rfl,if_pos rfl]; rfl
   ·rw [if_neg (fun z=>e (Sum.inr.inj z)),if_neg e]; exact c3 x
  ·rw [Zgn]; exact e3 x
  ·rw [Zgn]; exact h3 x
  ·(try dsimp only)
   rcases hkw m l e with ⟨rfl,rfl⟩ | ⟨hm,e'⟩
   ·rw [if_pos rfl]
    exact ⟨by rw [Zbn,if_pos rfl],by rw [Zd q2]; exact kq,by rw [lapp]; show 1<=_; lia⟩
   ·rw [if_neg hm]
    obtain ⟨y1,y2,y3⟩:=w4 m l e'
    exact ⟨by rw [Zbn,if_neg (fun z=>hm (Sum.inr.inj z))]; exact y1,by rw [Zd (wap m l e').2.1]; exact (old m l e').1,by lia⟩
  ·have hv:Z3 k1 (Sum.inr n:Key)=none:=by rw [c3,hc]; rfl
   rw [Zn2 _ hv,xX,Zna,xX,o2]
   rfl
  ·(try dsimp only)
   rcases hkw m l e with ⟨rfl,rfl⟩ | ⟨hm,e'⟩
   ·rw [if_pos rfl]; exact ⟨q1,q2,q3,q4⟩
   ·rw [if_neg hm]; exact wap m l e'
  ·(try dsimp only at z)
   rcases hkw m l e with ⟨rfl,rfl⟩ | ⟨hm,y⟩
   ·rcases hkw m' l' e' with ⟨rfl,rfl⟩ | ⟨hm',y'⟩
    ·rfl
    ·rw [if_pos rfl,if_neg hm'] at z
     exact absurd z.symm (old m' l' y').2
   ·rcases hkw m' l' e' with ⟨rfl,rfl⟩ | ⟨hm',y'⟩
    ·rw [if_neg hm,if_pos rfl] at z
     exact absurd z (old m l y).2
    ·rw [if_neg hm,if_neg hm'] at z
     exact winj m m' l l' y y' z
  ·rw [w2] at y7
   cases y7
   rcases Zy9 hp with rfl | hp
   ·exact ⟨n,[(Sum.inl day,.int wt)],by rw [Zbs,Wz,if_pos rfl],by (try dsimp only); rw [if_pos rfl]⟩
   ·obtain ⟨m,l,e,rfl⟩:=y9 p hp
    have hm:m≠n:=fun z=>by rw [z,hkn] at e; cases e
    exact ⟨m,l,by rw [Zbs,Wz,if_neg hm]; exact e,by (try dsimp only); rw [if_neg hm]⟩
  ·rw [Zd (fun z=>hn (.inr (.inr (.inl z))))]
   exact S3 _ _ (g0 b o (fun z=>hn (.inr (.inl z))) (s1 _ _ e))
  ·rcases hb with z | z | z | z | z | ⟨m,l,e,z⟩
   ·exact .inl (.inl z)
   ·exact .inl (.inr (.inl z))
   ·exact .inl (.inr (.inr (.inl z)))
   ·exact .inl (.inr (.inr (.inr (.inl z))))
   ·exact .inl (.inr (.inr (.inr (.inr (.inl z)))))
   ·(try dsimp only at z)
    rcases hkw m l e with ⟨rfl,rfl⟩ | ⟨hm,y⟩
    ·rw [if_pos rfl] at z
     refine .inr ?_
     cases eq:H b with
     | none=>rfl
     | some o =>
      have:=g0 _ _ (by rw [z]; exact q1) (s1 _ _ eq)
      rw [z,hq] at this
      cases this
    ·rw [if_neg hm] at z
     exact .inl (.inr (.inr (.inr (.inr (.inr ⟨m,l,y,z⟩)))))
end
section
variable {P:Program}{w:World}{K:uFg}{mg:Str->Option Value}{base:Heap}{C:Addr}
def Zhf (C:Addr):Sp:=fun vs H Q _=>∃ (L:FL) (ds:List Deed) (n:Str) (day:Int),vs = [.ref L.p,.str n,.int day]/\FolkAt C H L ds/\Wi ds n day=false/\Q .non H
abbrev Zcj:Stmt:=Ye (top 45) 19
theorem Z6i:FnScope ["self", "name", "day"] ["self", "name", "day"] (Zb Zcj):=⟨rfl,rfl,rfl,by decide +kernel,rfl,by decide +kernel,by decide +kernel⟩
theorem Z6j:Nm (Zb Zcj) "day" .local:=by decide +kernel
theorem Z6k:Nm (Zb Zcj) "name" .local:=by decide +kernel
theorem Z6l:Nm (Zb Zcj) "self" .local:=by decide +kernel
theorem Z6m (Zjn:HasM K C "check_living" "Folk.check_living" Zcj) (Tc:TxC K C) (M_died_by:Mt P w K mg base C "died_by" ["self", "name", "day"] 1 (Zhe C)):Mt P w K mg base C "check_living" ["self", "name", "day"] 2 (Zhf C):=by
 refine Zjn.mtQ Z6i (fun _ _ _ _ _ _ us hl=>match us,hl with | [_,_,_],_=>rfl) (fun vs H Q E h=>?_) (fun f cdv A outer s H vs Q E hr h=>?_)
 ·obtain ⟨L,ds,n,day,rfl,_⟩:=h
  rfl
 ·obtain ⟨L,ds,n,day,rfl,F,hd,k⟩:=h
  refine ⟨_,(Zg (Zl (Wb (Z6 (qvN 0 Z6l) Tc.cl M_died_by (hr.mono (by lia)) (Za (qvN 1 Z6k) (Za (qvN 2 Z6j) Zc)))) (Zg Yh) Zn)),?_⟩
  obtain ⟨dx,ob⟩:=F.ob
  refine ⟨_,rfl,L.p,dx,_,rfl,ob,Yw _ _ _ _ (by decide +kernel),_,rfl,_,rfl,L,ds,n,day,rfl,F,_,rfl,?_⟩
  rw [hd]
  exact Zx k
def Zg6 (C:Addr):Sp:=fun vs H Q _=>∃ (L:FL) (ds:List Deed) (n:Str) (day wt d0:Int),vs = [.ref L.p,.str n,.int day,.int wt]/\FolkAt C H L ds/\0<=day/\day<=9999/\1<=wt/\wt<=1000/\Zt ds n=some d0/\d0<=day/\Wi ds n day=false/\Q .non H
abbrev Ur:Stmt:=Ye (top 45) 15
theorem Z6n:FnScope ["self", "name", "day", "weight"] ["self", "name", "day", "weight"] (Zb Ur):=⟨rfl,rfl,rfl,by decide +kernel,rfl,by decide +kernel,by decide +kernel⟩
theorem Z6o:Nm (Zb Ur) "check_day" .globalImplicit:=by decide +kernel
theorem Z6p:Nm (Zb Ur) "check_weight" .globalImplicit:=by decide +kernel
theorem Zlo:Nm (Zb Ur) "day" .local:=by decide +kernel
theorem Zlp:Nm (Zb Ur) "name" .local:=by decide +kernel
theorem Zlq:Nm (Zb Ur) "self" .local:=by decide +kernel
theorem Z6q:Nm (Zb Ur) "weight" .local:=by decide +kernel
theorem Z6r (Zjo:HasM K C "check_rise" "Folk.check_rise" Ur) (Tc:TxC K C) (Vu:Fn P w K mg base "check_day" ["day"] 1 Za3) (Zjl:Fn P w K mg base "check_weight" ["weight"] 1 Zlk) (M_check_known:Mt P w K mg base C "check_known" ["self", "name"] 1 (Zc0 C)) (M_check_there:Mt P w K mg base C "check_there" ["self", "name", "day"] 1 (Zh4 C))
  (M_check_living:Mt P w K mg base C "check_living" ["self", "name", "day"] 2 (Zhf C)):Mt P w K mg base C "check_rise" ["self", "name", "day", "weight"] 3 (Zg6 C):=by
 refine Zjo.mtQ Z6n (fun _ _ _ _ _ _ us hl=>match us,hl with | [_,_,_,_],_=>rfl) (fun vs H Q E h=>?_) (fun f cdv A outer s H vs Q E hr h=>?_)
 ·obtain ⟨L,ds,n,day,wt,d0,rfl,_⟩:=h
  rfl
 ·obtain ⟨L,ds,n,day,wt,e0,rfl,F,d0,d1,w0,w1,hc,hd,hv,k⟩:=h
  refine ⟨_,(Zf (Zv (Zw Vu (hr.mono (by lia)) Z6o (Za (qvN 2 Zlo) Zc)))
 (Zf (Zv (Zw Zjl (hr.mono (by lia)) Z6p (Za (qvN 3 Z6q) Zc)))
 (Zf (Zv (Z6 (qvN 0 Zlq) Tc.cl M_check_known (hr.mono (by lia)) (Za (qvN 1 Zlp) Zc)))
 (Zf (Zv (Z6 (qvN 0 Zlq) Tc.cl M_check_there (hr.mono (by lia)) (Za (qvN 1 Zlp) (Za (qvN 2 Zlo) Zc))))
 (Zg (Zv (Z6 (qvN 0 Zlq) Tc.cl M_check_living (hr.mono (by lia)) (Za (qvN 1 Zlp) (Za (qvN 2 Zlo) Zc))))))))),?_⟩
  obtain ⟨dx,ob⟩:=F.ob
  refine ⟨_,rfl,day,rfl,d0,d1,?_⟩
  refine ⟨_,rfl,wt,rfl,w0,w1,?_⟩
  refine ⟨_,rfl,L.p,dx,_,rfl,ob,Yw _ _ _ _ (by decide +kernel),_,rfl,L,ds,n,e0,rfl,F,hc,?_⟩
  refine ⟨_,rfl,L.p,dx,_,rfl,ob,Yw _ _ _ _ (by decide +kernel),_,rfl,_,rfl,L,ds,n,e0,day,rfl,F,hc,hd,?_⟩
  exact ⟨_,rfl,L.p,dx,_,rfl,ob,Yw _ _ _ _ (by decide +kernel),_,rfl,_,rfl,L,ds,n,day,rfl,F,hv,k⟩
def Zqf (C:Addr):Sp:=fun vs H Q _=>∃ (L:FL) (ds:List Deed) (wa:Str->Addr) (n:Str) (day wt d0:Int),vs = [.ref L.p,.str n,.int day,.int wt]/\Fk C H L ds wa/\ds.length<=1000/\0<=day/\day<=9999/\1<=wt/\wt<=1000/\Zt ds n=some d0/\d0<=day/\Wi ds n day=false /\
 ∀ H',Fk C H' L (ds ++ [.rise n day wt]) wa->Touch L ds wa H H'->Zfb L ds wa (ds ++ [.rise n day wt]) wa H->Q .non H'
abbrev Za5:Stmt:=Ye (top 45) 2
theorem Z6s:FnScope ["self", "name", "day", "weight"] ["self", "name", "day", "weight"] (Zb Za5):=⟨rfl,rfl,rfl,by decide +kernel,rfl,by decide +kernel,by decide +kernel⟩
theorem Zsh:Nm (Zb Za5) "day" .local:=by decide +kernel
theorem Zsi:Nm (Zb Za5) "name" .local:=by decide +kernel
theorem Zsj:Nm (Zb Za5) "self" .local:=by decide +kernel
theorem Zsk:Nm (Zb Za5) "weight" .local:=by decide +kernel
theorem Z6t (Zjp:HasM K C "rise" "Folk.rise" Za5) (Tc:TxC K C) (M_check_rise:Mt P w K mg base C "check_rise" ["self", "name", "day", "weight"] 3 (Zg6 C)):Mt P w K mg base C "rise" ["self", "name", "day", "weight"] 4 (Zqf C):=by
 refine Zjp.mtQ Z6s (fun _ _ _ _ _ _ us hl=>match us,hl with | [_,_,_,_],_=>rfl) (fun vs H Q E h=>?_) (fun f cdv A outer s H vs Q E hr h=>?_)
 ·obtain ⟨L,ds,wa,n,day,wt,d0,rfl,_⟩:=h
  rfl
 ·obtain ⟨L,ds,wa,n,day,wt,e0,rfl,K0,hl,d0,d1,w0,w1,hc,hd,hv,k⟩:=h
  refine ⟨_,(Zf (Zv (Z6 (qvN 0 Zsj) Tc.cl M_check_rise (hr.mono (by lia)) (Za (qvN 1 Zsi) (Za (qvN 2 Zsh) (Za (qvN 3 Zsk) Zc)))))
 (Zg (U6 hr (Zel hr (Zq (qvN 0 Zsj)) (qvN 1 Zsi) (fun _ _=>rfl)) (qvN 2 Zsh) (qvN 3 Zsk)))),?_⟩
  have F:=K0.f
  have W:=K0.w
  obtain ⟨k9,y8,y9⟩:=K0.all
  have hz:(5000:Nat)<=sizeLine:=by decide
  obtain ⟨dx0,ob0⟩:=F.ob
  refine ⟨_,rfl,L.p,dx0,_,rfl,ob0,Yw _ _ _ _ (by decide +kernel),_,rfl,_,rfl,_,rfl,L,ds,n,day,wt,e0,rfl,F,d0,d1,w0,w1,hc,hd,hv,?_⟩
  obtain ⟨l,hkl⟩:∃ l,kw ds n=some l:=by
   have:=Zqe ds n
   rw [hc] at this
   cases e:kw ds n with
   | none=>rw [e] at this; cases this
   | some l=>exact ⟨l,rfl⟩
  obtain ⟨⟨dx,ob⟩,⟨k1,c1,c2,c3⟩,_,⟨k3,e1,e2,e3⟩,⟨k4,h1,h2,h3⟩,a1,a2,a3,a4,a5,a6⟩:=F
  obtain ⟨⟨k2,w2,w3,w4⟩,⟨k1',o1,o2⟩,wap,winj⟩:=W
  rw [c1] at o1
  cases o1
  obtain ⟨y1,y2,y3⟩:=w4 n l hkl
  obtain ⟨z1,z2,z3,z4⟩:=wap n l hkl
  have zp:L.p≠wa n:=fun z=>by rw [z,y2] at ob; cases ob
  have g:=DGet.k (k:=Sum.inr n) w2
  rw [y1] at g
  refine ⟨_,rfl,_,rfl,L.p,C,dx,_,_,rfl,ob,Tc.cl,Tc.nw,Zud _ _ _ _,_,rfl,L.dw,.ref (wa n),rfl,g,_,rfl,wa n,_,rfl,DPut.k (k:=Sum.inl day) y2 (by lia),?_⟩
  have T1:=SameLT.updD (kvs':=Z2 l (Sum.inl day) (.int wt)) y2
  have ll:=Um l (Sum.inl day:Key) (V.int wt)
  have lapp:(ds ++ [Deed.rise n day wt]).length=ds.length+1:=by rw [xJ]; rfl
  have hkw:∀ m l',kw (ds ++ [.rise n day wt]) m=some l'->(m=n/\l'=Z2 l (Sum.inl day) (.int wt))\/(m≠n/\kw ds m=some l'):=fun m l' e=>by
   rw [Zbs,Wz] at e
   split at e
   ·rename_i z
    subst z
    rw [hkl] at e
    cases e
    exact .inl ⟨rfl,rfl⟩
   ·rename_i z; exact .inr ⟨z,e⟩
  have old:∀ m l',kw (ds ++ [.rise n day wt]) m=some l'->∃ l'',kw ds m=some l'':=fun m l' e=>by
   rcases hkw m l' e with ⟨rfl,_⟩ | ⟨_,y⟩
   ·exact ⟨l,hkl⟩
   ·exact ⟨l',y⟩
  refine k _ ⟨⟨⟨dx,by rw [Zd zp]; exact ob⟩,⟨k1,by rw [Zd z1.symm]; exact c1,by lia,fun x=>by rw [Znb]; exact c3 x⟩,⟨k2,by rw [Zd z2.symm]; exact w2,by lia⟩,⟨k3,by rw [Zd z3.symm]; exact e1,by lia,fun x=>by rw [Zd6]; exact e3 x⟩,⟨k4,by rw [Zd z4.symm]; exact h1,by lia,fun x=>by rw [Zd6]; exact h3 x⟩,a1,a2,a3,a4,a5,a6⟩,
   ⟨⟨k2,by rw [Zd z2.symm]; exact w2,by lia,fun m l' e=>?_⟩,⟨k1,by rw [Zd z1.symm]; exact c1,?_⟩,fun m l' e=>?_,fun m m' l1 l2 e e' z=>?_⟩,⟨k9,by rw [Zd z2.symm]; exact y8,fun p hp=>?_⟩⟩ (fun b o e hn=>?_) (fun b hb=>?_)
  ·rcases hkw m l' e with ⟨rfl,rfl⟩ | ⟨hm,y⟩
   ·exact ⟨y1,Zi,by lia⟩
   ·obtain ⟨x1,x2,x3⟩:=w4 m l' y
    exact ⟨x1,by rw [Zd (fun z=>hm (winj m n l' l y hkl z))]; exact x2,by lia⟩
  ·rw [Zna,o2]
   show _=((Uh ds) ++ []).map V.str
   rw [List.append_nil]
  ·obtain ⟨l'',y⟩:=old m l' e
   exact wap m l'' y
  ·obtain ⟨x1,y⟩:=old m l1 e
   obtain ⟨x2,y'⟩:=old m' l2 e'
   exact winj m m' x1 x2 y y' z
  ·obtain ⟨m,l',e,rfl⟩:=y9 p hp
   by_cases hm:m=n
   ·subst hm
    exact ⟨m,Z2 l (Sum.inl day) (.int wt),by rw [Zbs,Wz,if_pos rfl,hkl]; rfl,rfl⟩
   ·exact ⟨m,l',by rw [Zbs,Wz,if_neg hm]; exact e,rfl⟩
  ·rw [Zd (fun z=>hn (.inr (.inr (.inr (.inr (.inr ⟨n,l,hkl,z⟩))))))]
   exact e
  ·rcases hb with z | z | z | z | z | ⟨m,l',e,z⟩
   ·exact .inl (.inl z)
   ·exact .inl (.inr (.inl z))
   ·exact .inl (.inr (.inr (.inl z)))
   ·exact .inl (.inr (.inr (.inr (.inl z))))
   ·exact .inl (.inr (.inr (.inr (.inr (.inl z)))))
   ·obtain ⟨l'',y⟩:=old m l' e
    exact .inl (.inr (.inr (.inr (.inr (.inr ⟨m,l'',y,z⟩)))))
def Zhg (C:Addr):Sp:=fun vs H Q _=>∃ (L:FL) (ds:List Deed) (n:Str),vs = [.ref L.p,.str n]/\FolkAt C H L ds/\Z5 ds n=none/\Q .non H
abbrev Zdz:Stmt:=Ye (top 45) 20
theorem Z6u:FnScope ["self", "name"] ["self", "name"] (Zb Zdz):=⟨rfl,rfl,rfl,by decide +kernel,rfl,by decide +kernel,by decide +kernel⟩
theorem Z6v:Nm (Zb Zdz) "name" .local:=by decide +kernel
theorem Z6w:Nm (Zb Zdz) "self" .local:=by decide +kernel
theorem Z6x (Zjq:HasM K C "check_untold" "Folk.check_untold" Zdz) (Tc:TxC K C):Mt P w K mg base C "check_untold" ["self", "name"] 1 (Zhg C):=by
 refine Zjq.mtQ Z6u (fun _ _ _ _ _ _ us hl=>match us,hl with | [_,_],_=>rfl) (fun vs H Q E h=>?_) (fun f cdv A outer s H vs Q E hr h=>?_)
 ·obtain ⟨L,ds,n,rfl,_⟩:=h
  rfl
 ·obtain ⟨L,ds,n,rfl,F,c5,k⟩:=h
  refine ⟨_,(Zg (Zl (Zp (Zhv hr) (qvN 1 Z6v) (Zq (qvN 0 Z6w)) rfl) (Zg Yh) Zn)),?_⟩
  obtain ⟨dx,ob⟩:=F.ob
  obtain ⟨kvs,e1,e2,e3⟩:=F.d
  have g:=DGet.k (k:=Sum.inr n) e1
  rw [e3,c5] at g
  exact ⟨_,rfl,_,rfl,L.p,C,dx,_,_,rfl,ob,Tc.cl,Tc.nd,Zli _ _ _ _,L.dd,_,rfl,g,_,rfl,Zx k⟩
end
section
structure Enr where
 at_:Int
 d:Str
 c:Str
 m:Int
def Zd0 (e:Enr):D:=.tup [.int e.at_,.str e.d,.str e.c,.int e.m]
abbrev Row:=Str×Str×Int
def Wd (r:Row):D:=.tup [.str r.1,.str r.2.1,.int r.2.2]
def Zbe (r:Row):List Key:=[.inr r.1,.inr r.2.1,.inl r.2.2]
def Wv (a b x y:Str) (m:Int):Int:=(if x=a/\y=b then m else 0) - (if x=b/\y=a then m else 0)
theorem Zxn (a b x y:Str) (m:Int):Wv b a x y m = - Wv a b x y m:=by unfold Wv; lia
def Zai (f:Str->Str) (day:Int) (e:Enr) (a b:Str):Int:=if e.at_<=day then Wv a b (f e.d) (f e.c) e.m else 0
def net (f:Str->Str) (day:Int) (es:List Enr) (a b:Str):Int:=(es.map fun e=>Zai f day e a b).sum
theorem Zza {f:Str->Str}{day:Int}{es:List Enr}{i:Nat}{e:Enr}(h:es[i]? = some e) (a b:Str):net f day (es.take (i+1)) a b=net f day (es.take i) a b+Zai f day e a b:=by
 unfold net
 rw [yG,h,xX,List.sum_append]
 simp
theorem Zoe (f:Str->Str) (day:Int) (a b:Str):∀ es:List Enr,net f day es b a = - net f day es a b
 | []=>rfl
 | e::es=>by
  have ih:=Zoe f day a b es
  unfold net at ih ⊢
  rw [xP,xP,List.sum_cons,List.sum_cons,ih]
  have:Zai f day e b a = - Zai f day e a b:=by unfold Zai; rw [Zxn]; split <;> lia
  lia
def Due (g:Str->Str->Int) (r:Row):Prop:=r.1≠r.2.1/\0 < r.2.2/\g r.1 r.2.1=r.2.2
def UpR (rs:List Row):Prop:=rs.Pairwise fun a b=>ltK (Zbe b) (Zbe a)=false
structure IsOwed (g:Str->Str->Int) (rs:List Row):Prop where
 up:UpR rs
 nd:rs.Nodup
 mem:∀ r,r∈rs↔Due g r
theorem Zzb {a b:Row}(h:Zbe a=Zbe b):a=b:=by
 obtain ⟨a1,a2,a3⟩:=a
 obtain ⟨b1,b2,b3⟩:=b
 unfold Zbe at h
 injection h with h1 h2
 injection h2 with h2 h3
 injection h3 with h3 _
 cases h1
 cases h2
 cases h3
 rfl
theorem IsOwed.eq {g:Str->Str->Int}{rs rs':List Row}(h:IsOwed g rs) (h':IsOwed g rs'):rs=rs':=by
 refine List.Perm.eq_of_pairwise (fun a b _ _ x y=>?_) h.up h'.up ((List.perm_ext_iff_of_nodup h.nd h'.nd).mpr fun r=>by rw [h.mem,h'.mem])
 exact Zzb (Zhz _ _ rfl y x)
structure Sums (kvs:List (List Key×V)) (g:Str->Str->Int):Prop where
 key:∀ p∈kvs,∃ a b v,p=([.inr a,.inr b],.int v)/\ltS a b=true
 nd:(kvs.map (·.1)).Nodup
 val:∀ a b,ltS a b=true->Z3 kvs [.inr a,.inr b]=some (.int (g a b))\/(Z3 kvs [.inr a,.inr b]=none/\g a b=0)
theorem Sums.nil:Sums [] (fun _ _=>0):=⟨(fun p hp=>nomatch hp),List.nodup_nil,fun a b _=>.inr ⟨rfl,rfl⟩⟩
theorem Zqg {kvs:List (List Key×V)}{k:List Key}{v:V}(h:(kvs.map (·.1)).Nodup):((Z2 kvs k v).map (·.1)).Nodup:=by
 cases e:Z3 kvs k with
 | none=>exact Z0p v h e
 | some x =>
  unfold Z2
  have:(kvs.any fun kv=>decide (kv.1=k))=true:=by rw [Zar,e]; rfl
  rw [if_pos this,List.map_map]
  have e2:((fun x:List Key×V=>x.1)∘fun kv=>if kv.1=k then (kv.1,v) else kv)=fun kv=>kv.1:=by
   funext kv
   show (if kv.1=k then (kv.1,v) else kv).1=kv.1
   split <;> rfl
  rw [e2]
  exact h
theorem Zec {l:List (List Key×V)}{k:List Key}{v:V}{p:List Key×V}(h:p∈Z2 l k v):p=(k,v)\/p∈l:=by
 unfold Z2 at h
 split at h
 ·obtain ⟨q,hq,e⟩:=yO.mp h
  split at e
  ·rename_i e2
   rw [← e,e2]; exact .inl rfl
  ·rw [← e]; exact .inr hq
 ·rcases xS.mp h with z | z
  ·exact .inr z
  ·exact .inl (yC.mp z)
theorem Sums.at {kvs:List (List Key×V)}{g:Str->Str->Int}(h:Sums kvs g) {a b:Str}(hab:ltS a b=true):(Z3 kvs [.inr a,.inr b]).getD (.int 0) = .int (g a b):=by
 rcases h.val a b hab with e | ⟨e,e2⟩
 ·rw [e]; rfl
 ·rw [e,e2]; rfl
theorem key2 {a b x y:Str}:([.inr a,.inr b]:List Key) = [.inr x,.inr y]↔a=x/\b=y:=by
 constructor
 ·intro h
  injection h with h1 h2
  injection h2 with h2 _
  cases h1
  cases h2
  exact ⟨rfl,rfl⟩
 ·rintro ⟨rfl,rfl⟩; rfl
theorem Zez {a b:Str}(h:ltS a b=true):ltS b a=false:=by
 cases e:ltS b a with
 | false=>rfl
 | true=>have:=Z3i h e; rw [Zo2] at this; cases this
theorem Zb0 {a b:Str}(h:ltS a b=true):a≠b:=fun z=>by rw [z,Zo2] at h; cases h
theorem Sums.put {kvs:List (List Key×V)}{g g':Str->Str->Int}(h:Sums kvs g) {x y:Str}(hxy:ltS x y=true) {v:Int}(hv:v=g' x y) (ho:∀ a b,ltS a b=true->¬ (a=x/\b=y)->g' a b=g a b):Sums (Z2 kvs [.inr x,.inr y] (.int v)) g':=by
 refine ⟨fun p hp=>?_,Zqg h.nd,fun a b hab=>?_⟩
 ·rcases Zec hp with rfl | hp
  ·exact ⟨x,y,v,rfl,hxy⟩
  ·exact h.key p hp
 ·rw [Zbn]
  by_cases e:a=x/\b=y
  ·rw [if_pos (key2.mpr e),hv,e.1,e.2]; exact .inl rfl
  ·rw [if_neg (fun z=>e (key2.mp z)),ho a b hab e]; exact h.val a b hab
theorem Sums.eqv {kvs:List (List Key×V)}{g g':Str->Str->Int}(h:Sums kvs g) (ho:∀ a b,ltS a b=true->g' a b=g a b):Sums kvs g' :=
 ⟨h.key,h.nd,fun a b hab=>by rw [ho a b hab]; exact h.val a b hab⟩
def tri (a b:Str) (v:Int):Row:=if 0 < v then (a,b,v) else (b,a,-v)
def U8:List Key×V->Option Row
 | ([.inr a,.inr b],.int v)=>if v=0 then none else some (tri a b v)
 | _=>none
theorem Zgo {a b:Str}{v:Int}{r:Row}(h:U8 ([.inr a,.inr b],.int v)=some r):v≠0/\r=tri a b v:=by
 have h:(if v=0 then none else some (tri a b v))=some r:=h
 by_cases c:v=0
 ·rw [if_pos c] at h; cases h
 ·rw [if_neg c] at h; cases h; exact ⟨c,rfl⟩
theorem Zhh {kvs:List (List Key×V)}{k:List Key}{v:V}(h:Z3 kvs k=some v):(k,v)∈kvs:=by
 unfold Z3 at h
 obtain ⟨p,hp,e⟩:=yI.mp h
 have h1:=List.find?_some hp
 have h2:=List.mem_of_find?_eq_some hp
 have h1:p.1=k:=of_decide_eq_true h1
 rw [← h1,← e]
 exact h2
theorem Zh5:∀ {kvs:List (List Key×V)}{p:List Key×V},(kvs.map (·.1)).Nodup->p∈kvs->Z3 kvs p.1=some p.2
 | q::kvs,p,hn,hp=>by
  rw [xP,xZ] at hn
  rcases xC.mp hp with rfl | hp
  ·exact Vj rfl
  ·rw [Vk (fun z=>hn.1 (by rw [z]; exact yO.mpr ⟨p,hp,rfl⟩))]
   exact Zh5 hn.2 hp
theorem Z1a {g:Str->Str->Int}(ga:∀ a b,g b a = - g a b) {a b:Str}(hab:ltS a b=true) (hv:g a b≠0):Due g (tri a b (g a b)):=by
 unfold tri
 by_cases c : 0 < g a b
 ·rw [if_pos c]; exact ⟨Zb0 hab,c,rfl⟩
 ·rw [if_neg c]; exact ⟨(Zb0 hab).symm,by show 0 < - g a b; lia,ga a b⟩
theorem Zzc {a b a' b':Str}{v v':Int}(h:ltS a b=true) (h':ltS a' b'=true) (e:tri a b v=tri a' b' v'):a=a'/\b=b':=by
 unfold tri at e
 by_cases c : 0 < v <;> by_cases c' : 0 < v'
 ·rw [if_pos c,if_pos c'] at e; injection e with e1 e2; injection e2 with e2 _; exact ⟨e1,e2⟩
 ·rw [if_pos c,if_neg c'] at e; injection e with e1 e2; injection e2 with e2 _; rw [e1,e2,Zez h'] at h; cases h
 ·rw [if_neg c,if_pos c'] at e; injection e with e1 e2; injection e2 with e2 _; rw [e1,e2,Zez h'] at h; cases h
 ·rw [if_neg c,if_neg c'] at e; injection e with e1 e2; injection e2 with e2 _; exact ⟨e2,e1⟩
theorem Sums.owed {kvs:List (List Key×V)}{g:Str->Str->Int}(h:Sums kvs g) (ga:∀ a b,g b a = - g a b) {rs:List Row}(hp:rs.Perm (kvs.filterMap U8)) (hup:UpR rs):IsOwed g rs:=by
 have at_:∀ p∈kvs,∃ a b,p=([.inr a,.inr b],.int (g a b))/\ltS a b=true:=fun p hp=>by
  obtain ⟨a,b,v,rfl,hab⟩:=h.key p hp
  have e:=Zh5 h.nd hp
  refine ⟨a,b,?_,hab⟩
  rcases h.val a b hab with z | ⟨z,_⟩
  ·rw [show Z3 kvs [.inr a,.inr b]=some (.int v) from e] at z
   injection z with z
   injection z with z
   rw [z]
  ·rw [show Z3 kvs [.inr a,.inr b]=some (.int v) from e] at z
   cases z
 refine ⟨hup,hp.nodup_iff.mpr ?_,fun r=>?_⟩
 ·have nd:=h.nd
  unfold List.Nodup at nd ⊢
  rw [List.pairwise_map] at nd
  rw [List.pairwise_filterMap]
  refine List.Pairwise.imp_of_mem ?_ nd
  intro p q hp hq hne r hr r' hr' e
  obtain ⟨a,b,rfl,hab⟩:=at_ p hp
  obtain ⟨a',b',rfl,hab'⟩:=at_ q hq
  have e1:=(Zgo hr).2
  have e2:=(Zgo hr').2
  have:=Zzc hab hab' (e1.symm.trans (e.trans e2))
  exact hne (key2.mpr this)
 ·rw [hp.mem_iff,List.mem_filterMap]
  constructor
  ·rintro ⟨p,hp,hr⟩
   obtain ⟨a,b,rfl,hab⟩:=at_ p hp
   obtain ⟨c,rfl⟩:=Zgo hr
   exact Z1a ga hab c
  ·obtain ⟨x,y,v⟩:=r
   rintro ⟨h1,h2,h3⟩
   have h1:x≠y:=h1
   have h2 : 0 < v:=h2
   have h3:g x y=v:=h3
   by_cases hxy:ltS x y=true
   ·rcases h.val x y hxy with z | ⟨_,z⟩
    ·refine ⟨_,Zhh z,?_⟩
     show (if g x y=0 then none else some (tri x y (g x y)))=some (x,y,v)
     rw [h3,if_neg (by lia)]
     unfold tri
     rw [if_pos h2]
    ·lia
   ·have hyx:ltS y x=true:=by
     cases e:ltS y x with
     | true=>rfl
     | false =>
      have hf:ltS x y=false:=by cases e2:ltS x y with | false=>rfl | true=>exact absurd e2 hxy
      exact absurd (Zo3 hf e) h1
    have h4:=ga x y
    rcases h.val y x hyx with z | ⟨_,z⟩
    ·refine ⟨_,Zhh z,?_⟩
     show (if g y x=0 then none else some (tri y x (g y x)))=some (x,y,v)
     rw [h4,h3,if_neg (by lia)]
     unfold tri
     rw [if_neg (by lia),Int.neg_neg]
    ·lia
end
section
variable {P:Program}{w:World}{K:uFg}{mg:Str->Option Value}{base:Heap}{C:Addr}
theorem Zjr {α:Type} [DecidableEq α]:∀ {l m:List α},l.Nodup->(∀ x∈l,x∈m)->l.length<=m.length
 | [],_,_,_=>yQ _
 | x::l,m,h,hs=>by
  obtain ⟨h1,h2⟩:=xZ.mp h
  have hx:=hs x xR
  have:=Zjr (m:=m.erase x) h2 fun y hy=>(List.mem_erase_of_ne (fun e:y=x=>h1 (e▸hy))).mpr (hs y (xT _ hy))
  rw [List.length_erase_of_mem hx] at this
  have : 0 < m.length:=List.length_pos_of_mem hx
  rw [xG]
  lia
def Zsl:Sp:=fun vs H Q _=>∃ (g:Addr) (kvs:List (List Key×V)) (G:Str->Str->Int) (x y:Str) (m:Int),vs = [.ref g,.str x,.str y,.int m]/\H g=some (.dT kvs)/\Sums kvs G/\kvs.length<=1000 /\
 ∀ (kvs':List (List Key×V)) (H':Hp),H' g=some (.dT kvs')->Sums kvs' (fun a b=>G a b+Wv a b x y m)->kvs'.length<=kvs.length+1->(∀ p∈kvs',p.1 = [.inr x,.inr y]\/p.1 = [.inr y,.inr x]\/p∈kvs)->SameX g H H'->Q .non H'
theorem Zg7 {a b x y:Str}{m:Int}(h1:¬ (x=a/\y=b)) (h2:¬ (x=b/\y=a)):Wv a b x y m=0:=by
 unfold Wv
 rw [if_neg h1,if_neg h2]
 rfl
abbrev Zbf:Stmt:=top 28
theorem Z6y:FnScope ["sums", "debtor", "creditor", "many"] ["sums", "debtor", "creditor", "many"] (Zb Zbf):=⟨rfl,rfl,rfl,by decide +kernel,rfl,by decide +kernel,by decide +kernel⟩
theorem Zck:Nm (Zb Zbf) "creditor" .local:=by decide +kernel
theorem Zcl:Nm (Zb Zbf) "debtor" .local:=by decide +kernel
theorem Zsm:Nm (Zb Zbf) "many" .local:=by decide +kernel
theorem Zfs:Nm (Zb Zbf) "sums" .local:=by decide +kernel
theorem Z6z (Zjs:Has K mg "set_against" Zbf):Fn P w K mg base "set_against" ["sums", "debtor", "creditor", "many"] 1 Zsl:=by
 refine Zjs.fnQ Z6y (fun _ _ _ _ _ _ us hl=>match us,hl with | [_,_,_,_],_=>rfl) (fun vs H Q E h=>?_) (fun f cdv A outer s H vs Q E hr h=>?_)
 ·obtain ⟨g,kvs,G,x,y,m,rfl,_⟩:=h
  rfl
 ·obtain ⟨g,kvs,G,x,y,m,rfl,hg,hS,hl,k⟩:=h
  refine ⟨_,(Zg (Zl (Zp Zm6 (qvN 1 Zcl) (qvN 2 Zck) (Zo _)) (Zg (U6 hr (qvN 0 Zfs) (Yc (Za (qvN 1 Zcl) (Za (qvN 2 Zck) Zc))) (Zy Y4 (Zhc hr (qvN 0 Zfs) (Yc (Za (qvN 1 Zcl) (Za (qvN 2 Zck) Zc))) Ze) (qvN 3 Zsm)))) (Zg (Zl (Zp Zm6 (qvN 2 Zck) (qvN 1 Zcl) (Zo _)) (Zg (U6 hr (qvN 0 Zfs) (Yc (Za (qvN 2 Zck) (Za (qvN 1 Zcl) Zc))) (Zy U5 (Zhc hr (qvN 0 Zfs) (Yc (Za (qvN 2 Zck) (Za (qvN 1 Zcl) Zc))) Ze) (qvN 3 Zsm)))) Zn)))),?_⟩
  have hz:(5000:Nat)<=sizeLine:=by decide
  have put:∀ (a b:Str) (v:Int) (H1 H2:Hp) (q:Addr),ltS a b=true->Same H H1->H2 q=some (.tup [.str a,.str b])->Same H1 H2->v=G a b+Wv a b x y m->(([.inr a,.inr b]:List Key) = [.inr x,.inr y]\/([.inr a,.inr b]:List Key) = [.inr y,.inr x])->(∀ a' b',ltS a' b'=true->¬ (a'=a/\b'=b)->Wv a' b' x y m=0) ->
    DPut H2 g (.ref q) (.int v) (upd H2 g (.dT (Z2 kvs [.inr a,.inr b] (.int v))))/\∀ R:VK,(∀ (kvs':List (List Key×V)) (H':Hp),H' g=some (.dT kvs')->Sums kvs' (fun a b=>G a b+Wv a b x y m)->kvs'.length<=kvs.length+1->(∀ p∈kvs',p.1 = [.inr x,.inr y]\/p.1 = [.inr y,.inr x]\/p∈kvs)->SameX g H H'->R .non H')->R .non (upd H2 g (.dT (Z2 kvs [.inr a,.inr b] (.int v)))):=by
   intro a b v H1 H2 q hab s1 hq s2 hv hk ho
   refine ⟨DPut.t (s2 _ _ (s1 _ _ hg)) (k:=[.inr a,.inr b]) hq (by lia),fun R hR=>?_⟩
   refine hR _ _ Zi (hS.put hab hv fun a' b' h1 h2=>?_) (Um _ _ _) (fun p hp=>(Zec hp).elim (fun e=>by rw [e]; exact hk.imp id .inl) (fun h=>.inr (.inr h))) fun b' o nb e=>?_
   ·show G a' b'+Wv a' b' x y m=G a' b'
    rw [ho a' b' h1 h2,Int.add_zero]
   ·rw [Zd nb]; exact s2 _ _ (s1 _ _ e)
  refine ⟨_,rfl,_,rfl,x,y,rfl,rfl,_,rfl,Z0 (fun c=>?_) (fun c=>?_)⟩
  ·have hab:ltS x y=true:=xM c
   refine ⟨_,rfl,g,rfl,.inr ⟨kvs,.inl hg⟩,_,rfl,_,rfl,by show 2<=sizeLine; lia,fun q hq=>?_⟩
   have S1:=Same.new (o:=.tup [.str x,.str y]) hq
   have k1:(upd H q (.tup [.str x,.str y])) q=some (.tup [.str x,.str y]):=Zi
   generalize (upd H q (.tup [.str x,.str y]))=H1 at S1 k1 ⊢
   refine ⟨_,DGet.t (S1 _ _ hg) (k:=[.inr x,.inr y]) k1,_,rfl,?_⟩
   refine ⟨G x y,m,hS.at hab,rfl,?_⟩
   refine ⟨_,rfl,_,rfl,_,rfl,by show 2<=sizeLine; lia,fun q2 hq2=>?_⟩
   have S2:=Same.new (o:=.tup [.str x,.str y]) hq2
   have k2:(upd H1 q2 (.tup [.str x,.str y])) q2=some (.tup [.str x,.str y]):=Zi
   generalize (upd H1 q2 (.tup [.str x,.str y]))=H2 at S2 k2 ⊢
   obtain ⟨p1,p2⟩:=put x y (G x y+m) H1 H2 q2 hab S1 k2 S2 (by unfold Wv; rw [if_pos ⟨rfl,rfl⟩,if_neg (fun z=>Zb0 hab z.1)]; lia) (.inl rfl) (fun a' b' h1 h2=>Zg7 (fun z=>h2 ⟨z.1.symm,z.2.symm⟩) (fun z=>by rw [← z.1,← z.2,Zez hab] at h1; cases h1))
   exact ⟨g,_,rfl,p1,p2 _ k⟩
  ·refine ⟨_,rfl,_,rfl,y,x,rfl,rfl,_,rfl,Z0 (fun c2=>?_) (fun c2=>?_)⟩
   ·have hab:ltS y x=true:=xM c2
    refine ⟨_,rfl,g,rfl,.inr ⟨kvs,.inl hg⟩,_,rfl,_,rfl,by show 2<=sizeLine; lia,fun q hq=>?_⟩
    have S1:=Same.new (o:=.tup [.str y,.str x]) hq
    have k1:(upd H q (.tup [.str y,.str x])) q=some (.tup [.str y,.str x]):=Zi
    generalize (upd H q (.tup [.str y,.str x]))=H1 at S1 k1 ⊢
    refine ⟨_,DGet.t (S1 _ _ hg) (k:=[.inr y,.inr x]) k1,_,rfl,?_⟩
    refine ⟨G y x,m,hS.at hab,rfl,?_⟩
    refine ⟨_,rfl,_,rfl,_,rfl,by show 2<=sizeLine; lia,fun q2 hq2=>?_⟩
    have S2:=Same.new (o:=.tup [.str y,.str x]) hq2
    have k2:(upd H1 q2 (.tup [.str y,.str x])) q2=some (.tup [.str y,.str x]):=Zi
    generalize (upd H1 q2 (.tup [.str y,.str x]))=H2 at S2 k2 ⊢
    obtain ⟨p1,p2⟩:=put y x (G y x - m) H1 H2 q2 hab S1 k2 S2 (by unfold Wv; rw [if_neg (fun z=>Zb0 hab z.1.symm),if_pos ⟨rfl,rfl⟩]; lia) (.inr rfl) (fun a' b' h1 h2=>Zg7 (fun z=>by rw [← z.1,← z.2,Zez hab] at h1; cases h1) (fun z=>h2 ⟨z.2.symm,z.1.symm⟩))
    exact ⟨g,_,rfl,p1,p2 _ k⟩
   ·have e:x=y:=Zo3 (xU c) (xU c2)
    refine k kvs H hg (hS.eqv fun a b hab=>?_) (by lia) (fun p hp=>.inr (.inr hp)) (fun _ _ _ e=>e)
    rw [Zg7 (fun z=>Zb0 hab (z.1.symm.trans (e.trans z.2))) (fun z=>Zb0 hab (z.2.symm.trans (e.symm.trans z.1))),Int.add_zero]
def Zof:Sp:=fun vs H Q _=>∃ (b:Addr) (x y:Str) (v:Int),vs = [.ref b,.int v]/\H b=some (.tup [.str x,.str y])/\∀ (p:Addr) (H':Hp),H' p=some (.tup [.str (tri x y v).1,.str (tri x y v).2.1,.int (tri x y v).2.2])->Same H H'->Q (.ref p) H'
abbrev Zdh:Stmt:=top 29
theorem Z60:FnScope ["pair", "many"] ["pair", "many"] (Zb Zdh):=⟨rfl,rfl,rfl,by decide +kernel,rfl,by decide +kernel,by decide +kernel⟩
theorem Zlr:Nm (Zb Zdh) "many" .local:=by decide +kernel
theorem Zft:Nm (Zb Zdh) "pair" .local:=by decide +kernel
theorem Z61 (Zjt:Has K mg "triple" Zdh):Fn P w K mg base "triple" ["pair", "many"] 1 Zof:=by
 refine Zjt.fnQ Z60 (fun _ _ _ _ _ _ us hl=>match us,hl with | [_,_],_=>rfl) (fun vs H Q E h=>?_) (fun f cdv A outer s H vs Q E hr h=>?_)
 ·obtain ⟨b,x,y,v,rfl,_⟩:=h
  rfl
 ·obtain ⟨b,x,y,v,rfl,hb,k⟩:=h
  refine ⟨_,(Zf (Zl (Zp Zpz (qvN 1 Zlr) Ze (Zo _)) (Zg (Zr (Yc (Za (Zk Zz (qvN 0 Zft) Ze (fun _ _=>rfl)) (Za (Zk Zz (qvN 0 Zft) Ze (fun _ _=>rfl)) (Za (qvN 1 Zlr) Zc)))))) Zn)
 (Zg (Zr (Yc (Za (Zk Zz (qvN 0 Zft) Ze (fun _ _=>rfl)) (Za (Zk Zz (qvN 0 Zft) Ze (fun _ _=>rfl)) (Za (Zb5 Zbq (qvN 1 Zlr)) Zc))))))),?_⟩
  have hz:(5000:Nat)<=sizeLine:=by decide
  unfold tri at k
  refine ⟨_,rfl,_,_,rfl,rfl,_,rfl,Z0 (fun c=>?_) (fun c=>?_)⟩
  ·rw [if_pos c] at k
   exact ⟨_,rfl,b,_,0,.str x,rfl,rfl,SqT.of hb,rfl,_,rfl,b,_,1,.str y,rfl,rfl,SqT.of hb,rfl,_,rfl,by show 3<=sizeLine; lia,fun p hp=>k p _ Zi (Same.new hp)⟩
  ·rw [if_neg c] at k
   exact ⟨_,rfl,b,_,1,.str y,rfl,rfl,SqT.of hb,rfl,_,rfl,b,_,0,.str x,rfl,rfl,SqT.of hb,rfl,_,rfl,_,rfl,by show 3<=sizeLine; lia,fun p hp=>k p _ Zi (Same.new hp)⟩
theorem Zh6 {H:Hp}{r:Row}{v:V}(h:Rep H (Wd r) v):∃ a,v = .ref a/\H a=some (.tup [.str r.1,.str r.2.1,.int r.2.2]):=by
 obtain ⟨a,vs,e,h1,⟨x,r1,rfl,e1,⟨y,r2,rfl,e2,⟨z,r3,rfl,e3,e4⟩⟩⟩⟩:=h
 cases e1
 cases e2
 cases e3
 cases e4
 exact ⟨a,e,h1⟩
theorem Zc8 {H:Hp}{r:Row}{a:Addr}(h:H a=some (.tup [.str r.1,.str r.2.1,.int r.2.2])):Rep H (Wd r) (.ref a):=⟨a,_,rfl,h,⟨_,_,rfl,rfl,⟨_,_,rfl,rfl,⟨_,_,rfl,rfl,rfl⟩⟩⟩⟩
theorem Z1b {H:Hp}{e:Enr}{v:V}(h:Rep H (Zd0 e) v):∃ a,v = .ref a/\H a=some (.tup [.int e.at_,.str e.d,.str e.c,.int e.m]):=by
 obtain ⟨a,vs,ev,h1,⟨x,r1,rfl,e1,⟨y,r2,rfl,e2,⟨z,r3,rfl,e3,⟨u,r4,rfl,e4,e5⟩⟩⟩⟩⟩:=h
 cases e1
 cases e2
 cases e3
 cases e4
 cases e5
 exact ⟨a,ev,h1⟩
theorem Zb1 {α:Type}{φ : α->D}{H:Hp}{xs:List α}{vs:List V}{i:Nat}{v:V}(h:RepL H (xs.map φ) vs) (hv:vs[i]? = some v):∃ x,xs[i]? = some x/\Rep H (φ x) v:=by
 obtain ⟨d,hd,hr⟩:=h.get hv
 rw [xW] at hd
 obtain ⟨x,hx,e⟩:=yI.mp hd
 exact ⟨x,hx,by rw [e]; exact hr⟩
theorem Za6 {α:Type}{φ : α->D}{H:Hp}{xs:List α}{vs:List V}(h:RepL H (xs.map φ) vs):vs.length=xs.length:=by
 have:=h.length
 rw [xD] at this
 exact this
def V5:List Key->Row
 | [.inr a,.inr b,.inl v]=>(a,b,v)
 | _=>(e0,e0,0)
theorem Zc1 {k:List Key}(h:shp k = [false,false,true]):Zbe (V5 k)=k:=by
 match k,h with
 | [.inr a,.inr b,.inl v],_=>rfl
theorem Zju {H:Hp}:∀ {os:List Row}{vs:List V},RepL H (os.map Wd) vs->∃ ps:List (Addr×List Key),vs=ps.map (fun p=>V.ref p.1)/\ps.map (fun p=>V5 p.2)=os/\∀ p∈ps,L2.TupAt H p/\shp p.2 = [false,false,true]
 | [],vs,h=>by cases h; exact ⟨[],rfl,rfl,fun _ z=>nomatch z⟩
 | o::os,vs,⟨v,r,e,h1,h2⟩=>by
  obtain ⟨a,rfl,ha⟩:=Zh6 h1
  obtain ⟨ps,rfl,e2,h3⟩:=Zju h2
  subst e
  refine ⟨(a,Zbe o)::ps,rfl,by rw [xP,e2]; rfl,fun p hp=>?_⟩
  rcases xC.mp hp with rfl | hp
  ·exact ⟨ha,rfl⟩
  ·exact h3 p hp
theorem Zls {H:Hp}:∀ ps:List (Addr×List Key),(∀ p∈ps,L2.TupAt H p/\shp p.2 = [false,false,true])->RepL H ((ps.map fun p=>V5 p.2).map Wd) (ps.map fun p=>V.ref p.1)
 | [],_=>rfl
 | p::ps,h=>by
  obtain ⟨h1,h2⟩:=h p xR
  refine ⟨.ref p.1,_,rfl,Zc8 ?_,Zls ps fun q hq=>h q (xT _ hq)⟩
  have e:p.2.map kV = [.str (V5 p.2).1,.str (V5 p.2).2.1,.int (V5 p.2).2.2]:=by rw [← Zc1 h2]; rfl
  unfold L2.TupAt at h1
  rw [← e]
  exact h1
def Zue (ds:List Deed) (day:Int) (f:Str->Str):Prop:=∀ n,∃ b,b<=40/\Stands ds day b n (f n)
def Zqh (C:Addr):Sp:=fun vs H Q _=>∃ (L:FL) (ds:List Deed) (le:Addr) (us:List V) (es:List Enr) (day:Int) (f:Str->Str),vs = [.ref le,.ref L.p,.int day]/\FolkAt C H L ds/\H le=some (.lst us)/\RepL H (es.map Zd0) us/\Zue ds day f/\es.length<=400/\(∃ ks:List (List Key),ks.length < 64/\∀ e∈es,[.inr (f e.d),.inr (f e.c)]∈ks /\ [.inr (f e.c),.inr (f e.d)]∈ks) /\
 ∀ (l2:Addr) (ms:List V) (rs:List Row) (H':Hp),H l2=none->H' l2=some (.lst ms)->RepL H' (rs.map Wd) ms->IsOwed (net f day es) rs->rs.length < 64->Same H H'->Q (.ref l2) H'
abbrev Va:Stmt:=top 26
theorem Zb8:FnScope ["entries", "folk", "day", "sums", "since", "debtor", "creditor", "many"] ["entries", "folk", "day"] (Zb Va):=⟨rfl,rfl,rfl,by decide +kernel,rfl,by decide +kernel,by decide +kernel⟩
theorem Zsn:Nm (Zb Va) "creditor" .local:=by decide +kernel
theorem Zlt:Nm (Zb Va) "day" .local:=by decide +kernel
theorem Zso:Nm (Zb Va) "debtor" .local:=by decide +kernel
theorem Z62:Nm (Zb Va) "entries" .local:=by decide +kernel
theorem Zsp:Nm (Zb Va) "folk" .local:=by decide +kernel
theorem Zsq:Nm (Zb Va) "many" .local:=by decide +kernel
theorem Z63:Nm (Zb Va) "set_against" .globalImplicit:=by decide +kernel
theorem Zsr:Nm (Zb Va) "since" .local:=by decide +kernel
theorem Z64:Nm (Zb Va) "sorted" .globalImplicit:=by decide +kernel
theorem Zlu:Nm (Zb Va) "sums" .local:=by decide +kernel
theorem Z65 (Zjv:Has K mg "owed" Va) (T:Txt mg) (Tc:TxC K C) (M_stand_in:Mt P w K mg base C "stand_in" ["self", "name", "day"] 2 (Znx C)) (Z66:Fn P w K mg base "set_against" ["sums", "debtor", "creditor", "many"] 1 Zsl)
  (Z67:Fn P w K mg base "triple" ["pair", "many"] 1 Zof):Fn P w K mg base "owed" ["entries", "folk", "day"] 3 (Zqh C):=by
 refine Zjv.fnQ Zb8 (fun _ _ _ _ _ _ us hl=>match us,hl with | [_,_,_],_=>rfl) (fun vs H Q E h=>?_) (fun f cdv A outer s H vs Q E hr h=>?_)
 ·obtain ⟨L,ds,le,us,es,day,f,rfl,_⟩:=h
  rfl
 ·obtain ⟨L,ds,le,us,es,day,f,rfl,F0,hle,hes,hst,hel,⟨ks,hks,hke⟩,k⟩:=h
  refine ⟨_,(Zf (Z1 (i:=3) Zb8.nd Zlu Zn8)
 (Zf (We PassesOwn.never rfl (Vh (qvN 0 Z62)) (Zpx (by rfl) (Wa (Yp (i:=4) Zb8.nd Zsr) (Wa (Yp (i:=5) Zb8.nd Zso) (Wa (Yp (i:=6) Zb8.nd Zsn) (Wa (Yp (i:=7) Zb8.nd Zsq) Zau)))))
 (Zg (Zl (Zp Wp (qvN 4 Zsr) (qvN 2 Zlt) (Zo _)) (Zg (Zv (Zw Z66 (hr.mono (by lia)) Z63 (Za (qvN 3 Zlu) (Za (Z6 (qvN 1 Zsp) Tc.cl M_stand_in (hr.mono (by lia)) (Za (qvN 5 Zso) (Za (qvN 2 Zlt) Zc))) (Za (Z6 (qvN 1 Zsp) Tc.cl M_stand_in (hr.mono (by lia)) (Za (qvN 6 Zsn) (Za (qvN 2 Zlt) Zc))) (Za (qvN 7 Zsq) Zc))))))) Zn)))
 (Zg (Zr (Z8 Zmr Z64 T.sorted Zn4 (Za (Zoa (Vt (locs:=["pair", "many"]) (fr:=[]) ⟨rfl,by decide +kernel,by decide +kernel,by decide +kernel,by decide +kernel,by decide +kernel⟩ .nil rfl (Znq (qvN 3 Zlu)) ⟨fun _ _ _ _ _ _=>by
  have cnd:(inN ["pair", "many"] []).Nodup:=by decide +kernel
  exact ⟨(Zej 2 (by rfl) (Wa (Wl 0 cnd) (Wa (Wl 1 cnd) Zau))),(Zow (Zp V1 (Y5 1) Ze (Zo _))),(Zw Z67 (hr.mono (by lia)) nmC (Za (Y5 0) (Za (Y5 1) Zc)))⟩⟩)) Zc)))))),?_⟩
  have hz:(5000:Nat)<=sizeLine:=by decide
  have hul:us.length=es.length:=Za6 hes
  intro g hg
  have S0:Same H (upd H g (.dT [])):=Same.new hg
  refine ⟨_,rfl,le,rfl,⟨_,SqL.of (S0 _ _ hle)⟩,?_⟩
  refine Zaz us (fun i σ H'=>∃ (kvs:List (List Key×V)) (v4 v5 v6 v7:Option V),σ = [some (.ref le),some (.ref L.p),some (.int day),some (.ref g),v4,v5,v6,v7]/\H' g=some (.dT kvs)/\Sums kvs (net f day (es.take i))/\(kvs.length<=i/\∀ p∈kvs,p.1∈ks)/\Same H H')
   ⟨[],none,none,none,none,rfl,Zi,Sums.nil,⟨xB _,(fun _ z=>nomatch z)⟩,S0⟩ (fun i σ H' _ ⟨_,_,_,_,_,_,_,_,_,e⟩=>SqL.of (e _ _ hle)) ?_ ?_
  ·rintro i x σ H' hx ⟨kvs,v4,v5,v6,v7,rfl,hg',hS,⟨hkl,hkk⟩,sm⟩
   have hi:=(xV.mp hx).1
   obtain ⟨e,he,hre⟩:=Zb1 hes hx
   obtain ⟨a,rfl,ha⟩:=Z1b hre
   have et:=fun a b=>Zza (f:=f) (day:=day) he a b
   refine ⟨a,_,rfl,SqT.of (sm _ _ ha),rfl,_,_,rfl,_,_,rfl,_,_,rfl,_,_,rfl,rfl,?_⟩
   refine ⟨_,rfl,_,rfl,_,_,rfl,rfl,_,rfl,Z0 (fun c=>?_) (fun c=>?_)⟩
   ·have F1:=F0.keep (Same.n sm)
    obtain ⟨dx,ob⟩:=F1.ob
    obtain ⟨b1,_,st1⟩:=hst e.d
    obtain ⟨b2,_,st2⟩:=hst e.c
    refine ⟨_,rfl,_,rfl,L.p,dx,_,rfl,ob,Yw _ _ _ _ (by decide +kernel),_,rfl,_,rfl,L,ds,e.d,f e.d,day,b1,rfl,F1,st1,?_⟩
    refine ⟨_,rfl,L.p,dx,_,rfl,ob,Yw _ _ _ _ (by decide +kernel),_,rfl,_,rfl,L,ds,e.c,f e.c,day,b2,rfl,F1,st2,?_⟩
    refine ⟨_,rfl,g,kvs,net f day (es.take i),f e.d,f e.c,e.m,rfl,hg',hS,by lia,fun kvs' H2 hg2 hS2 hl2 hk2 sx2=>?_⟩
    refine ⟨kvs',_,_,_,_,rfl,hg2,hS2.eqv fun a b _=>?_,⟨by lia,fun p hp=>(hk2 p hp).elim (fun z=>by rw [z]; exact (hke e (xK he)).1) (fun z=>z.elim (fun z=>by rw [z]; exact (hke e (xK he)).2) (hkk p))⟩,fun b o e'=>sx2 b o (fun z=>by rw [z,hg] at e'; cases e') (sm _ _ e')⟩
    rw [et a b]
    unfold Zai
    rw [if_pos c]
   ·refine ⟨kvs,_,_,_,_,rfl,hg',hS.eqv fun a b _=>?_,⟨by lia,hkk⟩,sm⟩
    rw [et a b]
    unfold Zai
    rw [if_neg c,Int.add_zero]
  ·rintro σ H1 ⟨kvs,v4,v5,v6,v7,rfl,hg1,hS,⟨hkl,hkk⟩,sm1⟩
   rw [hul,yL] at hS
   rw [hul] at hkl
   have hk6:kvs.length < 64:=Nat.lt_of_le_of_lt (by rw [← xD (f:=fun p:List Key×V=>p.1)]; exact Zjr hS.nd fun k hk=>by obtain ⟨p,hp,rfl⟩:=yO.mp hk; exact hkk p hp) hks
   refine ⟨g,kvs,hg1,fun o=>?_⟩
   refine ⟨_,rfl,g,o,kvs,rfl,Zi,?_⟩
   have fr:∀ b u,b≠g->H1 b=some u->(upd H1 g (.frz o (.dT kvs))) b=some u:=fun b u nb e=>by rw [Zd nb]; exact e
   refine Zmz (fun i ys H'=>H' g=some (.frz o (.dT kvs))/\SameX g H1 H'/\RepL H' (((kvs.take i).filterMap U8).map Wd) ys) ⟨Zi,fun b u nb e=>fr b u nb e,rfl⟩ (by lia) (fun i ys H' _ h=>h.1) ?_ ?_ ?_
   ·rintro i ys H' ⟨_,_,h⟩
    rw [Za6 h]
    refine yK (List.length_filterMap_le _ _) ?_
    rw [xO]; lia
   ·rintro i x a p ys H' hx ha ⟨hg',sx,hr⟩ hp ls hls
    obtain ⟨w1,w2,rfl⟩:=Zt8 hls
    obtain ⟨xa,xb,xv,rfl,hab⟩:=hS.key x (xK hx)
    have Sp:=Same.new (o:=.tup [.ref a,.int xv]) hp
    have kp:(upd H' p (.tup [.ref a,.int xv])) p=some (.tup [.ref a,.int xv]):=Zi
    generalize (upd H' p (.tup [.ref a,.int xv]))=H2 at Sp kp ⊢
    have hgp:=Sp _ _ hg'
    have sx2:SameX g H1 H2:=fun b u nb e=>Sp _ _ (sx b u nb e)
    refine ⟨p,_,rfl,SqT.of kp,rfl,_,_,rfl,_,_,rfl,rfl,⟨[_,_],rfl,rfl⟩,?_⟩
    have e9:(kvs.take (i+1)).filterMap U8=(kvs.take i).filterMap U8++(if xv=0 then [] else [tri xa xb xv]):=by
     rw [yG,hx,List.filterMap_append]
     have:U8 ([.inr xa,.inr xb],.int xv)=if xv=0 then none else some (tri xa xb xv):=rfl
     by_cases c:xv=0
     ·rw [if_pos c] at this ⊢; simp [this]
     ·rw [if_neg c] at this ⊢; simp [this]
    refine ⟨_,rfl,rfl,_,rfl,Ym (fun c=>?_) (fun c=>?_)⟩
    ·have c':xv≠0:=fun z=>c (by rw [z])
     refine ⟨_,rfl,_,rfl,a,xa,xb,xv,rfl,Sp _ _ ha,fun t H3 ht s3=>?_⟩
     refine ⟨s3 _ _ hgp,fun b u nb e=>s3 _ _ (sx2 b u nb e),?_⟩
     rw [e9,if_neg c',xX]
     exact RepL.snoc (Zc8 ht) ((hr.mono' Sp).mono' s3)
    ·have c':xv=0:=by injection c
     refine ⟨hgp,sx2,?_⟩
     rw [e9,if_pos c',List.append_nil]
     exact hr.mono' Sp
   ·rintro ys H2 ⟨hg2,sx2,hr2⟩ l hl
    rw [yL] at hr2
    have ngl:g≠l:=fun z=>by rw [← z,hg2] at hl; cases hl
    refine ⟨by rw [Zd ngl]; exact hg2,?_⟩
    have tt:∀ {rs:List Row}{vs:List V},RepL H2 (rs.map Wd) vs->RepL (upd (upd H2 l (.lst ys)) g (.dT kvs)) (rs.map Wd) vs:=by
     intro rs
     induction rs with
     | nil=>intro vs h; exact h
     | cons r rs ih =>
      rintro vs ⟨v,r',e,h1,h2⟩
      obtain ⟨a,rfl,ha⟩:=Zh6 h1
      refine ⟨.ref a,r',e,Zc8 ?_,ih h2⟩
      rw [Zd (fun z=>by rw [z,hg2] at ha; cases ha),Zd (Zj ha hl)]
      exact ha
    have hr3:=tt hr2
    have S3:Same H (upd (upd H2 l (.lst ys)) g (.dT kvs)):=fun b u e=>by
     have ng:b≠g:=fun z=>by rw [z,hg] at e; cases e
     have e1:=sx2 b u ng (sm1 _ _ e)
     rw [Zd ng,Zd (Zj e1 hl)]
     exact e1
    have kl:(upd (upd H2 l (.lst ys)) g (.dT kvs)) l=some (.lst ys):=by rw [Zd ngl.symm,Zi]
    generalize (upd (upd H2 l (.lst ys)) g (.dT kvs))=H3 at hr3 S3 kl ⊢
    obtain ⟨ps,rfl,eps,hps⟩:=Zju hr3
    have hpl:ps.length=(kvs.filterMap U8).length:=by rw [← eps,xD]
    have hfl:=List.length_filterMap_le U8 kvs
    refine ⟨l,ps,[false,false,true],rfl,SqL.of kl,by lia,hps,(fun z=>nomatch z),fun l2 ms hl2 hperm hup=>?_⟩
    have S4:=Same.new (o:=.lst (ms.map fun p=>V.ref p.1)) hl2
    have hms:∀ p∈ms,L2.TupAt H3 p/\shp p.2 = [false,false,true]:=fun p hp=>hps p (hperm.mem_iff.mp hp)
    have hml:=hperm.length_eq
    refine k l2 (ms.map fun p=>V.ref p.1) (ms.map fun p=>V5 p.2) _ (S3.free hl2) Zi (Zls ms fun p hp=>⟨S4 _ _ (hms p hp).1,(hms p hp).2⟩) ?_ (by rw [xD]; lia) (S3.trans S4)
    refine hS.owed (fun a b=>Zoe f day a b es) ?_ ?_
    ·have:=hperm.map fun p:Addr×List Key=>V5 p.2
     rw [eps] at this
     exact this
    ·unfold UpR
     rw [List.pairwise_map]
     refine List.Pairwise.imp_of_mem ?_ hup
     intro a b ha hb h
     rw [Zc1 (hms a ha).2,Zc1 (hms b hb).2]
     exact h
end
def Y0 (H H':Hp):Prop:=∀ b xs,H b=some (.tup xs)->H' b=some (.tup xs)
theorem Zqi {l:Addr}{H:Hp}{xs:List V}{o:HO}(hl:H l=some (.lst xs)):Y0 H (upd H l o):=fun b ys e=>by
 rw [Zd (fun z=>by rw [z,hl] at e; cases e)]; exact e
abbrev Zuf:=Unit
def Zfc (_:Zuf):D:=.non
section
variable {P:Program}{w:World}{K:uFg}{mg:Str->Option Value}{base:Heap}{C CM:Addr}
def fz (xs:List Addr) (H:Hp):Hp:=fun b=>if b∈xs then H b else match H b with
 | some (.tup t)=>some (.tup t)
 | _=>none
theorem U9 {xs:List Addr}{H:Hp}{b:Addr}{o:HO}(h:fz xs H b=some o):H b=some o/\(b∈xs\/∃ t,o = .tup t):=by
 unfold fz at h
 split at h
 ·rename_i m; exact ⟨h,.inl m⟩
 ·split at h
  ·rename_i t e; cases h; exact ⟨e,.inr ⟨t,rfl⟩⟩
  ·cases h
theorem Z68 {xs:List Addr}{H:Hp}{b:Addr}{o:HO}(m:b∈xs) (h:H b=some o):fz xs H b=some o:=by unfold fz; rw [if_pos m]; exact h
theorem Wq {xs:List Addr}{H:Hp}{b:Addr}{t:List V}(h:H b=some (.tup t)):fz xs H b=some (.tup t):=by
 unfold fz
 split
 ·exact h
 ·rw [h]
theorem Zjw {xs:List Addr}{H:Hp}:Same (fz xs H) H:=fun _ _ e=>(U9 e).1
theorem Zaa {xs xs':List Addr}{H H':Hp}(kt:Y0 H H') (kx:∀ x∈xs,∀ o,H x=some o->H' x=some o) (s:∀ x∈xs,x∈xs'):Same (fz xs H) (fz xs' H'):=fun b o e=>by
 obtain ⟨e,m | ⟨t,rfl⟩⟩:=U9 e
 ·exact Z68 (s b m) (kx b m o e)
 ·exact Wq (kt b t e)
def LAt (H:Hp) (xs:List Addr) (l:Addr) (ds:List D):Prop:=∃ vs,H l=some (.lst vs)/\RepL (fz xs H) ds vs
theorem LAt.mono {H H':Hp}{xs xs':List Addr}{l:Addr}{ds:List D}(h:LAt H xs l ds) (k:∀ o,H l=some o->H' l=some o) (s:Same (fz xs H) (fz xs' H')):LAt H' xs' l ds :=
 let ⟨vs,a,b⟩:=h; ⟨vs,k _ a,b.mono' s⟩
theorem LAt.get {H:Hp}{xs:List Addr}{l:Addr}{ds:List D}(h:LAt H xs l ds):∃ vs,H l=some (.lst vs)/\RepL H ds vs/\vs.length=ds.length :=
 let ⟨vs,a,b⟩:=h; ⟨vs,a,b.mono' Zjw,b.length⟩
structure ML where
 p:Addr
 L:FL
 ld:Addr
 lb:Addr
 lh:Addr
 lq:Addr
 lt:Addr
 ly:Addr
 lv:Addr
 dp:Addr
def Vs (M:ML):List (Str×V):=Zh "penances" (.ref M.dp) (Zh "verdicts" (.ref M.lv) (Zh "trial_days" (.ref M.ly) (Zh "trials" (.ref M.lt) (Zh "debts" (.ref M.lq) (Zh "happenings" (.ref M.lh) (Zh "bringings" (.ref M.lb) (Zh "folk" (.ref M.L.p) (Zh "deeds" (.ref M.ld) []))))))))
local macro_rules | `(tactic| walk_at "mf")=>`(tactic| (unfold Vs; repeat (first | rw [Yb,if_pos (by decide +kernel)] | rw [Yb,if_neg (by decide +kernel)])))
theorem Vn (M:ML):(Vs M).lookup ("deeds" : Str)=some (.ref M.ld):=by walk_at "mf"
theorem Vi (M:ML):(Vs M).lookup ("folk" : Str)=some (.ref M.L.p):=by walk_at "mf"
theorem Zcy (M:ML):(Vs M).lookup ("bringings" : Str)=some (.ref M.lb):=by walk_at "mf"
theorem Zo7 (M:ML):(Vs M).lookup ("happenings" : Str)=some (.ref M.lh):=by walk_at "mf"
theorem Zog (M:ML):(Vs M).lookup ("debts" : Str)=some (.ref M.lq):=by walk_at "mf"
theorem Zxo (M:ML):(Vs M).lookup ("trials" : Str)=some (.ref M.lt):=by walk_at "mf"
theorem Z3o (M:ML):(Vs M).lookup ("penances" : Str)=some (.ref M.dp):=by walk_at "mf"
def Zlv (m:Str):Prop:=¬ m = "penances" /\ ¬ m = "verdicts" /\ ¬ m = "trial_days" /\ ¬ m = "trials" /\ ¬ m = "debts" /\ ¬ m = "happenings" /\ ¬ m = "bringings" /\ ¬ m = "folk" /\ ¬ m = "deeds"
instance (m:Str):Decidable (Zlv m):=by unfold Zlv; exact inferInstance
theorem Yk (M:ML) {m:Str}(h:Zlv m):(Vs M).lookup m=none:=by
 obtain ⟨a1,a2,a3,a4,a5,a6,a7,a8,a9⟩:=h
 unfold Vs
 rw [Yb,if_neg a1,Yb,if_neg a2,Yb,if_neg a3,Yb,if_neg a4,Yb,if_neg a5,Yb,if_neg a6,Yb,if_neg a7,Yb,if_neg a8,Yb,if_neg a9]
 rfl
abbrev Z1c:=TxC
structure TxCMoot (K:uFg) (C:Addr):Prop where
 cl:Cls K C
 nd:NoAttr K C "deeds"
 nf:NoAttr K C "folk"
 nb:NoAttr K C "bringings"
 nh:NoAttr K C "happenings"
 nq:NoAttr K C "debts"
 nt:NoAttr K C "trials"
 ny:NoAttr K C "trial_days"
 nv:NoAttr K C "verdicts"
 np:NoAttr K C "penances"
structure Mo where
 deeds:List D
 brs:List D
 haps:List (List D)
 debts:List D
 trials:List Zuf
 days:List Int
 verd:List Bool
 pen:Str->Option Int
 npen:Nat
def ML.ls (M:ML):List Addr:=[M.ld,M.lb,M.lq,M.lt,M.ly,M.lv]
def Mo.at_ (m:Mo) (M:ML) (qs:List Addr):List (Addr×List D) :=
 (M.ld,m.deeds)::(M.lb,m.brs)::(M.lq,m.debts)::(M.lt,m.trials.map Zfc)::(M.ly,m.days.map D.int)::(M.lv,m.verd.map D.bl)::qs.zip m.haps
structure MootAt (C CM:Addr) (H:Hp) (M:ML) (ds:List Deed) (wa:Str->Addr) (xs:List Addr) (m:Mo) (qs:List Addr):Prop where
 ob:∃ dx,H M.p=some (.ins CM dx (Vs M))
 fk:Fk C H M.L ds wa
 ls:∀ p∈m.at_ M qs,LAt H xs p.1 p.2
 hl:H M.lh=some (.lst (qs.map V.ref))
 hn:qs.length=m.haps.length
 pn:∃ kvs:List (Key×V),H M.dp=some (.dK kvs)/\kvs.length<=m.npen/\∀ n:Str,Z3 kvs (.inr n)=(m.pen n).map V.int
 nl:(M.lh::(M.ls++qs)).Nodup
 nx:∀ x∈xs,x∉M.lh::(M.ls++qs)
 xl:∀ x∈xs,∃ vs,H x=some (.lst vs)
 np:M.p≠M.L.p
 nd:¬ own M.L ds wa M.dp
def mo (M:ML) (ds:List Deed) (wa:Str->Addr) (xs qs:List Addr) (b:Addr):Prop:=b=M.p\/b=M.dp\/b∈M.lh::(M.ls++qs)\/b∈xs\/own M.L ds wa b
variable {M:ML}{ds:List Deed}{wa:Str->Addr}{xs qs:List Addr}{m:Mo}{H H':Hp}
theorem Ziu {p:Addr×List D}(h:p∈m.at_ M qs):p.1∈M.ls++qs:=by
 unfold Mo.at_ at h
 simp only [xC] at h
 rcases h with rfl | rfl | rfl | rfl | rfl | rfl | h
 iterate 6 (refine List.mem_append_left _ ?_; unfold ML.ls; simp only [xC,true_or,or_true])
 exact xN _ (List.of_mem_zip h).1
theorem MootAt.keep (h:MootAt C CM H M ds wa xs m qs) (k:∀ b o,mo M ds wa xs qs b->H b=some o->H' b=some o) (kt:Y0 H H'):MootAt C CM H' M ds wa xs m qs:=by
 obtain ⟨⟨dx,ob⟩,fk,ls,hl,hn,⟨kvs,p1,p2,p3⟩,nl,nx,xl,np,nd⟩:=h
 have s:=Zaa (xs:=xs) (xs':=xs) kt (fun x hx o e=>k x o (.inr (.inr (.inr (.inl hx)))) e) (fun _ z=>z)
 exact ⟨⟨dx,k _ _ (.inl rfl) ob⟩,fk.at fun b o hb e=>k b o (.inr (.inr (.inr (.inr hb)))) e,fun p hp=>(ls p hp).mono (fun o e=>k _ o (.inr (.inr (.inl (xT _ (Ziu hp))))) e) s,
  k _ _ (.inr (.inr (.inl xR))) hl,hn,⟨kvs,k _ _ (.inr (.inl rfl)) p1,p2,p3⟩,nl,nx,fun x hx=>let ⟨vs,e⟩:=xl x hx; ⟨vs,k _ _ (.inr (.inr (.inr (.inl hx)))) e⟩,np,nd⟩
theorem MootAt.same (h:MootAt C CM H M ds wa xs m qs) (k:Same H H'):MootAt C CM H' M ds wa xs m qs:=h.keep (fun b o _ e=>k b o e) fun _ _ e=>k _ _ e
theorem MootAt.nown (h:MootAt C CM H M ds wa xs m qs) {b:Addr}{ys:List V}(e:H b=some (.lst ys)):¬ own M.L ds wa b:=fun z=>by
 obtain ⟨o,e',n1,_⟩:=h.fk.there z
 rw [e] at e'; cases e'; exact n1 ys rfl
theorem MootAt.pown (h:MootAt C CM H M ds wa xs m qs):¬ own M.L ds wa M.p:=fun z=>by
 obtain ⟨dx,ob⟩:=h.ob
 obtain ⟨⟨_,⟨k1,c1,_⟩,⟨k2,w1,_⟩,⟨k3,d1,_⟩,⟨k4,h1,_⟩,_⟩,⟨⟨k5,x1,x2,x3⟩,_⟩,_⟩:=h.fk
 rcases z with z | z | z | z | z | ⟨n,l,e,z⟩
 ·exact h.np z
 ·rw [z,c1] at ob; cases ob
 ·rw [z,w1] at ob; cases ob
 ·rw [z,d1] at ob; cases ob
 ·rw [z,h1] at ob; cases ob
 ·rw [z,(x3 n l e).2.1] at ob; cases ob
theorem MootAt.folk (h:MootAt C CM H M ds wa xs m qs) {ds':List Deed}{wa':Str->Addr}(F:Fk C H' M.L ds' wa') (t:Touch M.L ds wa H H') (f:Zfb M.L ds wa ds' wa' H):MootAt C CM H' M ds' wa' xs m qs:=by
 have T:=Touch.lt h.fk t
 have pw:=h.pown
 obtain ⟨⟨dx,ob⟩,fk,ls,hl,hn,⟨kvs,p1,p2,p3⟩,nl,nx,xl,np,nd⟩:=h
 have s:=Zaa (xs:=xs) (xs':=xs) T.2 (fun x hx o e=>by obtain ⟨vs,e'⟩:=xl x hx; rw [e] at e'; cases e'; exact T.1 _ _ e) (fun _ z=>z)
 exact ⟨⟨dx,t _ _ ob pw⟩,F,fun p hp=>by
  obtain ⟨vs,a,b⟩:=ls p hp
  exact ⟨vs,T.1 _ _ a,b.mono' s⟩,T.1 _ _ hl,hn,⟨kvs,t _ _ p1 nd,p2,p3⟩,nl,nx,fun x hx=>let ⟨vs,e⟩:=xl x hx; ⟨vs,T.1 _ _ e⟩,np,fun z=>(f _ z).elim nd fun z=>by rw [p1] at z; cases z⟩
end
section
variable {P:Program}{w:World}{K:uFg}{mg:Str->Option Value}{base:Heap}{C CM:Addr}
variable {M:ML}{ds:List Deed}{wa:Str->Addr}{xs qs:List Addr}{m:Mo}{H H':Hp}
theorem Ziv {l:Addr}(h:l∈M.ls++qs):l∈M.lh::(M.ls++qs):=xT _ h
theorem MootAt.lst (h:MootAt C CM H M ds wa xs m qs) {l:Addr}(hl:l∈M.lh::(M.ls++qs)):∃ ys,H l=some (.lst ys):=by
 rcases xC.mp hl with rfl | hl
 ·exact ⟨_,h.hl⟩
 have:∃ p∈m.at_ M qs,p.1=l:=by
  rcases xS.mp hl with z | z
  ·unfold ML.ls at z
   simp only [xC,xQ,or_false] at z
   unfold Mo.at_
   rcases z with rfl | rfl | rfl | rfl | rfl | rfl
   ·exact ⟨(M.ld,m.deeds),by simp,rfl⟩
   ·exact ⟨(M.lb,m.brs),by simp,rfl⟩
   ·exact ⟨(M.lq,m.debts),by simp,rfl⟩
   ·exact ⟨(M.lt,m.trials.map Zfc),by simp,rfl⟩
   ·exact ⟨(M.ly,m.days.map D.int),by simp,rfl⟩
   ·exact ⟨(M.lv,m.verd.map D.bl),by simp,rfl⟩
  ·obtain ⟨i,hi,e⟩:=List.getElem_of_mem z
   have hi':i < m.haps.length:=h.hn▸hi
   refine ⟨(qs[i],m.haps[i]),?_,e⟩
   have:(qs[i],m.haps[i])∈qs.zip m.haps:=xK (i:=i) (by rw [List.getElem?_zip_eq_some]; exact ⟨xH hi,xH hi'⟩)
   exact xN [(M.ld,m.deeds),(M.lb,m.brs),(M.lq,m.debts),(M.lt,m.trials.map Zfc),(M.ly,m.days.map D.int),(M.lv,m.verd.map D.bl)] this
 obtain ⟨p,hp,rfl⟩:=this
 obtain ⟨vs,e,_⟩:=h.ls p hp
 exact ⟨vs,e⟩
theorem MootAt.there (h:MootAt C CM H M ds wa xs m qs) {b:Addr}(hb:mo M ds wa xs qs b):∃ o,H b=some o:=by
 rcases hb with rfl | rfl | hb | hb | hb
 ·obtain ⟨dx,e⟩:=h.ob; exact ⟨_,e⟩
 ·obtain ⟨kvs,e,_⟩:=h.pn; exact ⟨_,e⟩
 ·obtain ⟨ys,e⟩:=h.lst hb; exact ⟨_,e⟩
 ·obtain ⟨ys,e⟩:=h.xl b hb; exact ⟨_,e⟩
 ·obtain ⟨o,e,_⟩:=h.fk.there hb; exact ⟨o,e⟩
theorem MootAt.put (h:MootAt C CM H M ds wa xs m qs) {l:Addr}{zs:List V}(hl:l∈M.ls++qs) {m':Mo}(e1:m'.haps.length=m.haps.length) (e2:m'.pen=m.pen) (e3:m'.npen=m.npen)
  (k:∀ p∈m'.at_ M qs,(p∈m.at_ M qs/\p.1≠l)\/(p.1=l/\RepL (fz xs H) p.2 zs)):MootAt C CM (upd H l (.lst zs)) M ds wa xs m' qs:=by
 obtain ⟨ys,e⟩:=h.lst (Ziv hl)
 have nw:=h.nown e
 have hh:=h
 obtain ⟨⟨dx,ob⟩,fk,ls,lh,hn,⟨kvs,p1,p2,p3⟩,nl,nx,xl,np,nd⟩:=h
 have kt:Y0 H (upd H l (.lst zs)):=Zqi e
 have kx:∀ x∈xs,x≠l:=fun x hx z=>nx x hx (z▸Ziv hl)
 have s:Same (fz xs H) (fz xs (upd H l (.lst zs))):=Zaa kt (fun x hx o e=>by rw [Zd (kx x hx)]; exact e) (fun _ z=>z)
 have nh:M.lh≠l:=fun z=>(xZ.mp nl).1 (z▸hl)
 refine ⟨⟨dx,by rw [Zd (fun z=>by rw [z,e] at ob; cases ob)]; exact ob⟩,fk.at fun b o hb eb=>by rw [Zd (fun z:b=l=>nw (z▸hb))]; exact eb,fun p hp=>?_,by rw [Zd nh]; exact lh,by rw [e1]; exact hn,
  ⟨kvs,by rw [Zd (fun z=>by rw [z,e] at p1; cases p1)]; exact p1,by rw [e3]; exact p2,by rw [e2]; exact p3⟩,nl,nx,fun x hx=>?_,np,nd⟩
 ·rcases k p hp with ⟨a,b⟩ | ⟨a,b⟩
  ·exact (ls p a).mono (fun o e=>by rw [Zd b]; exact e) s
  ·exact ⟨zs,by rw [a,Zi],b.mono' s⟩
 ·obtain ⟨vs,e⟩:=xl x hx
  exact ⟨vs,by rw [Zd (kx x hx)]; exact e⟩
theorem MootAt.pena (h:MootAt C CM H M ds wa xs m qs) {kvs:List (Key×V)}{n:Str}{c:Int}(e:H M.dp=some (.dK kvs)) :
  MootAt C CM (upd H M.dp (.dK (Z2 kvs (.inr n) (.int c)))) M ds wa xs {m with pen:=fun x=>if x=n then some c else m.pen x,npen:=m.npen+1 } qs:=by
 have hh:=h
 obtain ⟨⟨dx,ob⟩,fk,ls,lh,hn,⟨kvs',p1,p2,p3⟩,nl,nx,xl,np,nd⟩:=h
 rw [e] at p1
 cases p1
 have ll:∀ l∈M.lh::(M.ls++qs),l≠M.dp:=fun l hl z=>by obtain ⟨ys,e'⟩:=hh.lst hl; rw [z,e] at e'; cases e'
 have kt:Y0 H (upd H M.dp (.dK (Z2 kvs (.inr n) (.int c)))):=fun b t eb=>by rw [Zd (fun z=>by rw [z,e] at eb; cases eb)]; exact eb
 have kx:∀ x∈xs,x≠M.dp:=fun x hx z=>by obtain ⟨vs,e'⟩:=xl x hx; rw [z,e] at e'; cases e'
 have s:Same (fz xs H) (fz xs (upd H M.dp (.dK (Z2 kvs (.inr n) (.int c))))):=Zaa kt (fun x hx o e=>by rw [Zd (kx x hx)]; exact e) (fun _ z=>z)
 refine ⟨⟨dx,by rw [Zd (fun z=>by rw [z,e] at ob; cases ob)]; exact ob⟩,fk.at fun b o hb eb=>by rw [Zd (fun z:b=M.dp=>nd (z▸hb))]; exact eb,fun p hp=>(ls p hp).mono (fun o e=>by rw [Zd (ll _ (Ziv (Ziu hp)))]; exact e) s,
  by rw [Zd (ll _ xR)]; exact lh,hn,⟨_,Zi,yK (Um _ _ _) (by show kvs.length+1<=m.npen+1; lia),fun x=>?_⟩,nl,nx,fun x hx=>?_,np,nd⟩
 ·rw [Zbn]
  show _=(if x=n then some c else m.pen x).map V.int
  by_cases z:x=n
  ·rw [if_pos (by rw [z]),if_pos z]; rfl
  ·rw [if_neg (fun y=>z (by injection y)),if_neg z]; exact p3 x
 ·obtain ⟨vs,e'⟩:=xl x hx
  exact ⟨vs,by rw [Zd (kx x hx)]; exact e'⟩
end
section
variable {P:Program}{w:World}{K:uFg}{mg:Str->Option Value}{base:Heap}{C CM:Addr}
variable {M:ML}{ds:List Deed}{wa:Str->Addr}{xs qs:List Addr}{m:Mo}{H H':Hp}
theorem MootAt.rep (h:MootAt C CM H M ds wa xs m qs) {l:Addr}{c:List D}{vs:List V}(hp:(l,c)∈m.at_ M qs) (e:H l=some (.lst vs)):RepL (fz xs H) c vs:=by
 obtain ⟨vs',e',r⟩:=h.ls _ hp
 rw [e] at e'; cases e'; exact r
theorem MootAt.deed (h:MootAt C CM H M ds wa xs m qs) {vs:List V}{v:V}{d:D}(e:H M.ld=some (.lst vs)) (hd:Rep (fz xs H) d v):MootAt C CM (upd H M.ld (.lst (vs ++ [v]))) M ds wa xs {m with deeds:=m.deeds ++ [d] } qs:=by
 have r:=h.rep (l:=M.ld) (c:=m.deeds) (by simp [Mo.at_]) e
 have nl:=h.nl
 simp only [ML.ls,xZ,xC,xS,yN,List.nil_append,not_or] at nl
 obtain ⟨_,⟨b2,b3,b4,b5,b6,b7⟩,⟨c3,c4,c5,c6,c7⟩,⟨d4,d5,d6,d7⟩,⟨f5,f6,f7⟩,⟨g6,g7⟩,k7,k8⟩:=nl
 refine h.put (l:=M.ld) (by simp [ML.ls]) rfl rfl rfl fun p hp=>?_
 simp only [Mo.at_,xC] at hp ⊢
 rcases hp with rfl | rfl | rfl | rfl | rfl | rfl | hp
 ·exact .inr ⟨rfl,r.snoc hd⟩
 ·exact .inl ⟨by simp,Ne.symm b2⟩
 ·exact .inl ⟨by simp,Ne.symm b3⟩
 ·exact .inl ⟨by simp,Ne.symm b4⟩
 ·exact .inl ⟨by simp,Ne.symm b5⟩
 ·exact .inl ⟨by simp,Ne.symm b6⟩
 ·exact .inl ⟨by simp [hp],fun z=>b7 (z▸(List.of_mem_zip hp).1)⟩
theorem MootAt.debt (h:MootAt C CM H M ds wa xs m qs) {vs:List V}{v:V}{d:D}(e:H M.lq=some (.lst vs)) (hd:Rep (fz xs H) d v):MootAt C CM (upd H M.lq (.lst (vs ++ [v]))) M ds wa xs {m with debts:=m.debts ++ [d] } qs:=by
 have r:=h.rep (l:=M.lq) (c:=m.debts) (by simp [Mo.at_]) e
 have nl:=h.nl
 simp only [ML.ls,xZ,xC,xS,yN,List.nil_append,not_or] at nl
 obtain ⟨_,⟨b2,b3,b4,b5,b6,b7⟩,⟨c3,c4,c5,c6,c7⟩,⟨d4,d5,d6,d7⟩,⟨f5,f6,f7⟩,⟨g6,g7⟩,k7,k8⟩:=nl
 refine h.put (l:=M.lq) (by simp [ML.ls]) rfl rfl rfl fun p hp=>?_
 simp only [Mo.at_,xC] at hp ⊢
 rcases hp with rfl | rfl | rfl | rfl | rfl | rfl | hp
 ·exact .inl ⟨by simp,b3⟩
 ·exact .inl ⟨by simp,c3⟩
 ·exact .inr ⟨rfl,r.snoc hd⟩
 ·exact .inl ⟨by simp,Ne.symm d4⟩
 ·exact .inl ⟨by simp,Ne.symm d5⟩
 ·exact .inl ⟨by simp,Ne.symm d6⟩
 ·exact .inl ⟨by simp [hp],fun z=>d7 (z▸(List.of_mem_zip hp).1)⟩
end
section
variable {P:Program}{w:World}{K:uFg}{mg:Str->Option Value}{base:Heap}{C CM:Addr}
variable {M:ML}{ds:List Deed}{wa:Str->Addr}{xs qs:List Addr}{m:Mo}{H H':Hp}
theorem MootAt.brg (h:MootAt C CM H M ds wa xs m qs) {vs:List V}{v:V}{d:D}(e:H M.lb=some (.lst vs)) (hd:Rep (fz xs H) d v):MootAt C CM (upd H M.lb (.lst (vs ++ [v]))) M ds wa xs {m with brs:=m.brs ++ [d] } qs:=by
 have r:=h.rep (l:=M.lb) (c:=m.brs) (by simp [Mo.at_]) e
 have nl:=h.nl
 simp only [ML.ls,xZ,xC,xS,yN,List.nil_append,not_or] at nl
 obtain ⟨_,⟨b2,b3,b4,b5,b6,b7⟩,⟨c3,c4,c5,c6,c7⟩,⟨d4,d5,d6,d7⟩,⟨f5,f6,f7⟩,⟨g6,g7⟩,k7,k8⟩:=nl
 refine h.put (l:=M.lb) (by simp [ML.ls]) rfl rfl rfl fun p hp=>?_
 simp only [Mo.at_,xC] at hp ⊢
 rcases hp with rfl | rfl | rfl | rfl | rfl | rfl | hp
 ·exact .inl ⟨by simp,b2⟩
 ·exact .inr ⟨rfl,r.snoc hd⟩
 ·exact .inl ⟨by simp,Ne.symm c3⟩
 ·exact .inl ⟨by simp,Ne.symm c4⟩
 ·exact .inl ⟨by simp,Ne.symm c5⟩
 ·exact .inl ⟨by simp,Ne.symm c6⟩
 ·exact .inl ⟨by simp [hp],fun z=>c7 (z▸(List.of_mem_zip hp).1)⟩
theorem MootAt.hap (h:MootAt C CM H M ds wa xs m qs) {i:Nat}{q:Addr}{c:List D}{vs:List V}{v:V}{d:D}(hq:qs[i]? = some q) (hc:m.haps[i]? = some c) (e:H q=some (.lst vs)) (hd:Rep (fz xs H) d v) :
  MootAt C CM (upd H q (.lst (vs ++ [v]))) M ds wa xs {m with haps:=m.haps.set i (c ++ [d]) } qs:=by
 have mq:q∈qs:=xK hq
 have mz:(q,c)∈qs.zip m.haps:=xK (i:=i) (by rw [List.getElem?_zip_eq_some]; exact ⟨hq,hc⟩)
 have r:=h.rep (l:=q) (c:=c) (by simp [Mo.at_,mz]) e
 have nl:=h.nl
 simp only [ML.ls,xZ,xC,xS,yN,List.nil_append,not_or] at nl
 obtain ⟨_,⟨b2,b3,b4,b5,b6,b7⟩,⟨c3,c4,c5,c6,c7⟩,⟨d4,d5,d6,d7⟩,⟨f5,f6,f7⟩,⟨g6,g7⟩,k7,k8⟩:=nl
 refine h.put (l:=q) (xN _ mq) (List.length_set ..) rfl rfl fun p hp=>?_
 simp only [Mo.at_,xC] at hp ⊢
 rcases hp with rfl | rfl | rfl | rfl | rfl | rfl | hp
 ·exact .inl ⟨by simp,fun z:M.ld=q=>b7 (z▸mq)⟩
 ·exact .inl ⟨by simp,fun z:M.lb=q=>c7 (z▸mq)⟩
 ·exact .inl ⟨by simp,fun z:M.lq=q=>d7 (z▸mq)⟩
 ·exact .inl ⟨by simp,fun z:M.lt=q=>f7 (z▸mq)⟩
 ·exact .inl ⟨by simp,fun z:M.ly=q=>g7 (z▸mq)⟩
 ·exact .inl ⟨by simp,fun z:M.lv=q=>k7 (z▸mq)⟩
 ·obtain ⟨j,hj⟩:=List.getElem?_of_mem hp
  rw [List.getElem?_zip_eq_some] at hj
  obtain ⟨j1,j2⟩:=hj
  by_cases z:i=j
  ·subst z
   rw [hq] at j1
   injection j1 with j1
   rw [List.getElem?_set_self (by
    rcases Nat.lt_or_ge i m.haps.length with y | y
    ·exact y
    ·rw [List.getElem?_eq_none y] at hc; cases hc)] at j2
   injection j2 with j2
   exact .inr ⟨j1.symm,by rw [← j2]; exact r.snoc hd⟩
  ·rw [List.getElem?_set_ne z] at j2
   refine .inl ⟨.inr (.inr (.inr (.inr (.inr (.inr (xK (i:=j) (by rw [List.getElem?_zip_eq_some]; exact ⟨j1,j2⟩))))))),fun y=>z ?_⟩
   have li:i < qs.length:=(xV.mp hq).1
   exact (List.getElem?_inj li k8).mp (by rw [hq,j1,y])
theorem MootAt.newq (h:MootAt C CM H M ds wa xs m qs) {q:Addr}(hq:H q=some (.lst [])) (n:¬ mo M ds wa xs qs q) :
  MootAt C CM (upd H M.lh (.lst ((qs ++ [q]).map V.ref))) M ds wa xs {m with haps:=m.haps ++ [[]] } (qs ++ [q]):=by
 have hh:=h
 have nw:=h.nown h.hl
 obtain ⟨⟨dx,ob⟩,fk,ls,lh,hn,⟨kvs,p1,p2,p3⟩,nl,nx,xl,np,nd⟩:=h
 have kt:Y0 H (upd H M.lh (.lst ((qs ++ [q]).map V.ref))):=Zqi lh
 have kx:∀ x∈xs,x≠M.lh:=fun x hx z=>nx x hx (z▸xR)
 have s:Same (fz xs H) (fz xs (upd H M.lh (.lst ((qs ++ [q]).map V.ref)))):=Zaa kt (fun x hx o e=>by rw [Zd (kx x hx)]; exact e) (fun _ z=>z)
 have nh:M.lh∉M.ls++qs:=(xZ.mp nl).1
 have nq:q∉M.lh::(M.ls++qs):=fun z=>n (.inr (.inr (.inl z)))
 have nqh:q≠M.lh:=fun z=>nq (z▸xR)
 refine ⟨⟨dx,by rw [Zd (fun z=>by rw [z,lh] at ob; cases ob)]; exact ob⟩,fk.at fun b o hb eb=>by rw [Zd (fun z:b=M.lh=>nw (z▸hb))]; exact eb,fun p hp=>?_,Zi,by rw [xJ,hn]; show _=(m.haps ++ [[]]).length; rw [xJ]; rfl,
  ⟨kvs,by rw [Zd (fun z=>by rw [z,lh] at p1; cases p1)]; exact p1,p2,p3⟩,?_,fun x hx z=>?_,fun x hx=>?_,np,nd⟩
 ·by_cases z:p=(q,[])
  ·subst z
   exact ⟨[],by show (upd H M.lh _) q=_; rw [Zd nqh]; exact hq,rfl⟩
  ·have hp':p∈m.at_ M qs:=by
    simp only [Mo.at_,xC] at hp ⊢
    rw [List.zip_append hn] at hp
    rcases hp with y | y | y | y | y | y | y
    ·exact .inl y
    ·exact .inr (.inl y)
    ·exact .inr (.inr (.inl y))
    ·exact .inr (.inr (.inr (.inl y)))
    ·exact .inr (.inr (.inr (.inr (.inl y))))
    ·exact .inr (.inr (.inr (.inr (.inr (.inl y)))))
    ·rcases xS.mp y with y | y
     ·exact .inr (.inr (.inr (.inr (.inr (.inr y)))))
     ·exact absurd (yC.mp y) z
   exact (ls p hp').mono (fun o e=>by rw [Zd (fun z:p.1=M.lh=>nh (z▸Ziu hp'))]; exact e) s
 ·rw [← yH]
  refine List.nodup_append.mpr ⟨nl,xZ.mpr ⟨xQ,List.nodup_nil⟩,fun a ha b hb z=>nq ?_⟩
  rw [yC] at hb
  rw [← hb,← z]; exact ha
 ·rw [← yH,← yN] at z
  rcases xS.mp z with z | z
  ·exact nx x hx z
  ·exact n (.inr (.inr (.inr (.inl (yC.mp z▸hx)))))
 ·obtain ⟨vs,e'⟩:=xl x hx
  exact ⟨vs,by rw [Zd (kx x hx)]; exact e'⟩
end
section
variable {P:Program}{w:World}{K:uFg}{mg:Str->Option Value}{base:Heap}{C CM:Addr}
def Zo8:Sp:=fun vs H Q _=>∃ d:Int,vs = [.int d]/\1<=d/\d<=1000000/\Q .non H
abbrev Zdi:Stmt:=top 38
theorem Z69:FnScope ["many"] ["many"] (Zb Zdi):=⟨rfl,rfl,rfl,by decide +kernel,rfl,by decide +kernel,by decide +kernel⟩
theorem Z7a:Nm (Zb Zdi) "MOST_MONEY" .globalImplicit:=by decide +kernel
theorem Z7b:Nm (Zb Zdi) "many" .local:=by decide +kernel
theorem Z7c (Zjx:Has K mg "check_money" Zdi) (C0:∃ t,mg "MOST_MONEY" = some (.int 1000000 t)):Fn P w K mg base "check_money" ["many"] 1 Zo8:=by
 obtain ⟨t0,c_MOST_MONEY⟩:=C0
 have r_MOST_MONEY:RelV (.int 1000000) (.int 1000000 t0):=⟨t0,rfl⟩
 refine Zjx.fnQ Z69 (fun _ _ _ _ _ _ us hl=>match us,hl with | [_],_=>rfl) (fun vs H Q E h=>?_) (fun f cdv A outer s H vs Q E hr h=>?_)
 ·obtain ⟨d,rfl,_⟩:=h
  rfl
 ·obtain ⟨d,rfl,h0,h1,k⟩:=h
  refine ⟨_,(Zg (Zl (Wx (Zcw Wp Wp Ze (qvN 0 Z7b) (V0 Z7a c_MOST_MONEY r_MOST_MONEY))) (Zg Yh) Zn)),?_⟩
  refine ⟨_,rfl,_,_,rfl,rfl,_,rfl,Z0 (fun _=>?_) (fun z=>absurd h0 z)⟩
  refine ⟨_,_,rfl,rfl,_,rfl,Ym (fun z=>absurd h1 z) (fun _=>k)⟩
def Za7 (C CM:Addr):Sp:=fun vs H Q _=>∃ (M:ML) (ds:List Deed) (wa:Str->Addr) (xs:List Addr) (m:Mo) (qs:List Addr),vs = [.ref M.p]/\MootAt C CM H M ds wa xs m qs/\m.deeds.length < 400/\Q .non H
abbrev Zaj:Stmt:=Ye (top 66) 43
theorem Zss:FnScope ["self"] ["self"] (Zb Zaj):=⟨rfl,rfl,rfl,by decide +kernel,rfl,by decide +kernel,by decide +kernel⟩
theorem Zlw:Nm (Zb Zaj) "MOST_MOMENTS" .globalImplicit:=by decide +kernel
theorem Z7d:Nm (Zb Zaj) "TooMany" .globalImplicit:=by decide +kernel
theorem Zst:Nm (Zb Zaj) "len" .globalImplicit:=by decide +kernel
theorem Zsu:Nm (Zb Zaj) "self" .local:=by decide +kernel
theorem Zum (Zcm:HasM K CM "check_moments" "Moot.check_moments" Zaj) (T:Txt mg) (Tm:TxCMoot K CM) (C0:∃ t,mg "MOST_MOMENTS" = some (.int 400 t)):Mt P w K mg base CM "check_moments" ["self"] 1 (Za7 C CM):=by
 obtain ⟨t0,c_MOST_MOMENTS⟩:=C0
 have r_MOST_MOMENTS:RelV (.int 400) (.int 400 t0):=⟨t0,rfl⟩
 refine Zcm.mtQ Zss (fun _ _ _ _ _ _ us hl=>match us,hl with | [_],_=>rfl) (fun vs H Q E h=>?_) (fun f cdv A outer s H vs Q E hr h=>?_)
 ·obtain ⟨M,ds,wa,xs,m,qs,rfl,_⟩:=h
  rfl
 ·obtain ⟨M,ds,wa,xs,m,qs,rfl,W,hn,k⟩:=h
  refine ⟨_,(Zg (Zl (Zp Zc6 (Z8 Wt Zst T.len Y1 (Za (Zq (qvN 0 Zsu)) Zc)) (V0 Zlw c_MOST_MOMENTS r_MOST_MOMENTS) (Zo _)) (Zg Yh) Zn)),?_⟩
  obtain ⟨dx,ob⟩:=W.ob
  obtain ⟨vs,d1,_,d2⟩:=(W.ls (M.ld,m.deeds) (by simp [Mo.at_])).get
  dsimp only at d1 d2
  refine ⟨_,rfl,M.p,CM,dx,_,_,rfl,ob,Tm.cl,Tm.nd,Vn _,M.ld,vs,rfl,.inl (SqL.of d1),_,_,rfl,rfl,_,rfl,Z0 (fun z=>absurd z (by lia)) (fun _=>k)⟩
def Zo9 (C CM:Addr):Sp:=fun vs H Q _=>∃ (M:ML) (ds:List Deed) (wa:Str->Addr) (xs:List Addr) (m:Mo) (qs:List Addr) (i:Nat),vs = [.ref M.p,.int i]/\MootAt C CM H M ds wa xs m qs/\i < m.brs.length/\Q .non H
abbrev Zcn:Stmt:=Ye (top 66) 41
theorem Z7e:FnScope ["self", "thing"] ["self", "thing"] (Zb Zcn):=⟨rfl,rfl,rfl,by decide +kernel,rfl,by decide +kernel,by decide +kernel⟩
theorem Z7f:Nm (Zb Zcn) "len" .globalImplicit:=by decide +kernel
theorem Z7g:Nm (Zb Zcn) "self" .local:=by decide +kernel
theorem Z7h:Nm (Zb Zcn) "thing" .local:=by decide +kernel
theorem Zuq (Zjy:HasM K CM "check_thing" "Moot.check_thing" Zcn) (T:Txt mg) (Tm:TxCMoot K CM):Mt P w K mg base CM "check_thing" ["self", "thing"] 1 (Zo9 C CM):=by
 refine Zjy.mtQ Z7e (fun _ _ _ _ _ _ us hl=>match us,hl with | [_,_],_=>rfl) (fun vs H Q E h=>?_) (fun f cdv A outer s H vs Q E hr h=>?_)
 ·obtain ⟨M,ds,wa,xs,m,qs,i,rfl,_⟩:=h
  rfl
 ·obtain ⟨M,ds,wa,xs,m,qs,i,rfl,W,hi,k⟩:=h
  refine ⟨_,(Zg (Zl (Wx (Zcw Wp Zc5 Ze (qvN 1 Z7h) (Z8 Wt Z7f T.len Y1 (Za (Zq (qvN 0 Z7g)) Zc)))) (Zg Yh) Zn)),?_⟩
  obtain ⟨dx,ob⟩:=W.ob
  obtain ⟨vs,b1,_,hl⟩:=(W.ls (M.lb,m.brs) (by simp [Mo.at_])).get
  dsimp only at b1 hl
  refine ⟨_,rfl,_,_,rfl,rfl,_,rfl,Z0 (fun _=>?_) (fun z=>absurd (by lia) z)⟩
  refine ⟨_,rfl,M.p,CM,dx,_,_,rfl,ob,Tm.cl,Tm.nb,Zcy _,M.lb,vs,rfl,.inl (SqL.of b1),_,_,rfl,rfl,_,rfl,Ym (fun z=>absurd (show (i:Int) < vs.length by lia) z) (fun _=>k)⟩
end
section
variable {P:Program}{w:World}{K:uFg}{mg:Str->Option Value}{base:Heap}{C CM:Addr}
def MTouch (M:ML) (ds:List Deed) (wa:Str->Addr) (xs qs:List Addr) (H H':Hp):Prop:=∀ b o,H b=some o->¬ mo M ds wa xs qs b->H' b=some o
def MFresh (M:ML) (ds:List Deed) (wa:Str->Addr) (xs qs:List Addr) (M':ML) (ds':List Deed) (wa':Str->Addr) (xs' qs':List Addr) (H:Hp):Prop:=∀ b,mo M' ds' wa' xs' qs' b->mo M ds wa xs qs b\/H b=none
theorem MFresh.refl {M:ML}{ds:List Deed}{wa:Str->Addr}{xs qs:List Addr}{H:Hp}:MFresh M ds wa xs qs M ds wa xs qs H:=fun _ hb=>.inl hb
theorem MFresh.folk {M:ML}{ds ds':List Deed}{wa wa':Str->Addr}{xs qs:List Addr}{H:Hp}(f:Zfb M.L ds wa ds' wa' H):MFresh M ds wa xs qs M ds' wa' xs qs H:=fun b hb=>by
 rcases hb with z | z | z | z | z
 ·exact .inl (.inl z)
 ·exact .inl (.inr (.inl z))
 ·exact .inl (.inr (.inr (.inl z)))
 ·exact .inl (.inr (.inr (.inr (.inl z))))
 ·exact (f b z).imp (fun z=>.inr (.inr (.inr (.inr z)))) id
theorem Zb9 {M:ML}{ds:List Deed}{wa:Str->Addr}{xs qs:List Addr}:mo M ds wa xs qs M.ld:=.inr (.inr (.inl (by simp [ML.ls])))
def Zh7 (C CM:Addr):Sp:=fun vs H Q _=>∃ (M:ML) (ds:List Deed) (wa:Str->Addr) (xs:List Addr) (m:Mo) (qs:List Addr) (n:Str) (day wt:Int),vs = [.ref M.p,.str n,.int day,.int wt]/\MootAt C CM H M ds wa xs m qs/\m.deeds.length < 400/\ds.length < 40/\Yv n/\0<=day/\day<=9999/\1<=wt/\wt<=1000/\Zt ds n=none /\
 ∀ (wa':Str->Addr) (H':Hp),MootAt C CM H' M (ds ++ [.come n day wt]) wa' xs {m with deeds:=m.deeds ++ [.tup [.str "come", .str n,.int day,.int wt]] } qs->MTouch M ds wa xs qs H H'->MFresh M ds wa xs qs M (ds ++ [.come n day wt]) wa' xs qs H->Q .non H'
abbrev Za8:Stmt:=Ye (top 66) 1
theorem Z7i:FnScope ["self", "name", "day", "weight"] ["self", "name", "day", "weight"] (Zb Za8):=⟨rfl,rfl,rfl,by decide +kernel,rfl,by decide +kernel,by decide +kernel⟩
theorem Zlx:Nm (Zb Za8) "day" .local:=by decide +kernel
theorem Zly:Nm (Zb Za8) "name" .local:=by decide +kernel
theorem Zfu:Nm (Zb Za8) "self" .local:=by decide +kernel
theorem Zlz:Nm (Zb Za8) "weight" .local:=by decide +kernel
theorem Z1d (Zjz:HasM K CM "come" "Moot.come" Za8) (Tc:TxC K C) (Tm:TxCMoot K CM) (M_check_coming:Mt P w K mg base C "check_coming" ["self", "name", "day", "weight"] 2 (Zg5 C)) (M_come:Mt P w K mg base C "come" ["self", "name", "day", "weight"] 3 (Zo6 C))
  (MM_check_moments:Mt P w K mg base CM "check_moments" ["self"] 1 (Za7 C CM)):Mt P w K mg base CM "come" ["self", "name", "day", "weight"] 4 (Zh7 C CM):=by
 refine Zjz.mtQ Z7i (fun _ _ _ _ _ _ us hl=>match us,hl with | [_,_,_,_],_=>rfl) (fun vs H Q E h=>?_) (fun f cdv A outer s H vs Q E hr h=>?_)
 ·obtain ⟨M,ds,wa,xs,m,qs,n,day,wt,rfl,_⟩:=h
  rfl
 ·obtain ⟨M,ds,wa,xs,m,qs,n,day,wt,rfl,W0,hn4,hl,hnm,d0,d1,w0,w1,hc,k⟩:=h
  refine ⟨_,(Zf (Zv (Z6 (Zq (qvN 0 Zfu)) Tc.cl M_check_coming (hr.mono (by lia)) (Za (qvN 1 Zly) (Za (qvN 2 Zlx) (Za (qvN 3 Zlz) Zc)))))
 (Zf (Zv (Vq (qvN 0 Zfu) Tm.cl MM_check_moments (hr.mono (by lia))))
 (Zf (Zv (Z6 (Zq (qvN 0 Zfu)) Tc.cl M_come (hr.mono (by lia)) (Za (qvN 1 Zly) (Za (qvN 2 Zlx) (Za (qvN 3 Zlz) Zc)))))
 (Zg (Zv (Y7 F.plainAttrs_list F.slot_list_append F.type_list_append Wu (Zq (qvN 0 Zfu)) (Za (Yc (Za Zm (Za (qvN 1 Zly) (Za (qvN 2 Zlx) (Za (qvN 3 Zlz) Zc))))) Zc))))))),?_⟩
  have hz:(5000:Nat)<=sizeLine:=by decide
  obtain ⟨dm,obm⟩:=W0.ob
  obtain ⟨dx,ob⟩:=W0.fk.f.ob
  refine ⟨_,rfl,M.p,CM,dm,_,_,rfl,obm,Tm.cl,Tm.nf,Vi _,M.L.p,dx,_,rfl,ob,Yw _ _ _ _ (by decide +kernel),_,rfl,_,rfl,_,rfl,M.L,ds,n,day,wt,rfl,W0.fk.f,hl,hnm,d0,d1,w0,w1,hc,fun H1 S1=>?_⟩
  have W1:=W0.same S1
  refine ⟨_,rfl,M.p,dm,_,rfl,S1 _ _ obm,Yk _ (by decide +kernel),M,ds,wa,xs,m,qs,rfl,W1,hn4,?_⟩
  refine ⟨_,rfl,M.p,CM,dm,_,_,rfl,S1 _ _ obm,Tm.cl,Tm.nf,Vi _,M.L.p,dx,_,rfl,S1 _ _ ob,Yw _ _ _ _ (by decide +kernel),_,rfl,_,rfl,_,rfl,M.L,ds,wa,n,day,wt,rfl,W1.fk,hl,hnm,d0,d1,w0,w1,hc,fun wa' H2 F2 T2 R2=>?_⟩
  have W2:=W1.folk F2 T2 R2
  obtain ⟨dm2,obm2⟩:=W2.ob
  obtain ⟨vs,e1,_,e2⟩:=(W2.ls (M.ld,m.deeds) (by simp [Mo.at_])).get
  dsimp only at e1 e2
  refine ⟨_,rfl,M.p,CM,dm2,_,_,rfl,obm2,Tm.cl,Tm.nd,Vn _,.inl ⟨rfl,_,SqL.of e1⟩,_,rfl,_,rfl,_,rfl,by show 4<=sizeLine; lia,fun p hp=>?_⟩
  have S3:=Same.new (o:=.tup [.str "come", .str n,.int day,.int wt]) hp
  have kp:(upd H2 p (.tup [.str "come", .str n,.int day,.int wt])) p=some (.tup [.str "come", .str n,.int day,.int wt]):=Zi
  generalize (upd H2 p (.tup [.str "come", .str n,.int day,.int wt]))=H3 at S3 kp ⊢
  have W3:=W2.same S3
  refine ⟨M.ld,vs,.ref p,rfl,rfl,S3 _ _ e1,by lia,?_⟩
  refine k wa' _ (W3.deed (S3 _ _ e1) ⟨p,_,rfl,Wq kp,⟨_,_,rfl,rfl,⟨_,_,rfl,rfl,⟨_,_,rfl,rfl,⟨_,_,rfl,rfl,rfl⟩⟩⟩⟩⟩) (fun b o e nb=>?_) (fun b hb=>?_)
  ·rw [Zd (fun z:b=M.ld=>nb (z▸Zb9))]
   exact S3 _ _ (T2 b o (S1 _ _ e) fun z=>nb (.inr (.inr (.inr (.inr z)))))
  ·exact (MFresh.folk (xs:=xs) (qs:=qs) R2 b hb).imp id S1.free
end
section
variable {P:Program}{w:World}{K:uFg}{mg:Str->Option Value}{base:Heap}{C CM:Addr}
def Zsv (C CM:Addr):Sp:=fun vs H Q _=>∃ (M:ML) (ds:List Deed) (wa:Str->Addr) (xs:List Addr) (m:Mo) (qs:List Addr) (n:Str) (d:Int),vs = [.ref M.p,.str n]/\MootAt C CM H M ds wa xs m qs/\m.deeds.length < 400/\m.npen<=1000/\m.trials.length<=1000/\Zt ds n=some d/\Z5 ds n=none /\
 ∀ (H':Hp),MootAt C CM H' M ds wa xs {m with pen:=fun x=>if x=n then some (m.trials.length:Int) else m.pen x,npen:=m.npen+1,deeds:=m.deeds ++ [.tup [.str "penance", .str n]] } qs->MTouch M ds wa xs qs H H'->Q .non H'
abbrev Zbg:Stmt:=Ye (top 66) 4
theorem Zsw:FnScope ["self", "name"] ["self", "name"] (Zb Zbg):=⟨rfl,rfl,rfl,by decide +kernel,rfl,by decide +kernel,by decide +kernel⟩
theorem Zsx:Nm (Zb Zbg) "len" .globalImplicit:=by decide +kernel
theorem Zak:Nm (Zb Zbg) "name" .local:=by decide +kernel
theorem Vo:Nm (Zb Zbg) "self" .local:=by decide +kernel
theorem Zv2 (Zco:HasM K CM "penance" "Moot.penance" Zbg) (T:Txt mg) (Tc:TxC K C) (Tm:TxCMoot K CM) (M_check_known:Mt P w K mg base C "check_known" ["self", "name"] 1 (Zc0 C)) (M_check_untold:Mt P w K mg base C "check_untold" ["self", "name"] 1 (Zhg C))
  (MM_check_moments:Mt P w K mg base CM "check_moments" ["self"] 1 (Za7 C CM)):Mt P w K mg base CM "penance" ["self", "name"] 2 (Zsv C CM):=by
 refine Zco.mtQ Zsw (fun _ _ _ _ _ _ us hl=>match us,hl with | [_,_],_=>rfl) (fun vs H Q E h=>?_) (fun f cdv A outer s H vs Q E hr h=>?_)
 ·obtain ⟨M,ds,wa,xs,m,qs,n,d,rfl,_⟩:=h
  rfl
 ·obtain ⟨M,ds,wa,xs,m,qs,n,d,rfl,W0,hn4,hp4,ht4,hc,hd,k⟩:=h
  refine ⟨_,(Zf (Zv (Z6 (Zq (qvN 0 Vo)) Tc.cl M_check_known (hr.mono (by lia)) (Za (qvN 1 Zak) Zc)))
 (Zf (Zv (Z6 (Zq (qvN 0 Vo)) Tc.cl M_check_untold (hr.mono (by lia)) (Za (qvN 1 Zak) Zc)))
 (Zf (Zv (Vq (qvN 0 Vo) Tm.cl MM_check_moments (hr.mono (by lia))))
 (Zf (U6 hr (Zq (qvN 0 Vo)) (qvN 1 Zak) (Z8 Wt Zsx T.len Y1 (Za (Zq (qvN 0 Vo)) Zc)))
 (Zg (Zv (Y7 F.plainAttrs_list F.slot_list_append F.type_list_append Wu (Zq (qvN 0 Vo)) (Za (Yc (Za Zm (Za (qvN 1 Zak) Zc))) Zc)))))))),?_⟩
  have hz:(5000:Nat)<=sizeLine:=by decide
  obtain ⟨dm,obm⟩:=W0.ob
  obtain ⟨dx,ob⟩:=W0.fk.f.ob
  refine ⟨_,rfl,M.p,CM,dm,_,_,rfl,obm,Tm.cl,Tm.nf,Vi _,M.L.p,dx,_,rfl,ob,Yw _ _ _ _ (by decide +kernel),_,rfl,M.L,ds,n,d,rfl,W0.fk.f,hc,?_⟩
  refine ⟨_,rfl,M.p,CM,dm,_,_,rfl,obm,Tm.cl,Tm.nf,Vi _,M.L.p,dx,_,rfl,ob,Yw _ _ _ _ (by decide +kernel),_,rfl,M.L,ds,n,rfl,W0.fk.f,hd,?_⟩
  refine ⟨_,rfl,M.p,dm,_,rfl,obm,Yk _ (by decide +kernel),M,ds,wa,xs,m,qs,rfl,W0,hn4,?_⟩
  obtain ⟨ts,t1,_,t2⟩:=(W0.ls (M.lt,m.trials.map Zfc) (by simp [Mo.at_])).get
  dsimp only at t1 t2
  rw [xD] at t2
  obtain ⟨kvs,p1,p2,p3⟩:=W0.pn
  refine ⟨_,rfl,M.p,CM,dm,_,_,rfl,obm,Tm.cl,Tm.nt,Zxo _,M.lt,ts,rfl,.inl (SqL.of t1),?_⟩
  refine ⟨_,rfl,M.p,CM,dm,_,_,rfl,obm,Tm.cl,Tm.np,Z3o _,_,rfl,M.dp,_,rfl,DPut.k (k:=Sum.inr n) p1 (by lia),?_⟩
  rw [t2]
  have W1:=W0.pena (n:=n) (c:=(m.trials.length:Int)) p1
  have g0:∀ b o,b≠M.dp->H b=some o->(upd H M.dp (.dK (Z2 kvs (.inr n) (.int m.trials.length)))) b=some o:=fun b o nb e=>by rw [Zd nb]; exact e
  generalize (upd H M.dp (.dK (Z2 kvs (.inr n) (.int m.trials.length))))=H1 at W1 g0 ⊢
  obtain ⟨dm2,obm2⟩:=W1.ob
  obtain ⟨vs,e1,_,e2⟩:=(W1.ls (M.ld,m.deeds) (by simp [Mo.at_])).get
  dsimp only at e1 e2
  refine ⟨_,rfl,M.p,CM,dm2,_,_,rfl,obm2,Tm.cl,Tm.nd,Vn _,.inl ⟨rfl,_,SqL.of e1⟩,_,rfl,by show 2<=sizeLine; lia,fun p hp=>?_⟩
  have S3:=Same.new (o:=.tup [.str "penance", .str n]) hp
  have kp:(upd H1 p (.tup [.str "penance", .str n])) p=some (.tup [.str "penance", .str n]):=Zi
  generalize (upd H1 p (.tup [.str "penance", .str n]))=H3 at S3 kp ⊢
  have W3:=W1.same S3
  refine ⟨M.ld,vs,.ref p,rfl,rfl,S3 _ _ e1,by lia,?_⟩
  refine k _ (W3.deed (S3 _ _ e1) ⟨p,_,rfl,Wq kp,⟨_,_,rfl,rfl,⟨_,_,rfl,rfl,rfl⟩⟩⟩) (fun b o e nb=>?_)
  rw [Zd (fun z:b=M.ld=>nb (z▸Zb9))]
  exact S3 _ _ (g0 b o (fun z=>nb (.inr (.inl z))) e)
end
section
variable {P:Program}{w:World}{K:uFg}{mg:Str->Option Value}{base:Heap}{C CM:Addr}
theorem Zfd {t u:TS}{D:_}{σ:St}{H:Hp}(Rk:Hp->Prop) (h:(∀ H',Rk H'->u D σ H')->Ul t u D σ H) (k:∀ H',Rk H'->u D σ H'):Ul t u D σ H:=h k
def Zug (m:Mo) (day:Int) (v:V):Prop:=v = .non\/∃ (i:Nat) (x:Str) (d:Int),v = .int i/\m.brs[i]? = some (.tup [.str x,.int d])/\d<=day
def Zen (C CM:Addr):Sp:=fun vs H Q _=>∃ (M:ML) (ds:List Deed) (wa:Str->Addr) (xs:List Addr) (m:Mo) (qs:List Addr) (day:Int) (pl:Addr) (ps:List Str) (v1:V),vs = [.ref M.p,.int day,.ref pl,v1,.non]/\MootAt C CM H M ds wa xs m qs /\
 H pl=some (.lst (ps.map V.str))/\(∀ n∈ps,∃ d,Zt ds n=some d/\d<=day/\Wi ds n day=false)/\Zug m day v1/\∀ H',Same H H'->Q .non H'
abbrev Us:Stmt:=Ye (top 66) 40
theorem Zfe:FnScope ["self", "day", "people", "thing", "oath", "name"] ["self", "day", "people", "thing", "oath"] (Zb Us):=⟨rfl,rfl,rfl,by decide +kernel,rfl,by decide +kernel,by decide +kernel⟩
theorem Zfv:Nm (Zb Us) "day" .local:=by decide +kernel
theorem Zcp:Nm (Zb Us) "name" .local:=by decide +kernel
theorem Zl0:Nm (Zb Us) "oath" .local:=by decide +kernel
theorem Zl1:Nm (Zb Us) "people" .local:=by decide +kernel
theorem Zcq:Nm (Zb Us) "self" .local:=by decide +kernel
theorem Zfw:Nm (Zb Us) "thing" .local:=by decide +kernel
theorem Zur (Zj0:HasM K CM "check_named" "Moot.check_named" Us) (Tc:TxC K C) (Tm:TxCMoot K CM) (M_check_known:Mt P w K mg base C "check_known" ["self", "name"] 1 (Zc0 C)) (M_check_there:Mt P w K mg base C "check_there" ["self", "name", "day"] 1 (Zh4 C))
  (M_check_living:Mt P w K mg base C "check_living" ["self", "name", "day"] 2 (Zhf C)) (MM_check_thing:Mt P w K mg base CM "check_thing" ["self", "thing"] 1 (Zo9 C CM)):Mt P w K mg base CM "check_named" ["self", "day", "people", "thing", "oath"] 3 (Zen C CM):=by
 refine Zj0.mtQ Zfe (fun _ _ _ _ _ _ us hl=>match us,hl with | [_,_,_,_,_],_=>rfl) (fun vs H Q E h=>?_) (fun f cdv A outer s H vs Q E hr h=>?_)
 ·obtain ⟨M,ds,wa,xs,m,qs,day,pl,ps,v1,rfl,_⟩:=h
  rfl
 ·obtain ⟨M,ds,wa,xs,m,qs,day,pl,ps,v1,rfl,W,hpl,hps,th,k⟩:=h
  refine ⟨_,(Zf (We PassesOwn.never rfl (Vh (qvN 2 Zl1)) (Yp (i:=5) Zfe.nd Zcp)
 (Zg (Zv (Z6 (Zq (qvN 0 Zcq)) Tc.cl M_check_known (hr.mono (by lia)) (Za (qvN 5 Zcp) Zc)))))
 (Zf (Zl (Zp Zd9 (qvN 3 Zfw) Wo (Zo _)) (Zg (Zv (Z6 (qvN 0 Zcq) Tm.cl MM_check_thing (hr.mono (by lia)) (Za (qvN 3 Zfw) Zc)))) Zn)
 (Zf (Zl (Zp Zd9 (qvN 4 Zl0) Wo (Zo _)) (Zg Yh) Zn)
 (Zf (We PassesOwn.never rfl (Vh (qvN 2 Zl1)) (Yp (i:=5) Zfe.nd Zcp)
 (Zg (Zv (Z6 (Zq (qvN 0 Zcq)) Tc.cl M_check_there (hr.mono (by lia)) (Za (qvN 5 Zcp) (Za (qvN 1 Zfv) Zc))))))
 (Zf (Zl (QW.pt (Zeu (Zp Zd9 (qvN 3 Zfw) Wo (Zo _)) (Zeh (Zp Zc5 (qvN 1 Zfv) (Zk Zz (Zk Yt (Zq (qvN 0 Zcq)) (qvN 3 Zfw) (fun _ _=>rfl)) Ze (fun _ _=>rfl)) (Zo _))))) (Zg Yh) Zn)
 (Zf (Zl (QW.pt (Zeu (Zp Zd9 (qvN 4 Zl0) Wo (Zo _)) (Zeh (Zp Zc5 (qvN 1 Zfv) (Zk Yt (Zq (qvN 0 Zcq)) (Zk Zz (qvN 4 Zl0) Ze (fun _ _=>rfl)) (fun _ _=>rfl)) (Zo _))))) (Zg Yh) Zn)
 (Zg (We PassesOwn.never rfl (Vh (qvN 2 Zl1)) (Yp (i:=5) Zfe.nd Zcp)
 (Zg (Zv (Z6 (Zq (qvN 0 Zcq)) Tc.cl M_check_living (hr.mono (by lia)) (Za (qvN 5 Zcp) (Za (qvN 1 Zfv) Zc))))))))))))),?_⟩
  obtain ⟨dm,obm⟩:=W.ob
  have F:=W.fk.f
  obtain ⟨dx,ob⟩:=F.ob
  have hget:∀ {i:Nat}{v:V},(ps.map V.str)[i]? = some v->∃ n,v = .str n/\n∈ps:=fun {i v} hv=>by
   rw [xW] at hv
   obtain ⟨a,h1,h2⟩:=yI.mp hv
   exact ⟨a,h2.symm,xK h1⟩
  refine ⟨_,rfl,pl,rfl,⟨_,SqL.of hpl⟩,?_⟩
  refine Zaz (ps.map V.str) (fun i σ H'=>∃ v5:Option V,σ = [some (.ref M.p),some (.int day),some (.ref pl),some v1,some .non,v5]/\H=H') ⟨none,rfl,rfl⟩ (fun i σ H' _ ⟨_,_,e⟩=>by rw [← e]; exact SqL.of hpl) ?_ ?_
  ·rintro i v σ H' hv ⟨v5,rfl,rfl⟩
   obtain ⟨n,rfl,hn⟩:=hget hv
   obtain ⟨d,h1,h2,h3⟩:=hps n hn
   exact ⟨_,rfl,M.p,CM,dm,_,_,rfl,obm,Tm.cl,Tm.nf,Vi _,M.L.p,dx,_,rfl,ob,Yw _ _ _ _ (by decide +kernel),_,rfl,M.L,ds,n,d,rfl,F,h1,_,rfl,rfl⟩
  rintro σ H' ⟨v5,rfl,rfl⟩
  try dsimp only
  refine Zfd (Same H) (fun kk=>?_) (fun H1 S1=>?_)
  ·rcases th with rfl | ⟨i,x,d,rfl,hb,hd⟩
   ·exact ⟨_,rfl,rfl,_,rfl,Zx (kk H (Same.refl H))⟩
   ·have hi:i < m.brs.length:=(xV.mp hb).1
    exact ⟨_,rfl,rfl,_,rfl,Yj ⟨_,rfl,M.p,dm,_,rfl,obm,Yk _ (by decide +kernel),_,rfl,M,ds,wa,xs,m,qs,i,rfl,W,hi,kk H (Same.refl H)⟩⟩
  have W1:=W.same S1
  try dsimp only
  refine Zfd (Same H) (fun kk=>?_) (fun H2 S2=>?_)
  ·exact ⟨_,rfl,rfl,_,rfl,Zx (kk H1 S1)⟩
  have W2:=W.same S2
  have F2:=W2.fk.f
  refine ⟨_,rfl,pl,rfl,⟨_,SqL.of (S2 _ _ hpl)⟩,?_⟩
  refine Zaz (ps.map V.str) (fun i σ H'=>∃ v5:Option V,σ = [some (.ref M.p),some (.int day),some (.ref pl),some v1,some .non,v5]/\H2=H') ⟨v5,rfl,rfl⟩ (fun i σ H' _ ⟨_,_,e⟩=>by rw [← e]; exact SqL.of (S2 _ _ hpl)) ?_ ?_
  ·rintro i v σ H' hv ⟨v5,rfl,rfl⟩
   obtain ⟨n,rfl,hn⟩:=hget hv
   obtain ⟨d,h1,h2,h3⟩:=hps n hn
   exact ⟨_,rfl,M.p,CM,dm,_,_,rfl,S2 _ _ obm,Tm.cl,Tm.nf,Vi _,M.L.p,dx,_,rfl,S2 _ _ ob,Yw _ _ _ _ (by decide +kernel),_,rfl,_,rfl,M.L,ds,n,d,day,rfl,F2,h1,h2,_,rfl,rfl⟩
  rintro σ H' ⟨v5,rfl,rfl⟩
  try dsimp only
  refine Zfd (Same H) (fun kk=>?_) (fun H3 S3=>?_)
  ·rcases th with rfl | ⟨i,x,d,rfl,hb,hd⟩
   ·exact ⟨_,rfl,rfl,_,rfl,Zx (Zx (kk H2 S2))⟩
   ·obtain ⟨vs,b1,b2,b3⟩:=(W2.ls (M.lb,m.brs) (by simp [Mo.at_])).get
    dsimp only at b1 b2 b3
    have hi:i < vs.length:=by rw [b3]; exact (xV.mp hb).1
    obtain ⟨e,he,re⟩:=b2.get (xH hi)
    rw [hb] at he
    cases he
    obtain ⟨a,us,ea,ha,⟨_,_,rfl,rfl,⟨_,_,rfl,rfl,rfl⟩⟩⟩:=re
    exact ⟨_,rfl,rfl,_,rfl,Yj ⟨_,rfl,_,rfl,M.p,CM,dm,_,_,rfl,S2 _ _ obm,Tm.cl,Tm.nb,Zcy _,_,rfl,M.lb,vs,i,_,rfl,rfl,SqL.of b1,Ua (xH hi),a,_,1,_,ea,rfl,SqT.of ha,rfl,_,_,rfl,rfl,_,rfl,Z0 (fun z=>absurd z (by lia)) (fun _=>kk H2 S2)⟩⟩
  have W3:=W.same S3
  try dsimp only
  refine Zfd (Same H) (fun kk=>?_) (fun H4 S4=>?_)
  ·exact ⟨_,rfl,rfl,_,rfl,Zx (Zx (kk H3 S3))⟩
  have W4:=W.same S4
  have F4:=W4.fk.f
  refine ⟨_,rfl,pl,rfl,⟨_,SqL.of (S4 _ _ hpl)⟩,?_⟩
  refine Zaz (ps.map V.str) (fun i σ H'=>∃ v5:Option V,σ = [some (.ref M.p),some (.int day),some (.ref pl),some v1,some .non,v5]/\H4=H') ⟨v5,rfl,rfl⟩ (fun i σ H' _ ⟨_,_,e⟩=>by rw [← e]; exact SqL.of (S4 _ _ hpl)) ?_ ?_
  ·rintro i v σ H' hv ⟨v5,rfl,rfl⟩
   obtain ⟨n,rfl,hn⟩:=hget hv
   obtain ⟨d,h1,h2,h3⟩:=hps n hn
   exact ⟨_,rfl,M.p,CM,dm,_,_,rfl,S4 _ _ obm,Tm.cl,Tm.nf,Vi _,M.L.p,dx,_,rfl,S4 _ _ ob,Yw _ _ _ _ (by decide +kernel),_,rfl,_,rfl,M.L,ds,n,day,rfl,F4,h3,_,rfl,rfl⟩
  rintro σ H' ⟨v5,rfl,rfl⟩
  exact k _ S4
end
section
variable {P:Program}{w:World}{K:uFg}{mg:Str->Option Value}{base:Heap}{C CM:Addr}
def Zhi (C CM:Addr):Sp:=fun vs H Q _=>∃ (M:ML) (ds:List Deed) (wa:Str->Addr) (xs:List Addr) (m:Mo) (qs:List Addr) (n:Str) (day d:Int),vs = [.ref M.p,.str n,.int day]/\MootAt C CM H M ds wa xs m qs/\m.deeds.length < 400/\m.brs.length < 40/\m.haps.length<=1000/\0<=day/\day<=9999/\Zt ds n=some d/\d<=day/\Wi ds n day=false /\
 ∀ (q:Addr) (H':Hp),MootAt C CM H' M ds wa xs {m with brs:=m.brs ++ [.tup [.str n,.int day]],haps:=m.haps ++ [[]],deeds:=m.deeds ++ [.tup [.str "bring", .str n,.int day]] } (qs ++ [q])->MTouch M ds wa xs qs H H'->MFresh M ds wa xs qs M ds wa xs (qs ++ [q]) H->Q (.int m.brs.length) H'
abbrev Ut:Stmt:=Ye (top 66) 5
theorem Z7j:FnScope ["self", "name", "day"] ["self", "name", "day"] (Zb Ut):=⟨rfl,rfl,rfl,by decide +kernel,rfl,by decide +kernel,by decide +kernel⟩
theorem Z7k:Nm (Zb Ut) "MOST_THINGS" .globalImplicit:=by decide +kernel
theorem Z7l:Nm (Zb Ut) "check_day" .globalImplicit:=by decide +kernel
theorem Zfx:Nm (Zb Ut) "day" .local:=by decide +kernel
theorem Zsy:Nm (Zb Ut) "len" .globalImplicit:=by decide +kernel
theorem Zl2:Nm (Zb Ut) "name" .local:=by decide +kernel
theorem Zbh:Nm (Zb Ut) "self" .local:=by decide +kernel
theorem Zzd (Zj1:HasM K CM "bring" "Moot.bring" Ut) (T:Txt mg) (Tm:TxCMoot K CM) (C0:∃ t,mg "MOST_THINGS" = some (.int 40 t)) (Vu:Fn P w K mg base "check_day" ["day"] 1 Za3) (MM_check_named:Mt P w K mg base CM "check_named" ["self", "day", "people", "thing", "oath"] 3 (Zen C CM))
  (MM_check_moments:Mt P w K mg base CM "check_moments" ["self"] 1 (Za7 C CM)):Mt P w K mg base CM "bring" ["self", "name", "day"] 4 (Zhi C CM):=by
 obtain ⟨t0,c_MOST_THINGS⟩:=C0
 have r_MOST_THINGS:RelV (.int 40) (.int 40 t0):=⟨t0,rfl⟩
 refine Zj1.mtQ Z7j (fun _ _ _ _ _ _ us hl=>match us,hl with | [_,_,_],_=>rfl) (fun vs H Q E h=>?_) (fun f cdv A outer s H vs Q E hr h=>?_)
 ·obtain ⟨M,ds,wa,xs,m,qs,n,day,d,rfl,_⟩:=h
  rfl
 ·obtain ⟨M,ds,wa,xs,m,qs,n,day,d,rfl,W0,hn4,hl,hh,d0,d1,c1,c2,c3,k⟩:=h
  refine ⟨_,(Zf (Zv (Zw Vu (hr.mono (by lia)) Z7l (Za (qvN 2 Zfx) Zc)))
 (Zf (Zv (Z6 (qvN 0 Zbh) Tm.cl MM_check_named (hr.mono (by lia)) (Za (qvN 2 Zfx) (Za (Yu (Za (qvN 1 Zl2) Zc)) (Za Wo (Za Wo Zc))))))
 (Zf (Zl (Zp Zc6 (Z8 Wt Zsy T.len Y1 (Za (Zq (qvN 0 Zbh)) Zc)) (V0 Z7k c_MOST_THINGS r_MOST_THINGS) (Zo _)) (Zg Yh) Zn)
 (Zf (Zv (Vq (qvN 0 Zbh) Tm.cl MM_check_moments (hr.mono (by lia))))
 (Zf (Zv (Y7 F.plainAttrs_list F.slot_list_append F.type_list_append Wu (Zq (qvN 0 Zbh)) (Za (Yc (Za (qvN 1 Zl2) (Za (qvN 2 Zfx) Zc))) Zc)))
 (Zf (Zv (Y7 F.plainAttrs_list F.slot_list_append F.type_list_append Wu (Zq (qvN 0 Zbh)) (Za (Yu Zc) Zc)))
 (Zf (Zv (Y7 F.plainAttrs_list F.slot_list_append F.type_list_append Wu (Zq (qvN 0 Zbh)) (Za (Yc (Za Zm (Za (qvN 1 Zl2) (Za (qvN 2 Zfx) Zc)))) Zc)))
 (Zg (Zr (Zy U5 (Z8 Wt Zsy T.len Y1 (Za (Zq (qvN 0 Zbh)) Zc)) Ze)))))))))),?_⟩
  have hz:(5000:Nat)<=sizeLine:=by decide
  refine ⟨_,rfl,day,rfl,d0,d1,?_⟩
  obtain ⟨dm,obm⟩:=W0.ob
  refine ⟨_,rfl,M.p,dm,_,rfl,obm,Yk _ (by decide +kernel),_,rfl,_,rfl,by show 1<=sizeLine; lia,fun pl hpl=>?_⟩
  have S1:=Same.new (o:=.lst [.str n]) hpl
  have k1:(upd H pl (.lst [.str n])) pl=some (.lst ([n].map V.str)):=Zi
  generalize (upd H pl (.lst [.str n]))=H1 at S1 k1 ⊢
  have W1:=W0.same S1
  refine ⟨M,ds,wa,xs,m,qs,day,pl,[n],.non,rfl,W1,k1,fun m hm=>by rw [yC.mp hm]; exact ⟨d,c1,c2,c3⟩,.inl rfl,fun H1' S1'=>?_⟩
  replace S1:=S1.trans S1'
  replace W1:=W1.same S1'
  have obm1:=S1 _ _ obm
  obtain ⟨us,e1,_,hul⟩:=(W1.ls (M.lb,m.brs) (by simp [Mo.at_])).get
  dsimp only at e1 hul
  refine ⟨_,rfl,M.p,CM,dm,_,_,rfl,obm1,Tm.cl,Tm.nb,Zcy _,M.lb,us,rfl,.inl (SqL.of e1),_,_,rfl,rfl,_,rfl,Z0 (fun z=>absurd z (by lia)) (fun _=>?_)⟩
  refine ⟨_,rfl,M.p,dm,_,rfl,obm1,Yk _ (by decide +kernel),M,ds,wa,xs,m,qs,rfl,W1,hn4,?_⟩
  refine ⟨_,rfl,M.p,CM,dm,_,_,rfl,obm1,Tm.cl,Tm.nb,Zcy _,.inl ⟨rfl,_,SqL.of e1⟩,_,rfl,_,rfl,by show 2<=sizeLine; lia,fun a ha=>?_⟩
  have S2:=Same.new (o:=.tup [.str n,.int day]) ha
  have k2:(upd H1' a (.tup [.str n,.int day])) a=some (.tup [.str n,.int day]):=Zi
  generalize (upd H1' a (.tup [.str n,.int day]))=H2 at S2 k2 ⊢
  have W2:=W1.same S2
  refine ⟨M.lb,us,.ref a,rfl,rfl,S2 _ _ e1,by lia,?_⟩
  have W3:=W2.brg (S2 _ _ e1) (d:=.tup [.str n,.int day]) (v:=.ref a) ⟨a,_,rfl,Wq k2,⟨_,_,rfl,rfl,⟨_,_,rfl,rfl,rfl⟩⟩⟩
  have T3:MTouch M ds wa xs qs H (upd H2 M.lb (.lst (us ++ [.ref a]))):=fun b o e nb=>by
   rw [Zd (fun z:b=M.lb=>nb (z ▸ .inr (.inr (.inl (by simp [ML.ls])))))]
   exact S2 _ _ (S1 _ _ e)
  generalize (upd H2 M.lb (.lst (us ++ [.ref a])))=H3 at W3 T3 ⊢
  obtain ⟨dm2,obm2⟩:=W3.ob
  have e3:=W3.hl
  refine ⟨_,rfl,M.p,CM,dm2,_,_,rfl,obm2,Tm.cl,Tm.nh,Zo7 _,.inl ⟨rfl,_,SqL.of e3⟩,by show 0<=sizeLine; lia,fun q hq=>?_⟩
  have S4:=Same.new (o:=.lst []) hq
  have k4:(upd H3 q (.lst [])) q=some (.lst []):=Zi
  have nq:¬ mo M ds wa xs qs q:=fun z=>by obtain ⟨o,e⟩:=W3.there z; rw [hq] at e; cases e
  have hqf:H q=none:=by
   cases e:H q with
   | none=>rfl
   | some o=>rw [T3 q o e nq] at hq; cases hq
  generalize (upd H3 q (.lst []))=H4 at S4 k4 ⊢
  refine ⟨M.lh,qs.map V.ref,.ref q,rfl,rfl,S4 _ _ e3,by rw [xD]; have:=W0.hn; lia,?_⟩
  have W5:=(W3.same S4).newq k4 nq
  have T5:MTouch M ds wa xs qs H (upd H4 M.lh (.lst (qs.map V.ref ++ [.ref q]))):=fun b o e nb=>by
   rw [Zd (fun z:b=M.lh=>nb (z ▸ .inr (.inr (.inl xR))))]
   exact S4 _ _ (T3 b o e nb)
  have em:(qs ++ [q]).map V.ref=qs.map V.ref ++ [.ref q]:=by rw [xX]; rfl
  rw [em] at W5
  generalize (upd H4 M.lh (.lst (qs.map V.ref ++ [.ref q])))=H5 at W5 T5 ⊢
  obtain ⟨dm4,obm4⟩:=W5.ob
  obtain ⟨vs,f1,_,f2⟩:=(W5.ls (M.ld,m.deeds) (by simp [Mo.at_])).get
  dsimp only at f1 f2
  refine ⟨_,rfl,M.p,CM,dm4,_,_,rfl,obm4,Tm.cl,Tm.nd,Vn _,.inl ⟨rfl,_,SqL.of f1⟩,_,rfl,_,rfl,by show 3<=sizeLine; lia,fun p hp=>?_⟩
  have S6:=Same.new (o:=.tup [.str "bring", .str n,.int day]) hp
  have k6:(upd H5 p (.tup [.str "bring", .str n,.int day])) p=some (.tup [.str "bring", .str n,.int day]):=Zi
  generalize (upd H5 p (.tup [.str "bring", .str n,.int day]))=H6 at S6 k6 ⊢
  have W6:=W5.same S6
  refine ⟨M.ld,vs,.ref p,rfl,rfl,S6 _ _ f1,by lia,?_⟩
  have W7:=W6.deed (v:=.ref p) (S6 _ _ f1) (d:=.tup [.str "bring", .str n,.int day]) ⟨p,_,rfl,Wq k6,⟨_,_,rfl,rfl,⟨_,_,rfl,rfl,⟨_,_,rfl,rfl,rfl⟩⟩⟩⟩
  have T7:MTouch M ds wa xs qs H (upd H6 M.ld (.lst (vs ++ [.ref p]))):=fun b o e nb=>by
   rw [Zd (fun z:b=M.ld=>nb (z▸Zb9))]
   exact S6 _ _ (T5 b o e nb)
  generalize (upd H6 M.ld (.lst (vs ++ [.ref p])))=H7 at W7 T7 ⊢
  obtain ⟨dm6,obm6⟩:=W7.ob
  obtain ⟨us6,g1,_,g2⟩:=(W7.ls (M.lb,m.brs ++ [.tup [.str n,.int day]]) (by simp [Mo.at_])).get
  dsimp only at g1 g2
  rw [xJ] at g2
  refine ⟨_,rfl,M.p,CM,dm6,_,_,rfl,obm6,Tm.cl,Tm.nb,Zcy _,M.lb,us6,rfl,.inl (SqL.of g1),_,_,rfl,rfl,?_⟩
  have ei:((us6.length:Int) - 1)=(m.brs.length:Int):=by rw [g2]; simp
  show Q (.int ((us6.length:Int) - 1)) H7
  rw [ei]
  refine k q H7 W7 T7 fun b hb=>?_
  rcases hb with z | z | z | z | z
  ·exact .inl (.inl z)
  ·exact .inl (.inr (.inl z))
  ·rw [← yH,← yN] at z
   rcases xS.mp z with z | z
   ·exact .inl (.inr (.inr (.inl z)))
   ·rw [yC.mp z]; exact .inr hqf
  ·exact .inl (.inr (.inr (.inr (.inl z))))
  ·exact .inl (.inr (.inr (.inr (.inr z))))
end
section
variable {P:Program}{w:World}{K:uFg}{mg:Str->Option Value}{base:Heap}{C CM:Addr}
theorem ini {H:Hp}{p l dx:Addr}{fs fs':List (Str×V)}{y:HO}(hp:H p=some (.ins CM dx fs)) (hl:H l=none):(upd (upd H l y) p (.ins CM dx fs')) p=some (.ins CM dx fs')/\(upd (upd H l y) p (.ins CM dx fs')) l=some y/\(∀ b o,H b=some o->b≠p->(upd (upd H l y) p (.ins CM dx fs')) b=some o)/\p≠l:=by
 have n:p≠l:=Zj hp hl
 exact ⟨Zi,by rw [Zd n.symm,Zi],fun b o e nb=>by rw [Zd nb,Zd (Zj e hl)]; exact e,n⟩
def mo0:Mo:=⟨[],[],[],[],[],[],[],fun _=>none,0⟩
def Zh8 (C CM:Addr):Sp:=fun vs H Q _=>∃ (p dx:Addr),vs = [.ref p]/\H p=some (.ins CM dx [])/\∀ (M:ML) (H':Hp),M.p=p->MootAt C CM H' M [] (fun _=>0) [] mo0 []->(∀ b o,H b=some o->b≠p->H' b=some o)->(∀ b,mo M [] (fun _=>0) [] [] b->b=p\/H b=none)->Q .non H'
abbrev Zdj:Stmt:=Ye (top 66) 0
theorem Z7m:FnScope ["self"] ["self"] (Zb Zdj):=⟨rfl,rfl,rfl,by decide +kernel,rfl,by decide +kernel,by decide +kernel⟩
theorem Z7n:Nm (Zb Zdj) "Folk" .globalImplicit:=by decide +kernel
theorem Uz:Nm (Zb Zdj) "self" .local:=by decide +kernel
theorem Z1e (Zj2:HasM K CM "__init__" "Moot.__init__" Zdj) (Tm:TxCMoot K CM) (M_Folk:Mks P w K mg base C "Folk" 1 (Zqd C)):Mt P w K mg base CM "__init__" ["self"] 3 (Zh8 C CM):=by
 refine Zj2.mtQ Z7m (fun _ _ _ _ _ _ us hl=>match us,hl with | [_],_=>rfl) (fun vs H Q E h=>?_) (fun f cdv A outer s H vs Q E hr h=>?_)
 ·obtain ⟨p,dx,rfl,_⟩:=h
  rfl
 ·obtain ⟨p,dx,rfl,hp,k⟩:=h
  refine ⟨_,(Zf (Wc (qvN 0 Uz) (Yu Zc))
 (Zf (Wc (qvN 0 Uz) (Zev M_Folk (hr.mono (by lia)) Z7n))
 (Zf (Wc (qvN 0 Uz) (Yu Zc))
 (Zf (Wc (qvN 0 Uz) (Yu Zc))
 (Zf (Wc (qvN 0 Uz) (Yu Zc))
 (Zf (Wc (qvN 0 Uz) (Yu Zc))
 (Zf (Wc (qvN 0 Uz) (Yu Zc))
 (Zf (Wc (qvN 0 Uz) (Yu Zc))
 (Zg (Wc (qvN 0 Uz) Zcx)))))))))),?_⟩
  have hz:(5000:Nat)<=sizeLine:=by decide
  refine ⟨by show 0<=sizeLine; lia,fun ld hld=>?_⟩
  have pld:p≠ld:=Zj hp hld
  refine ⟨_,rfl,p,CM,dx,[],rfl,(by rw [Zd pld]; exact hp),Tm.cl,Tm.nd,(by show 0 < 1000; decide),?_⟩
  have i1:=ini (fs':=Zh "deeds" (.ref ld) []) (y:=.lst []) hp hld
  have l1:=Wr "deeds" (V.ref ld) []
  generalize (upd (upd H ld (.lst [])) p (.ins CM dx (Zh "deeds" (.ref ld) [])))=H1 at i1 ⊢
  generalize g1:Zh "deeds" (V.ref ld) []=f1 at i1 l1 ⊢
  obtain ⟨i1p,i1l,i1k,_⟩:=i1
  intro x dx2 nx ndx nex
  have px:p≠x:=Zj i1p nx
  have pdx:p≠dx2:=Zj i1p ndx
  refine ⟨x,dx2,rfl,Zi,fun L H2a eL F2 kp fr=>⟨rfl,?_⟩⟩
  subst eL
  have sm2:Same H1 H2a:=fun b o e=>kp b o (by rw [Zd (Zj e nx),Zd (Zj e ndx)]; exact e) (Zj e nx)
  have fr2:∀ b,b=L.dc\/b=L.dw\/b=L.dd\/b=L.dh->H1 b=none:=fun b hb=>by
   have:=fr b hb
   by_cases c:b=L.p
   ·rw [c]; exact nx
   ·rw [Zd c] at this
    by_cases c2:b=dx2
    ·rw [c2]; exact ndx
    ·rw [Zd c2] at this; exact this
  have i2p0:=sm2 _ _ i1p
  have K2:Fk C H2a L [] (fun _=>0):=by
   obtain ⟨kv,w1,w2⟩:=F2.w
   exact ⟨F2,WtsAt.start F2,kv,w1,fun p hp=>by rw [List.eq_nil_of_length_eq_zero (Nat.le_zero.mp w2)] at hp; cases hp⟩
  refine ⟨_,rfl,p,CM,dx,f1,rfl,i2p0,Tm.cl,Tm.nf,(by simp only [yF] at *; lia),?_⟩
  have l2:=Wr "folk" (V.ref L.p) f1
  generalize g2:Zh "folk" (V.ref L.p) f1=f2 at l2 ⊢
  have i2p:(upd H2a p (.ins CM dx f2)) p=some (.ins CM dx f2):=Zi
  have i2k:∀ b o,H2a b=some o->b≠p->(upd H2a p (.ins CM dx f2)) b=some o:=fun b o e nb=>by rw [Zd nb]; exact e
  generalize (upd H2a p (.ins CM dx f2))=H2 at i2p i2k ⊢
  refine ⟨by show 0<=sizeLine; lia,fun lb hlb=>?_⟩
  have plb:p≠lb:=Zj i2p hlb
  refine ⟨_,rfl,p,CM,dx,f2,rfl,(by rw [Zd plb]; exact i2p),Tm.cl,Tm.nb,(by simp only [yF] at *; lia),?_⟩
  have i3:=ini (fs':=Zh "bringings" (.ref lb) f2) (y:=.lst []) i2p hlb
  have l3:=Wr "bringings" (V.ref lb) f2
  generalize (upd (upd H2 lb (.lst [])) p (.ins CM dx (Zh "bringings" (.ref lb) f2)))=H3 at i3 ⊢
  generalize g3:Zh "bringings" (V.ref lb) f2=f3 at i3 l3 ⊢
  obtain ⟨i3p,i3l,i3k,_⟩:=i3
  refine ⟨by show 0<=sizeLine; lia,fun lh hlh=>?_⟩
  have plh:p≠lh:=Zj i3p hlh
  refine ⟨_,rfl,p,CM,dx,f3,rfl,(by rw [Zd plh]; exact i3p),Tm.cl,Tm.nh,(by simp only [yF] at *; lia),?_⟩
  have i4:=ini (fs':=Zh "happenings" (.ref lh) f3) (y:=.lst []) i3p hlh
  have l4:=Wr "happenings" (V.ref lh) f3
  generalize (upd (upd H3 lh (.lst [])) p (.ins CM dx (Zh "happenings" (.ref lh) f3)))=H4 at i4 ⊢
  generalize g4:Zh "happenings" (V.ref lh) f3=f4 at i4 l4 ⊢
  obtain ⟨i4p,i4l,i4k,_⟩:=i4
  refine ⟨by show 0<=sizeLine; lia,fun lq hlq=>?_⟩
  have plq:p≠lq:=Zj i4p hlq
  refine ⟨_,rfl,p,CM,dx,f4,rfl,(by rw [Zd plq]; exact i4p),Tm.cl,Tm.nq,(by simp only [yF] at *; lia),?_⟩
  have i5:=ini (fs':=Zh "debts" (.ref lq) f4) (y:=.lst []) i4p hlq
  have l5:=Wr "debts" (V.ref lq) f4
  generalize (upd (upd H4 lq (.lst [])) p (.ins CM dx (Zh "debts" (.ref lq) f4)))=H5 at i5 ⊢
  generalize g5:Zh "debts" (V.ref lq) f4=f5 at i5 l5 ⊢
  obtain ⟨i5p,i5l,i5k,_⟩:=i5
  refine ⟨by show 0<=sizeLine; lia,fun lt hlt=>?_⟩
  have plt:p≠lt:=Zj i5p hlt
  refine ⟨_,rfl,p,CM,dx,f5,rfl,(by rw [Zd plt]; exact i5p),Tm.cl,Tm.nt,(by simp only [yF] at *; lia),?_⟩
  have i6:=ini (fs':=Zh "trials" (.ref lt) f5) (y:=.lst []) i5p hlt
  have l6:=Wr "trials" (V.ref lt) f5
  generalize (upd (upd H5 lt (.lst [])) p (.ins CM dx (Zh "trials" (.ref lt) f5)))=H6 at i6 ⊢
  generalize g6:Zh "trials" (V.ref lt) f5=f6 at i6 l6 ⊢
  obtain ⟨i6p,i6l,i6k,_⟩:=i6
  refine ⟨by show 0<=sizeLine; lia,fun ly hly=>?_⟩
  have ply:p≠ly:=Zj i6p hly
  refine ⟨_,rfl,p,CM,dx,f6,rfl,(by rw [Zd ply]; exact i6p),Tm.cl,Tm.ny,(by simp only [yF] at *; lia),?_⟩
  have i7:=ini (fs':=Zh "trial_days" (.ref ly) f6) (y:=.lst []) i6p hly
  have l7:=Wr "trial_days" (V.ref ly) f6
  generalize (upd (upd H6 ly (.lst [])) p (.ins CM dx (Zh "trial_days" (.ref ly) f6)))=H7 at i7 ⊢
  generalize g7:Zh "trial_days" (V.ref ly) f6=f7 at i7 l7 ⊢
  obtain ⟨i7p,i7l,i7k,_⟩:=i7
  refine ⟨by show 0<=sizeLine; lia,fun lv hlv=>?_⟩
  have plv:p≠lv:=Zj i7p hlv
  refine ⟨_,rfl,p,CM,dx,f7,rfl,(by rw [Zd plv]; exact i7p),Tm.cl,Tm.nv,(by simp only [yF] at *; lia),?_⟩
  have i8:=ini (fs':=Zh "verdicts" (.ref lv) f7) (y:=.lst []) i7p hlv
  have l8:=Wr "verdicts" (V.ref lv) f7
  generalize (upd (upd H7 lv (.lst [])) p (.ins CM dx (Zh "verdicts" (.ref lv) f7)))=H8 at i8 ⊢
  generalize g8:Zh "verdicts" (V.ref lv) f7=f8 at i8 l8 ⊢
  obtain ⟨i8p,i8l,i8k,_⟩:=i8
  intro dp hdp
  have pdp:p≠dp:=Zj i8p hdp
  refine ⟨_,rfl,p,CM,dx,f8,rfl,(by rw [Zd pdp]; exact i8p),Tm.cl,Tm.np,(by simp only [yF] at *; lia),?_⟩
  have i9:=ini (fs':=Zh "penances" (.ref dp) f8) (y:=.dK []) i8p hdp
  have l9:=Wr "penances" (V.ref dp) f8
  generalize (upd (upd H8 dp (.dK [])) p (.ins CM dx (Zh "penances" (.ref dp) f8)))=H9 at i9 ⊢
  generalize g9:Zh "penances" (V.ref dp) f8=f9 at i9 l9 ⊢
  obtain ⟨i9p,i9l,i9k,_⟩:=i9
  have k1:=i1k
  have k2:∀ b o,H b=some o->b≠p->H2 b=some o:=fun b o e n=>i2k b o (sm2 b o (k1 b o e n)) n
  have k3:∀ b o,H b=some o->b≠p->H3 b=some o:=fun b o e n=>i3k b o (k2 b o e n) n
  have k4:∀ b o,H b=some o->b≠p->H4 b=some o:=fun b o e n=>i4k b o (k3 b o e n) n
  have k5:∀ b o,H b=some o->b≠p->H5 b=some o:=fun b o e n=>i5k b o (k4 b o e n) n
  have k6:∀ b o,H b=some o->b≠p->H6 b=some o:=fun b o e n=>i6k b o (k5 b o e n) n
  have k7:∀ b o,H b=some o->b≠p->H7 b=some o:=fun b o e n=>i7k b o (k6 b o e n) n
  have k8:∀ b o,H b=some o->b≠p->H8 b=some o:=fun b o e n=>i8k b o (k7 b o e n) n
  have k9:∀ b o,H b=some o->b≠p->H9 b=some o:=fun b o e n=>i9k b o (k8 b o e n) n
  have q2:=i2k
  have q3:∀ b o,H2a b=some o->b≠p->H3 b=some o:=fun b o e n=>i3k b o (q2 b o e n) n
  have q4:∀ b o,H2a b=some o->b≠p->H4 b=some o:=fun b o e n=>i4k b o (q3 b o e n) n
  have q5:∀ b o,H2a b=some o->b≠p->H5 b=some o:=fun b o e n=>i5k b o (q4 b o e n) n
  have q6:∀ b o,H2a b=some o->b≠p->H6 b=some o:=fun b o e n=>i6k b o (q5 b o e n) n
  have q7:∀ b o,H2a b=some o->b≠p->H7 b=some o:=fun b o e n=>i7k b o (q6 b o e n) n
  have q8:∀ b o,H2a b=some o->b≠p->H8 b=some o:=fun b o e n=>i8k b o (q7 b o e n) n
  have q9:∀ b o,H2a b=some o->b≠p->H9 b=some o:=fun b o e n=>i9k b o (q8 b o e n) n
  have eld:H9 ld=some (.lst []):=(i9k _ _ (i8k _ _ (i7k _ _ (i6k _ _ (i5k _ _ (i4k _ _ (i3k _ _ (i2k _ _ (sm2 _ _ i1l) pld.symm) pld.symm) pld.symm) pld.symm) pld.symm) pld.symm) pld.symm) pld.symm)
  have zld:H ld=none:=hld
  have elb:H9 lb=some (.lst []):=(i9k _ _ (i8k _ _ (i7k _ _ (i6k _ _ (i5k _ _ (i4k _ _ i3l plb.symm) plb.symm) plb.symm) plb.symm) plb.symm) plb.symm)
  have zlb:H lb=none:=by
   cases eb:H lb with
   | none=>rfl
   | some o=>have:=k2 _ _ eb plb.symm; rw [hlb] at this; cases this
  have elh:H9 lh=some (.lst []):=(i9k _ _ (i8k _ _ (i7k _ _ (i6k _ _ (i5k _ _ i4l plh.symm) plh.symm) plh.symm) plh.symm) plh.symm)
  have zlh:H lh=none:=by
   cases eb:H lh with
   | none=>rfl
   | some o=>have:=k3 _ _ eb plh.symm; rw [hlh] at this; cases this
  have elq:H9 lq=some (.lst []):=(i9k _ _ (i8k _ _ (i7k _ _ (i6k _ _ i5l plq.symm) plq.symm) plq.symm) plq.symm)
  have zlq:H lq=none:=by
   cases eb:H lq with
   | none=>rfl
   | some o=>have:=k4 _ _ eb plq.symm; rw [hlq] at this; cases this
  have elt:H9 lt=some (.lst []):=(i9k _ _ (i8k _ _ (i7k _ _ i6l plt.symm) plt.symm) plt.symm)
  have zlt:H lt=none:=by
   cases eb:H lt with
   | none=>rfl
   | some o=>have:=k5 _ _ eb plt.symm; rw [hlt] at this; cases this
  have ely:H9 ly=some (.lst []):=(i9k _ _ (i8k _ _ i7l ply.symm) ply.symm)
  have zly:H ly=none:=by
   cases eb:H ly with
   | none=>rfl
   | some o=>have:=k6 _ _ eb ply.symm; rw [hly] at this; cases this
  have elv:H9 lv=some (.lst []):=(i9k _ _ i8l plv.symm)
  have zlv:H lv=none:=by
   cases eb:H lv with
   | none=>rfl
   | some o=>have:=k7 _ _ eb plv.symm; rw [hlv] at this; cases this
  have edp:H9 dp=some (.dK []):=i9l
  have zdp:H dp=none:=by
   cases eb:H dp with
   | none=>rfl
   | some o=>have:=k8 _ _ eb pdp.symm; rw [hdp] at this; cases this
  have nldlb:ld≠lb:=Zj (i2k _ _ (sm2 _ _ i1l) pld.symm) hlb
  have nldlh:ld≠lh:=Zj (i3k _ _ (i2k _ _ (sm2 _ _ i1l) pld.symm) pld.symm) hlh
  have nldlq:ld≠lq:=Zj (i4k _ _ (i3k _ _ (i2k _ _ (sm2 _ _ i1l) pld.symm) pld.symm) pld.symm) hlq
  have nldlt:ld≠lt:=Zj (i5k _ _ (i4k _ _ (i3k _ _ (i2k _ _ (sm2 _ _ i1l) pld.symm) pld.symm) pld.symm) pld.symm) hlt
  have nldly:ld≠ly:=Zj (i6k _ _ (i5k _ _ (i4k _ _ (i3k _ _ (i2k _ _ (sm2 _ _ i1l) pld.symm) pld.symm) pld.symm) pld.symm) pld.symm) hly
  have nldlv:ld≠lv:=Zj (i7k _ _ (i6k _ _ (i5k _ _ (i4k _ _ (i3k _ _ (i2k _ _ (sm2 _ _ i1l) pld.symm) pld.symm) pld.symm) pld.symm) pld.symm) pld.symm) hlv
  have nlblh:lb≠lh:=Zj i3l hlh
  have nlblq:lb≠lq:=Zj (i4k _ _ i3l plb.symm) hlq
  have nlblt:lb≠lt:=Zj (i5k _ _ (i4k _ _ i3l plb.symm) plb.symm) hlt
  have nlbly:lb≠ly:=Zj (i6k _ _ (i5k _ _ (i4k _ _ i3l plb.symm) plb.symm) plb.symm) hly
  have nlblv:lb≠lv:=Zj (i7k _ _ (i6k _ _ (i5k _ _ (i4k _ _ i3l plb.symm) plb.symm) plb.symm) plb.symm) hlv
  have nlhlq:lh≠lq:=Zj i4l hlq
  have nlhlt:lh≠lt:=Zj (i5k _ _ i4l plh.symm) hlt
  have nlhly:lh≠ly:=Zj (i6k _ _ (i5k _ _ i4l plh.symm) plh.symm) hly
  have nlhlv:lh≠lv:=Zj (i7k _ _ (i6k _ _ (i5k _ _ i4l plh.symm) plh.symm) plh.symm) hlv
  have nlqlt:lq≠lt:=Zj i5l hlt
  have nlqly:lq≠ly:=Zj (i6k _ _ i5l plq.symm) hly
  have nlqlv:lq≠lv:=Zj (i7k _ _ (i6k _ _ i5l plq.symm) plq.symm) hlv
  have nltly:lt≠ly:=Zj i6l hly
  have nltlv:lt≠lv:=Zj (i7k _ _ i6l plt.symm) hlv
  have nlylv:ly≠lv:=Zj i7l hlv
  have pl:¬ own L [] (fun _=>0) p:=fun z=>by
   rcases z with z | z | z | z | z | ⟨n,l,e,z⟩
   ·exact px z
   ·have:=fr2 p (.inl z); rw [i1p] at this; cases this
   ·have:=fr2 p (.inr (.inl z)); rw [i1p] at this; cases this
   ·have:=fr2 p (.inr (.inr (.inl z))); rw [i1p] at this; cases this
   ·have:=fr2 p (.inr (.inr (.inr z))); rw [i1p] at this; cases this
   ·cases e
  have K9:Fk C H9 L [] (fun _=>0):=K2.at fun b o hb e=>q9 b o e fun z=>pl (z▸hb)
  have h1n:∀ b,H1 b=none->b≠p->H b=none:=fun b hb n=>by
   cases eb:H b with
   | none=>rfl
   | some o=>have:=k1 _ _ eb n; rw [hb] at this; cases this
  subst g9 g8 g7 g6 g5 g4 g3 g2 g1
  have ndp:¬ own L [] (fun _=>0) dp:=fun z=>by
   obtain ⟨o,e,_⟩:=K2.there z
   have:=q8 _ _ e pdp.symm
   rw [hdp] at this; cases this
  refine k ⟨p,L,ld,lb,lh,lq,lt,ly,lv,dp⟩ H9 rfl ⟨⟨dx,i9p⟩,K9,fun q hq=>?_,elh,rfl,⟨[],edp,xB _,fun _=>rfl⟩,?_,(fun _ z=>nomatch z),(fun _ z=>nomatch z),px,ndp⟩ k9 (fun b hb=>?_)
  ·simp only [Mo.at_,mo0,xC,List.zip_nil_left,xQ,or_false] at hq
   rcases hq with rfl | rfl | rfl | rfl | rfl | rfl
   ·exact ⟨[],eld,rfl⟩
   ·exact ⟨[],elb,rfl⟩
   ·exact ⟨[],elq,rfl⟩
   ·exact ⟨[],elt,rfl⟩
   ·exact ⟨[],ely,rfl⟩
   ·exact ⟨[],elv,rfl⟩
  ·simp only [ML.ls,List.append_nil,xZ,xC,xQ,or_false,not_or,not_false_eq_true,List.nodup_nil,and_true]
   exact ⟨⟨Ne.symm nldlh,Ne.symm nlblh,nlhlq,nlhlt,nlhly,nlhlv⟩,⟨nldlb,nldlq,nldlt,nldly,nldlv⟩,⟨nlblq,nlblt,nlbly,nlblv⟩,⟨nlqlt,nlqly,nlqlv⟩,⟨nltly,nltlv⟩,nlylv⟩
  ·rcases hb with z | z | z | z | z
   ·exact .inl z
   ·rw [z]; exact .inr zdp
   ·simp only [ML.ls,List.append_nil,xC,xQ,or_false] at z
    rcases z with rfl | rfl | rfl | rfl | rfl | rfl | rfl <;> exact .inr (by assumption)
   ·cases z
   ·have ne:b≠p:=fun y=>pl (y▸z)
    refine .inr ?_
    rcases z with z | z | z | z | z | ⟨n,l,e,z⟩
    ·exact h1n b (by rw [z]; exact nx) ne
    ·exact h1n b (fr2 b (.inl z)) ne
    ·exact h1n b (fr2 b (.inr (.inl z))) ne
    ·exact h1n b (fr2 b (.inr (.inr (.inl z)))) ne
    ·exact h1n b (fr2 b (.inr (.inr (.inr z)))) ne
    ·cases e
end
section
variable {P:Program}{w:World}{K:uFg}{mg:Str->Option Value}{base:Heap}{C CM:Addr}
theorem Fn.alias {x y:Str}{ps:List Str}{k:Nat}{sp:Sp}(F:Fn P w K mg base y ps k sp) (e:mg x=mg y):Fn P w K mg base x ps k sp:=let ⟨f,fd,a,b⟩:=F; ⟨f,fd,e.trans a,b⟩
theorem MootAt.ntup {M:ML}{ds:List Deed}{wa:Str->Addr}{xs qs:List Addr}{m:Mo}{H:Hp}(h:MootAt C CM H M ds wa xs m qs) {b:Addr}{t:List V}(e:H b=some (.tup t)):¬ mo M ds wa xs qs b:=fun hb=>by
 rcases hb with rfl | rfl | hb | hb | hb
 ·obtain ⟨dx,e'⟩:=h.ob; rw [e] at e'; cases e'
 ·obtain ⟨kvs,e',_⟩:=h.pn; rw [e] at e'; cases e'
 ·obtain ⟨ys,e'⟩:=h.lst hb; rw [e] at e'; cases e'
 ·obtain ⟨ys,e'⟩:=h.xl b hb; rw [e] at e'; cases e'
 ·obtain ⟨o,e',_,n2⟩:=h.fk.there hb; rw [e] at e'; cases e'; exact n2 t rfl
theorem MTouch.tt {M:ML}{ds:List Deed}{wa:Str->Addr}{xs qs:List Addr}{m:Mo}{H H':Hp}(h:MootAt C CM H M ds wa xs m qs) (t:MTouch M ds wa xs qs H H'):Y0 H H':=fun b u e=>t b _ e (h.ntup e)
def Zh9 (C CM:Addr):Sp:=fun vs H Q _=>∃ (M:ML) (ds:List Deed) (wa:Str->Addr) (xs:List Addr) (m:Mo) (qs:List Addr) (n:Str) (day wt d0:Int),vs = [.ref M.p,.str n,.int day,.int wt]/\MootAt C CM H M ds wa xs m qs/\m.deeds.length < 400/\ds.length<=1000/\0<=day/\day<=9999/\1<=wt/\wt<=1000/\Zt ds n=some d0/\d0<=day/\Wi ds n day=false /\
 ∀ (H':Hp),MootAt C CM H' M (ds ++ [.rise n day wt]) wa xs {m with deeds:=m.deeds ++ [.tup [.str "rise", .str n,.int day,.int wt]] } qs->MTouch M ds wa xs qs H H'->MFresh M ds wa xs qs M (ds ++ [.rise n day wt]) wa xs qs H->Q .non H'
abbrev Za9:Stmt:=Ye (top 66) 2
theorem Z7o:FnScope ["self", "name", "day", "weight"] ["self", "name", "day", "weight"] (Zb Za9):=⟨rfl,rfl,rfl,by decide +kernel,rfl,by decide +kernel,by decide +kernel⟩
theorem Zl3:Nm (Zb Za9) "day" .local:=by decide +kernel
theorem Zl4:Nm (Zb Za9) "name" .local:=by decide +kernel
theorem Zfy:Nm (Zb Za9) "self" .local:=by decide +kernel
theorem Zl5:Nm (Zb Za9) "weight" .local:=by decide +kernel
theorem Z1f (Zj3:HasM K CM "rise" "Moot.rise" Za9) (Tc:TxC K C) (Tm:TxCMoot K CM) (M_check_rise:Mt P w K mg base C "check_rise" ["self", "name", "day", "weight"] 3 (Zg6 C)) (M_rise:Mt P w K mg base C "rise" ["self", "name", "day", "weight"] 4 (Zqf C))
  (MM_check_moments:Mt P w K mg base CM "check_moments" ["self"] 1 (Za7 C CM)):Mt P w K mg base CM "rise" ["self", "name", "day", "weight"] 5 (Zh9 C CM):=by
 refine Zj3.mtQ Z7o (fun _ _ _ _ _ _ us hl=>match us,hl with | [_,_,_,_],_=>rfl) (fun vs H Q E h=>?_) (fun f cdv A outer s H vs Q E hr h=>?_)
 ·obtain ⟨M,ds,wa,xs,m,qs,n,day,wt,d0,rfl,_⟩:=h
  rfl
 ·obtain ⟨M,ds,wa,xs,m,qs,n,day,wt,e0,rfl,W1,hn4,hl,d0,d1,w0,w1,hc,hcd,hd,k⟩:=h
  refine ⟨_,(Zf (Zv (Z6 (Zq (qvN 0 Zfy)) Tc.cl M_check_rise (hr.mono (by lia)) (Za (qvN 1 Zl4) (Za (qvN 2 Zl3) (Za (qvN 3 Zl5) Zc)))))
 (Zf (Zv (Vq (qvN 0 Zfy) Tm.cl MM_check_moments (hr.mono (by lia))))
 (Zf (Zv (Z6 (Zq (qvN 0 Zfy)) Tc.cl M_rise (hr.mono (by lia)) (Za (qvN 1 Zl4) (Za (qvN 2 Zl3) (Za (qvN 3 Zl5) Zc)))))
 (Zg (Zv (Y7 F.plainAttrs_list F.slot_list_append F.type_list_append Wu (Zq (qvN 0 Zfy)) (Za (Yc (Za Zm (Za (qvN 1 Zl4) (Za (qvN 2 Zl3) (Za (qvN 3 Zl5) Zc))))) Zc))))))),?_⟩
  have hz:(5000:Nat)<=sizeLine:=by decide
  obtain ⟨dm,obm⟩:=W1.ob
  obtain ⟨dx,ob⟩:=W1.fk.f.ob
  refine ⟨_,rfl,M.p,CM,dm,_,_,rfl,obm,Tm.cl,Tm.nf,Vi _,M.L.p,dx,_,rfl,ob,Yw _ _ _ _ (by decide +kernel),_,rfl,_,rfl,_,rfl,M.L,ds,n,day,wt,e0,rfl,W1.fk.f,d0,d1,w0,w1,hc,hcd,hd,?_⟩
  refine ⟨_,rfl,M.p,dm,_,rfl,obm,Yk _ (by decide +kernel),M,ds,wa,xs,m,qs,rfl,W1,hn4,?_⟩
  refine ⟨_,rfl,M.p,CM,dm,_,_,rfl,obm,Tm.cl,Tm.nf,Vi _,M.L.p,dx,_,rfl,ob,Yw _ _ _ _ (by decide +kernel),_,rfl,_,rfl,_,rfl,M.L,ds,wa,n,day,wt,e0,rfl,W1.fk,hl,d0,d1,w0,w1,hc,hcd,hd,fun H2 F2 T2 R2=>?_⟩
  have W2:=W1.folk F2 T2 R2
  obtain ⟨dm2,obm2⟩:=W2.ob
  obtain ⟨vs,e1,_,e2⟩:=(W2.ls (M.ld,m.deeds) (by simp [Mo.at_])).get
  dsimp only at e1 e2
  refine ⟨_,rfl,M.p,CM,dm2,_,_,rfl,obm2,Tm.cl,Tm.nd,Vn _,.inl ⟨rfl,_,SqL.of e1⟩,_,rfl,_,rfl,_,rfl,by show 4<=sizeLine; lia,fun p hp=>?_⟩
  have S3:=Same.new (o:=.tup [.str "rise", .str n,.int day,.int wt]) hp
  have kp:(upd H2 p (.tup [.str "rise", .str n,.int day,.int wt])) p=some (.tup [.str "rise", .str n,.int day,.int wt]):=Zi
  generalize (upd H2 p (.tup [.str "rise", .str n,.int day,.int wt]))=H3 at S3 kp ⊢
  have W3:=W2.same S3
  refine ⟨M.ld,vs,.ref p,rfl,rfl,S3 _ _ e1,by lia,?_⟩
  refine k _ (W3.deed (S3 _ _ e1) ⟨p,_,rfl,Wq kp,⟨_,_,rfl,rfl,⟨_,_,rfl,rfl,⟨_,_,rfl,rfl,⟨_,_,rfl,rfl,rfl⟩⟩⟩⟩⟩) (fun b o e nb=>?_) (MFresh.folk (xs:=xs) (qs:=qs) R2)
  rw [Zd (fun z:b=M.ld=>nb (z▸Zb9))]
  exact S3 _ _ (T2 b o e fun z=>nb (.inr (.inr (.inr (.inr z)))))
def dbt (e:Enr):D:=.tup [.non,Zd0 e]
def Ziw (C CM:Addr):Sp:=fun vs H Q _=>∃ (M:ML) (ds:List Deed) (wa:Str->Addr) (xs:List Addr) (m:Mo) (qs:List Addr) (x y:Str) (many day:Int),vs = [.ref M.p,.str x,.str y,.int many,.int day]/\MootAt C CM H M ds wa xs m qs/\m.deeds.length < 400/\m.debts.length < 1000/\1<=many/\many<=1000000/\0<=day/\day<=9999/\(∀ n ∈ [x,y],∃ d,Zt ds n=some d/\d<=day/\Wi ds n day=false) /\
 ∀ (H':Hp),MootAt C CM H' M ds wa xs {m with debts:=m.debts ++ [dbt ⟨day,y,x,many⟩],deeds:=m.deeds ++ [.tup [.str "pay", .str x,.str y,.int many,.int day]] } qs->MTouch M ds wa xs qs H H'->Q .non H'
abbrev V6:Stmt:=Ye (top 66) 7
theorem Z7p:FnScope ["self", "payer", "taker", "many", "day"] ["self", "payer", "taker", "many", "day"] (Zb V6):=⟨rfl,rfl,rfl,by decide +kernel,rfl,by decide +kernel,by decide +kernel⟩
theorem Z7q:Nm (Zb V6) "check_day" .globalImplicit:=by decide +kernel
theorem Z7r:Nm (Zb V6) "check_money" .globalImplicit:=by decide +kernel
theorem Zfz:Nm (Zb V6) "day" .local:=by decide +kernel
theorem Zl6:Nm (Zb V6) "many" .local:=by decide +kernel
theorem Zl7:Nm (Zb V6) "payer" .local:=by decide +kernel
theorem Zf0:Nm (Zb V6) "self" .local:=by decide +kernel
theorem Zl8:Nm (Zb V6) "taker" .local:=by decide +kernel
theorem Z3p (Zj4:HasM K CM "pay" "Moot.pay" V6) (Tm:TxCMoot K CM) (Z7s:Fn P w K mg base "check_money" ["many"] 1 Zo8) (Vu:Fn P w K mg base "check_day" ["day"] 1 Za3) (MM_check_named:Mt P w K mg base CM "check_named" ["self", "day", "people", "thing", "oath"] 3 (Zen C CM))
  (MM_check_moments:Mt P w K mg base CM "check_moments" ["self"] 1 (Za7 C CM)):Mt P w K mg base CM "pay" ["self", "payer", "taker", "many", "day"] 4 (Ziw C CM):=by
 refine Zj4.mtQ Z7p (fun _ _ _ _ _ _ us hl=>match us,hl with | [_,_,_,_,_],_=>rfl) (fun vs H Q E h=>?_) (fun f cdv A outer s H vs Q E hr h=>?_)
 ·obtain ⟨M,ds,wa,xs,m,qs,x,y,many,day,rfl,_⟩:=h
  rfl
 ·obtain ⟨M,ds,wa,xs,m,qs,x,y,many,day,rfl,W0,hn4,hl,m0,m1,d0,d1,hps,k⟩:=h
  refine ⟨_,(Zf (Zv (Zw Z7s (hr.mono (by lia)) Z7r (Za (qvN 3 Zl6) Zc)))
 (Zf (Zv (Zw Vu (hr.mono (by lia)) Z7q (Za (qvN 4 Zfz) Zc)))
 (Zf (Zv (Z6 (qvN 0 Zf0) Tm.cl MM_check_named (hr.mono (by lia)) (Za (qvN 4 Zfz) (Za (Yu (Za (qvN 1 Zl7) (Za (qvN 2 Zl8) Zc))) (Za Wo (Za Wo Zc))))))
 (Zf (Zv (Vq (qvN 0 Zf0) Tm.cl MM_check_moments (hr.mono (by lia))))
 (Zf (Zv (Y7 F.plainAttrs_list F.slot_list_append F.type_list_append Wu (Zq (qvN 0 Zf0)) (Za (Yc (Za Wo (Za (Yc (Za (qvN 4 Zfz) (Za (qvN 2 Zl8) (Za (qvN 1 Zl7) (Za (qvN 3 Zl6) Zc))))) Zc))) Zc)))
 (Zg (Zv (Y7 F.plainAttrs_list F.slot_list_append F.type_list_append Wu (Zq (qvN 0 Zf0)) (Za (Yc (Za Zm (Za (qvN 1 Zl7) (Za (qvN 2 Zl8) (Za (qvN 3 Zl6) (Za (qvN 4 Zfz) Zc)))))) Zc))))))))),?_⟩
  have hz:(5000:Nat)<=sizeLine:=by decide
  refine ⟨_,rfl,many,rfl,m0,m1,?_⟩
  refine ⟨_,rfl,day,rfl,d0,d1,?_⟩
  obtain ⟨dm,obm⟩:=W0.ob
  refine ⟨_,rfl,M.p,dm,_,rfl,obm,Yk _ (by decide +kernel),_,rfl,_,rfl,_,rfl,by show 2<=sizeLine; lia,fun pl hpl=>?_⟩
  have S1:=Same.new (o:=.lst [.str x,.str y]) hpl
  have k1:(upd H pl (.lst [.str x,.str y])) pl=some (.lst ([x,y].map V.str)):=Zi
  generalize (upd H pl (.lst [.str x,.str y]))=H1 at S1 k1 ⊢
  refine ⟨M,ds,wa,xs,m,qs,day,pl,[x,y],.non,rfl,W0.same S1,k1,hps,.inl rfl,fun H1' S1'=>?_⟩
  replace S1:=S1.trans S1'
  have W1:=W0.same S1
  have obm1:=S1 _ _ obm
  refine ⟨_,rfl,M.p,dm,_,rfl,obm1,Yk _ (by decide +kernel),M,ds,wa,xs,m,qs,rfl,W1,hn4,?_⟩
  obtain ⟨us,e1,_,hul⟩:=(W1.ls (M.lq,m.debts) (by simp [Mo.at_])).get
  dsimp only at e1 hul
  refine ⟨_,rfl,M.p,CM,dm,_,_,rfl,obm1,Tm.cl,Tm.nq,Zog _,.inl ⟨rfl,_,SqL.of e1⟩,_,rfl,_,rfl,_,rfl,_,rfl,by show 4<=sizeLine; lia,fun b hb=>?_⟩
  have S2:=Same.new (o:=.tup [.int day,.str y,.str x,.int many]) hb
  have k2:(upd H1' b (.tup [.int day,.str y,.str x,.int many])) b=some (.tup [.int day,.str y,.str x,.int many]):=Zi
  generalize (upd H1' b (.tup [.int day,.str y,.str x,.int many]))=H2 at S2 k2 ⊢
  refine ⟨by show 2<=sizeLine; lia,fun a ha=>?_⟩
  have S3:=Same.new (o:=.tup [.non,.ref b]) ha
  have k3:(upd H2 a (.tup [.non,.ref b])) a=some (.tup [.non,.ref b]):=Zi
  generalize (upd H2 a (.tup [.non,.ref b]))=H3 at S3 k3 ⊢
  have W3:=(W1.same S2).same S3
  have e3:=S3 _ _ (S2 _ _ e1)
  refine ⟨M.lq,us,.ref a,rfl,rfl,e3,by lia,?_⟩
  have W4:=W3.debt (d:=dbt ⟨day,y,x,many⟩) (v:=.ref a) e3 ⟨a,_,rfl,Wq k3,⟨_,_,rfl,rfl,⟨_,_,rfl,⟨b,_,rfl,Wq (S3 _ _ k2),⟨_,_,rfl,rfl,⟨_,_,rfl,rfl,⟨_,_,rfl,rfl,⟨_,_,rfl,rfl,rfl⟩⟩⟩⟩⟩,rfl⟩⟩⟩
  have T4:MTouch M ds wa xs qs H (upd H3 M.lq (.lst (us ++ [.ref a]))):=fun c o e nb=>by
   rw [Zd (fun z:c=M.lq=>nb (z ▸ .inr (.inr (.inl (by simp [ML.ls])))))]
   exact S3 _ _ (S2 _ _ (S1 _ _ e))
  generalize (upd H3 M.lq (.lst (us ++ [.ref a])))=H4 at W4 T4 ⊢
  obtain ⟨dm4,obm4⟩:=W4.ob
  obtain ⟨vs,f1,_,f2⟩:=(W4.ls (M.ld,m.deeds) (by simp [Mo.at_])).get
  dsimp only at f1 f2
  refine ⟨_,rfl,M.p,CM,dm4,_,_,rfl,obm4,Tm.cl,Tm.nd,Vn _,.inl ⟨rfl,_,SqL.of f1⟩,_,rfl,_,rfl,_,rfl,_,rfl,by show 5<=sizeLine; lia,fun p hp=>?_⟩
  have S5:=Same.new (o:=.tup [.str "pay", .str x,.str y,.int many,.int day]) hp
  have kp:(upd H4 p (.tup [.str "pay", .str x,.str y,.int many,.int day])) p=some (.tup [.str "pay", .str x,.str y,.int many,.int day]):=Zi
  generalize (upd H4 p (.tup [.str "pay", .str x,.str y,.int many,.int day]))=H5 at S5 kp ⊢
  refine ⟨M.ld,vs,.ref p,rfl,rfl,S5 _ _ f1,by lia,?_⟩
  refine k _ ((W4.same S5).deed (S5 _ _ f1) ⟨p,_,rfl,Wq kp,⟨_,_,rfl,rfl,⟨_,_,rfl,rfl,⟨_,_,rfl,rfl,⟨_,_,rfl,rfl,⟨_,_,rfl,rfl,rfl⟩⟩⟩⟩⟩⟩) (fun c o e nb=>?_)
  rw [Zd (fun z:c=M.ld=>nb (z▸Zb9))]
  exact S5 _ _ (T4 c o e nb)
def Zia (C CM:Addr):Sp:=fun vs H Q _=>∃ (M:ML) (ds:List Deed) (wa:Str->Addr) (xs:List Addr) (m:Mo) (qs:List Addr) (i:Nat) (x y:Str) (day:Int) (cl:List D),vs = [.ref M.p,.int i,.str x,.str y,.int day]/\MootAt C CM H M ds wa xs m qs/\m.deeds.length < 400/\m.haps[i]? = some cl/\cl.length < 1000/\0<=day/\day<=9999/\(∀ n ∈ [x,y],∃ d,Zt ds n=some d/\d<=day/\Wi ds n day=false)/\Zug m day (.int i) /\
 ∀ (H':Hp),MootAt C CM H' M ds wa xs {m with haps:=m.haps.set i (cl ++ [.tup [.non,.tup [.int day,.str "given", .str x,.str y]]]),deeds:=m.deeds ++ [.tup [.str "give", .int i,.str x,.str y,.int day]] } qs->MTouch M ds wa xs qs H H'->Q .non H'
abbrev Uu:Stmt:=Ye (top 66) 6
theorem Z7t:FnScope ["self", "thing", "giver", "taker", "day"] ["self", "thing", "giver", "taker", "day"] (Zb Uu):=⟨rfl,rfl,rfl,by decide +kernel,rfl,by decide +kernel,by decide +kernel⟩
theorem Z7u:Nm (Zb Uu) "check_day" .globalImplicit:=by decide +kernel
theorem Zf1:Nm (Zb Uu) "day" .local:=by decide +kernel
theorem Zl9:Nm (Zb Uu) "giver" .local:=by decide +kernel
theorem Zf2:Nm (Zb Uu) "self" .local:=by decide +kernel
theorem Zma:Nm (Zb Uu) "taker" .local:=by decide +kernel
theorem Zmb:Nm (Zb Uu) "thing" .local:=by decide +kernel
theorem Z1g (Zj5:HasM K CM "give" "Moot.give" Uu) (Tm:TxCMoot K CM) (Vu:Fn P w K mg base "check_day" ["day"] 1 Za3) (MM_check_named:Mt P w K mg base CM "check_named" ["self", "day", "people", "thing", "oath"] 3 (Zen C CM))
  (MM_check_moments:Mt P w K mg base CM "check_moments" ["self"] 1 (Za7 C CM)):Mt P w K mg base CM "give" ["self", "thing", "giver", "taker", "day"] 4 (Zia C CM):=by
 refine Zj5.mtQ Z7t (fun _ _ _ _ _ _ us hl=>match us,hl with | [_,_,_,_,_],_=>rfl) (fun vs H Q E h=>?_) (fun f cdv A outer s H vs Q E hr h=>?_)
 ·obtain ⟨M,ds,wa,xs,m,qs,i,x,y,day,cl,rfl,_⟩:=h
  rfl
 ·obtain ⟨M,ds,wa,xs,m,qs,i,x,y,day,cl,rfl,W0,hn4,hcl,hcn,d0,d1,hps,th,k⟩:=h
  refine ⟨_,(Zf (Zv (Zw Vu (hr.mono (by lia)) Z7u (Za (qvN 4 Zf1) Zc)))
 (Zf (Zv (Z6 (qvN 0 Zf2) Tm.cl MM_check_named (hr.mono (by lia)) (Za (qvN 4 Zf1) (Za (Yu (Za (qvN 2 Zl9) (Za (qvN 3 Zma) Zc))) (Za (qvN 1 Zmb) (Za Wo Zc))))))
 (Zf (Zv (Vq (qvN 0 Zf2) Tm.cl MM_check_moments (hr.mono (by lia))))
 (Zf (Zv (Y7 F.plainAttrs_list F.slot_list_append F.type_list_append Wu (Zk Yt (Zq (qvN 0 Zf2)) (qvN 1 Zmb) (fun _ _=>rfl)) (Za (Yc (Za Wo (Za (Yc (Za (qvN 4 Zf1) (Za Zm (Za (qvN 2 Zl9) (Za (qvN 3 Zma) Zc))))) Zc))) Zc)))
 (Zg (Zv (Y7 F.plainAttrs_list F.slot_list_append F.type_list_append Wu (Zq (qvN 0 Zf2)) (Za (Yc (Za Zm (Za (qvN 1 Zmb) (Za (qvN 2 Zl9) (Za (qvN 3 Zma) (Za (qvN 4 Zf1) Zc)))))) Zc)))))))),?_⟩
  have hz:(5000:Nat)<=sizeLine:=by decide
  refine ⟨_,rfl,day,rfl,d0,d1,?_⟩
  obtain ⟨dm,obm⟩:=W0.ob
  refine ⟨_,rfl,M.p,dm,_,rfl,obm,Yk _ (by decide +kernel),_,rfl,_,rfl,_,rfl,by show 2<=sizeLine; lia,fun pl hpl=>?_⟩
  have S1:=Same.new (o:=.lst [.str x,.str y]) hpl
  have k1:(upd H pl (.lst [.str x,.str y])) pl=some (.lst ([x,y].map V.str)):=Zi
  generalize (upd H pl (.lst [.str x,.str y]))=H1 at S1 k1 ⊢
  refine ⟨_,rfl,M,ds,wa,xs,m,qs,day,pl,[x,y],.int i,rfl,W0.same S1,k1,hps,th,fun H1' S1'=>?_⟩
  replace S1:=S1.trans S1'
  have W1:=W0.same S1
  have obm1:=S1 _ _ obm
  refine ⟨_,rfl,M.p,dm,_,rfl,obm1,Yk _ (by decide +kernel),M,ds,wa,xs,m,qs,rfl,W1,hn4,?_⟩
  have hi:i < qs.length:=by rw [W1.hn]; exact (xV.mp hcl).1
  have hq:qs[i]? = some qs[i]:=xH hi
  have mz:(qs[i],cl)∈qs.zip m.haps:=xK (i:=i) (by rw [List.getElem?_zip_eq_some]; exact ⟨hq,hcl⟩)
  obtain ⟨us,e1,_,hul⟩:=(W1.ls (qs[i],cl) (by simp [Mo.at_,mz])).get
  dsimp only at e1 hul
  refine ⟨_,rfl,M.p,CM,dm,_,_,rfl,obm1,Tm.cl,Tm.nh,Zo7 _,_,rfl,M.lh,_,i,.ref qs[i],rfl,rfl,SqL.of W1.hl,Ua (by rw [xW,hq]; rfl),.inl ⟨rfl,_,SqL.of e1⟩,_,rfl,_,rfl,_,rfl,by show 4<=sizeLine; lia,fun b hb=>?_⟩
  have S2:=Same.new (o:=.tup [.int day,.str "given", .str x,.str y]) hb
  have k2:(upd H1' b (.tup [.int day,.str "given", .str x,.str y])) b=some (.tup [.int day,.str "given", .str x,.str y]):=Zi
  generalize (upd H1' b (.tup [.int day,.str "given", .str x,.str y]))=H2 at S2 k2 ⊢
  refine ⟨by show 2<=sizeLine; lia,fun a ha=>?_⟩
  have S3:=Same.new (o:=.tup [.non,.ref b]) ha
  have k3:(upd H2 a (.tup [.non,.ref b])) a=some (.tup [.non,.ref b]):=Zi
  generalize (upd H2 a (.tup [.non,.ref b]))=H3 at S3 k3 ⊢
  have W3:=(W1.same S2).same S3
  have e3:=S3 _ _ (S2 _ _ e1)
  refine ⟨qs[i],us,.ref a,rfl,rfl,e3,by lia,?_⟩
  have W4:=W3.hap hq hcl (d:=.tup [.non,.tup [.int day,.str "given", .str x,.str y]]) (v:=.ref a) e3 ⟨a,_,rfl,Wq k3,⟨_,_,rfl,rfl,⟨_,_,rfl,⟨b,_,rfl,Wq (S3 _ _ k2),⟨_,_,rfl,rfl,⟨_,_,rfl,rfl,⟨_,_,rfl,rfl,⟨_,_,rfl,rfl,rfl⟩⟩⟩⟩⟩,rfl⟩⟩⟩
  have T4:MTouch M ds wa xs qs H (upd H3 qs[i] (.lst (us ++ [.ref a]))):=fun c o e nb=>by
   rw [Zd (fun z:c=qs[i]=>nb (z ▸ .inr (.inr (.inl (xT _ (xN _ (List.getElem_mem hi)))))))]
   exact S3 _ _ (S2 _ _ (S1 _ _ e))
  generalize (upd H3 qs[i] (.lst (us ++ [.ref a])))=H4 at W4 T4 ⊢
  obtain ⟨dm4,obm4⟩:=W4.ob
  obtain ⟨vs,f1,_,f2⟩:=(W4.ls (M.ld,m.deeds) (by simp [Mo.at_])).get
  dsimp only at f1 f2
  refine ⟨_,rfl,M.p,CM,dm4,_,_,rfl,obm4,Tm.cl,Tm.nd,Vn _,.inl ⟨rfl,_,SqL.of f1⟩,_,rfl,_,rfl,_,rfl,_,rfl,by show 5<=sizeLine; lia,fun p hp=>?_⟩
  have S5:=Same.new (o:=.tup [.str "give", .int i,.str x,.str y,.int day]) hp
  have kp:(upd H4 p (.tup [.str "give", .int i,.str x,.str y,.int day])) p=some (.tup [.str "give", .int i,.str x,.str y,.int day]):=Zi
  generalize (upd H4 p (.tup [.str "give", .int i,.str x,.str y,.int day]))=H5 at S5 kp ⊢
  refine ⟨M.ld,vs,.ref p,rfl,rfl,S5 _ _ f1,by lia,?_⟩
  refine k _ ((W4.same S5).deed (S5 _ _ f1) ⟨p,_,rfl,Wq kp,⟨_,_,rfl,rfl,⟨_,_,rfl,rfl,⟨_,_,rfl,rfl,⟨_,_,rfl,rfl,⟨_,_,rfl,rfl,rfl⟩⟩⟩⟩⟩⟩) (fun c o e nb=>?_)
  rw [Zd (fun z:c=M.ld=>nb (z▸Zb9))]
  exact S5 _ _ (T4 c o e nb)
end
section
variable {P:Program}{w:World}{K:uFg}{mg:Str->Option Value}{base:Heap}{C CM:Addr}
def Zsz (C CM:Addr):Sp:=fun vs H Q _=>∃ (M:ML) (ds:List Deed) (wa:Str->Addr) (xs:List Addr) (m:Mo) (qs:List Addr),vs = [.ref M.p]/\MootAt C CM H M ds wa xs m qs/\Q (.int m.deeds.length) H
abbrev Zdk:Stmt:=Ye (top 66) 11
theorem Z7v:FnScope ["self"] ["self"] (Zb Zdk):=⟨rfl,rfl,rfl,by decide +kernel,rfl,by decide +kernel,by decide +kernel⟩
theorem Z7w:Nm (Zb Zdk) "len" .globalImplicit:=by decide +kernel
theorem Z7x:Nm (Zb Zdk) "self" .local:=by decide +kernel
theorem Z3q (Zj6:HasM K CM "now" "Moot.now" Zdk) (T:Txt mg) (Tm:TxCMoot K CM):Mt P w K mg base CM "now" ["self"] 1 (Zsz C CM):=by
 refine Zj6.mtQ Z7v (fun _ _ _ _ _ _ us hl=>match us,hl with | [_],_=>rfl) (fun vs H Q E h=>?_) (fun f cdv A outer s H vs Q E hr h=>?_)
 ·obtain ⟨M,ds,wa,xs,m,qs,rfl,_⟩:=h
  rfl
 ·obtain ⟨M,ds,wa,xs,m,qs,rfl,W,k⟩:=h
  refine ⟨_,(Zg (Zr (Z8 Wt Z7w T.len Y1 (Za (Zq (qvN 0 Z7x)) Zc)))),?_⟩
  obtain ⟨dx,ob⟩:=W.ob
  obtain ⟨vs,d1,_,d2⟩:=(W.ls (M.ld,m.deeds) (by simp [Mo.at_])).get
  dsimp only at d1 d2
  refine ⟨_,rfl,M.p,CM,dx,_,_,rfl,ob,Tm.cl,Tm.nd,Vn _,M.ld,vs,rfl,.inl (SqL.of d1),?_⟩
  rw [d2]
  exact k
def scD:D->Bool
 | .str _=>true
 | .int _=>true
 | .non=>true
 | .bl _=>true
 | _=>false
theorem Zs0 {d:D}(h:scD d=true):isI d "list" = false:=by cases d <;> first | rfl | cases h
theorem Zix {H H':Hp}:∀ {ds:List D}{us:List V},(∀ d∈ds,scD d=true)->RepL H ds us->RepL H' ds us
 | [],_,_,h=>h
 | d::ds,_,hs,⟨v,r,e,h1,h2⟩=>by
  refine ⟨v,r,e,?_,Zix (fun x hx=>hs x (xT _ hx)) h2⟩
  have:=hs d xR
  cases d <;> first | exact h1 | cases this
def PlD (d:D):Prop:=∃ xs:List D,d = .tup xs/\(∀ x∈xs,scD x=true)/\xs.length<=10
def Zoh:Sp:=fun vs H Q _=>∃ (p:Addr) (us:List V) (ds:List D),vs = [.ref p]/\H p=some (.tup us)/\RepL H ds us/\(∀ d∈ds,scD d=true)/\ds.length<=10/\∀ q H',H q=none->H' q=some (.tup us)->Same H H'->Q (.ref q) H'
abbrev Zdl:Stmt:=top 24
theorem Z7y:FnScope ["deed"] ["deed"] (Zb Zdl):=⟨rfl,rfl,rfl,by decide +kernel,rfl,by decide +kernel,by decide +kernel⟩
theorem Z7z:Nm (Zb Zdl) "deed" .local:=by decide +kernel
theorem Z70:Nm (Zb Zdl) "tuple" .globalImplicit:=by decide +kernel
theorem Z71 (Zj7:Has K mg "copied" Zdl) (T:Txt mg):Fn P w K mg base "copied" ["deed"] 1 Zoh:=by
 refine Zj7.fnQ Z7y (fun _ _ _ _ _ _ us hl=>match us,hl with | [_],_=>rfl) (fun vs H Q E h=>?_) (fun f cdv A outer s H vs Q E hr h=>?_)
 ·obtain ⟨p,us,ds,rfl,_⟩:=h
  rfl
 ·obtain ⟨p,us,ds,rfl,hp,hr,hs,hl,k⟩:=h
  refine ⟨_,(Zg (Zr (Zbl Zup Z70 T.tuple Zhq (Za (Vt (locs:=["part"]) (fr:=[]) ⟨rfl,by decide +kernel,by decide +kernel,by decide +kernel,by decide +kernel,by decide +kernel⟩ .nil rfl (Zes (qvN 0 Z7z)) ⟨fun _ _ _ _ _ _=>by
  have cnd:(inN ["part"] []).Nodup:=by decide +kernel
  exact ⟨(Wl 0 cnd),Uf,(Zyu (Wb (Z8 Zuw nmC T.isinstance Vc (Za (Y5 0) (Za (Vd (v:=.ty "list") nmC T.list Zbu rfl) Zc)))) (Zbl Zuo nmC T.list Zbu (Za (Y5 0) Zc)) (Y5 0))⟩⟩) Zc)))),?_⟩
  have hul:us.length=ds.length:=hr.length
  refine ⟨_,rfl,p,rfl,⟨_,SqT.of hp⟩,?_⟩
  refine Zob (xs:=us) (fun i ys H'=>H'=H/\ys=us.take i) ⟨rfl,rfl⟩ (by lia) (fun i ys H' _ ⟨e,_⟩=>by rw [e]; exact SqT.of hp) (fun i ys H' ⟨_,e⟩=>by rw [e,xO]; lia) ?_ ?_
  ·rintro i v ys H' hv ⟨rfl,rfl⟩ ls hls
   obtain ⟨w0,rfl⟩:=Zbd hls
   obtain ⟨d,hd,re⟩:=hr.get hv
   obtain ⟨t1,ty1,e1⟩:=isi (K:=K) re "list" (by decide)
   rw [Zs0 (hs d (xK hd))] at e1
   refine ⟨⟨[_],rfl,rfl⟩,?_⟩
   refine ⟨_,rfl,v, "list", t1,_,rfl,ty1,e1,_,rfl,Zx ⟨_,rfl,rfl,?_⟩⟩
   rw [yG,hv]
   rfl
  ·rintro ys H' ⟨rfl,rfl⟩ l hl
   rw [yL]
   have S1:=Same.new (o:=.lst us) hl
   have k1:(upd H' l (.lst us)) l=some (.lst us):=Zi
   generalize (upd H' l (.lst us))=H1 at S1 k1 ⊢
   exact ⟨l,_,rfl,.inl ⟨SqL.of k1,fun q hq=>k q _ (S1.free hq) Zi (S1.trans (Same.new hq))⟩⟩
def Ze0 (C CM:Addr):Sp:=fun vs H Q _=>∃ (M:ML) (ds:List Deed) (wa:Str->Addr) (xs:List Addr) (m:Mo) (qs:List Addr),vs = [.ref M.p]/\MootAt C CM H M ds wa xs m qs/\(∀ d∈m.deeds,PlD d)/\m.deeds.length<=1000/\∀ l ms H',H l=none->H' l=some (.lst ms)->RepL (fz [] H') m.deeds ms->Same H H'->Q (.ref l) H'
abbrev Zff:Stmt:=Ye (top 66) 12
theorem Z72:FnScope ["self"] ["self"] (Zb Zff):=⟨rfl,rfl,rfl,by decide +kernel,rfl,by decide +kernel,by decide +kernel⟩
theorem Z73:Nm (Zb Zff) "self" .local:=by decide +kernel
theorem Z1h (Zj8:HasM K CM "roll" "Moot.roll" Zff) (Tm:TxCMoot K CM) (Z74:Fn P w K mg base "copied" ["deed"] 1 Zoh):Mt P w K mg base CM "roll" ["self"] 2 (Ze0 C CM):=by
 refine Zj8.mtQ Z72 (fun _ _ _ _ _ _ us hl=>match us,hl with | [_],_=>rfl) (fun vs H Q E h=>?_) (fun f cdv A outer s H vs Q E hr h=>?_)
 ·obtain ⟨M,ds,wa,xs,m,qs,rfl,_⟩:=h
  rfl
 ·obtain ⟨M,ds,wa,xs,m,qs,rfl,W,hpl,hln,k⟩:=h
  refine ⟨_,(Zg (Zr (Vt (locs:=["deed"]) (fr:=[]) ⟨rfl,by decide +kernel,by decide +kernel,by decide +kernel,by decide +kernel,by decide +kernel⟩ .nil rfl (Vh (Zq (qvN 0 Z73))) ⟨fun _ _ _ _ _ _=>by
  have cnd:(inN ["deed"] []).Nodup:=by decide +kernel
  exact ⟨(Wl 0 cnd),Uf,(Zw Z74 (hr.mono (by lia)) nmC (Za (Y5 0) Zc))⟩⟩))),?_⟩
  obtain ⟨dx,ob⟩:=W.ob
  obtain ⟨vs,d1,d2,d3⟩:=(W.ls (M.ld,m.deeds) (by simp [Mo.at_])).get
  dsimp only at d1 d2 d3
  refine ⟨_,rfl,M.p,CM,dx,_,_,rfl,ob,Tm.cl,Tm.nd,Vn _,M.ld,rfl,⟨_,SqL.of d1⟩,?_⟩
  refine Zd7 (xs:=vs) (fun i ys H'=>Same H H'/\RepL (fz [] H') (m.deeds.take i) ys) ⟨Same.refl _,rfl⟩ (by lia) (fun i ys H' _ ⟨e,_⟩=>SqL.of (e _ _ d1)) (fun i ys H' ⟨_,e⟩=>by rw [e.length,xO]; lia) ?_ ?_
  ·rintro i v ys H' hv ⟨sm,hys⟩ ls hls
   obtain ⟨w0,rfl⟩:=Zbd hls
   obtain ⟨d,hd,re⟩:=d2.get hv
   obtain ⟨ts,rfl,hsc,h10⟩:=hpl d (xK hd)
   obtain ⟨a,us,rfl,ha,hus⟩:=re
   refine ⟨⟨[_],rfl,rfl⟩,?_⟩
   refine ⟨_,rfl,a,us,ts,rfl,sm _ _ ha,Zix hsc hus,hsc,h10,fun q H2 hq kq s2=>⟨sm.trans s2,?_⟩⟩
   rw [yG,hd]
   exact (hys.mono' (Zaa (fun b t e=>s2 _ _ e) (fun _ z=>nomatch z) fun _ z=>z)).snoc (show Rep (fz [] H2) (.tup ts) (.ref q) from ⟨q,us,rfl,Wq kq,Zix hsc hus⟩)
  ·rintro ys H' ⟨sm,hys⟩ l hl
   rw [d3,yL] at hys
   have S1:=Same.new (o:=.lst ys) hl
   exact k l ys _ (sm.free hl) Zi (hys.mono' (Zaa (fun b t e=>S1 _ _ e) (fun _ z=>nomatch z) fun _ z=>z)) (sm.trans S1)
def Zpa (C CM:Addr):Sp:=fun vs H Q _=>∃ (M:ML) (lr:Addr) (rs:List V) (es:List Enr),vs = [.ref M.p,.ref lr]/\H lr=some (.lst rs)/\RepL H (es.map dbt) rs/\es.length<=1000 /\
 ∀ (l:Addr) (us:List V) (H':Hp),H l=none->H' l=some (.lst us)->RepL H' (es.map Zd0) us->Same H H'->Q (.ref l) H'
abbrev Zdm:Stmt:=Ye (top 66) 36
theorem Z75:FnScope ["self", "rows"] ["self", "rows"] (Zb Zdm):=⟨rfl,rfl,rfl,by decide +kernel,rfl,by decide +kernel,by decide +kernel⟩
theorem Z76:Nm (Zb Zdm) "rows" .local:=by decide +kernel
theorem Z77:Nm (Zb Zdm) "self" .cell:=by decide +kernel
theorem Zva (Zj9:HasM K CM "counting" "Moot.counting" Zdm):Mt P w K mg base CM "counting" ["self", "rows"] 1 (Zpa C CM):=by
 refine Zj9.mtQ Z75 (fun _ _ _ _ _ _ us hl=>match us,hl with | [_,_],_=>rfl) (fun vs H Q E h=>?_) (fun f cdv A outer s H vs Q E hr h=>?_)
 ·obtain ⟨M,lr,rs,es,rfl,_⟩:=h
  rfl
 ·obtain ⟨M,lr,rs,es,rfl,hlr,hq,hel,k⟩:=h
  refine ⟨_,(Zg (Zr (Vt (locs:=["case", "told"]) (fr:=[("self", 0)]) ⟨rfl,by decide +kernel,by decide +kernel,by decide +kernel,by decide +kernel,by decide +kernel⟩ (.consN Z77 .nil) rfl (Vh (qvN 1 Z76)) ⟨fun _ _ _ _ _ _=>by
  have cnd:(inN ["case", "told"] [("self", 0)]).Nodup:=by decide +kernel
  exact ⟨(Zej 2 (by rfl) (Wa (Wl 0 cnd) (Wa (Wl 1 cnd) Zau))),(Zow (QW.pt (Ze7 (Zp Zhs (Y5 0) Wo (Zo _)) (Zet (Wb (Zk Zxd (Z04 (Zk6 2)) (Y5 0) (fun _ _=>rfl))))))),(Y5 1)⟩⟩))),?_⟩
  have hrl:=hq.length
  rw [xD] at hrl
  refine ⟨_,rfl,lr,rfl,⟨_,SqL.of hlr⟩,?_⟩
  refine Zd7 (xs:=rs) (fun i ys H'=>H=H'/\RepL H ((es.take i).map Zd0) ys) ⟨rfl,rfl⟩ (by lia) (fun i ys H' _ ⟨e,_⟩=>by rw [← e]; exact SqL.of hlr) (fun i ys H' ⟨_,e⟩=>by have:=e.length; rw [xD,xO] at this; lia) ?_ ?_
  ·rintro i x ys H' hx ⟨rfl,hys⟩ ls hls
   obtain ⟨w1,w2,rfl⟩:=Zt8 hls
   obtain ⟨d,hd,re⟩:=hq.get hx
   rw [xW] at hd
   obtain ⟨e,he,rfl⟩:=yI.mp hd
   obtain ⟨a,us,rfl,ha,⟨_,_,rfl,rfl,⟨b,_,rfl,hb,rfl⟩⟩⟩:=re
   refine ⟨a,_,rfl,SqT.of ha,rfl,_,_,rfl,_,_,rfl,rfl,⟨[_,_],rfl,rfl⟩,?_⟩
   refine ⟨_,rfl,rfl,_,rfl,Yj (Yj ?_)⟩
   refine ⟨_,rfl,rfl,?_⟩
   rw [yG,he,xX]
   exact hys.snoc hb
  ·rintro ys H' ⟨rfl,hys⟩ l hl
   rw [hrl,yL] at hys
   exact k l ys _ hl Zi (hys.mono' (Same.new hl)) (Same.new hl)
def Zpb (C CM:Addr):Sp:=fun vs H Q _=>∃ (M:ML) (ds:List Deed) (wa:Str->Addr) (xs:List Addr) (m:Mo) (qs:List Addr) (es:List Enr) (day:Int) (f:Str->Str),vs = [.ref M.p,.int day]/\MootAt C CM H M ds wa xs m qs/\m.debts=es.map dbt/\0<=day/\day<=9999/\Zue ds day f/\es.length<=400/\(∃ ks:List (List Key),ks.length < 64/\∀ e∈es,[.inr (f e.d),.inr (f e.c)]∈ks /\ [.inr (f e.c),.inr (f e.d)]∈ks) /\
 ∀ (l:Addr) (rs:List Row) (vs:List V) (H':Hp),H' l=some (.lst vs)->RepL H' (rs.map Wd) vs->IsOwed (net f day es) rs->rs.length < 64->Same H H'->Q (.ref l) H'
abbrev Zba:Stmt:=Ye (top 66) 32
theorem Z78:FnScope ["self", "day"] ["self", "day"] (Zb Zba):=⟨rfl,rfl,rfl,by decide +kernel,rfl,by decide +kernel,by decide +kernel⟩
theorem Z79:Nm (Zb Zba) "check_day" .globalImplicit:=by decide +kernel
theorem Zs1:Nm (Zb Zba) "day" .local:=by decide +kernel
theorem Z8a:Nm (Zb Zba) "owed_dues" .globalImplicit:=by decide +kernel
theorem Zmc:Nm (Zb Zba) "self" .local:=by decide +kernel
theorem Z1i (Zka:HasM K CM "owed" "Moot.owed" Zba) (Tm:TxCMoot K CM) (Vu:Fn P w K mg base "check_day" ["day"] 1 Za3) (MM_counting:Mt P w K mg base CM "counting" ["self", "rows"] 1 (Zpa C CM))
  (Z8b:Fn P w K mg base "owed_dues" ["entries", "folk", "day"] 3 (Zqh C)):Mt P w K mg base CM "owed" ["self", "day"] 4 (Zpb C CM):=by
 refine Zka.mtQ Z78 (fun _ _ _ _ _ _ us hl=>match us,hl with | [_,_],_=>rfl) (fun vs H Q E h=>?_) (fun f cdv A outer s H vs Q E hr h=>?_)
 ·obtain ⟨M,ds,wa,xs,m,qs,es,day,f,rfl,_⟩:=h
  rfl
 ·obtain ⟨M,ds,wa,xs,m,qs,es,day,f,rfl,W,hmd,d0,d1,hf,hel,hks,k⟩:=h
  refine ⟨_,(Zf (Zv (Zw Vu (hr.mono (by lia)) Z79 (Za (qvN 1 Zs1) Zc)))
 (Zg (Zr (Zw Z8b (hr.mono (by lia)) Z8a (Za (Z6 (qvN 0 Zmc) Tm.cl MM_counting (hr.mono (by lia)) (Za (Zq (qvN 0 Zmc)) Zc)) (Za (Zq (qvN 0 Zmc)) (Za (qvN 1 Zs1) Zc))))))),?_⟩
  refine ⟨_,rfl,day,rfl,d0,d1,?_⟩
  obtain ⟨dm,obm⟩:=W.ob
  obtain ⟨us,b1,b2,_⟩:=(W.ls (M.lq,m.debts) (by simp [Mo.at_])).get
  dsimp only at b1 b2
  rw [hmd] at b2
  refine ⟨_,rfl,M.p,dm,_,rfl,obm,Yk _ (by decide +kernel),_,rfl,M.p,CM,dm,_,_,rfl,obm,Tm.cl,Tm.nq,Zog _,?_⟩
  refine ⟨M,M.lq,us,es,rfl,b1,b2,by lia,fun l us' H1 hlf hl hr sm=>?_⟩
  refine ⟨_,rfl,M.p,CM,dm,_,_,rfl,sm _ _ obm,Tm.cl,Tm.nf,Vi _,_,rfl,M.L,ds,l,us',es,day,f,rfl,W.fk.f.keep (Same.n sm),hl,hr,hf,hel,hks,fun l2 ms rs H' f1 f2 f3 f4 f5 s2=>k l2 rs ms H' f2 f3 f4 f5 (sm.trans s2)⟩
end
section
variable {P:Program}{w:World}{K:uFg}{mg:Str->Option Value}{base:Heap}{C CM:Addr}
inductive Pd where
 | come (n:Str) (d wt:Int)
 | rise (n:Str) (d wt:Int)
 | pen (n:Str)
 | bring (n:Str) (d:Int)
 | give (x y:Str) (d:Int)
 | pay (x y:Str) (m d:Int)
def pdV:Pd->List V
 | .come n d wt=>[.str "come", .str n,.int d,.int wt]
 | .rise n d wt=>[.str "rise", .str n,.int d,.int wt]
 | .pen n=>[.str "penance", .str n]
 | .bring n d=>[.str "bring", .str n,.int d]
 | .give x y d=>[.str "give", .int 0,.str x,.str y,.int d]
 | .pay x y m d=>[.str "pay", .str x,.str y,.int m,.int d]
def vD:V->D
 | .str x=>.str x
 | .int i=>.int i
 | _=>.non
def pdL (p:Pd):List D:=(pdV p).map vD
def pdD (p:Pd):D:=.tup (pdL p)
theorem Zqj {H:Hp}(p:Pd):RepL H (pdL p) (pdV p):=by
 cases p <;> exact ⟨_,_,rfl,rfl,by first | rfl | exact ⟨_,_,rfl,rfl,by first | rfl | exact ⟨_,_,rfl,rfl,by first | rfl | exact ⟨_,_,rfl,rfl,by first | rfl | exact ⟨_,_,rfl,rfl,rfl⟩⟩⟩⟩⟩
theorem Zbb {H:Hp}{p:Pd}{v:V}(h:Rep H (pdD p) v):∃ a,v = .ref a/\H a=some (.tup (pdV p)):=by
 obtain ⟨a,us,rfl,ha,hu⟩:=h
 refine ⟨a,rfl,?_⟩
 rw [ha]
 cases p with
 | pen n=>obtain ⟨_,_,rfl,rfl,⟨_,_,rfl,rfl,rfl⟩⟩:=hu; rfl
 | bring n d=>obtain ⟨_,_,rfl,rfl,⟨_,_,rfl,rfl,⟨_,_,rfl,rfl,rfl⟩⟩⟩:=hu; rfl
 | come n d wt=>obtain ⟨_,_,rfl,rfl,⟨_,_,rfl,rfl,⟨_,_,rfl,rfl,⟨_,_,rfl,rfl,rfl⟩⟩⟩⟩:=hu; rfl
 | rise n d wt=>obtain ⟨_,_,rfl,rfl,⟨_,_,rfl,rfl,⟨_,_,rfl,rfl,⟨_,_,rfl,rfl,rfl⟩⟩⟩⟩:=hu; rfl
 | give x y d=>obtain ⟨_,_,rfl,rfl,⟨_,_,rfl,rfl,⟨_,_,rfl,rfl,⟨_,_,rfl,rfl,⟨_,_,rfl,rfl,rfl⟩⟩⟩⟩⟩:=hu; rfl
 | pay x y m d=>obtain ⟨_,_,rfl,rfl,⟨_,_,rfl,rfl,⟨_,_,rfl,rfl,⟨_,_,rfl,rfl,⟨_,_,rfl,rfl,rfl⟩⟩⟩⟩⟩:=hu; rfl
theorem Zkb (p:Pd):PlD (pdD p):=by
 refine ⟨pdL p,rfl,fun x hx=>?_,?_⟩
 ·cases p <;> simp only [pdL,pdV,vD,xP,List.map_nil,xC,xQ,or_false] at hx <;> rcases hx with rfl | rfl | rfl | rfl | rfl <;> first | rfl | (rename_i hx; cases hx) | rfl
 ·have:∀ q,(pdV q).length<=10:=fun q=>by cases q <;> simp [pdV]
  unfold pdL; rw [xD]; exact this p
abbrev Vv:=List Deed×Mo
def stp (s:Vv):Pd->Vv
 | .come n d wt=>(s.1 ++ [.come n d wt],{s.2 with deeds:=s.2.deeds ++ [pdD (.come n d wt)] })
 | .rise n d wt=>(s.1 ++ [.rise n d wt],{s.2 with deeds:=s.2.deeds ++ [pdD (.rise n d wt)] })
 | .pen n=>(s.1,{s.2 with pen:=fun x=>if x=n then some (s.2.trials.length:Int) else s.2.pen x,npen:=s.2.npen+1,deeds:=s.2.deeds ++ [pdD (.pen n)] })
 | .bring n d=>(s.1,{s.2 with brs:=s.2.brs ++ [.tup [.str n,.int d]],haps:=s.2.haps ++ [[]],deeds:=s.2.deeds ++ [pdD (.bring n d)] })
 | .give x y d=>(s.1,{s.2 with haps:=s.2.haps.set 0 (s.2.haps.getD 0 [] ++ [.tup [.non,.tup [.int d,.str "given", .str x,.str y]]]),deeds:=s.2.deeds ++ [pdD (.give x y d)] })
 | .pay x y m d=>(s.1,{s.2 with debts:=s.2.debts ++ [dbt ⟨d,y,x,m⟩],deeds:=s.2.deeds ++ [pdD (.pay x y m d)] })
def Zu (ps:List Pd):Vv:=ps.foldl stp ([],mo0)
def Zdn (ds:List Deed) (n:Str) (day:Int):Prop:=∃ d,Zt ds n=some d/\d<=day/\Wi ds n day=false
def Zfg (s:Vv):Pd->Prop
 | .come n d wt=>s.1.length < 40/\Yv n/\0<=d/\d<=9999/\1<=wt/\wt<=1000/\Zt s.1 n=none
 | .rise n d wt=>s.1.length<=1000/\0<=d/\d<=9999/\1<=wt/\wt<=1000/\Zdn s.1 n d
 | .pen n=>s.2.npen<=1000/\s.2.trials.length<=1000/\(∃ d,Zt s.1 n=some d)/\Z5 s.1 n=none
 | .bring n d=>s.2.brs.length < 40/\s.2.haps.length<=1000/\0<=d/\d<=9999/\Zdn s.1 n d
 | .give x y d=>(∃ cl,s.2.haps[0]? = some cl/\cl.length < 1000)/\0<=d/\d<=9999/\(∀ n ∈ [x,y],Zdn s.1 n d)/\∃ (z:Str) (e:Int),s.2.brs[0]? = some (.tup [.str z,.int e])/\e<=d
 | .pay x y m d=>s.2.debts.length < 1000/\1<=m/\m<=1000000/\0<=d/\d<=9999/\∀ n ∈ [x,y],Zdn s.1 n d
def Ze1 (C CM:Addr):Sp:=fun vs H Q _=>∃ (M:ML) (s:Vv) (wa:Str->Addr) (qs:List Addr) (a:Addr) (p:Pd),vs = [.ref M.p,.ref a]/\MootAt C CM H M s.1 wa [] s.2 qs/\H a=some (.tup (pdV p))/\s.2.deeds.length < 400/\Zfg s p /\
 ∀ (v:V) (wa':Str->Addr) (qs':List Addr) (H':Hp),MootAt C CM H' M (stp s p).1 wa' [] (stp s p).2 qs'->MTouch M s.1 wa [] qs H H'->MFresh M s.1 wa [] qs M (stp s p).1 wa' [] qs' H->Q v H'
abbrev Zab:Stmt:=top 23
theorem Zfh:FnScope ["moot", "deed", "word"] ["moot", "deed"] (Zb Zab):=⟨rfl,rfl,rfl,by decide +kernel,rfl,by decide +kernel,by decide +kernel⟩
theorem Z8c:Nm (Zb Zab) "NoDeed" .globalImplicit:=by decide +kernel
theorem Z7:Nm (Zb Zab) "deed" .local:=by decide +kernel
theorem Vp:Nm (Zb Zab) "moot" .local:=by decide +kernel
theorem Yr:Nm (Zb Zab) "word" .local:=by decide +kernel
theorem Z8d (Zca:Has K mg "done" Zab) (Tm:TxCMoot K CM) (MM_come:Mt P w K mg base CM "come" ["self", "name", "day", "weight"] 4 (Zh7 C CM)) (MM_rise:Mt P w K mg base CM "rise" ["self", "name", "day", "weight"] 5 (Zh9 C CM)) (MM_penance:Mt P w K mg base CM "penance" ["self", "name"] 2 (Zsv C CM)) (MM_bring:Mt P w K mg base CM "bring" ["self", "name", "day"] 4 (Zhi C CM)) (MM_give:Mt P w K mg base CM "give" ["self", "thing", "giver", "taker", "day"] 4 (Zia C CM)) (MM_pay:Mt P w K mg base CM "pay" ["self", "payer", "taker", "many", "day"] 4 (Ziw C CM)):Fn P w K mg base "done" ["moot", "deed"] 6 (Ze1 C CM):=by
 refine Zca.fnQ Zfh (fun _ _ _ _ _ _ us hl=>match us,hl with | [_,_],_=>rfl) (fun vs H Q E h=>?_) (fun f cdv A outer s H vs Q E hr h=>?_)
 ·obtain ⟨M,s,wa,qs,a,p,rfl,_⟩:=h
  rfl
 ·obtain ⟨M,s,wa,qs,a,p,rfl,W,ha,hn,hg,k⟩:=h
  refine ⟨_,(Zf (Z1 (i:=2) Zfh.nd Yr (Zk Zz (qvN 1 Z7) Ze (fun _ _=>rfl)))
 (Zf (Zl (Zp Yd (qvN 2 Yr) Zm (Zo _)) (Zg (Zr (Z6 (qvN 0 Vp) Tm.cl MM_come (hr.mono (by lia)) (Za (Zk Zz (qvN 1 Z7) Ze (fun _ _=>rfl)) (Za (Zk Zz (qvN 1 Z7) Ze (fun _ _=>rfl)) (Za (Zk Zz (qvN 1 Z7) Ze (fun _ _=>rfl)) Zc)))))) Zn)
 (Zf (Zl (Zp Yd (qvN 2 Yr) Zm (Zo _)) (Zg (Zr (Z6 (qvN 0 Vp) Tm.cl MM_rise (hr.mono (by lia)) (Za (Zk Zz (qvN 1 Z7) Ze (fun _ _=>rfl)) (Za (Zk Zz (qvN 1 Z7) Ze (fun _ _=>rfl)) (Za (Zk Zz (qvN 1 Z7) Ze (fun _ _=>rfl)) Zc)))))) Zn)
 (Zf (Zl (Zp Yd (qvN 2 Yr) Zm (Zo _)) (Zg Yh) Zn)
 (Zf (Zl (Zp Yd (qvN 2 Yr) Zm (Zo _)) (Zg (Zr (Z6 (qvN 0 Vp) Tm.cl MM_penance (hr.mono (by lia)) (Za (Zk Zz (qvN 1 Z7) Ze (fun _ _=>rfl)) Zc)))) Zn)
 (Zf (Zl (Zp Yd (qvN 2 Yr) Zm (Zo _)) (Zg (Zr (Z6 (qvN 0 Vp) Tm.cl MM_bring (hr.mono (by lia)) (Za (Zk Zz (qvN 1 Z7) Ze (fun _ _=>rfl)) (Za (Zk Zz (qvN 1 Z7) Ze (fun _ _=>rfl)) Zc))))) Zn)
 (Zf (Zl (Zp Yd (qvN 2 Yr) Zm (Zo _)) (Zg (Zr (Z6 (qvN 0 Vp) Tm.cl MM_give (hr.mono (by lia)) (Za (Zk Zz (qvN 1 Z7) Ze (fun _ _=>rfl)) (Za (Zk Zz (qvN 1 Z7) Ze (fun _ _=>rfl)) (Za (Zk Zz (qvN 1 Z7) Ze (fun _ _=>rfl)) (Za (Zk Zz (qvN 1 Z7) Ze (fun _ _=>rfl)) Zc))))))) Zn)
 (Zf (Zl (Zp Yd (qvN 2 Yr) Zm (Zo _)) (Zg (Zr (Z6 (qvN 0 Vp) Tm.cl MM_pay (hr.mono (by lia)) (Za (Zk Zz (qvN 1 Z7) Ze (fun _ _=>rfl)) (Za (Zk Zz (qvN 1 Z7) Ze (fun _ _=>rfl)) (Za (Zk Zz (qvN 1 Z7) Ze (fun _ _=>rfl)) (Za (Zk Zz (qvN 1 Z7) Ze (fun _ _=>rfl)) Zc))))))) Zn)
 (Zf (Zl (Zp Yd (qvN 2 Yr) Zm (Zo _)) (Zg Yh) Zn)
 (Zf (Zl (Zp Yd (qvN 2 Yr) Zm (Zo _)) (Zg Yh) Zn)
 (Zf (Zl (Zp Yd (qvN 2 Yr) Zm (Zo _)) (Zg Yh) Zn)
 (Zg Yh)))))))))))),?_⟩
  obtain ⟨dm,obm⟩:=W.ob
  cases p with
  | come n d wt =>
   obtain ⟨g1,g2,g3,g4,g5,g6,g7⟩:=hg
   refine ⟨_,rfl,a,_,0,_,rfl,rfl,SqT.of ha,rfl,?_⟩
   refine Yg ?_
   dsimp only [Z4]
   refine ⟨_,rfl,rfl,_,rfl,Z0 (fun _=>?_) (fun z=>absurd rfl z)⟩
   exact ⟨_,rfl,M.p,dm,_,rfl,obm,Yk _ (by decide +kernel),_,rfl,a,_,1,_,rfl,rfl,SqT.of ha,rfl,_,rfl,a,_,2,_,rfl,rfl,SqT.of ha,rfl,_,rfl,a,_,3,_,rfl,rfl,SqT.of ha,rfl,M,s.1,wa,[],s.2,qs,n,d,wt,rfl,W,hn,g1,g2,g3,g4,g5,g6,g7,fun wa' H' W' t f=>k _ wa' qs H' W' t f⟩
  | rise n d wt =>
   obtain ⟨g1,g3,g4,g5,g6,e0,g7,g8,g9⟩:=hg
   refine ⟨_,rfl,a,_,0,_,rfl,rfl,SqT.of ha,rfl,?_⟩
   refine Yg ?_
   dsimp only [Z4]
   iterate 1 (refine ⟨_,rfl,rfl,_,rfl,Z0 (fun z=>absurd z (by decide +kernel)) (fun _=>?_)⟩; dsimp only [Z4])
   refine ⟨_,rfl,rfl,_,rfl,Z0 (fun _=>?_) (fun z=>absurd rfl z)⟩
   exact ⟨_,rfl,M.p,dm,_,rfl,obm,Yk _ (by decide +kernel),_,rfl,a,_,1,_,rfl,rfl,SqT.of ha,rfl,_,rfl,a,_,2,_,rfl,rfl,SqT.of ha,rfl,_,rfl,a,_,3,_,rfl,rfl,SqT.of ha,rfl,M,s.1,wa,[],s.2,qs,n,d,wt,e0,rfl,W,hn,g1,g3,g4,g5,g6,g7,g8,g9,fun H' W' t f=>k _ wa qs H' W' t f⟩
  | pen n =>
   obtain ⟨g1,g2,⟨e0,g3⟩,g4⟩:=hg
   refine ⟨_,rfl,a,_,0,_,rfl,rfl,SqT.of ha,rfl,?_⟩
   refine Yg ?_
   dsimp only [Z4]
   iterate 3 (refine ⟨_,rfl,rfl,_,rfl,Z0 (fun z=>absurd z (by decide +kernel)) (fun _=>?_)⟩; dsimp only [Z4])
   refine ⟨_,rfl,rfl,_,rfl,Z0 (fun _=>?_) (fun z=>absurd rfl z)⟩
   exact ⟨_,rfl,M.p,dm,_,rfl,obm,Yk _ (by decide +kernel),_,rfl,a,_,1,_,rfl,rfl,SqT.of ha,rfl,M,s.1,wa,[],s.2,qs,n,e0,rfl,W,hn,g1,g2,g3,g4,fun H' W' t=>k _ wa qs H' W' t MFresh.refl⟩
  | bring n d =>
   obtain ⟨g1,g2,g3,g4,e0,g5,g6,g7⟩:=hg
   refine ⟨_,rfl,a,_,0,_,rfl,rfl,SqT.of ha,rfl,?_⟩
   refine Yg ?_
   dsimp only [Z4]
   iterate 4 (refine ⟨_,rfl,rfl,_,rfl,Z0 (fun z=>absurd z (by decide +kernel)) (fun _=>?_)⟩; dsimp only [Z4])
   refine ⟨_,rfl,rfl,_,rfl,Z0 (fun _=>?_) (fun z=>absurd rfl z)⟩
   exact ⟨_,rfl,M.p,dm,_,rfl,obm,Yk _ (by decide +kernel),_,rfl,a,_,1,_,rfl,rfl,SqT.of ha,rfl,_,rfl,a,_,2,_,rfl,rfl,SqT.of ha,rfl,M,s.1,wa,[],s.2,qs,n,d,e0,rfl,W,hn,g1,g2,g3,g4,g5,g6,g7,fun q H' W' t f=>k _ wa (qs ++ [q]) H' W' t f⟩
  | give x y d =>
   obtain ⟨⟨cl,g1,g2⟩,g3,g4,g5,z,e,g6,g7⟩:=hg
   have ecl:s.2.haps.getD 0 []=cl:=by rw [yE,g1]; rfl
   refine ⟨_,rfl,a,_,0,_,rfl,rfl,SqT.of ha,rfl,?_⟩
   refine Yg ?_
   dsimp only [Z4]
   iterate 5 (refine ⟨_,rfl,rfl,_,rfl,Z0 (fun z=>absurd z (by decide +kernel)) (fun _=>?_)⟩; dsimp only [Z4])
   refine ⟨_,rfl,rfl,_,rfl,Z0 (fun _=>?_) (fun z=>absurd rfl z)⟩
   exact ⟨_,rfl,M.p,dm,_,rfl,obm,Yk _ (by decide +kernel),_,rfl,a,_,1,_,rfl,rfl,SqT.of ha,rfl,_,rfl,a,_,2,_,rfl,rfl,SqT.of ha,rfl,_,rfl,a,_,3,_,rfl,rfl,SqT.of ha,rfl,_,rfl,a,_,4,_,rfl,rfl,SqT.of ha,rfl,M,s.1,wa,[],s.2,qs,0,x,y,d,cl,rfl,W,hn,g1,g2,g3,g4,g5,.inr ⟨0,z,e,rfl,g6,g7⟩,fun H' W' t=>k _ wa qs H' (by unfold stp; rw [ecl]; exact W') t MFresh.refl⟩
  | pay x y m d =>
   obtain ⟨g1,g2,g3,g4,g5,g6⟩:=hg
   refine ⟨_,rfl,a,_,0,_,rfl,rfl,SqT.of ha,rfl,?_⟩
   refine Yg ?_
   dsimp only [Z4]
   iterate 6 (refine ⟨_,rfl,rfl,_,rfl,Z0 (fun z=>absurd z (by decide +kernel)) (fun _=>?_)⟩; dsimp only [Z4])
   refine ⟨_,rfl,rfl,_,rfl,Z0 (fun _=>?_) (fun z=>absurd rfl z)⟩
   exact ⟨_,rfl,M.p,dm,_,rfl,obm,Yk _ (by decide +kernel),_,rfl,a,_,1,_,rfl,rfl,SqT.of ha,rfl,_,rfl,a,_,2,_,rfl,rfl,SqT.of ha,rfl,_,rfl,a,_,3,_,rfl,rfl,SqT.of ha,rfl,_,rfl,a,_,4,_,rfl,rfl,SqT.of ha,rfl,M,s.1,wa,[],s.2,qs,x,y,m,d,rfl,W,hn,g1,g2,g3,g4,g5,g6,fun H' W' t=>k _ wa qs H' W' t MFresh.refl⟩
end
section
variable {P:Program}{w:World}{K:uFg}{mg:Str->Option Value}{base:Heap}{C CM CP:Addr}
def Frm (O:Addr->Prop) (H:Hp) (O':Addr->Prop) (H':Hp):Prop:=(∀ b o,H b=some o->¬ O b->H' b=some o)/\∀ b,O' b->O b\/H b=none
theorem Frm.trans {O O1 O2:Addr->Prop}{H H1 H2:Hp}(a:Frm O H O1 H1) (b:Frm O1 H1 O2 H2):Frm O H O2 H2:=by
 refine ⟨fun x o e n=>b.1 x o (a.1 x o e n) fun z=>(a.2 x z).elim n (fun y=>by rw [e] at y; cases y),fun x hx=>?_⟩
 rcases b.2 x hx with z | z
 ·exact a.2 x z
 ·by_cases n:O x
  ·exact .inl n
  ·cases e:H x with
   | none=>exact .inr rfl
   | some o=>rw [a.1 x o e n] at z; cases z
theorem Frm.same {O:Addr->Prop}{H H':Hp}(s:Same H H'):Frm O H O H':=⟨fun b o e _=>s b o e,fun b hb=>.inl hb⟩
theorem Zqk:∀ (ps:List Pd) (s:Vv),(ps.foldl stp s).2.deeds=s.2.deeds++ps.map pdD
 | [],s=>by simp
 | p::ps,s=>by
  rw [List.foldl_cons,Zqk ps,xP]
  have:(stp s p).2.deeds=s.2.deeds ++ [pdD p]:=by cases p <;> rfl
  rw [this,yH]
  rfl
theorem Zac (ps:List Pd):(Zu ps).2.deeds=ps.map pdD:=by unfold Zu; rw [Zqk]; rfl
theorem Zed (ps:List Pd) (p:Pd):Zu (ps ++ [p])=stp (Zu ps) p:=by unfold Zu; rw [List.foldl_append]; rfl
def Gd (ps:List Pd):Prop:=ps.length<=400/\∀ (i:Nat) (p:Pd),ps[i]? = some p->Zfg (Zu (ps.take i)) p
theorem Gd.take {ps:List Pd}(h:Gd ps) (n:Nat):Gd (ps.take n):=by
 refine ⟨by rw [xO]; have:=h.1; lia,fun i p hp=>?_⟩
 have hi:i < n:=by
  rcases Nat.lt_or_ge i n with z | z
  ·exact z
  ·rw [List.getElem?_eq_none (by rw [xO]; lia)] at hp; cases hp
 rw [List.getElem?_take_of_lt hi] at hp
 rw [List.take_take,Nat.min_eq_left (Nat.le_of_lt hi)]
 exact h.2 i p hp
theorem Zql (xs:List V) (j:Nat) (h:j<=xs.length):Ws xs none (some (j:Int))=xs.take j:=by
 unfold Ws
 rw [HT.sIx_none,HT.sIx_nat,Nat.min_eq_left h,List.drop_zero,Nat.sub_zero]
theorem Ui (ps:List Pd):(Zu ps).2.deeds.length=ps.length:=by rw [Zac,xD]
def Zqm (C CM:Addr):Sp:=fun vs H Q _=>∃ (M:ML) (ps:List Pd) (wa:Str->Addr) (qs:List Addr) (n:Nat),vs = [.ref M.p,.int n]/\MootAt C CM H M (Zu ps).1 wa [] (Zu ps).2 qs/\Gd ps/\n<=ps.length /\
 ∀ (M2:ML) (wa2:Str->Addr) (qs2:List Addr) (H':Hp),MootAt C CM H' M2 (Zu (ps.take n)).1 wa2 [] (Zu (ps.take n)).2 qs2->(∀ b,mo M2 (Zu (ps.take n)).1 wa2 [] qs2 b->H b=none)->Same H H'->Q (.ref M2.p) H'
abbrev V7:Stmt:=Ye (top 66) 35
theorem Zkc:FnScope ["self", "moment", "other", "deed"] ["self", "moment"] (Zb V7):=⟨rfl,rfl,rfl,by decide +kernel,rfl,by decide +kernel,by decide +kernel⟩
theorem Z8e:Nm (Zb V7) "Moot" .globalImplicit:=by decide +kernel
theorem Zs2:Nm (Zb V7) "deed" .local:=by decide +kernel
theorem Z8f:Nm (Zb V7) "done" .globalImplicit:=by decide +kernel
theorem Z8g:Nm (Zb V7) "len" .globalImplicit:=by decide +kernel
theorem Zs3:Nm (Zb V7) "moment" .local:=by decide +kernel
theorem Zmd:Nm (Zb V7) "other" .local:=by decide +kernel
theorem Zs4:Nm (Zb V7) "self" .local:=by decide +kernel
theorem Z1j (Zkd:HasM K CM "then" "Moot.then" V7) (T:Txt mg) (Tm:TxCMoot K CM) (M_Moot:Mks P w K mg base CM "Moot" 3 (Zh8 C CM)) (Zdo:Fn P w K mg base "done" ["moot", "deed"] 6 (Ze1 C CM)):Mt P w K mg base CM "then" ["self", "moment"] 7 (Zqm C CM):=by
 refine Zkd.mtQ Zkc (fun _ _ _ _ _ _ us hl=>match us,hl with | [_,_],_=>rfl) (fun vs H Q E h=>?_) (fun f cdv A outer s H vs Q E hr h=>?_)
 ·obtain ⟨M,ps,wa,qs,n,rfl,_⟩:=h
  rfl
 ·obtain ⟨M,ps,wa,qs,n,rfl,W,hg,hn,k⟩:=h
  refine ⟨_,(Zf (Zl (Wx (Zcw Wp Wp Ze (qvN 1 Zs3) (Z8 Wt Z8g T.len Y1 (Za (Zq (qvN 0 Zs4)) Zc)))) (Zg Yh) Zn)
 (Zf (Z1 (i:=2) Zkc.nd Zmd (Zev M_Moot (hr.mono (by lia)) Z8e))
 (Zf (We PassesOwn.never rfl (Vh (Ue Zg9 (Zq (qvN 0 Zs4)) Uc (Ud (qvN 1 Zs3)))) (Yp (i:=3) Zkc.nd Zs2)
 (Zg (Zv (Zw Zdo (hr.mono (by lia)) Z8f (Za (qvN 2 Zmd) (Za (qvN 3 Zs2) Zc))))))
 (Zg (Zr (qvN 2 Zmd)))))),?_⟩
  have hz:(5000:Nat)<=sizeLine:=by decide
  obtain ⟨dm,obm⟩:=W.ob
  obtain ⟨vs,d1,d2,d3⟩:=(W.ls (M.ld,(Zu ps).2.deeds) (by simp [Mo.at_])).get
  dsimp only at d1 d2 d3
  rw [Ui] at d3
  rw [Zac] at d2
  have h400:=hg.1
  refine ⟨_,rfl,_,_,rfl,rfl,_,rfl,Z0 (fun _=>?_) (fun z=>absurd (by lia) z)⟩
  refine ⟨_,rfl,M.p,CM,dm,_,_,rfl,obm,Tm.cl,Tm.nd,Vn _,M.ld,vs,rfl,.inl (SqL.of d1),_,_,rfl,rfl,_,rfl,Ym (fun z=>absurd (show (n:Int)<=vs.length by lia) z) (fun _=>?_)⟩
  dsimp only [Z4]
  intro x dx2 nx ndx nex
  refine ⟨x,dx2,rfl,Zi,fun M2 H2 eM W2 kp fr=>⟨rfl,?_⟩⟩
  subst eM
  have S2:Same H H2:=fun b o e=>kp b o (by rw [Zd (Zj e nx),Zd (Zj e ndx)]; exact e) (Zj e nx)
  have fr2:∀ b,mo M2 [] (fun _=>0) [] [] b->H b=none:=fun b hb=>by
   rcases fr b hb with z | z
   ·rw [z]; exact nx
   ·by_cases c1:b=M2.p
    ·rw [c1]; exact nx
    ·rw [Zd c1] at z
     by_cases c2:b=dx2
     ·rw [c2]; exact ndx
     ·rw [Zd c2] at z; exact z
  refine Yg ?_
  dsimp only [Z4]
  refine ⟨_,rfl,M.p,CM,dm,_,_,rfl,S2 _ _ obm,Tm.cl,Tm.nd,Vn _,_,rfl,_,rfl,M.ld,vs,rfl,SqL.of (S2 _ _ d1),fun l hl=>?_⟩
  rw [Zql vs n (by lia)]
  have nl:¬ mo M2 [] (fun _=>0) [] [] l:=fun z=>by obtain ⟨o,e⟩:=W2.there z; rw [hl] at e; cases e
  have S3:=Same.new (o:=.lst (vs.take n)) hl
  have k3:(upd H2 l (.lst (vs.take n))) l=some (.lst (vs.take n)):=Zi
  generalize (upd H2 l (.lst (vs.take n)))=H3 at S3 k3 ⊢
  refine ⟨l,rfl,⟨_,SqL.of k3⟩,?_⟩
  have S03:=S2.trans S3
  refine Zaz (vs.take n) (fun i σ H'=>∃ (v3:Option V) (wa2:Str->Addr) (qs2:List Addr),σ = [some (.ref M.p),some (.int n),some (.ref M2.p),v3]/\MootAt C CM H' M2 (Zu (ps.take i)).1 wa2 [] (Zu (ps.take i)).2 qs2/\Frm (mo M2 [] (fun _=>0) [] []) H3 (mo M2 (Zu (ps.take i)).1 wa2 [] qs2) H')
   ⟨none,_,_,rfl,W2.same S3,Frm.same (Same.refl _)⟩ (fun i σ H' _ ⟨_,_,_,_,_,f⟩=>SqL.of (f.1 _ _ k3 nl)) ?_ ?_
  ·rintro i v σ H' hv ⟨v3,wa2,qs2,rfl,W',f'⟩
   have hi:i < n:=by have:=(xV.mp hv).1; rw [xO] at this; lia
   rw [List.getElem?_take_of_lt hi] at hv
   obtain ⟨d,hd,re⟩:=d2.get hv
   rw [xW] at hd
   obtain ⟨p,hp,rfl⟩:=yI.mp hd
   obtain ⟨a,rfl,ha⟩:=Zbb re
   have nma:¬ mo M2 [] (fun _=>0) [] [] a:=fun z=>by have:=fr2 a z; rw [ha] at this; cases this
   have et:ps.take (i+1)=ps.take i ++ [p]:=by rw [yG,hp]; rfl
   refine ⟨_,rfl,_,rfl,M2,Zu (ps.take i),wa2,qs2,a,p,rfl,W',f'.1 _ _ (S03 _ _ ha) nma,by rw [Ui,xO]; lia,hg.2 i p hp,fun v wa3 qs3 H4 W4 t4 f4=>?_⟩
   rw [et,Zed]
   exact ⟨_,wa3,qs3,rfl,W4,f'.trans ⟨t4,f4⟩⟩
  ·rintro σ H' ⟨v3,wa2,qs2,rfl,W',f'⟩
   rw [xO,Nat.min_eq_left (by lia)] at W' f'
   refine ⟨_,rfl,k M2 wa2 qs2 H' W' (fun b hb=>?_) (fun b o e=>f'.1 b o (S03 _ _ e) fun z=>by have:=fr2 b z; rw [e] at this; cases this)⟩
   rcases f'.2 b hb with z | z
   ·exact fr2 b z
   ·exact S03.free z
def Yl (mp lu:Addr):List (Str×V):=Zh "undone" (.ref lu) (Zh "moot" (.ref mp) [])
theorem Zad (mp lu:Addr):(Yl mp lu).lookup ("moot" : Str)=some (.ref mp):=by unfold Yl; rw [Yb,if_neg (by decide +kernel),Yb,if_pos (by decide +kernel)]
theorem Zb2 (mp lu:Addr):(Yl mp lu).lookup ("undone" : Str)=some (.ref lu):=by unfold Yl; rw [Yb,if_pos (by decide +kernel)]
theorem Z1k (mp lu m2:Addr):Zh "moot" (.ref m2) (Yl mp lu)=Yl m2 lu:=rfl
theorem Z1l (mp lu l2:Addr):Zh "undone" (.ref l2) (Yl mp lu)=Yl mp l2:=rfl
theorem Zs5 {mp lu:Addr}{m:Str}(h:¬ m = "undone" /\ ¬ m = "moot"):(Yl mp lu).lookup m=none:=by unfold Yl; rw [Yb,if_neg h.1,Yb,if_neg h.2]; rfl
structure TxCPast (K:uFg) (C:Addr):Prop where
 cl:Cls K C
 nm:NoAttr K C "moot"
 nu:NoAttr K C "undone"
def pO (p lu:Addr) (M:ML) (s:Vv) (wa:Str->Addr) (qs:List Addr) (b:Addr):Prop:=b=p\/b=lu\/mo M s.1 wa [] qs b
structure PastAt (C CM CP:Addr) (H:Hp) (p lu:Addr) (M:ML) (ps us:List Pd) (wa:Str->Addr) (qs:List Addr):Prop where
 ob:∃ dx,H p=some (.ins CP dx (Yl M.p lu))
 mt:MootAt C CM H M (Zu ps).1 wa [] (Zu ps).2 qs
 ul:∃ vs,H lu=some (.lst vs)/\RepL (fz [] H) (us.map pdD) vs
 np:¬ mo M (Zu ps).1 wa [] qs p
 nu:¬ mo M (Zu ps).1 wa [] qs lu
def Pst (C CM CP:Addr) (H:Hp) (p:Addr) (ps us:List Pd) (O:Addr->Prop):Prop:=∃ lu M wa qs,PastAt C CM CP H p lu M ps us wa qs/\O=pO p lu M (Zu ps) wa qs
theorem Wg {H H':Hp}(k:Y0 H H'):Same (fz [] H) (fz [] H'):=Zaa k (fun _ z=>nomatch z) fun _ z=>z
theorem Pst.keep {H H':Hp}{p:Addr}{ps us:List Pd}{O:Addr->Prop}(h:Pst C CM CP H p ps us O) (k:∀ b o,O b->H b=some o->H' b=some o) (kt:Y0 H H'):Pst C CM CP H' p ps us O:=by
 obtain ⟨lu,M,wa,qs,⟨⟨dx,ob⟩,mt,⟨vs,u1,u2⟩,np,nu⟩,rfl⟩:=h
 exact ⟨lu,M,wa,qs,⟨⟨dx,k _ _ (.inl rfl) ob⟩,mt.keep (fun b o hb e=>k b o (.inr (.inr hb)) e) kt,⟨vs,k _ _ (.inr (.inl rfl)) u1,u2.mono' (Wg kt)⟩,np,nu⟩,rfl⟩
theorem Pst.same {H H':Hp}{p:Addr}{ps us:List Pd}{O:Addr->Prop}(h:Pst C CM CP H p ps us O) (k:Same H H'):Pst C CM CP H' p ps us O:=h.keep (fun b o _ e=>k b o e) fun _ _ e=>k _ _ e
theorem Pst.there {H:Hp}{p:Addr}{ps us:List Pd}{O:Addr->Prop}(h:Pst C CM CP H p ps us O) {b:Addr}(hb:O b):∃ o,H b=some o:=by
 obtain ⟨lu,M,wa,qs,⟨⟨dx,ob⟩,mt,⟨vs,u1,u2⟩,np,nu⟩,rfl⟩:=h
 rcases hb with rfl | rfl | hb
 ·exact ⟨_,ob⟩
 ·exact ⟨_,u1⟩
 ·exact mt.there hb
theorem Pst.ntup {H:Hp}{p:Addr}{ps us:List Pd}{O:Addr->Prop}(h:Pst C CM CP H p ps us O) {b:Addr}{t:List V}(e:H b=some (.tup t)):¬ O b:=fun hb=>by
 obtain ⟨lu,M,wa,qs,⟨⟨dx,ob⟩,mt,⟨vs,u1,u2⟩,np,nu⟩,rfl⟩:=h
 rcases hb with rfl | rfl | hb
 ·rw [e] at ob; cases ob
 ·rw [e] at u1; cases u1
 ·exact mt.ntup e hb
theorem Pst.x {H H':Hp}{p s:Addr}{ys:List V}{ps us:List Pd}{O:Addr->Prop}(h:Pst C CM CP H p ps us O) (hs:H s=some (.lst ys)) (hn:¬ O s) (k:SameX s H H'):Pst C CM CP H' p ps us O :=
 h.keep (fun b o hb e=>k b o (fun z=>hn (z▸hb)) e) fun b t e=>k b _ (fun z=>by rw [z,hs] at e; cases e) e
end
section
variable {P:Program}{w:World}{K:uFg}{mg:Str->Option Value}{base:Heap}{C CM CP:Addr}{c:Str->Addr}
abbrev errs:List Str:=["TooMany", "NothingBack", "NothingForth", "NoDeed"]
def Zqn (C CM:Addr) (c:Str->Addr):Sp:=fun vs H _ E=>∃ (M:ML) (ds:List Deed) (wa:Str->Addr) (xs:List Addr) (m:Mo) (qs:List Addr),vs = [.ref M.p]/\MootAt C CM H M ds wa xs m qs/\400<=m.deeds.length/\E (.ref (c "TooMany")) none H
theorem Zuk (Zcm:HasM K CM "check_moments" "Moot.check_moments" Zaj) (T:Txt mg) (Tm:TxCMoot K CM) (C0:∃ t,mg "MOST_MOMENTS" = some (.int 400 t)) (er:Er K mg c errs):MtX P w K mg base CM "check_moments" 1 (Zqn C CM c):=by
 obtain ⟨t0,c_MOST_MOMENTS⟩:=C0
 have r_MOST_MOMENTS:RelV (.int 400) (.int 400 t0):=⟨t0,rfl⟩
 refine Zcm.mtX Zss (fun _ _ _ _ _ _ us hl=>match us,hl with | [_],_=>rfl) (fun vs H Q E h=>?_) (fun f cdv A outer s H vs Q E hr h=>?_)
 ·obtain ⟨M,ds,wa,xs,m,qs,rfl,_⟩:=h
  rfl
 ·obtain ⟨M,ds,wa,xs,m,qs,rfl,W,hn,k⟩:=h
  refine ⟨_,(Zg (Zl (Zp Zc6 (Z8 Wt Zst T.len Y1 (Za (Zq (qvN 0 Zsu)) Zc)) (V0 Zlw c_MOST_MOMENTS r_MOST_MOMENTS) (Zo _)) (Zg (Zea Zc7 rfl rfl (er.x "TooMany" (by decide +kernel)) Z7d (er.g "TooMany" (by decide +kernel)) (Znt (Zis (Zp8 (V0 Zlw c_MOST_MOMENTS r_MOST_MOMENTS) (Zis Zp7)))))) Zn)),?_⟩
  obtain ⟨dx,ob⟩:=W.ob
  obtain ⟨vs,d1,_,d2⟩:=(W.ls (M.ld,m.deeds) (by simp [Mo.at_])).get
  dsimp only at d1 d2
  refine ⟨_,rfl,M.p,CM,dx,_,_,rfl,ob,Tm.cl,Tm.nd,Vn _,M.ld,vs,rfl,.inl (SqL.of d1),_,_,rfl,rfl,_,rfl,Z0 (fun _=>?_) (fun z=>absurd (show (400:Int)<=vs.length by lia) z)⟩
  exact ⟨by decide +kernel,.inr ⟨400,rfl,by decide +kernel⟩,by decide +kernel,fun _=>k⟩
def Zqo (C CM:Addr) (c:Str->Addr):Sp:=fun vs H _ E=>∃ (M:ML) (ds:List Deed) (wa:Str->Addr) (xs:List Addr) (m:Mo) (qs:List Addr) (n:Str) (d:Int),vs = [.ref M.p,.str n]/\MootAt C CM H M ds wa xs m qs/\400<=m.deeds.length/\Zt ds n=some d/\Z5 ds n=none/\E (.ref (c "TooMany")) none H
theorem Zvb (Zco:HasM K CM "penance" "Moot.penance" Zbg) (T:Txt mg) (Tc:TxC K C) (Tm:TxCMoot K CM) (M_check_known:Mt P w K mg base C "check_known" ["self", "name"] 1 (Zc0 C)) (M_check_untold:Mt P w K mg base C "check_untold" ["self", "name"] 1 (Zhg C))
  (MM_check_moments:MtX P w K mg base CM "check_moments" 1 (Zqn C CM c)):MtX P w K mg base CM "penance" 2 (Zqo C CM c):=by
 refine Zco.mtX Zsw (fun _ _ _ _ _ _ us hl=>match us,hl with | [_,_],_=>rfl) (fun vs H Q E h=>?_) (fun f cdv A outer s H vs Q E hr h=>?_)
 ·obtain ⟨M,ds,wa,xs,m,qs,n,d,rfl,_⟩:=h
  rfl
 ·obtain ⟨M,ds,wa,xs,m,qs,n,d,rfl,W0,hn4,hc,hd,k⟩:=h
  refine ⟨_,(Zf (Zv (Z6 (Zq (qvN 0 Vo)) Tc.cl M_check_known (hr.mono (by lia)) (Za (qvN 1 Zak) Zc)))
 (Zf (Zv (Z6 (Zq (qvN 0 Vo)) Tc.cl M_check_untold (hr.mono (by lia)) (Za (qvN 1 Zak) Zc)))
 (Zf (Zv (Zh1 Zew (qvN 0 Vo) Tm.cl MM_check_moments (hr.mono (by lia))))
 (Zf (U6 hr (Zq (qvN 0 Vo)) (qvN 1 Zak) (Z8 Wt Zsx T.len Y1 (Za (Zq (qvN 0 Vo)) Zc)))
 (Zg (Zv (Y7 F.plainAttrs_list F.slot_list_append F.type_list_append Wu (Zq (qvN 0 Vo)) (Za (Yc (Za Zm (Za (qvN 1 Zak) Zc))) Zc)))))))),?_⟩
  obtain ⟨dm,obm⟩:=W0.ob
  obtain ⟨dx,ob⟩:=W0.fk.f.ob
  refine ⟨_,rfl,M.p,CM,dm,_,_,rfl,obm,Tm.cl,Tm.nf,Vi _,M.L.p,dx,_,rfl,ob,Yw _ _ _ _ (by decide +kernel),_,rfl,M.L,ds,n,d,rfl,W0.fk.f,hc,?_⟩
  refine ⟨_,rfl,M.p,CM,dm,_,_,rfl,obm,Tm.cl,Tm.nf,Vi _,M.L.p,dx,_,rfl,ob,Yw _ _ _ _ (by decide +kernel),_,rfl,M.L,ds,n,rfl,W0.fk.f,hd,?_⟩
  exact ⟨_,rfl,M.p,dm,_,rfl,obm,Yk _ (by decide +kernel),M,ds,wa,xs,m,qs,rfl,W0,hn4,k⟩
def Zib (C CM:Addr) (c:Str->Addr):Sp:=fun vs H _ E=>∃ (M:ML) (ds:List Deed) (wa:Str->Addr) (xs:List Addr) (m:Mo) (qs:List Addr) (a:Addr) (n:Str) (d:Int),vs = [.ref M.p,.ref a]/\MootAt C CM H M ds wa xs m qs/\H a=some (.tup [.str "penance", .str n])/\400<=m.deeds.length/\Zt ds n=some d/\Z5 ds n=none/\E (.ref (c "TooMany")) none H
theorem Z8h (Zca:Has K mg "done" Zab) (Tm:TxCMoot K CM) (er:Er K mg c errs) (MM_come:Mt P w K mg base CM "come" ["self", "name", "day", "weight"] 4 (Zh7 C CM)) (MM_rise:Mt P w K mg base CM "rise" ["self", "name", "day", "weight"] 5 (Zh9 C CM)) (MM_penance:MtX P w K mg base CM "penance" 2 (Zqo C CM c)) (MM_bring:Mt P w K mg base CM "bring" ["self", "name", "day"] 4 (Zhi C CM)) (MM_give:Mt P w K mg base CM "give" ["self", "thing", "giver", "taker", "day"] 4 (Zia C CM)) (MM_pay:Mt P w K mg base CM "pay" ["self", "payer", "taker", "many", "day"] 4 (Ziw C CM)):FnX P w K mg base "done" 6 (Zib C CM c):=by
 refine Zca.fnX Zfh (fun _ _ _ _ _ _ us hl=>match us,hl with | [_,_],_=>rfl) (fun vs H Q E h=>?_) (fun f cdv A outer s H vs Q E hr h=>?_)
 ·obtain ⟨M,ds,wa,xs,m,qs,a,n,d,rfl,_⟩:=h
  rfl
 ·obtain ⟨M,ds,wa,xs,m,qs,a,n,d,rfl,W,ha,hn,hc,hd,k⟩:=h
  refine ⟨_,(Zf (Z1 (i:=2) Zfh.nd Yr (Zk Zz (qvN 1 Z7) Ze (fun _ _=>rfl)))
 (Zf (Zl (Zp Yd (qvN 2 Yr) Zm (Zo _)) (Zg (Zr (Z6 (qvN 0 Vp) Tm.cl MM_come (hr.mono (by lia)) (Za (Zk Zz (qvN 1 Z7) Ze (fun _ _=>rfl)) (Za (Zk Zz (qvN 1 Z7) Ze (fun _ _=>rfl)) (Za (Zk Zz (qvN 1 Z7) Ze (fun _ _=>rfl)) Zc)))))) Zn)
 (Zf (Zl (Zp Yd (qvN 2 Yr) Zm (Zo _)) (Zg (Zr (Z6 (qvN 0 Vp) Tm.cl MM_rise (hr.mono (by lia)) (Za (Zk Zz (qvN 1 Z7) Ze (fun _ _=>rfl)) (Za (Zk Zz (qvN 1 Z7) Ze (fun _ _=>rfl)) (Za (Zk Zz (qvN 1 Z7) Ze (fun _ _=>rfl)) Zc)))))) Zn)
 (Zf (Zl (Zp Yd (qvN 2 Yr) Zm (Zo _)) (Zg Yh) Zn)
 (Zf (Zl (Zp Yd (qvN 2 Yr) Zm (Zo _)) (Zg (Zr (Zp5 Zew (qvN 0 Vp) Tm.cl MM_penance (hr.mono (by lia)) (Za (Zk Zz (qvN 1 Z7) Ze (fun _ _=>rfl)) Zc)))) Zn)
 (Zf (Zl (Zp Yd (qvN 2 Yr) Zm (Zo _)) (Zg (Zr (Z6 (qvN 0 Vp) Tm.cl MM_bring (hr.mono (by lia)) (Za (Zk Zz (qvN 1 Z7) Ze (fun _ _=>rfl)) (Za (Zk Zz (qvN 1 Z7) Ze (fun _ _=>rfl)) Zc))))) Zn)
 (Zf (Zl (Zp Yd (qvN 2 Yr) Zm (Zo _)) (Zg (Zr (Z6 (qvN 0 Vp) Tm.cl MM_give (hr.mono (by lia)) (Za (Zk Zz (qvN 1 Z7) Ze (fun _ _=>rfl)) (Za (Zk Zz (qvN 1 Z7) Ze (fun _ _=>rfl)) (Za (Zk Zz (qvN 1 Z7) Ze (fun _ _=>rfl)) (Za (Zk Zz (qvN 1 Z7) Ze (fun _ _=>rfl)) Zc))))))) Zn)
 (Zf (Zl (Zp Yd (qvN 2 Yr) Zm (Zo _)) (Zg (Zr (Z6 (qvN 0 Vp) Tm.cl MM_pay (hr.mono (by lia)) (Za (Zk Zz (qvN 1 Z7) Ze (fun _ _=>rfl)) (Za (Zk Zz (qvN 1 Z7) Ze (fun _ _=>rfl)) (Za (Zk Zz (qvN 1 Z7) Ze (fun _ _=>rfl)) (Za (Zk Zz (qvN 1 Z7) Ze (fun _ _=>rfl)) Zc))))))) Zn)
 (Zf (Zl (Zp Yd (qvN 2 Yr) Zm (Zo _)) (Zg Yh) Zn)
 (Zf (Zl (Zp Yd (qvN 2 Yr) Zm (Zo _)) (Zg Yh) Zn)
 (Zf (Zl (Zp Yd (qvN 2 Yr) Zm (Zo _)) (Zg Yh) Zn)
 (Zg (Zea Zc7 rfl rfl (er.x "NoDeed" (by decide +kernel)) Z8c (er.g "NoDeed" (by decide +kernel)) (Znt (Zp8 (qvN 2 Yr) (Zis Zp7)))))))))))))))),?_⟩
  obtain ⟨dm,obm⟩:=W.ob
  refine ⟨_,rfl,a,_,0,_,rfl,rfl,SqT.of ha,rfl,?_⟩
  refine Yg ?_
  dsimp only [Z4]
  iterate 3 (refine ⟨_,rfl,rfl,_,rfl,Z0 (fun z=>absurd z (by decide +kernel)) (fun _=>?_)⟩; dsimp only [Z4])
  refine ⟨_,rfl,rfl,_,rfl,Z0 (fun _=>?_) (fun z=>absurd rfl z)⟩
  exact ⟨_,rfl,M.p,dm,_,rfl,obm,Yk _ (by decide +kernel),_,rfl,a,_,1,_,rfl,rfl,SqT.of ha,rfl,M,ds,wa,xs,m,qs,n,d,rfl,W,hn,hc,hd,k⟩
theorem Zpc {α:Type}(xs:List α) (n:Nat) (h:xs.length=n+1) {x : α}(hx:xs[n]? = some x):atI xs (-1)=some x:=by
 unfold atI ixN
 rw [if_neg (by lia),if_pos (by lia)]
 show xs[_]? = _
 rw [← hx]
 congr 1
 lia
theorem RepL.take {H:Hp}:∀ {ds:List D}{vs:List V}(n:Nat),RepL H ds vs->RepL H (ds.take n) (vs.take n)
 | [],_,n,h=>by cases h; rw [List.take_nil,List.take_nil]; rfl
 | _::_,_,0,_=>rfl
 | _::_,_,n+1,⟨v,r,e,h1,h2⟩=>by subst e; exact ⟨v,r.take n,rfl,h1,RepL.take n h2⟩
theorem Zqp (mp lu:Addr):(Yl mp lu).length < 1000:=show 2 < 1000 by decide
theorem PastAt.same {H H':Hp}{p lu:Addr}{M:ML}{ps us:List Pd}{wa:Str->Addr}{qs:List Addr}(h:PastAt C CM CP H p lu M ps us wa qs) (k:Same H H'):PastAt C CM CP H' p lu M ps us wa qs:=by
 obtain ⟨⟨dx,ob⟩,mt,⟨vs,u1,u2⟩,np,nu⟩:=h
 exact ⟨⟨dx,k _ _ ob⟩,mt.same k,⟨vs,k _ _ u1,u2.mono' (Wg fun _ _ e=>k _ _ e)⟩,np,nu⟩
theorem PastAt.done {H H':Hp}{p lu:Addr}{M:ML}{ps us:List Pd}{q:Pd}{wa wa':Str->Addr}{qs qs':List Addr}(h:PastAt C CM CP H p lu M ps us wa qs) (W:MootAt C CM H' M (Zu (ps ++ [q])).1 wa' [] (Zu (ps ++ [q])).2 qs')
  (t:MTouch M (Zu ps).1 wa [] qs H H') (f:MFresh M (Zu ps).1 wa [] qs M (Zu (ps ++ [q])).1 wa' [] qs' H):PastAt C CM CP H' p lu M (ps ++ [q]) us wa' qs'/\Frm (pO p lu M (Zu ps) wa qs) H (pO p lu M (Zu (ps ++ [q])) wa' qs') H':=by
 obtain ⟨⟨dx,ob⟩,mt,⟨vs,u1,u2⟩,np,nu⟩:=h
 refine ⟨⟨⟨dx,t _ _ ob np⟩,W,⟨vs,t _ _ u1 nu,u2.mono' (Wg (MTouch.tt mt t))⟩,fun z=>(f _ z).elim np (fun e=>by rw [ob] at e; cases e),fun z=>(f _ z).elim nu (fun e=>by rw [u1] at e; cases e)⟩,fun b o e n=>t b o e fun z=>n (.inr (.inr z)),fun b hb=>?_⟩
 rcases hb with z | z | z
 ·exact .inl (.inl z)
 ·exact .inl (.inr (.inl z))
 ·exact (f b z).imp (fun y=>.inr (.inr y)) id
theorem PastAt.und {H H':Hp}{p lu:Addr}{M:ML}{ps us us':List Pd}{wa:Str->Addr}{qs:List Addr}{vs:List V}(h:PastAt C CM CP H p lu M ps us wa qs) (e:H'=upd H lu (.lst vs)) (hv:RepL (fz [] H) (us'.map pdD) vs):PastAt C CM CP H' p lu M ps us' wa qs/\Frm (pO p lu M (Zu ps) wa qs) H (pO p lu M (Zu ps) wa qs) H':=by
 obtain ⟨⟨dx,ob⟩,mt,⟨us0,u1,u2⟩,np,nu⟩:=h
 have g:∀ b o,b≠lu->H b=some o->H' b=some o:=fun b o n z=>by rw [e,Zd n]; exact z
 have kt:Y0 H H':=fun b u z=>g b _ (fun y=>by rw [y,u1] at z; cases z) z
 refine ⟨⟨⟨dx,g _ _ (fun z=>by rw [z,u1] at ob; cases ob) ob⟩,mt.keep (fun b o hb z=>g b o (fun y=>nu (y▸hb)) z) kt,⟨vs,by rw [e]; exact Zi,hv.mono' (Wg kt)⟩,np,nu⟩,fun b o z n=>g b o (fun y=>n (.inr (.inl y))) z,fun b hb=>.inl hb⟩
theorem Gd.last {ps:List Pd}{q:Pd}(h:Gd (ps ++ [q])):ps.length < 400/\Zfg (Zu ps) q:=by
 refine ⟨by have:=h.1; rw [xJ] at this; simp only [xG,yF] at this; lia,?_⟩
 have:=h.2 ps.length q (by rw [List.getElem?_append_right (xB _),Nat.sub_self]; rfl)
 rwa [List.take_left] at this
def Ziy (C CM CP:Addr) (c:Str->Addr):Sp:=fun vs H Q E=>∃ (p a:Addr) (ps us:List Pd) (O:Addr->Prop) (q:Pd),vs = [.ref p,.ref a]/\Pst C CM CP H p ps us O/\H a=some (.tup (pdV q)) /\
 ((Gd (ps ++ [q])/\∀ v O' H',Pst C CM CP H' p (ps ++ [q]) [] O'->Frm O H O' H'->Q v H')\/(400<=ps.length/\(∃ n d,q = .pen n/\Zt (Zu ps).1 n=some d/\Z5 (Zu ps).1 n=none)/\E (.ref (c "TooMany")) none H))
abbrev Zbc:Stmt:=Ye (top 68) 1
theorem Zs6:FnScope ["self", "deed", "told"] ["self", "deed"] (Zb Zbc):=⟨rfl,rfl,rfl,by decide +kernel,rfl,by decide +kernel,by decide +kernel⟩
theorem Z8i:Nm (Zb Zbc) "deed" .local:=by decide +kernel
theorem Z8j:Nm (Zb Zbc) "done" .globalImplicit:=by decide +kernel
theorem Zs7:Nm (Zb Zbc) "self" .local:=by decide +kernel
theorem Zs8:Nm (Zb Zbc) "told" .local:=by decide +kernel
theorem Z1m (Zke:HasM K CP "does" "Past.does" Zbc) (Tp:TxCPast K CP) (Zdo:FnX P w K mg base "done" 6 ((Ze1 C CM).or (Zib C CM c))):MtX P w K mg base CP "does" 7 (Ziy C CM CP c):=by
 refine Zke.mtX Zs6 (fun _ _ _ _ _ _ us hl=>match us,hl with | [_,_],_=>rfl) (fun vs H Q E h=>?_) (fun f cdv A outer s H vs Q E hr h=>?_)
 ·obtain ⟨p,a,ps,us,O,q,rfl,_⟩:=h
  rfl
 ·obtain ⟨p,a,ps,us,O,q,rfl,⟨lu,M,wa,qs,W,rfl⟩,ha,k⟩:=h
  refine ⟨_,(Zf (Z1 (i:=2) Zs6.nd Zs8 (Zp4 Zew Zdo (hr.mono (by lia)) Z8j (Za (Zq (qvN 0 Zs7)) (Za (qvN 1 Z8i) Zc))))
 (Zf (Wc (qvN 0 Zs7) (Yu Zc))
 (Zg (Zr (qvN 2 Zs8))))),?_⟩
  obtain ⟨dx,ob⟩:=W.ob
  refine ⟨_,rfl,p,CP,dx,_,_,rfl,ob,Tp.cl,Tp.nm,Zad _ _,_,rfl,?_⟩
  rcases k with ⟨hg,k⟩ | ⟨hn,⟨n,d,rfl,hc,hd⟩,k⟩
  ·obtain ⟨h4,hg⟩:=hg.last
   refine .inl ⟨M,Zu ps,wa,qs,a,q,rfl,W.mt,ha,by rw [Ui]; exact h4,hg,fun v wa' qs' H1 W1 t1 f1=>?_⟩
   rw [← Zed] at W1 f1
   obtain ⟨W2,F2⟩:=W.done W1 t1 f1
   refine Yg ?_
   dsimp only [Z4]
   obtain ⟨dy,ob2⟩:=W2.ob
   refine ⟨by show 0<=sizeLine; decide,fun l hl=>?_⟩
   have pl:p≠l:=Zj ob2 hl
   have S3:=Same.new (o:=.lst []) hl
   have kl:(upd H1 l (.lst [])) l=some (.lst []):=Zi
   generalize (upd H1 l (.lst []))=H3 at S3 kl ⊢
   refine ⟨_,rfl,p,CP,dy,_,rfl,S3 _ _ ob2,Tp.cl,Tp.nu,Zqp _ _,?_⟩
   rw [Z1l]
   have g:∀ b o,b≠p->H3 b=some o->(upd H3 p (.ins CP dy (Yl M.p l))) b=some o:=fun b o nb e=>by rw [Zd nb]; exact e
   have kp:(upd H3 p (.ins CP dy (Yl M.p l))) p=some (.ins CP dy (Yl M.p l)):=Zi
   generalize (upd H3 p (.ins CP dy (Yl M.p l)))=H4 at g kp ⊢
   have kt:Y0 H1 H4:=fun b u e=>g b _ (fun z=>by rw [z,ob2] at e; cases e) (S3 _ _ e)
   have nlm:¬ mo M (Zu (ps ++ [q])).1 wa' [] qs' l:=fun z=>by obtain ⟨o,e⟩:=W2.mt.there z; rw [hl] at e; cases e
   refine ⟨_,rfl,k v _ H4 ⟨l,M,wa',qs',⟨⟨dy,kp⟩,W2.mt.keep (fun b o hb e=>g b o (fun z=>W2.np (z▸hb)) (S3 _ _ e)) kt,⟨[],g _ _ (Ne.symm pl) kl,rfl⟩,W2.np,nlm⟩,rfl⟩ (F2.trans ⟨fun b o e nb=>g b o (fun z=>nb (.inl z)) (S3 _ _ e),fun b hb=>?_⟩)⟩
   rcases hb with z | z | z
   ·exact .inl (.inl z)
   ·exact .inr (z▸hl)
   ·exact .inl (.inr (.inr z))
  ·exact .inr ⟨M,(Zu ps).1,wa,[],(Zu ps).2,qs,a,n,d,rfl,W.mt,ha,by rw [Ui]; exact hn,hc,hd,k⟩
def Ziz (C CM CP:Addr) (c:Str->Addr):Sp:=fun vs H Q E=>∃ (p:Addr) (ps us:List Pd) (O:Addr->Prop),vs = [.ref p]/\Pst C CM CP H p ps us O /\
 ((∃ ps0 q,ps=ps0 ++ [q]/\Gd ps/\us.length<=400/\∀ O' H',Pst C CM CP H' p ps0 (us ++ [q]) O'->Frm O H O' H'->Q .non H')\/(ps = []/\E (.ref (c "NothingBack")) none H))
abbrev Zcb:Stmt:=Ye (top 68) 2
theorem Zs9:FnScope ["self", "moment"] ["self"] (Zb Zcb):=⟨rfl,rfl,rfl,by decide +kernel,rfl,by decide +kernel,by decide +kernel⟩
theorem Z8k:Nm (Zb Zcb) "NothingBack" .globalImplicit:=by decide +kernel
theorem Zme:Nm (Zb Zcb) "moment" .local:=by decide +kernel
theorem Zd1:Nm (Zb Zcb) "self" .local:=by decide +kernel
theorem Z1n (Zkf:HasM K CP "undo" "Past.undo" Zcb) (Tp:TxCPast K CP) (Tm:TxCMoot K CM) (er:Er K mg c errs) (MM_now:Mt P w K mg base CM "now" ["self"] 1 (Zsz C CM)) (MM_roll:Mt P w K mg base CM "roll" ["self"] 2 (Ze0 C CM)) (MM_then:Mt P w K mg base CM "then" ["self", "moment"] 7 (Zqm C CM)):MtX P w K mg base CP "undo" 8 (Ziz C CM CP c):=by
 refine Zkf.mtX Zs9 (fun _ _ _ _ _ _ us hl=>match us,hl with | [_],_=>rfl) (fun vs H Q E h=>?_) (fun f cdv A outer s H vs Q E hr h=>?_)
 ·obtain ⟨p,ps,us,O,rfl,_⟩:=h
  rfl
 ·obtain ⟨p,ps,us,O,rfl,⟨lu,M,wa,qs,W,rfl⟩,k⟩:=h
  refine ⟨_,(Zf (Z1 (i:=1) Zs9.nd Zme (Vq (Zq (qvN 0 Zd1)) Tm.cl MM_now (hr.mono (by lia))))
 (Zf (Zl (Zp Yd (qvN 1 Zme) Ze (Zo _)) (Zg (Zea Zc7 rfl rfl (er.x "NothingBack" (by decide +kernel)) Z8k (er.g "NothingBack" (by decide +kernel)) Zm)) Zn)
 (Zf (Zv (Y7 F.plainAttrs_list F.slot_list_append F.type_list_append Wu (Zq (qvN 0 Zd1)) (Za (Zk Yt (Vq (Zq (qvN 0 Zd1)) Tm.cl MM_roll (hr.mono (by lia))) (Zb5 Zbq Ze) (fun _ _=>rfl)) Zc)))
 (Zg (Wc (qvN 0 Zd1) (Z6 (Zq (qvN 0 Zd1)) Tm.cl MM_then (hr.mono (by lia)) (Za (Zy U5 (qvN 1 Zme) Ze) Zc))))))),?_⟩
  obtain ⟨dx,ob⟩:=W.ob
  obtain ⟨dm,obm⟩:=W.mt.ob
  have hz:(5000:Nat)<=sizeLine:=by decide
  refine ⟨_,rfl,p,CP,dx,_,_,rfl,ob,Tp.cl,Tp.nm,Zad _ _,M.p,dm,_,rfl,obm,Yk _ (by decide +kernel),M,(Zu ps).1,wa,[],(Zu ps).2,qs,rfl,W.mt,?_⟩
  rw [Ui]
  refine Yg ?_
  dsimp only [Z4]
  rcases k with ⟨ps0,q,rfl,hg,hu,k⟩ | ⟨rfl,k⟩
  ·refine ⟨_,rfl,rfl,_,rfl,Z0 (fun z=>absurd z (by rw [xJ]; intro y; injection y with y; simp only [xG,yF] at y; lia)) (fun _=>?_)⟩
   dsimp only [Z4]
   obtain ⟨us0,u1,u2⟩:=W.ul
   have hul:=u2.length
   rw [xD] at hul
   refine ⟨_,rfl,p,CP,dx,_,_,rfl,ob,Tp.cl,Tp.nu,Zb2 _ _,.inl ⟨rfl,_,SqL.of u1⟩,_,rfl,p,CP,dx,_,_,rfl,ob,Tp.cl,Tp.nm,Zad _ _,M.p,dm,_,rfl,obm,Yk _ (by decide +kernel),M,(Zu (ps0 ++ [q])).1,wa,[],(Zu (ps0 ++ [q])).2,qs,rfl,W.mt,?_,by rw [Ui]; have:=hg.1; lia,fun l ms H1 nl kl hr S1=>?_⟩
   ·rw [Zac]
    intro d hd
    obtain ⟨p',_,rfl⟩:=yO.mp hd
    exact Zkb p'
   rw [Zac] at hr
   have hml:=hr.length
   rw [xD,xJ] at hml
   have hml:ms.length=ps0.length+1:=hml
   obtain ⟨v,hv⟩:∃ v,ms[ps0.length]? = some v:=⟨_,xH (by lia)⟩
   obtain ⟨d,hd,hvr⟩:=hr.get hv
   rw [xW,List.getElem?_append_right (xB _),Nat.sub_self] at hd
   cases hd
   have W1:=W.same S1
   refine ⟨_,rfl,l,_,-1,v,rfl,rfl,SqL.of kl,?_,lu,us0,v,rfl,rfl,S1 _ _ u1,by lia,?_⟩
   ·exact Zpc _ _ hml hv
   obtain ⟨W2,F2⟩:=W1.und rfl (show RepL (fz [] H1) ((us ++ [q]).map pdD) (us0 ++ [v]) by rw [xX]; exact (u2.mono' (Wg fun _ _ e=>S1 _ _ e)).snoc hvr)
   generalize upd H1 lu (.lst (us0 ++ [v]))=H2 at W2 F2 ⊢
   obtain ⟨dm2,obm2⟩:=W2.mt.ob
   obtain ⟨dx2,ob2⟩:=W2.ob
   have en:(((ps0 ++ [q]).length:Nat):Int) - 1=ps0.length:=by simp
   refine ⟨_,rfl,p,CP,dx2,_,_,rfl,ob2,Tp.cl,Tp.nm,Zad _ _,M.p,dm2,_,rfl,obm2,Yk _ (by decide +kernel),_,rfl,_,_,rfl,rfl,M,ps0 ++ [q],wa,qs,ps0.length,congrArg (fun z=>[V.ref M.p,V.int z]) en,W2.mt,hg,by rw [xJ]; lia,fun M2 wa2 qs2 H3 W3 fr S3=>?_⟩
   rw [List.take_left] at W3 fr
   have nm2:¬ mo M2 (Zu ps0).1 wa2 [] qs2 p:=fun z=>by have:=fr _ z; rw [ob2] at this; cases this
   refine ⟨_,rfl,p,CP,dx2,_,rfl,S3 _ _ ob2,Tp.cl,Tp.nm,Zqp _ _,?_⟩
   rw [Z1k]
   have g:∀ b o,b≠p->H3 b=some o->(upd H3 p (.ins CP dx2 (Yl M2.p lu))) b=some o:=fun b o nb e=>by rw [Zd nb]; exact e
   have kp:(upd H3 p (.ins CP dx2 (Yl M2.p lu))) p=some (.ins CP dx2 (Yl M2.p lu)):=Zi
   generalize (upd H3 p (.ins CP dx2 (Yl M2.p lu)))=H4 at g kp ⊢
   obtain ⟨us3,v1,v2⟩:=W2.ul
   have kt:Y0 H2 H4:=fun b u e=>g b _ (fun z=>by rw [z,ob2] at e; cases e) (S3 _ _ e)
   refine k _ H4 ⟨lu,M2,wa2,qs2,⟨⟨dx2,kp⟩,W3.keep (fun b o hb e=>g b o (fun z=>nm2 (z▸hb)) e) (fun b u e=>g b _ (fun z=>by rw [z,S3 _ _ ob2] at e; cases e) e),⟨us3,g _ _ (fun z=>by rw [z,ob2] at v1; cases v1) (S3 _ _ v1),v2.mono' (Wg kt)⟩,nm2,fun z=>by have:=fr _ z; rw [v1] at this; cases this⟩,rfl⟩ (((Frm.same S1).trans F2).trans ⟨fun b o e nb=>g b o (fun z=>nb (.inl z)) (S3 _ _ e),fun b hb=>?_⟩)
   rcases hb with z | z | z
   ·exact .inl (.inl z)
   ·exact .inl (.inr (.inl z))
   ·exact .inr (fr _ z)
  ·exact ⟨_,rfl,rfl,_,rfl,Z0 (fun _=>k) (fun z=>absurd rfl z)⟩
def Zi0 (C CM CP:Addr) (c:Str->Addr):Sp:=fun vs H Q E=>∃ (p:Addr) (ps us:List Pd) (O:Addr->Prop),vs = [.ref p]/\Pst C CM CP H p ps us O /\
 ((∃ us0 q,us=us0 ++ [q]/\Gd (ps ++ [q])/\∀ O' H',Pst C CM CP H' p (ps ++ [q]) us0 O'->Frm O H O' H'->Q .non H')\/(us = []/\E (.ref (c "NothingForth")) none H))
abbrev Zcc:Stmt:=Ye (top 68) 3
theorem Z8l:FnScope ["self"] ["self"] (Zb Zcc):=⟨rfl,rfl,rfl,by decide +kernel,rfl,by decide +kernel,by decide +kernel⟩
theorem Z8m:Nm (Zb Zcc) "NothingForth" .globalImplicit:=by decide +kernel
theorem Z8n:Nm (Zb Zcc) "done" .globalImplicit:=by decide +kernel
theorem Zf3:Nm (Zb Zcc) "self" .local:=by decide +kernel
theorem Z1o (Zkg:HasM K CP "redo" "Past.redo" Zcc) (Tp:TxCPast K CP) (er:Er K mg c errs) (Zdo:FnX P w K mg base "done" 6 ((Ze1 C CM).or (Zib C CM c))):MtX P w K mg base CP "redo" 7 (Zi0 C CM CP c):=by
 refine Zkg.mtX Z8l (fun _ _ _ _ _ _ us hl=>match us,hl with | [_],_=>rfl) (fun vs H Q E h=>?_) (fun f cdv A outer s H vs Q E hr h=>?_)
 ·obtain ⟨p,ps,us,O,rfl,_⟩:=h
  rfl
 ·obtain ⟨p,ps,us,O,rfl,⟨lu,M,wa,qs,W,rfl⟩,k⟩:=h
  refine ⟨_,(Zf (Zl (Wx (Zy6 (Zq (qvN 0 Zf3)) (fun _=>rfl))) (Zg (Zea Zc7 rfl rfl (er.x "NothingForth" (by decide +kernel)) Z8m (er.g "NothingForth" (by decide +kernel)) Zm)) Zn)
 (Zf (Zv (Zp4 Zew Zdo (hr.mono (by lia)) Z8n (Za (Zq (qvN 0 Zf3)) (Za (Zk Yt (Zq (qvN 0 Zf3)) (Zb5 Zbq Ze) (fun _ _=>rfl)) Zc))))
 (Zg (Zv (Z3n F.plainAttrs_list F.slot_list_pop F.type_list_pop Z07 (Zq (qvN 0 Zf3))))))),?_⟩
  obtain ⟨dx,ob⟩:=W.ob
  obtain ⟨us0,u1,u2⟩:=W.ul
  have hul:=u2.length
  rw [xD] at hul
  rcases k with ⟨us9,q,rfl,hg,k⟩ | ⟨rfl,k⟩
  ·have hul:us0.length=us9.length+1:=by rw [hul,xJ]; rfl
   have ne:us0.isEmpty=false:=by cases us0 <;> first | rfl | cases hul
   obtain ⟨v,hv⟩:∃ v,us0[us9.length]? = some v:=⟨_,xH (by lia)⟩
   obtain ⟨d,hd,hvr⟩:=u2.get hv
   rw [xW,List.getElem?_append_right (xB _),Nat.sub_self] at hd
   cases hd
   obtain ⟨a,rfl,ha⟩:=Zbb hvr
   refine ⟨_,rfl,p,CP,dx,_,_,rfl,ob,Tp.cl,Tp.nu,Zb2 _ _,true,.inl ⟨us0,SqL.of u1,by rw [ne]; rfl⟩,?_⟩
   refine Zx ?_
   dsimp only [Z4]
   obtain ⟨h4,hg⟩:=hg.last
   refine ⟨_,rfl,p,CP,dx,_,_,rfl,ob,Tp.cl,Tp.nm,Zad _ _,_,rfl,p,CP,dx,_,_,rfl,ob,Tp.cl,Tp.nu,Zb2 _ _,_,rfl,lu,_,-1,_,rfl,rfl,SqL.of u1,Zpc _ _ hul hv,?_⟩
   refine .inl ⟨M,Zu ps,wa,qs,a,q,rfl,W.mt,(U9 ha).1,by rw [Ui]; exact h4,hg,fun v wa' qs' H1 W1 t1 f1=>?_⟩
   rw [← Zed] at W1 f1
   obtain ⟨W2,F2⟩:=W.done W1 t1 f1
   obtain ⟨dx2,ob2⟩:=W2.ob
   have u1':=t1 _ _ u1 W.nu
   have u2':=u2.mono' (Wg (MTouch.tt W.mt t1))
   refine ⟨_,rfl,p,CP,dx2,_,_,rfl,ob2,Tp.cl,Tp.nu,Zb2 _ _,.inl ⟨rfl,_,SqL.of u1'⟩,lu,us0,.ref a,rfl,rfl,u1',by rw [hul]; exact hv,?_⟩
   obtain ⟨W3,F3⟩:=W2.und rfl (show RepL (fz [] H1) (us9.map pdD) us0.dropLast by
    have:=RepL.take us9.length u2'
    rwa [xX,List.take_left' (xD _),← Nat.add_sub_cancel (n:=us9.length) (m:=1),← hul,← List.dropLast_eq_take] at this)
   exact k _ _ ⟨lu,M,wa',qs',W3,rfl⟩ (F2.trans F3)
  ·refine ⟨_,rfl,p,CP,dx,_,_,rfl,ob,Tp.cl,Tp.nu,Zb2 _ _,false,.inl ⟨us0,SqL.of u1,?_⟩,?_⟩
   ·rw [List.eq_nil_of_length_eq_zero hul]; rfl
   exact Yj k
def Zqq (C CM CP:Addr):Sp:=fun vs H Q _=>∃ (p:Addr) (ps us:List Pd) (O:Addr->Prop),vs = [.ref p]/\Pst C CM CP H p ps us O/\Q (.int us.length) H
abbrev Zdp:Stmt:=Ye (top 68) 4
theorem Z8o:FnScope ["self"] ["self"] (Zb Zdp):=⟨rfl,rfl,rfl,by decide +kernel,rfl,by decide +kernel,by decide +kernel⟩
theorem Z8p:Nm (Zb Zdp) "len" .globalImplicit:=by decide +kernel
theorem Z8q:Nm (Zb Zdp) "self" .local:=by decide +kernel
theorem Zv3 (Zkh:HasM K CP "waiting" "Past.waiting" Zdp) (T:Txt mg) (Tp:TxCPast K CP):Mt P w K mg base CP "waiting" ["self"] 1 (Zqq C CM CP):=by
 refine Zkh.mtQ Z8o (fun _ _ _ _ _ _ us hl=>match us,hl with | [_],_=>rfl) (fun vs H Q E h=>?_) (fun f cdv A outer s H vs Q E hr h=>?_)
 ·obtain ⟨p,ps,us,O,rfl,_⟩:=h
  rfl
 ·obtain ⟨p,ps,us,O,rfl,⟨lu,M,wa,qs,W,rfl⟩,k⟩:=h
  refine ⟨_,(Zg (Zr (Z8 Wt Z8p T.len Y1 (Za (Zq (qvN 0 Z8q)) Zc)))),?_⟩
  obtain ⟨dx,ob⟩:=W.ob
  obtain ⟨us0,u1,u2⟩:=W.ul
  have hul:=u2.length
  rw [xD] at hul
  rw [← hul] at k
  exact ⟨_,rfl,p,CP,dx,_,_,rfl,ob,Tp.cl,Tp.nu,Zb2 _ _,lu,us0,rfl,.inl (SqL.of u1),k⟩
def Zpd (C CM CP:Addr):Sp:=fun vs H Q _=>∃ (p dx:Addr),vs = [.ref p]/\H p=some (.ins CP dx [])/\∀ (O:Addr->Prop) (H':Hp),Pst C CM CP H' p [] [] O->(∀ b o,H b=some o->b≠p->H' b=some o)->(∀ b,O b->b=p\/H b=none)->Q .non H'
abbrev Zdq:Stmt:=Ye (top 68) 0
theorem Z8r:FnScope ["self"] ["self"] (Zb Zdq):=⟨rfl,rfl,rfl,by decide +kernel,rfl,by decide +kernel,by decide +kernel⟩
theorem Z8s:Nm (Zb Zdq) "Moot" .globalImplicit:=by decide +kernel
theorem Zta:Nm (Zb Zdq) "self" .local:=by decide +kernel
theorem Z1p (Zki:HasM K CP "__init__" "Past.__init__" Zdq) (Tp:TxCPast K CP) (M_Moot:Mks P w K mg base CM "Moot" 3 (Zh8 C CM)):Mt P w K mg base CP "__init__" ["self"] 5 (Zpd C CM CP):=by
 refine Zki.mtQ Z8r (fun _ _ _ _ _ _ us hl=>match us,hl with | [_],_=>rfl) (fun vs H Q E h=>?_) (fun f cdv A outer s H vs Q E hr h=>?_)
 ·obtain ⟨p,dx,rfl,_⟩:=h
  rfl
 ·obtain ⟨p,dx,rfl,hp,k⟩:=h
  refine ⟨_,(Zf (Wc (qvN 0 Zta) (Zev M_Moot (hr.mono (by lia)) Z8s))
 (Zg (Wc (qvN 0 Zta) (Yu Zc)))),?_⟩
  intro x dx2 nx ndx nex
  refine ⟨x,dx2,rfl,Zi,fun M2 H2 eM W2 kp fr=>⟨rfl,?_⟩⟩
  subst eM
  have S2:Same H H2:=fun b o e=>kp b o (by rw [Zd (Zj e nx),Zd (Zj e ndx)]; exact e) (Zj e nx)
  have fr2:∀ b,mo M2 [] (fun _=>0) [] [] b->H b=none:=fun b hb=>by
   rcases fr b hb with z | z
   ·rw [z]; exact nx
   ·by_cases c1:b=M2.p
    ·rw [c1]; exact nx
    ·rw [Zd c1] at z
     by_cases c2:b=dx2
     ·rw [c2]; exact ndx
     ·rw [Zd c2] at z; exact z
  have nmp:¬ mo M2 [] (fun _=>0) [] [] p:=fun z=>by have:=fr2 p z; rw [hp] at this; cases this
  refine ⟨_,rfl,p,CP,dx,[],rfl,S2 _ _ hp,Tp.cl,Tp.nm,(by show 0 < 1000; decide),?_⟩
  have g:∀ b o,b≠p->H2 b=some o->(upd H2 p (.ins CP dx (Zh "moot" (.ref M2.p) []))) b=some o:=fun b o nb e=>by rw [Zd nb]; exact e
  have kp3:(upd H2 p (.ins CP dx (Zh "moot" (.ref M2.p) []))) p=some (.ins CP dx (Zh "moot" (.ref M2.p) [])):=Zi
  have fr3:∀ b,(upd H2 p (.ins CP dx (Zh "moot" (.ref M2.p) []))) b=none->H2 b=none:=fun b e=>by
   by_cases z:b=p
   ·rw [z,Zi] at e; cases e
   ·rwa [Zd z] at e
  generalize (upd H2 p (.ins CP dx (Zh "moot" (.ref M2.p) [])))=H3 at g kp3 fr3 ⊢
  refine ⟨by show 0<=sizeLine; decide,fun l hl=>?_⟩
  have pl:p≠l:=Zj kp3 hl
  have S4:=Same.new (o:=.lst []) hl
  have kl:(upd H3 l (.lst [])) l=some (.lst []):=Zi
  generalize (upd H3 l (.lst []))=H4 at S4 kl ⊢
  refine ⟨_,rfl,p,CP,dx,_,rfl,S4 _ _ kp3,Tp.cl,Tp.nu,(show 1 < 1000 by decide),?_⟩
  change Q .non (upd H4 p (.ins CP dx (Yl M2.p l)))
  have g5:∀ b o,b≠p->H4 b=some o->(upd H4 p (.ins CP dx (Yl M2.p l))) b=some o:=fun b o nb e=>by rw [Zd nb]; exact e
  have kp5:(upd H4 p (.ins CP dx (Yl M2.p l))) p=some (.ins CP dx (Yl M2.p l)):=Zi
  generalize (upd H4 p (.ins CP dx (Yl M2.p l)))=H5 at g5 kp5 ⊢
  have all:∀ b o,b≠p->H2 b=some o->H5 b=some o:=fun b o nb e=>g5 b o nb (S4 _ _ (g b o nb e))
  refine k _ H5 ⟨l,M2,_,_,⟨⟨dx,kp5⟩,W2.keep (fun b o hb e=>all b o (fun z=>nmp (z▸hb)) e) (fun b u e=>all b _ (fun z=>by rw [z,S2 _ _ hp] at e; cases e) e),⟨[],g5 _ _ (Ne.symm pl) kl,rfl⟩,nmp,fun z=>by obtain ⟨o,e⟩:=W2.there z; rw [fr3 l hl] at e; cases e⟩,rfl⟩ (fun b o e nb=>all b o nb (S2 _ _ e)) (fun b hb=>?_)
  rcases hb with z | z | z
  ·exact .inl z
  ·exact .inr (S2.free (z▸fr3 l hl))
  ·exact .inr (fr2 b z)
end
section
variable {P:Program}{w:World}{K:uFg}{mg:Str->Option Value}{base:Heap}{C CM CP dS:Addr}{kS:List (Str×Tok×Addr)}
def num (i:Int):Str:=Str.ofString (toString i)
def vS:V->Str
 | .str x=>x
 | .int i=>num i
 | _ => ""
def vOk:V->Prop
 | .str x=>x.length<=12
 | .int i=>0<=i/\i<=999999999
 | _=>False
theorem Zkj {v:V}(h:vOk v):(vS v).length<=12:=by
 cases v with
 | str x=>exact h
 | int i =>
  obtain ⟨m,rfl⟩:=Int.eq_ofNat_of_zero_le h.1
  have hl:(num (m:Int)).length=(Nat.toDigits 10 m).length:=by rw [← Y3]; show (cs (num (m:Int))).length=_; rw [show cs (num (m:Int))=(Nat.toDigits 10 m).map Char.toNat from PySem.W.KIN.signs_num m,xD]
  have h9:(Nat.toDigits 10 m).length<=9:=(Nat.length_toDigits_le_iff (by decide) (by decide)).mpr (by have:=h.2; lia)
  show (num (m:Int)).length<=12
  lia
 | _=>exact h.elim
theorem Ztb {v:V}(h:vOk v) {H:Hp}{Q:VK}(k:Q (.str (vS v)) H):Zla [v] H Q:=by
 cases v with
 | str x=>exact .inl ⟨x,rfl,k⟩
 | int i =>
  refine .inr ⟨i,rfl,?_,k⟩
  by_cases z:i.natAbs=0
  ·rw [z]; decide +kernel
  ·rw [Nat.log2_lt z]
   have:=h.2
   have:=h.1
   exact xY (show i.natAbs < 1000000000 by lia) (by decide +kernel)
 | _=>exact h.elim
theorem Zxp {ws:List Str}(h:ws ≠ []) (x:Str):Str.join " " (ws ++ [x])=Str.join " " ws ++ " " ++ x:=by
 apply Z3b
 rw [Zh2,U3,U3,Zh2]
 have e1:cs (" " : Str) = [32]:=by decide +kernel
 rw [e1]
 have:∀ as:List (List Nat),as ≠ []->jn (as ++ [cs x])=jn as ++ [32]++cs x:=by
  intro as
  induction as with
  | nil=>intro h; exact absurd rfl h
  | cons a r ih =>
   intro _
   cases r with
   | nil=>show a++32::cs x=a ++ [32]++cs x; rw [yH]; rfl
   | cons b r =>
    show a++32::jn ((b::r) ++ [cs x])=(a++32::jn (b::r)) ++ [32]++cs x
    rw [ih (by simp),yH,yH,yH]
    rfl
 rw [xX]
 exact this _ (by intro z; exact h (List.map_eq_nil_iff.mp z))
theorem Znc:∀ ws:List Str,(∀ x∈ws,x.length<=12)->(Str.join " " ws).length<=13 * ws.length
 | [],_=>by decide
 | [x],h=>by have:=h x xR; show x.length<=13 * 1; lia
 | x::y::r,h=>by
  have h1:=h x xR
  have h2:=Znc (y::r) fun z hz=>h z (xT _ hz)
  show (x ++ " " ++ Str.join " " (y::r)).length<=_
  rw [PySem.Str.length_append,PySem.Str.length_append,xG]
  have e:(" " : Str).length=1:=by decide +kernel
  lia
def ptx (p:Pd):List Str:=(pdV p).map vS
def shw (p:Pd):Str:=Txt.join " " (ptx p)
theorem Zze (p:Pd):shw p=Str.join " " (ptx p):=StrLaws.glued_eq_join " " (ptx p)
def Wrt (p:Pd):Prop:=∀ v∈pdV p,vOk v
def wd:Pd->Str
 | .come _ _ _ => "come"
 | .rise _ _ _ => "rise"
 | .pen _ => "penance"
 | .bring _ _ => "bring"
 | .give _ _ _ => "give"
 | .pay _ _ _ _ => "pay"
theorem Zc2 (p:Pd):pdV p = .str (wd p)::(pdV p).drop 1:=by cases p <;> rfl
theorem Ze2 (p:Pd):(pdV p).length<=5:=by cases p <;> simp [pdV]
theorem Z1q {p:Pd}(h:Wrt p) (i:Nat):(Str.join " " ((ptx p).take i)).length<=65:=by
 have h1:=Znc ((ptx p).take i) fun x hx=>by
  obtain ⟨v,hv,rfl⟩:=yO.mp (List.mem_of_mem_take hx)
  exact Zkj (h v hv)
 have h2:((ptx p).take i).length<=5:=by rw [xO]; unfold ptx; rw [xD]; have:=Ze2 p; lia
 lia
theorem Z1r {p:Pd}(h:Wrt p):((ptx p).map (·.length)).sum+(ptx p).length<=16777216:=by
 have:∀ l:List Str,(∀ x∈l,x.length<=12)->(l.map (·.length)).sum<=12 * l.length:=by
  intro l
  induction l with
  | nil=>intro _; exact xB _
  | cons x r ih =>
   intro h
   have a:=h x xR
   have b:=ih fun y hy=>h y (xT _ hy)
   rw [xP,List.sum_cons,xG]
   lia
 have:=this (ptx p) fun x hx=>by
  obtain ⟨v,hv,rfl⟩:=yO.mp hx
  exact Zkj (h v hv)
 have h2:(ptx p).length<=5:=by unfold ptx; rw [xD]; exact Ze2 p
 lia
def Zeo:Sp:=fun vs H Q _=>∃ (p:Pd) (a:Addr),vs = [.ref a]/\H a=some (.tup (pdV p))/\Wrt p/\∀ H',Same H H'->Q (.str (shw p)) H'
abbrev Zdr:Stmt:=top 71
theorem Z8t:FnScope ["deed"] ["deed"] (Zb Zdr):=⟨rfl,rfl,rfl,by decide +kernel,rfl,by decide +kernel,by decide +kernel⟩
theorem Z8u:Nm (Zb Zdr) "SWORN" .globalImplicit:=by decide +kernel
theorem Zd2:Nm (Zb Zdr) "deed" .local:=by decide +kernel
theorem Z8v (Zkk:Has K mg "shown_deed" Zdr) (T:Txt mg) (c_SWORN:mg "SWORN" = some (.ref dS)) (tS:Zlb K w.params dS kS) (hS:∀ p,Zce kS (wd p)=none):Fn P w K mg base "shown_deed" ["deed"] 1 Zeo:=by
 have r_SWORN:RelV (.ref dS) (.ref dS):=rfl
 refine Zkk.fnQ Z8t (fun _ _ _ _ _ _ us hl=>match us,hl with | [_],_=>rfl) (fun vs H Q E h=>?_) (fun f cdv A outer s H vs Q E hr h=>?_)
 ·obtain ⟨p,a,rfl,_⟩:=h
  rfl
 ·obtain ⟨p,a,rfl,ha,ok,k⟩:=h
  refine ⟨_,(Zf (Zl (Zp Zy5 (Zk Zz (qvN 0 Zd2) Ze (fun _ _=>rfl)) (V0 Z8u c_SWORN r_SWORN) rfl) (Zg (Zr (Y7 F.plainAttrs_str F.slot_str_join F.type_str_join Zha Zm (Za (Zy Zcz (Zy Zcz (Zy Zcz (Zy Zcz (Vt (locs:=["part"]) (fr:=[]) ⟨rfl,by decide +kernel,by decide +kernel,by decide +kernel,by decide +kernel,by decide +kernel⟩ .nil rfl (Zes (Ue Zot (qvN 0 Zd2) Uc (Ud (Zb5 Zbq Ze)))) ⟨fun _ _ _ _ _ _=>by
  have cnd:(inN ["part"] []).Nodup:=by decide +kernel
  exact ⟨(Wl 0 cnd),Uf,(Zbl Zg3 nmC T.str Zda (Za (Y5 0) Zc))⟩⟩) (Yu (Za Zm Zc))) (Zk Zz (qvN 0 Zd2) (Zb5 Zbq Ze) (fun _ _=>rfl))) (Yu (Za Zm Zc))) (Zk Zz (qvN 0 Zd2) (Zb5 Zbq Ze) (fun _ _=>rfl))) Zc)))) Zn)
 (Zg (Zr (Y7 F.plainAttrs_str F.slot_str_join F.type_str_join Zha Zm (Za (Vt (locs:=["part"]) (fr:=[]) ⟨rfl,by decide +kernel,by decide +kernel,by decide +kernel,by decide +kernel,by decide +kernel⟩ .nil rfl (Zes (qvN 0 Zd2)) ⟨fun _ _ _ _ _ _=>by
  have cnd:(inN ["part"] []).Nodup:=by decide +kernel
  exact ⟨(Wl 0 cnd),Uf,(Zbl Zg3 nmC T.str Zda (Za (Y5 0) Zc))⟩⟩) Zc))))),?_⟩
  have hps:=Ze2 p
  refine ⟨_,rfl,a,_,0,.str (wd p),rfl,rfl,SqT.of ha,Ua (j:=0) (by rw [Zc2]; rfl),wd p,dS,kS,rfl,rfl,tS,_,rfl,?_⟩
  rw [hS]
  refine Zx ?_
  refine ⟨rfl,_,rfl,a,rfl,⟨_,SqT.of ha⟩,?_⟩
  refine Zob (xs:=pdV p) (fun i ys H'=>H'=H/\ys=((pdV p).take i).map fun q=>V.str (vS q)) ⟨rfl,rfl⟩ (by lia) (fun i ys H' _ ⟨e,_⟩=>by rw [e]; exact SqT.of ha) (fun i ys H' ⟨_,e⟩=>by rw [e,xD,xO]; lia) ?_ ?_
  ·rintro i v ys H' hv ⟨rfl,rfl⟩ ls hls
   obtain ⟨w0,rfl⟩:=Zbd hls
   refine ⟨⟨[_],rfl,rfl⟩,?_⟩
   have et:((pdV p).take (i+1)).map (fun q=>V.str (vS q))=((pdV p).take i).map (fun q=>V.str (vS q)) ++ [V.str (vS v)]:=by rw [yG,hv,xX]; rfl
   rw [et]
   refine ⟨_,rfl,?_⟩
   dsimp only [Wj]
   exact Ztb (ok v (xK hv)) ⟨rfl,rfl⟩
  ·rintro ys H' ⟨rfl,rfl⟩ l hl
   have e:(((pdV p).take (pdV p).length).map fun q=>V.str (vS q))=(ptx p).map V.str:=by
    rw [yL]
    unfold ptx
    rw [List.map_map]
    rfl
   rw [e]
   refine ⟨" ", l,ptx p,rfl,rfl,SqL.of Zi,?_,k _ (Same.new hl)⟩
   have:(" " : Str).length=1:=by decide +kernel
   rw [this,Nat.mul_one]; exact Z1r ok
abbrev Vw:Stmt:=top 81
theorem Uv:FnScope ["_law_deed", "_law_text", "_law_sign", "_law_part", "_law_name"] ["_law_deed"] (Zb Vw):=⟨rfl,rfl,rfl,by decide +kernel,rfl,by decide +kernel,by decide +kernel⟩
theorem Ztc:Nm (Zb Vw) "_law_deed" .local:=by decide +kernel
theorem Ztd:Nm (Zb Vw) "_law_name" .local:=by decide +kernel
theorem Zf4:Nm (Zb Vw) "_law_part" .local:=by decide +kernel
theorem Zmf:Nm (Zb Vw) "_law_sign" .local:=by decide +kernel
theorem Zal:Nm (Zb Vw) "_law_text" .local:=by decide +kernel
theorem Z8w:Nm (Zb Vw) "isinstance" .globalImplicit:=by decide +kernel
theorem Z8x:Nm (Zb Vw) "list" .globalImplicit:=by decide +kernel
theorem Z8y:Nm (Zb Vw) "str" .globalImplicit:=by decide +kernel
theorem Z8z (Zkl:Has K mg "_law_shown" Vw) (T:Txt mg):Fn P w K mg base "_law_shown" ["_law_deed"] 1 Zeo:=by
 refine Zkl.fnQ Uv (fun _ _ _ _ _ _ us hl=>match us,hl with | [_],_=>rfl) (fun vs H Q E h=>?_) (fun f cdv A outer s H vs Q E hr h=>?_)
 ·obtain ⟨p,a,rfl,_⟩:=h
  rfl
 ·obtain ⟨p,a,rfl,ha,ok,k⟩:=h
  refine ⟨_,(Zf (Z1 (i:=1) Uv.nd Zal (Zk Zz (qvN 0 Ztc) Ze (fun _ _=>rfl)))
 (Zf (Z1 (i:=2) Uv.nd Zmf Zm)
 (Zf (We PassesOwn.never rfl (Zes (Ue Zot (qvN 0 Ztc) (Ud Ze) Uc)) (Yp (i:=3) Uv.nd Zf4)
 (Zg (Zl (Wb (Z8 Vl Z8w T.isinstance Vc (Za (qvN 3 Zf4) (Za (Vd (v:=.ty "list") Z8x T.list Zbu rfl) Zc)))) (Zf (Z1 (i:=1) Uv.nd Zal (Zy Uo (qvN 1 Zal) (qvN 2 Zmf)))
 (Zf (Z1 (i:=2) Uv.nd Zmf Zm)
 (Zg (We PassesOwn.never rfl (Vh (qvN 3 Zf4)) (Yp (i:=4) Uv.nd Ztd)
 (Zg (Z1 (i:=1) Uv.nd Zal (Zy Uo (Zy Uo (qvN 1 Zal) Zm) (qvN 4 Ztd)))))))) (Zg (Z1 (i:=1) Uv.nd Zal (Zy Uo (Zy Uo (qvN 1 Zal) Zm) (Zbl Zg3 Z8y T.str Zda (Za (qvN 3 Zf4) Zc))))))))
 (Zg (Zr (qvN 1 Zal)))))),?_⟩
  have hZ:(5000:Nat)<=sizeLine:=by decide
  have hps:=Ze2 p
  refine ⟨_,rfl,a,_,0,.str (wd p),rfl,rfl,SqT.of ha,Ua (j:=0) (by rw [Zc2]; rfl),?_⟩
  refine Yg ?_
  dsimp only [Z4]
  refine Yg ?_
  dsimp only [Z4]
  refine ⟨_,rfl,_,rfl,a,_,rfl,SqT.of ha,(fun z=>by have:=z.1; rw [show (1:Int)=((1:Nat):Int) from rfl,HT.sIx_nat,Zc2,xG] at this; lia),fun q hq=>?_⟩
  have ec:Ws (pdV p) (some 1) none=(pdV p).drop 1:=by cases p <;> rfl
  rw [ec]
  have Sq:=Same.new (o:=.tup ((pdV p).drop 1)) hq
  have kq:(upd H q (.tup ((pdV p).drop 1))) q=some (.tup ((pdV p).drop 1)):=Zi
  generalize (upd H q (.tup ((pdV p).drop 1)))=H1 at Sq kq ⊢
  refine ⟨q,rfl,⟨_,SqT.of kq⟩,?_⟩
  refine Zyv ((pdV p).drop 1) (fun i σ H'=>∃ (v3 v4:Option V),σ = [some (.ref a),some (.str (Str.join " " ((ptx p).take (i+1)))),some (.str " +"),v3,v4]/\Same H1 H') ⟨none,none,(by unfold ptx; rw [Zc2]; rfl),Same.refl _⟩ (fun i σ H' _ ⟨_,_,_,e⟩=>SqT.of (e _ _ kq)) ?_ ?_
  ·rintro i v σ H' hv ⟨v3,v4,rfl,sm⟩
   have s1:(" " : Str).length=1:=by decide +kernel
   have hv':(pdV p)[i+1]? = some v:=by rw [List.getElem?_drop,Nat.add_comm] at hv; exact hv
   have hm:=xK hv'
   have b0:=Z1q ok (i+1)
   have hs:=Zkj (ok v hm)
   have ej:Str.join " " ((ptx p).take (i+1+1))=Str.join " " ((ptx p).take (i+1)) ++ " " ++ vS v:=by
    have e1:(ptx p)[i+1]? = some (vS v):=by unfold ptx; rw [xW,hv']; rfl
    rw [yG (i:=i+1),e1]
    exact Zxp (by unfold ptx; rw [Zc2]; simp) _
   obtain ⟨d,hd,re⟩:=(Zqj (H:=H') p).get hv'
   obtain ⟨t1,ty1,e1⟩:=isi (K:=K) re "list" (by decide)
   rw [Zs0 (by unfold pdL at hd; rw [xW,hv'] at hd; cases hd; have:=ok v hm; cases v <;> first | rfl | exact this.elim)] at e1
   refine ⟨_,rfl,v, "list", t1,_,rfl,ty1,e1,_,rfl,Zx ?_⟩
   refine ⟨_,rfl,_,_,rfl,rfl,by rw [s1]; lia,_,rfl,?_⟩
   dsimp only [Wj]
   refine Ztb (ok v hm) ?_
   exact ⟨_,_,rfl,rfl,by rw [PySem.Str.length_append,s1]; lia,some v,v4,by rw [ej]; rfl,sm⟩
  ·rintro σ H' ⟨v3,v4,rfl,sm⟩
   have el:(ptx p).take (((pdV p).drop 1).length+1)=ptx p:=by rw [yJ]; unfold ptx; rw [xD,List.length_drop]; lia
   rw [el,← Zze]
   exact ⟨_,rfl,k _ (Sq.trans sm)⟩
def Zpe (C CM:Addr):Sp:=fun vs H Q _=>∃ (M:ML) (ps:List Pd) (wa:Str->Addr) (qs:List Addr),vs = [.ref M.p]/\MootAt C CM H M (Zu ps).1 wa [] (Zu ps).2 qs/\ps.length<=400/\(∀ p∈ps,Wrt p)/\∀ l H',H' l=some (.lst (ps.map fun p=>V.str (shw p)))->Same H H'->Q (.ref l) H'
abbrev Zfi:Stmt:=top 72
theorem Z80:FnScope ["moot"] ["moot"] (Zb Zfi):=⟨rfl,rfl,rfl,by decide +kernel,rfl,by decide +kernel,by decide +kernel⟩
theorem Z81:Nm (Zb Zfi) "moot" .local:=by decide +kernel
theorem Z82 (Zkm:Has K mg "lines" Zfi) (Tm:TxCMoot K CM) (MM_roll:Mt P w K mg base CM "roll" ["self"] 2 (Ze0 C CM)) (Z83:Fn P w K mg base "shown_deed" ["deed"] 1 Zeo):Fn P w K mg base "lines" ["moot"] 3 (Zpe C CM):=by
 refine Zkm.fnQ Z80 (fun _ _ _ _ _ _ us hl=>match us,hl with | [_],_=>rfl) (fun vs H Q E h=>?_) (fun f cdv A outer s H vs Q E hr h=>?_)
 ·obtain ⟨M,ps,wa,qs,rfl,_⟩:=h
  rfl
 ·obtain ⟨M,ps,wa,qs,rfl,W,h4,hw,k⟩:=h
  refine ⟨_,(Zg (Zr (Vt (locs:=["deed"]) (fr:=[]) ⟨rfl,by decide +kernel,by decide +kernel,by decide +kernel,by decide +kernel,by decide +kernel⟩ .nil rfl (Vh (Vq (qvN 0 Z81) Tm.cl MM_roll (hr.mono (by lia)))) ⟨fun _ _ _ _ _ _=>by
  have cnd:(inN ["deed"] []).Nodup:=by decide +kernel
  exact ⟨(Wl 0 cnd),Uf,(Zw Z83 (hr.mono (by lia)) nmC (Za (Y5 0) Zc))⟩⟩))),?_⟩
  obtain ⟨dm,obm⟩:=W.ob
  refine ⟨_,rfl,M.p,dm,_,rfl,obm,Yk _ (by decide +kernel),M,(Zu ps).1,wa,[],(Zu ps).2,qs,rfl,W,?_,by rw [Ui]; lia,fun l ms H1 nl kl hr S1=>?_⟩
  ·rw [Zac]
   intro d hd
   obtain ⟨p',_,rfl⟩:=yO.mp hd
   exact Zkb p'
  rw [Zac] at hr
  have hl:=hr.length
  rw [xD] at hl
  refine ⟨l,rfl,⟨_,SqL.of kl⟩,?_⟩
  refine Zd7 (xs:=ms) (fun i ys H'=>Same H1 H'/\ys=(ps.take i).map fun p=>V.str (shw p)) ⟨Same.refl _,rfl⟩ (by lia) (fun i ys H' _ ⟨e,_⟩=>SqL.of (e _ _ kl)) (fun i ys H' ⟨_,e⟩=>by rw [e,xD,xO]; lia) ?_ ?_
  ·rintro i v ys H' hv ⟨sm,rfl⟩ ls hls
   obtain ⟨w0,rfl⟩:=Zbd hls
   obtain ⟨d,hd,re⟩:=hr.get hv
   rw [xW] at hd
   obtain ⟨p,hp,rfl⟩:=yI.mp hd
   obtain ⟨a,rfl,ha⟩:=Zbb re
   refine ⟨⟨[_],rfl,rfl⟩,?_⟩
   refine ⟨_,rfl,p,a,rfl,sm _ _ (U9 ha).1,hw p (xK hp),fun H2 s2=>⟨sm.trans s2,?_⟩⟩
   rw [yG,hp,xX]
   rfl
  ·rintro ys H' ⟨sm,rfl⟩ l2 hl2
   rw [hl,yL]
   exact k l2 _ Zi ((S1.trans sm).trans (Same.new hl2))
end
section
variable {P:Program}{w:World}{K:uFg}{mg:Str->Option Value}{base:Heap}{C CM CP:Addr}{c:Str->Addr}
theorem Pst.ob {H:Hp}{p:Addr}{ps us:List Pd}{O:Addr->Prop}(h:Pst C CM CP H p ps us O):∃ dx fs,H p=some (.ins CP dx fs)/\∀ m:Str,(¬ m = "undone" /\ ¬ m = "moot")->fs.lookup m=none:=by
 obtain ⟨lu,M,wa,qs,⟨⟨dx,ob⟩,_⟩,rfl⟩:=h
 exact ⟨dx,_,ob,fun m h=>Zs5 h⟩
def Zpf (C CM CP:Addr) (c:Str->Addr):Sp:=fun vs H Q _=>(∃ p,vs = [.ref p,.str "undo"]/\Ziz C CM CP c [.ref p] H (fun _=>Q (.str "")) (fun _ _=>Q (.str "NothingBack")))\/(∃ p,vs = [.ref p,.str "redo"]/\Zi0 C CM CP c [.ref p] H (fun _=>Q (.str "")) (fun _ _=>Q (.str "NothingForth")))
abbrev Zam:Stmt:=top 82
theorem Zfj:FnScope ["_law_past", "_law_word_here", "_law_kind_here"] ["_law_past", "_law_word_here"] (Zb Zam):=⟨rfl,rfl,rfl,by decide +kernel,rfl,by decide +kernel,by decide +kernel⟩
theorem Z84:Nm (Zb Zam) "NothingBack" .globalImplicit:=by decide +kernel
theorem Z85:Nm (Zb Zam) "NothingForth" .globalImplicit:=by decide +kernel
theorem Zf5:Nm (Zb Zam) "_law_kind_here" .local:=by decide +kernel
theorem Zte:Nm (Zb Zam) "_law_past" .local:=by decide +kernel
theorem Z86:Nm (Zb Zam) "_law_word_here" .local:=by decide +kernel
theorem Z87 (Zkn:Has K mg "_law_past_kind" Zam) (Tp:TxCPast K CP) (er:Er K mg c errs) (MP_undo:MtX P w K mg base CP "undo" 8 (Ziz C CM CP c)) (MP_redo:MtX P w K mg base CP "redo" 7 (Zi0 C CM CP c)):Fn P w K mg base "_law_past_kind" ["_law_past", "_law_word_here"] 9 (Zpf C CM CP c):=by
 refine Zkn.fn0 Zfj (fun _ _ _ _ _ _ us hl=>match us,hl with | [_,_],_=>rfl) (fun vs H Q E h=>?_) (fun f cdv A outer s H vs Q E hr h=>?_)
 ·rcases h with ⟨p,rfl,_⟩ | ⟨p,rfl,_⟩ <;> rfl
 ·refine ⟨_,(Zbm (QS.q0 (Z1 (i:=2) Zfj.nd Zf5 Zm))
 (Zbm (Zqa Zby (fun _ _ hx=>(Zg (Zl (Zp Yd (qvN 1 Z86) Zm (Zo _)) (Zg (Zv (Zh1 hx (qvN 0 Zte) Tp.cl MP_undo (hr.mono (by lia))))) (Zg (Zv (Zh1 hx (qvN 0 Zte) Tp.cl MP_redo (hr.mono (by lia))))))))
 (Zex Zby Z84 (er.g "NothingBack" (by decide +kernel)) (fun _ _=>(Zg (Z1 (i:=2) Zfj.nd Zf5 Zm))) (Zex Zby Z85 (er.g "NothingForth" (by decide +kernel)) (fun _ _=>(Zg (Z1 (i:=2) Zfj.nd Zf5 Zm))) Zp9)))
 (Zbm (QS.q0 (Zr (qvN 2 Zf5)))
 (QSs.q0 Zn)))),?_⟩
  rcases h with ⟨p,rfl,h⟩ | ⟨p,rfl,h⟩
  ·refine Yg ?_
   dsimp only [Z4]
   refine ⟨_,rfl,rfl,_,rfl,Z0 (fun _=>?_) (fun z=>absurd rfl z)⟩
   obtain ⟨p,ps,us,O,e,W,k⟩:=h
   cases e
   obtain ⟨dx,fs,ob,no⟩:=W.ob
   refine ⟨_,rfl,p,dx,_,rfl,ob,no _ (by decide +kernel),p,ps,us,O,rfl,W,?_⟩
   rcases k with ⟨ps0,q,e,hg,hu,k⟩ | ⟨e,k⟩
   ·exact .inl ⟨ps0,q,e,hg,hu,fun O' H' w f=>⟨_,rfl,k O' H' w f⟩⟩
   ·refine .inr ⟨e,_,rfl,_,er.s "NothingBack" (by decide +kernel) "NothingBack" (by decide +kernel),Z0 (fun _=>?_) (fun z=>absurd (by decide +kernel) z)⟩
    refine Yg ?_
    exact ⟨_,rfl,k⟩
  ·refine Yg ?_
   dsimp only [Z4]
   refine ⟨_,rfl,rfl,_,rfl,Z0 (fun z=>absurd z (by decide +kernel)) (fun _=>?_)⟩
   obtain ⟨p,ps,us,O,e,W,k⟩:=h
   cases e
   obtain ⟨dx,fs,ob,no⟩:=W.ob
   refine ⟨_,rfl,p,dx,_,rfl,ob,no _ (by decide +kernel),p,ps,us,O,rfl,W,?_⟩
   rcases k with ⟨ps0,q,e,hg,k⟩ | ⟨e,k⟩
   ·exact .inl ⟨ps0,q,e,hg,fun O' H' w f=>⟨_,rfl,k O' H' w f⟩⟩
   ·refine .inr ⟨e,_,rfl,_,er.s "NothingForth" (by decide +kernel) "NothingBack" (by decide +kernel),Z0 (fun z=>absurd z (by decide +kernel)) (fun _=>⟨_,er.s "NothingForth" (by decide +kernel) "NothingForth" (by decide +kernel),Z0 (fun _=>?_) (fun z=>absurd (by decide +kernel) z)⟩)⟩
    refine Yg ?_
    exact ⟨_,rfl,k⟩
def Zpg (C CM CP:Addr) (c:Str->Addr):Sp:=fun vs H Q _=>Ziy C CM CP c vs H (fun _=>Q (.str "")) (fun _ _=>Q (.str "TooMany"))
abbrev Zae:Stmt:=top 83
theorem Zfk:FnScope ["_law_past", "_law_deed", "_law_kind_here"] ["_law_past", "_law_deed"] (Zb Zae):=⟨rfl,rfl,rfl,by decide +kernel,rfl,by decide +kernel,by decide +kernel⟩
theorem Z88:Nm (Zb Zae) "MootError" .globalImplicit:=by decide +kernel
theorem Z89:Nm (Zb Zae) "TooMany" .globalImplicit:=by decide +kernel
theorem Z9a:Nm (Zb Zae) "_law_deed" .local:=by decide +kernel
theorem Zf6:Nm (Zb Zae) "_law_kind_here" .local:=by decide +kernel
theorem Z9b:Nm (Zb Zae) "_law_past" .local:=by decide +kernel
theorem Z9c (Zko:Has K mg "_law_kind" Zae) (Tp:TxCPast K CP) (er:Er K mg c errs) (MP_does:MtX P w K mg base CP "does" 7 (Ziy C CM CP c)):Fn P w K mg base "_law_kind" ["_law_past", "_law_deed"] 8 (Zpg C CM CP c):=by
 refine Zko.fn0 Zfk (fun _ _ _ _ _ _ us hl=>match us,hl with | [_,_],_=>rfl) (fun vs H Q E h=>?_) (fun f cdv A outer s H vs Q E hr h=>?_)
 ·obtain ⟨p,a,ps,us,O,q,rfl,_⟩:=h
  rfl
 ·obtain ⟨p,a,ps,us,O,q,rfl,W,ha,k⟩:=h
  refine ⟨_,(Zbm (QS.q0 (Z1 (i:=2) Zfk.nd Zf6 Zm))
 (Zbm (Zqa Zby (fun _ _ hx=>(Zg (Zv (Zp5 hx (qvN 0 Z9b) Tp.cl MP_does (hr.mono (by lia)) (Za (qvN 1 Z9a) Zc)))))
 (Zex Zby Z89 (er.g "TooMany" (by decide +kernel)) (fun _ _=>(Zg (Z1 (i:=2) Zfk.nd Zf6 Zm))) (Zex Zby Z88 (er.m) (fun _ _=>(Zg (Z1 (i:=2) Zfk.nd Zf6 Zm))) Zp9)))
 (Zbm (QS.q0 (Zr (qvN 2 Zf6)))
 (QSs.q0 Zn)))),?_⟩
  refine Yg ?_
  dsimp only [Z4]
  obtain ⟨dx,fs,ob,no⟩:=W.ob
  refine ⟨_,rfl,p,dx,_,rfl,ob,no _ (by decide +kernel),_,rfl,p,a,ps,us,O,q,rfl,W,ha,?_⟩
  rcases k with ⟨hg,k⟩ | ⟨h4,hq,k⟩
  ·exact .inl ⟨hg,fun v O' H' w f=>⟨_,rfl,k v O' H' w f⟩⟩
  ·refine .inr ⟨h4,hq,_,rfl,_,er.s "TooMany" (by decide +kernel) "TooMany" (by decide +kernel),Z0 (fun _=>?_) (fun z=>absurd (by decide +kernel) z)⟩
   refine Yg ?_
   exact ⟨_,rfl,k⟩
end
section
inductive Kd (o t h:Str):Pd->Prop where
 | pay (x:Str) (m d:Int):(x=o\/x=h)->5<=d->d<=7->1<=m->m<=1000000->Kd o t h (.pay t x m d)
 | give:Kd o t h (.give o t 5)
 | pen (n:Str):n ∈ [o,t,h]->Kd o t h (.pen n)
 | rise (wt:Int) : 1<=wt->wt<=1000->Kd o t h (.rise t 4 wt)
def b4 (o t h:Str):List Pd:=[.come o 0 5,.come t 0 6,.come h 0 7,.bring o 1]
structure G59 (o t h:Str) (j:Nat) (s:Vv):Prop where
 co:∀ n ∈ [o,t,h],Zt s.1 n=some 0
 di:∀ n,Z5 s.1 n=none
 ln:s.1.length<=3+j
 br:s.2.brs = [.tup [.str o,.int 1]]
 hp:∃ cl,s.2.haps = [cl]/\cl.length<=j
 np:s.2.npen<=j
 tr:s.2.trials = []
 db:s.2.debts.length<=j
variable {o t h:Str}{j:Nat}{s:Vv}{p:Pd}
theorem G59.there (g:G59 o t h j s) {n:Str}(hn:n ∈ [o,t,h]) {d:Int}(hd : 0<=d):Zdn s.1 n d:=⟨0,g.co n hn,hd,by unfold Wi; rw [g.di]⟩
theorem G59.step (g:G59 o t h j s) (k:Kd o t h p):G59 o t h (j+1) (stp s p):=by
 obtain ⟨co,di,ln,br,⟨cl,hp,hl⟩,np,tr,db⟩:=g
 cases k with
 | pay x m d _ _ _ _ _=>exact ⟨co,di,by show s.1.length<=_; lia,br,⟨cl,hp,by lia⟩,by show s.2.npen<=_; lia,tr,by show (s.2.debts ++ [_]).length<=_; rw [xJ]; simp only [xG,yF]; lia⟩
 | give=>exact ⟨co,di,by show s.1.length<=_; lia,br,⟨cl ++ [.tup [.non,.tup [.int 5,.str "given", .str o,.str t]]],by show s.2.haps.set 0 _=_; rw [hp]; rfl,by rw [xJ]; simp only [xG,yF]; lia⟩,by show s.2.npen<=_; lia,tr,by show s.2.debts.length<=_; lia⟩
 | pen n _=>exact ⟨co,di,by show s.1.length<=_; lia,br,⟨cl,hp,by lia⟩,by show s.2.npen+1<=_; lia,tr,by show s.2.debts.length<=_; lia⟩
 | rise wt _ _=>exact ⟨fun n hn=>by show Zt (s.1 ++ [_]) n=_; rw [Znb]; exact co n hn,fun n=>by show Z5 (s.1 ++ [_]) n=_; rw [Zd6]; exact di n,by show (s.1 ++ [_]).length<=_; rw [xJ]; simp only [xG,yF]; lia,br,⟨cl,hp,by lia⟩,by show s.2.npen<=_; lia,tr,by show s.2.debts.length<=_; lia⟩
theorem G59.grant (g:G59 o t h j s) (hj:j<=900) (k:Kd o t h p):Zfg s p:=by
 have hln:=g.ln
 have hnp:=g.np
 have hdb:=g.db
 cases k with
 | pay x m d hx d5 d7 m1 m2 =>
  refine ⟨by lia,m1,m2,by lia,by lia,fun n hn=>g.there ?_ (by lia)⟩
  rcases xC.mp hn with rfl | hn
  ·simp
  ·obtain rfl:=yC.mp hn
   rcases hx with rfl | rfl <;> simp
 | give =>
  obtain ⟨cl,hp,hl⟩:=g.hp
  refine ⟨⟨cl,by rw [hp]; rfl,by lia⟩,by decide,by decide,fun n hn=>g.there ?_ (by decide),o,1,by rw [g.br]; rfl,by decide⟩
  rcases xC.mp hn with rfl | hn
  ·simp
  ·obtain rfl:=yC.mp hn
   simp
 | pen n hn=>exact ⟨by lia,by rw [g.tr]; decide,⟨0,g.co n hn⟩,g.di n⟩
 | rise wt w1 w2=>exact ⟨by lia,by decide,by decide,w1,w2,g.there (by simp) (by decide)⟩
theorem G59.start (hd : [o,t,h].Nodup):G59 o t h 0 (Zu (b4 o t h)):=by
 simp only [xZ,xC,xQ,or_false,not_or] at hd
 obtain ⟨⟨h1,h2⟩,h3,_⟩:=hd
 refine ⟨fun n hn=>?_,fun n=>rfl,by show 3<=3; decide,rfl,⟨[],rfl,xB _⟩,xB _,rfl,xB _⟩
 show (if o=n then some 0 else if t=n then some 0 else if h=n then some 0 else none)=some (0:Int)
 simp only [xC,xQ,or_false] at hn
 rcases hn with rfl | rfl | rfl <;> simp
theorem g59 (hd : [o,t,h].Nodup) (xs:List Pd):(∀ p∈xs,Kd o t h p)->G59 o t h xs.length (Zu (b4 o t h++xs)):=by
 have:∀ n (xs:List Pd),xs.length=n->(∀ p∈xs,Kd o t h p)->G59 o t h xs.length (Zu (b4 o t h++xs)):=by
  intro n
  induction n with
  | zero=>intro xs e _; rw [List.eq_nil_of_length_eq_zero e,List.append_nil]; exact G59.start hd
  | succ n ih =>
   intro xs e hk
   have ne:xs ≠ []:=fun z=>by rw [z] at e; cases e
   obtain ⟨ys,y,rfl⟩:∃ ys y,xs=ys ++ [y]:=⟨_,_,(List.dropLast_concat_getLast ne).symm⟩
   rw [xJ] at e ⊢
   rw [← yH,Zed]
   exact (ih ys (by simp only [xG,yF] at e; lia) fun p hp=>hk p (List.mem_append_left _ hp)).step (hk y (by simp))
 exact this _ xs rfl
theorem Zuh (hd : [o,t,h].Nodup) (hn:∀ n ∈ [o,t,h],Yv n) {xs:List Pd}(hk:∀ p∈xs,Kd o t h p) (hl:xs.length<=396):Gd (b4 o t h++xs):=by
 refine ⟨by rw [xJ]; show 4+xs.length<=400; lia,fun i p hp=>?_⟩
 have hd':=hd
 simp only [xZ,xC,xQ,or_false,not_or] at hd'
 obtain ⟨⟨h1,h2⟩,h3,_⟩:=hd'
 match i,hp with
 | 0,hp =>
  cases hp
  exact ⟨by show 0 < 40; decide,hn _ (by simp),by decide,by decide,by decide,by decide,rfl⟩
 | 1,hp =>
  cases hp
  exact ⟨by show 1 < 40; decide,hn _ (by simp),by decide,by decide,by decide,by decide,if_neg h1⟩
 | 2,hp =>
  cases hp
  exact ⟨by show 2 < 40; decide,hn _ (by simp),by decide,by decide,by decide,by decide,(if_neg h2).trans (if_neg h3)⟩
 | 3,hp =>
  cases hp
  exact ⟨by show 0 < 40; decide,by show 0<=1000; decide,by decide,by decide,0,if_pos rfl,by decide,rfl⟩
 | i+4,hp =>
  have e:(b4 o t h++xs).take (i+4)=b4 o t h++xs.take i:=rfl
  have hp:xs[i]? = some p:=hp
  rw [e]
  have g:=g59 hd (xs.take i) fun p hp=>hk p (List.mem_of_mem_take hp)
  exact g.grant (by rw [xO]; lia) (hk p (xK hp))
def Al (o t h:Str) (ps:List Pd):Prop:=∀ p∈ps,p∈b4 o t h\/Kd o t h p
theorem Al.take {ps:List Pd}(a:Al o t h ps) (n:Nat):Al o t h (ps.take n):=fun p hp=>a p (List.mem_of_mem_take hp)
theorem Z9d {xs:List Pd}(hk:∀ p∈xs,Kd o t h p):Al o t h (b4 o t h++xs):=fun p hp=>(xS.mp hp).imp id (hk p)
theorem Al.wrt (hn:∀ n ∈ [o,t,h],Yv n) {ps:List Pd}(a:Al o t h ps):∀ p∈ps,Wrt p:=fun p hp=>by
 have lo:=(hn o (by simp)).2.2
 have lt:=(hn t (by simp)).2.2
 have lh:=(hn h (by simp)).2.2
 have c1:vOk (.str "come"):=by show Str.length _<=12; decide +kernel
 have c2:vOk (.str "rise"):=by show Str.length _<=12; decide +kernel
 have c3:vOk (.str "penance"):=by show Str.length _<=12; decide +kernel
 have c4:vOk (.str "bring"):=by show Str.length _<=12; decide +kernel
 have c5:vOk (.str "give"):=by show Str.length _<=12; decide +kernel
 have c6:vOk (.str "pay"):=by show Str.length _<=12; decide +kernel
 have nn:∀ i:Int,0<=i->i<=1000000->vOk (.int i):=fun i a b=>⟨a,by lia⟩
 have al:∀ q:Pd,q∈b4 o t h\/Kd o t h q->Wrt q:=by
  rintro q (hq | hq)
  ·simp only [b4,xC,xQ,or_false] at hq
   rcases hq with rfl | rfl | rfl | rfl <;> (intro v hv; simp only [pdV,xC,xQ,or_false] at hv) <;> rcases hv with rfl | rfl | rfl | rfl <;> first | exact c1 | exact c4 | exact lo | exact lt | exact lh | exact nn _ (by decide) (by decide)
  ·cases hq with
   | pay x m d hx d5 d7 m1 m2 =>
    intro v hv
    simp only [pdV,xC,xQ,or_false] at hv
    rcases hv with rfl | rfl | rfl | rfl | rfl
    ·exact c6
    ·exact lt
    ·rcases hx with rfl | rfl <;> assumption
    ·exact nn _ (by lia) (by lia)
    ·exact nn _ (by lia) (by lia)
   | give =>
    intro v hv
    simp only [pdV,xC,xQ,or_false] at hv
    rcases hv with rfl | rfl | rfl | rfl | rfl <;> first | exact c5 | exact lo | exact lt | exact nn _ (by decide) (by decide)
   | pen n hm =>
    intro v hv
    simp only [pdV,xC,xQ,or_false] at hv
    rcases hv with rfl | rfl
    ·exact c3
    ·exact (hn n hm).2.2
   | rise wt w1 w2 =>
    intro v hv
    simp only [pdV,xC,xQ,or_false] at hv
    rcases hv with rfl | rfl | rfl | rfl
    ·exact c2
    ·exact lt
    ·exact nn _ (by decide) (by decide)
    ·exact nn _ (by lia) (by lia)
 exact al p (a p hp)
def Yat:Pd->Option Enr
 | .pay x y m d=>some ⟨d,y,x,m⟩
 | _=>none
def enl (ps:List Pd):List Enr:=ps.filterMap Yat
theorem Zoi:∀ (ps:List Pd) (s:Vv),(ps.foldl stp s).2.debts=s.2.debts++(enl ps).map dbt
 | [],s=>by simp [enl]
 | p::ps,s=>by
  rw [List.foldl_cons,Zoi ps]
  cases p <;> first | rfl | exact yH _ _ _
theorem Zxq (ps:List Pd):(Zu ps).2.debts=(enl ps).map dbt:=by unfold Zu; rw [Zoi]; rfl
def Yx (es:List Enr) (a b:Str):Int:=(es.map fun e=>if e.d=a/\e.c=b then e.m else 0).sum
structure En (o t h:Str) (e:Enr):Prop where
 c:e.c=t
 d:e.d=o\/e.d=h
 m : 1<=e.m
 a:e.at_<=9999
theorem Al.en {ps:List Pd}(a:Al o t h ps):∀ e∈enl ps,En o t h e:=fun e he=>by
 obtain ⟨p,hp,hpe⟩:=List.mem_filterMap.mp he
 rcases a p hp with q | q
 ·simp only [b4,xC,xQ,or_false] at q
  rcases q with rfl | rfl | rfl | rfl <;> cases hpe
 ·cases q with
  | pay x m d hx d5 d7 m1 m2=>cases hpe; exact ⟨rfl,hx,m1,by show d<=9999; lia⟩
  | give=>cases hpe
  | pen n hm=>cases hpe
  | rise wt w1 w2=>cases hpe
theorem Zoj:∀ es:List Enr,(∀ e∈es,e.at_<=9999)->∀ a b,net id 9999 es a b=Yx es a b - Yx es b a
 | [],_,_,_=>rfl
 | e::es,h,a,b=>by
  have ih:=Zoj es (fun x hx=>h x (xT _ hx)) a b
  unfold net Yx at ih ⊢
  rw [xP,List.sum_cons,xP,List.sum_cons,xP,List.sum_cons,ih]
  unfold Zai
  rw [if_pos (h e xR)]
  unfold Wv
  show _ - _+_=_
  simp only [id]
  lia
theorem Zhj:∀ es:List Enr,(∀ e∈es,En o t h e)->∀ a b,0<=Yx es a b/\(0 < Yx es a b->b=t/\(a=o\/a=h))
 | [],_,_,_=>⟨Int.le_refl _,fun z=>absurd z (by unfold Yx; simp)⟩
 | e::es,hE,a,b=>by
  obtain ⟨h1,h2⟩:=Zhj es (fun x hx=>hE x (xT _ hx)) a b
  have he:=hE e xR
  unfold Yx at h1 h2 ⊢
  rw [xP,List.sum_cons]
  have:=he.m
  by_cases c:e.d=a/\e.c=b
  ·rw [if_pos c]
   exact ⟨by lia,fun _=>⟨c.2.symm.trans he.c,by rw [← c.1]; exact he.d⟩⟩
  ·rw [if_neg c,Int.zero_add]
   exact ⟨h1,h2⟩
theorem Zzf (hd : [o,t,h].Nodup) {es:List Enr}(hE:∀ e∈es,En o t h e) (r:Row):Due (net id 9999 es) r↔0 < r.2.2/\Yx es r.1 r.2.1=r.2.2:=by
 simp only [xZ,xC,xQ,or_false,not_or] at hd
 obtain ⟨⟨h1,h2⟩,h3,_⟩:=hd
 obtain ⟨a,b,v⟩:=r
 have hn:=Zoj es (fun e he=>(hE e he).a) a b
 have p1:=Zhj es hE a b
 have p2:=Zhj es hE b a
 have no : 0 < Yx es a b->Yx es b a=0:=fun z=>by
  have q1:=p1.2 z
  by_cases c : 0 < Yx es b a
  ·have q2:=p2.2 c
   rcases q1.2 with e | e
   ·exact absurd (e.symm.trans q2.1) h1
   ·exact absurd (q2.1.symm.trans e) h3
  ·have:=p2.1; lia
 show (a≠b/\0 < v/\net id 9999 es a b=v)↔0 < v/\Yx es a b=v
 constructor
 ·rintro ⟨_,hv,e⟩
  have:=p2.1
  have:=no (by lia)
  exact ⟨hv,by lia⟩
 ·rintro ⟨hv,e⟩
  have:=no (by lia)
  refine ⟨fun z=>?_,hv,by lia⟩
  rw [z] at e this
  lia
end
section
variable {P:Program}{w:World}{K:uFg}{mg:Str->Option Value}{base:Heap}
structure Sm (kvs:List (List Key×V)) (g:Str->Str->Int):Prop where
 key:∀ p∈kvs,∃ a b v,p=([.inr a,.inr b],.int v)
 nd:(kvs.map (·.1)).Nodup
 val:∀ a b,(Z3 kvs [.inr a,.inr b]=some (.int (g a b))/\0 < g a b)\/(Z3 kvs [.inr a,.inr b]=none/\g a b=0)
theorem Sm.at {kvs:List (List Key×V)}{g:Str->Str->Int}(h:Sm kvs g) (a b:Str):(Z3 kvs [.inr a,.inr b]).getD (.int 0) = .int (g a b):=by
 rcases h.val a b with ⟨e,_⟩ | ⟨e,e2⟩
 ·rw [e]; rfl
 ·rw [e,e2]; rfl
theorem Sm.put {kvs:List (List Key×V)}{g g':Str->Str->Int}(h:Sm kvs g) {x y:Str}{m:Int}(hm : 0 < m) (hg:∀ a b,g' a b=(if x=a/\y=b then m else 0)+g a b):Sm (Z2 kvs [.inr x,.inr y] (.int (g x y+m))) g':=by
 refine ⟨fun p hp=>?_,Zqg h.nd,fun a b=>?_⟩
 ·rcases Zec hp with rfl | hp
  ·exact ⟨x,y,_,rfl⟩
  ·exact h.key p hp
 ·rw [Zbn,hg]
  by_cases e:a=x/\b=y
  ·rw [if_pos (key2.mpr e),if_pos ⟨e.1.symm,e.2.symm⟩,e.1,e.2,Int.add_comm]
   refine .inl ⟨rfl,?_⟩
   rcases h.val x y with ⟨_,z⟩ | ⟨_,z⟩ <;> lia
  ·rw [if_neg (fun z=>e (key2.mp z)),if_neg (fun z=>e ⟨z.1.symm,z.2.symm⟩),Int.zero_add]; exact h.val a b
def Zmg:List Key×V->Row
 | ([.inr a,.inr b],.int v)=>(a,b,v)
 | _=>(e0,e0,0)
theorem Sm.owed {kvs:List (List Key×V)}{g G:Str->Str->Int}(h:Sm kvs g) (hG:∀ r,Due G r↔0 < r.2.2/\g r.1 r.2.1=r.2.2) {rs:List Row}(hp:rs.Perm (kvs.map Zmg)) (hup:UpR rs):IsOwed G rs:=by
 refine ⟨hup,hp.nodup_iff.mpr ?_,fun r=>?_⟩
 ·have nd:=h.nd
  unfold List.Nodup at nd ⊢
  rw [List.pairwise_map] at nd ⊢
  refine List.Pairwise.imp_of_mem ?_ nd
  intro p q hp hq hne e
  obtain ⟨a,b,v,rfl⟩:=h.key p hp
  obtain ⟨a',b',v',rfl⟩:=h.key q hq
  injection e with e1 e2
  injection e2 with e2 _
  exact hne (key2.mpr ⟨e1,e2⟩)
 ·rw [hp.mem_iff,yO,hG]
  constructor
  ·rintro ⟨p,hp,rfl⟩
   obtain ⟨a,b,v,rfl⟩:=h.key p hp
   have e:Z3 kvs [.inr a,.inr b]=some (.int v):=Zh5 h.nd hp
   rcases h.val a b with ⟨z,z2⟩ | ⟨z,_⟩
   ·rw [e] at z
    injection z with z
    injection z with z
    exact ⟨by show 0 < v; lia,z.symm⟩
   ·rw [e] at z; cases z
  ·obtain ⟨x,y,v⟩:=r
   rintro ⟨h1,h2⟩
   have h1 : 0 < v:=h1
   have h2:g x y=v:=h2
   rcases h.val x y with ⟨z,_⟩ | ⟨_,z⟩
   ·exact ⟨_,Zhh z,by rw [h2]; rfl⟩
   ·lia
def Yau:Pd->Str->Str->Int
 | .pay x y m _,a,b=>if y=a/\x=b then m else 0
 | _,_,_=>0
theorem Zzg {ps:List Pd}{i:Nat}{p:Pd}(h:ps[i]? = some p) (a b:Str):Yx (enl (ps.take (i+1))) a b=Yau p a b+Yx (enl (ps.take i)) a b:=by
 unfold enl Yx
 rw [yG,h,List.filterMap_append,xX,List.sum_append,Int.add_comm]
 congr 1
 cases p <;> first | rfl | exact Int.add_zero _
def Zph:Sp:=fun vs H Q _=>∃ (l:Addr) (us:List V) (ps:List Pd) (o t h:Str),vs = [.ref l]/\H l=some (.lst us)/\RepL (fz [] H) (ps.map pdD) us/\ps.length<=400 /\ [o,t,h].Nodup/\Al o t h ps /\
 ∀ (l2:Addr) (ms:List V) (rs:List Row) (H':Hp),H' l2=some (.lst ms)->RepL H' (rs.map Wd) ms->IsOwed (net id 9999 (enl ps)) rs->Same H H'->Q (.ref l2) H'
abbrev Zbi:Stmt:=top 85
theorem Zkp:FnScope ["_law_rows_here", "_law_sums", "_law_deed"] ["_law_rows_here"] (Zb Zbi):=⟨rfl,rfl,rfl,by decide +kernel,rfl,by decide +kernel,by decide +kernel⟩
theorem Zbj:Nm (Zb Zbi) "_law_deed" .local:=by decide +kernel
theorem Z9e:Nm (Zb Zbi) "_law_rows_here" .local:=by decide +kernel
theorem Zf7:Nm (Zb Zbi) "_law_sums" .local:=by decide +kernel
theorem Z9f:Nm (Zb Zbi) "sorted" .globalImplicit:=by decide +kernel
theorem Z9g (Zkq:Has K mg "_law_owed_of" Zbi) (T:Txt mg):Fn P w K mg base "_law_owed_of" ["_law_rows_here"] 1 Zph:=by
 refine Zkq.fnQ Zkp (fun _ _ _ _ _ _ us hl=>match us,hl with | [_],_=>rfl) (fun vs H Q E h=>?_) (fun f cdv A outer s H vs Q E hr h=>?_)
 ·obtain ⟨l,us,ps,o,t,h,rfl,_⟩:=h
  rfl
 ·obtain ⟨l,us,ps,o,t,hh,rfl,hl,hrp,h4,hnd,ha,k⟩:=h
  refine ⟨_,(Zf (Z1 (i:=1) Zkp.nd Zf7 Zn8)
 (Zf (We PassesOwn.never rfl (Vh (qvN 0 Z9e)) (Yp (i:=2) Zkp.nd Zbj)
 (Zg (Zl (Zp Yd (Zk Zz (qvN 2 Zbj) Ze (fun _ _=>rfl)) Zm (Zo _)) (Zg (U6 hr (qvN 1 Zf7) (Yc (Za (Zk Zz (qvN 2 Zbj) Ze (fun _ _=>rfl)) (Za (Zk Zz (qvN 2 Zbj) Ze (fun _ _=>rfl)) Zc))) (Zy Y4 (Zhc hr (qvN 1 Zf7) (Yc (Za (Zk Zz (qvN 2 Zbj) Ze (fun _ _=>rfl)) (Za (Zk Zz (qvN 2 Zbj) Ze (fun _ _=>rfl)) Zc))) Ze) (Zk Zz (qvN 2 Zbj) Ze (fun _ _=>rfl))))) Zn)))
 (Zg (Zr (Z8 Zmr Z9f T.sorted Zn4 (Za (Zoa (Vt (locs:=["_law_debtor", "_law_creditor", "_law_many"]) (fr:=[]) ⟨rfl,by decide +kernel,by decide +kernel,by decide +kernel,by decide +kernel,by decide +kernel⟩ .nil rfl (Znq (qvN 1 Zf7)) ⟨fun _ _ _ _ _ _=>by
  have cnd:(inN ["_law_debtor", "_law_creditor", "_law_many"] []).Nodup:=by decide +kernel
  exact ⟨(Zej 2 (by rfl) (Wa (Zej 2 (by rfl) (Wa (Wl 0 cnd) (Wa (Wl 1 cnd) Zau))) (Wa (Wl 2 cnd) Zau))),Uf,(Yc (Za (Y5 0) (Za (Y5 1) (Za (Y5 2) Zc))))⟩⟩)) Zc)))))),?_⟩
  have hz:(5000:Nat)<=sizeLine:=by decide
  have hul:us.length=ps.length:=Za6 hrp
  intro g hg
  have S0:Same H (upd H g (.dT [])):=Same.new hg
  refine ⟨_,rfl,l,rfl,⟨_,SqL.of (S0 _ _ hl)⟩,?_⟩
  refine Zaz us (fun i σ H'=>∃ (kvs:List (List Key×V)) (v2:Option V),σ = [some (.ref l),some (.ref g),v2]/\H' g=some (.dT kvs)/\Sm kvs (Yx (enl (ps.take i)))/\(kvs.length<=i/\∀ p∈kvs,p.1∈([[.inr o,.inr t],[.inr hh,.inr t]]:List (List Key)))/\Same H H')
   ⟨[],none,rfl,Zi,⟨(fun _ z=>nomatch z),List.nodup_nil,fun a b=>.inr ⟨rfl,rfl⟩⟩,⟨xB _,(fun _ z=>nomatch z)⟩,S0⟩ (fun i σ H' _ ⟨_,_,_,_,_,_,e⟩=>SqL.of (e _ _ hl)) ?_ ?_
  ·rintro i x σ H' hx ⟨kvs,v2,rfl,hg',hS,⟨hkl,hkk⟩,sm⟩
   have hi:=(xV.mp hx).1
   obtain ⟨p,hp,hre⟩:=Zb1 hrp hx
   obtain ⟨a,rfl,ha0⟩:=Zbb hre
   have ha1:=sm _ _ (U9 ha0).1
   have et:=Zzg hp
   have hE:=ha.en
   have hpa:=ha p (xK hp)
   have no:(∀ a b,Yx (enl (ps.take (i+1))) a b=0+Yx (enl (ps.take i)) a b)->∃ (kvs:List (List Key×V)) (v2:Option V),[some (V.ref l),some (V.ref g),some (V.ref a)] = [some (.ref l),some (.ref g),v2]/\H' g=some (.dT kvs)/\Sm kvs (Yx (enl (ps.take (i+1))))/\(kvs.length<=i+1/\∀ p∈kvs,p.1∈([[.inr o,.inr t],[.inr hh,.inr t]]:List (List Key)))/\Same H H':=fun q =>
    ⟨kvs,_,rfl,hg',⟨hS.key,hS.nd,fun a b=>by rw [q,Int.zero_add]; exact hS.val a b⟩,⟨by lia,hkk⟩,sm⟩
   cases p with
   | come n d wt=>exact ⟨_,rfl,a,_,0,_,rfl,rfl,SqT.of ha1,rfl,rfl,_,rfl,Z0 (fun z=>absurd z (by decide +kernel)) (fun _=>no et)⟩
   | rise n d wt=>exact ⟨_,rfl,a,_,0,_,rfl,rfl,SqT.of ha1,rfl,rfl,_,rfl,Z0 (fun z=>absurd z (by decide +kernel)) (fun _=>no et)⟩
   | pen n=>exact ⟨_,rfl,a,_,0,_,rfl,rfl,SqT.of ha1,rfl,rfl,_,rfl,Z0 (fun z=>absurd z (by decide +kernel)) (fun _=>no et)⟩
   | bring n d=>exact ⟨_,rfl,a,_,0,_,rfl,rfl,SqT.of ha1,rfl,rfl,_,rfl,Z0 (fun z=>absurd z (by decide +kernel)) (fun _=>no et)⟩
   | give x y d=>exact ⟨_,rfl,a,_,0,_,rfl,rfl,SqT.of ha1,rfl,rfl,_,rfl,Z0 (fun z=>absurd z (by decide +kernel)) (fun _=>no et)⟩
   | pay x y m d =>
    obtain ⟨e1,e2,e3,_⟩:=hE ⟨d,y,x,m⟩ (List.mem_filterMap.mpr ⟨_,xK hp,rfl⟩)
    have e1:x=t:=e1
    have e2:y=o\/y=hh:=e2
    have e3 : 1<=m:=e3
    refine ⟨_,rfl,a,_,0,_,rfl,rfl,SqT.of ha1,rfl,rfl,_,rfl,Z0 (fun _=>?_) (fun z=>absurd rfl z)⟩
    refine ⟨_,rfl,g,rfl,.inr ⟨kvs,.inl hg'⟩,_,rfl,a,_,2,_,rfl,rfl,SqT.of ha1,rfl,_,rfl,a,_,1,_,rfl,rfl,SqT.of ha1,rfl,by show 2<=sizeLine; lia,fun q hq=>?_⟩
    have S1:=Same.new (o:=.tup [.str y,.str x]) hq
    have k1:(upd H' q (.tup [.str y,.str x])) q=some (.tup [.str y,.str x]):=Zi
    generalize (upd H' q (.tup [.str y,.str x]))=H1 at S1 k1 ⊢
    refine ⟨_,DGet.t (S1 _ _ hg') (k:=[.inr y,.inr x]) k1,_,rfl,a,_,3,_,rfl,rfl,SqT.of (S1 _ _ ha1),rfl,?_⟩
    refine ⟨_,m,hS.at y x,rfl,?_⟩
    refine ⟨_,rfl,_,rfl,a,_,2,_,rfl,rfl,SqT.of (S1 _ _ ha1),rfl,_,rfl,a,_,1,_,rfl,rfl,SqT.of (S1 _ _ ha1),rfl,by show 2<=sizeLine; lia,fun q2 hq2=>?_⟩
    have S2:=Same.new (o:=.tup [.str y,.str x]) hq2
    have k2:(upd H1 q2 (.tup [.str y,.str x])) q2=some (.tup [.str y,.str x]):=Zi
    generalize (upd H1 q2 (.tup [.str y,.str x]))=H2 at S2 k2 ⊢
    refine ⟨g,_,rfl,DPut.t (S2 _ _ (S1 _ _ hg')) (k:=[.inr y,.inr x]) k2 (by lia),?_⟩
    have hlk:=Um kvs [.inr y,.inr x] (V.int (Yx (enl (ps.take i)) y x+m))
    refine ⟨_,_,rfl,Zi,hS.put (by lia) et,⟨yK hlk (by lia),fun p hp=>(Zec hp).elim (fun z=>by rw [z,e1]; rcases e2 with rfl | rfl <;> simp) (hkk p)⟩,fun b u e=>?_⟩
    rw [Zd (fun z=>by rw [z,hg] at e; cases e)]
    exact S2 _ _ (S1 _ _ (sm _ _ e))
  ·rintro σ H1 ⟨kvs,v2,rfl,hg1,hS,⟨hkl,hkk⟩,sm1⟩
   rw [hul,yL] at hS
   have hk6:kvs.length<=2:=by
    have:(kvs.map (·.1)).length<=([[.inr o,.inr t],[.inr hh,.inr t]]:List (List Key)).length:=Zjr hS.nd fun k hk=>by obtain ⟨p,hp,rfl⟩:=yO.mp hk; exact hkk p hp
    rw [xD] at this
    exact this
   refine ⟨g,kvs,hg1,fun o=>?_⟩
   refine ⟨_,rfl,g,o,kvs,rfl,Zi,?_⟩
   have fr:∀ b u,b≠g->H1 b=some u->(upd H1 g (.frz o (.dT kvs))) b=some u:=fun b u nb e=>by rw [Zd nb]; exact e
   refine Zmz (fun i ys H'=>H' g=some (.frz o (.dT kvs))/\SameX g H1 H'/\RepL H' (((kvs.take i).map Zmg).map Wd) ys) ⟨Zi,fun b u nb e=>fr b u nb e,rfl⟩ (by lia) (fun i ys H' _ h=>h.1) ?_ ?_ ?_
   ·rintro i ys H' ⟨_,_,h⟩
    rw [Za6 h,xD,xO]; lia
   ·rintro i x a p ys H' hx ha ⟨hg',sx,hr⟩ hp ls hls
    obtain ⟨w1,w2,w3,rfl⟩:=Yah hls
    obtain ⟨xa,xb,xv,rfl⟩:=hS.key x (xK hx)
    have Sp:=Same.new (o:=.tup [.ref a,.int xv]) hp
    have kp:(upd H' p (.tup [.ref a,.int xv])) p=some (.tup [.ref a,.int xv]):=Zi
    generalize (upd H' p (.tup [.ref a,.int xv]))=H2 at Sp kp ⊢
    have sx2:SameX g H1 H2:=fun b u nb e=>Sp _ _ (sx b u nb e)
    refine ⟨p,_,rfl,SqT.of kp,rfl,_,_,rfl,a,_,rfl,SqT.of (Sp _ _ ha),rfl,_,_,rfl,_,_,rfl,rfl,_,_,rfl,rfl,⟨[_,_,_],rfl,rfl⟩,?_⟩
    refine ⟨_,rfl,_,rfl,_,rfl,by show 3<=sizeLine; lia,fun q hq=>?_⟩
    have S3:=Same.new (o:=.tup [.str xa,.str xb,.int xv]) hq
    refine ⟨S3 _ _ (Sp _ _ hg'),fun b u nb e=>S3 _ _ (sx2 b u nb e),?_⟩
    rw [yG,hx,xX,xX]
    exact RepL.snoc (Zc8 (r:=(xa,xb,xv)) Zi) ((hr.mono' Sp).mono' S3)
   ·rintro ys H2 ⟨hg2,sx2,hr2⟩ l0 hl0
    rw [yL] at hr2
    have ngl:g≠l0:=fun z=>by rw [← z,hg2] at hl0; cases hl0
    refine ⟨by rw [Zd ngl]; exact hg2,?_⟩
    have tt:∀ {rs:List Row}{vs:List V},RepL H2 (rs.map Wd) vs->RepL (upd (upd H2 l0 (.lst ys)) g (.dT kvs)) (rs.map Wd) vs:=by
     intro rs
     induction rs with
     | nil=>intro vs h; exact h
     | cons r rs ih =>
      rintro vs ⟨v,r',e,h1,h2⟩
      obtain ⟨a,rfl,ha⟩:=Zh6 h1
      refine ⟨.ref a,r',e,Zc8 ?_,ih h2⟩
      rw [Zd (fun z=>by rw [z,hg2] at ha; cases ha),Zd (Zj ha hl0)]
      exact ha
    have hr3:=tt hr2
    have S3:Same H (upd (upd H2 l0 (.lst ys)) g (.dT kvs)):=fun b u e=>by
     have ng:b≠g:=fun z=>by rw [z,hg] at e; cases e
     have e1:=sx2 b u ng (sm1 _ _ e)
     rw [Zd ng,Zd (Zj e1 hl0)]
     exact e1
    have kl:(upd (upd H2 l0 (.lst ys)) g (.dT kvs)) l0=some (.lst ys):=by rw [Zd ngl.symm,Zi]
    generalize (upd (upd H2 l0 (.lst ys)) g (.dT kvs))=H3 at hr3 S3 kl ⊢
    obtain ⟨qs,rfl,eps,hps⟩:=Zju hr3
    have hpl:qs.length=kvs.length:=by rw [← xD (f:=Zmg) (as:=kvs),← eps,xD]
    refine ⟨l0,qs,[false,false,true],rfl,SqL.of kl,by lia,hps,(fun z=>nomatch z),fun l2 ms hl2 hperm hup=>?_⟩
    have S4:=Same.new (o:=.lst (ms.map fun p=>V.ref p.1)) hl2
    have hms:∀ p∈ms,L2.TupAt H3 p/\shp p.2 = [false,false,true]:=fun p hp=>hps p (hperm.mem_iff.mp hp)
    refine k l2 (ms.map fun p=>V.ref p.1) (ms.map fun p=>V5 p.2) _ Zi (Zls ms fun p hp=>⟨S4 _ _ (hms p hp).1,(hms p hp).2⟩) ?_ (S3.trans S4)
    refine hS.owed (Zzf hnd ha.en) ?_ ?_
    ·have:=hperm.map fun p:Addr×List Key=>V5 p.2
     rw [eps] at this
     exact this
    ·unfold UpR
     rw [List.pairwise_map]
     refine List.Pairwise.imp_of_mem ?_ hup
     intro a b ha hb h
     rw [Zc1 (hms a ha).2,Zc1 (hms b hb).2]
     exact h
end
section
variable {P:Program}{w:World}{K:uFg}{mg:Str->Option Value}{base:Heap}
theorem Ve {H:Hp}{p:Addr}{o:HO}(hp:H p=none):∃ G,upd H p o=G/\Same H G/\G p=some o:=⟨_,rfl,Same.new hp,Zi⟩
theorem rpd {H:Hp}{a:Addr}{q:Pd}(h:H a=some (.tup (pdV q))):Rep (fz [] H) (pdD q) (.ref a):=⟨a,_,rfl,Wq h,Zqj q⟩
theorem Yav {H H':Hp}(k:Same H H'):Same (fz [] H) (fz [] H'):=Wg fun _ _ e=>k _ _ e
def Zpi:Sp:=fun vs H Q _=>∃ (s la:Addr) (n:Int),vs = [.ref s,.int n]/\SrcAt H s la/\4<=n/\n<=400 /\
 ∀ (l:Addr) (us:List V) (o t h:Str) (xs:List Pd) (H':Hp),[o,t,h].Nodup->(∀ x ∈ [o,t,h],Yv x)->(∀ p∈xs,Kd o t h p)->(xs.length:Int)=n - 4->H l=none->H' l=some (.lst us)->RepL (fz [] H') ((b4 o t h++xs).map pdD) us->SrcAt H' s la->SameX s H H'->Q (.ref l) H'
abbrev Wh:Stmt:=top 84
theorem V8:FnScope ["_law_src_here", "_law_many", "_law_one", "_law_two", "_law_three", "_law_rows_here", "_law_turn", "_law_k", "_law_coins", "_law_plain"] ["_law_src_here", "_law_many"] (Zb Wh):=⟨rfl,rfl,rfl,by decide +kernel,rfl,by decide +kernel,by decide +kernel⟩
theorem Zmh:Nm (Zb Wh) "_law_coins" .local:=by decide +kernel
theorem Ztf:Nm (Zb Wh) "_law_k" .local:=by decide +kernel
theorem Z9h:Nm (Zb Wh) "_law_many" .local:=by decide +kernel
theorem Z9i:Nm (Zb Wh) "_law_names" .globalImplicit:=by decide +kernel
theorem Zf8:Nm (Zb Wh) "_law_next" .globalImplicit:=by decide +kernel
theorem Zd3:Nm (Zb Wh) "_law_one" .local:=by decide +kernel
theorem Zf9:Nm (Zb Wh) "_law_plain" .local:=by decide +kernel
theorem Zmi:Nm (Zb Wh) "_law_rows_here" .local:=by decide +kernel
theorem Zd4:Nm (Zb Wh) "_law_src_here" .local:=by decide +kernel
theorem Zga:Nm (Zb Wh) "_law_three" .local:=by decide +kernel
theorem Ztg:Nm (Zb Wh) "_law_turn" .local:=by decide +kernel
theorem Zcr:Nm (Zb Wh) "_law_two" .local:=by decide +kernel
theorem Z9j:Nm (Zb Wh) "range" .globalImplicit:=by decide +kernel
theorem Z9k (Zkr:Has K mg "_law_rows" Wh) (T:Txt mg) (Yz:Fn P w K mg base "_law_next" ["_law_src_here", "_law_base"] 1 Zbz) (Z9l:Fn P w K mg base "_law_names" ["_law_src_here", "_law_many"] 3 Zo4):Fn P w K mg base "_law_rows" ["_law_src_here", "_law_many"] 4 Zpi:=by
 refine Zkr.fnQ V8 (fun _ _ _ _ _ _ us hl=>match us,hl with | [_,_],_=>rfl) (fun vs H Q E h=>?_) (fun f cdv A outer s H vs Q E hr h=>?_)
 ·obtain ⟨s,la,n,rfl,_⟩:=h
  rfl
 ·obtain ⟨s,la,n,rfl,hs0,n4,n400,k⟩:=h
  refine ⟨_,(Zf (Zbv (Zw Z9l (hr.mono (by lia)) Z9i (Za (qvN 0 Zd4) (Za Ze Zc))) (Z08 (by rfl) (Wa (Yp (i:=2) V8.nd Zd3) (Wa (Yp (i:=3) V8.nd Zcr) (Wa (Yp (i:=4) V8.nd Zga) Zau)))))
 (Zf (Z1 (i:=5) V8.nd Zmi (Yu (Za (Yc (Za Zm (Za (qvN 2 Zd3) (Za Ze (Za Ze Zc))))) (Za (Yc (Za Zm (Za (qvN 3 Zcr) (Za Ze (Za Ze Zc))))) (Za (Yc (Za Zm (Za (qvN 4 Zga) (Za Ze (Za Ze Zc))))) (Za (Yc (Za Zm (Za (qvN 2 Zd3) (Za Ze Zc)))) Zc))))))
 (Zf (Z1 (i:=6) V8.nd Ztg (Zy Y4 Ze (Zw Yz (hr.mono (by lia)) Zf8 (Za (qvN 0 Zd4) (Za Ze Zc)))))
 (Zf (We PassesOwn.never rfl (Zav Z9j.1 T.range (Za (Zy U5 (qvN 1 Z9h) Ze) Zc)) (Yp (i:=7) V8.nd Ztf)
 (Zf (Z1 (i:=8) V8.nd Zmh (Zy U5 Ze (Zw Yz (hr.mono (by lia)) Zf8 (Za (qvN 0 Zd4) (Za Ze Zc)))))
 (Zf (Z1 (i:=9) V8.nd Zf9 (Yu (Za (Yc (Za Zm (Za (qvN 3 Zcr) (Za (qvN 2 Zd3) (Za (qvN 8 Zmh) (Za Ze Zc)))))) (Za (Yc (Za Zm (Za Ze (Za (qvN 2 Zd3) (Za (qvN 3 Zcr) (Za Ze Zc)))))) (Za (Yc (Za Zm (Za (qvN 3 Zcr) (Za (qvN 4 Zga) (Za (qvN 8 Zmh) (Za Ze Zc)))))) Zc)))))
 (Zf (Z1 (i:=9) V8.nd Zf9 (Zy Zcz (qvN 9 Zf9) (Yu (Za (Yc (Za Zm (Za (qvN 4 Zga) Zc))) (Za (Yc (Za Zm (Za (qvN 3 Zcr) (Za Ze (Za (Zy Y4 Ze (Zw Yz (hr.mono (by lia)) Zf8 (Za (qvN 0 Zd4) (Za Ze Zc)))) Zc))))) Zc)))))
 (Zg (Zv (Y7 F.plainAttrs_list F.slot_list_append F.type_list_append Wu (qvN 5 Zmi) (Za (Zk Yt (qvN 9 Zf9) (Zy Zax (Zy Y4 (Zy Zd8 (qvN 7 Ztf) (qvN 6 Ztg)) (Zw Yz (hr.mono (by lia)) Zf8 (Za (qvN 0 Zd4) (Za Ze Zc)))) Ze) (fun _ _=>rfl)) Zc))))))))
 (Zg (Zr (qvN 5 Zmi))))))),?_⟩
  have hz:(5000:Nat)<=sizeLine:=by decide
  refine ⟨_,rfl,s,la,3,rfl,hs0,by decide,by decide,fun na names H1 hlen hnd hnm hlf hna hs1 sx1=>?_⟩
  obtain ⟨o,t,h,rfl⟩:∃ o t h,names = [o,t,h]:=by
   match names,hlen with
   | [o,t,h],_=>exact ⟨o,t,h,rfl⟩
   | [],e=>cases e
   | [_],e=>exact absurd e (by show ¬ ((1:Int)=3); decide)
   | [_,_],e=>exact absurd e (by show ¬ ((2:Int)=3); decide)
   | _::_::_::_::r,e=>simp only [xG] at e; lia
  refine ⟨na,_,rfl,SqL.of hna,rfl,_,_,rfl,_,_,rfl,_,_,rfl,rfl,?_⟩
  dsimp only [Z4]
  refine ⟨_,rfl,by show 4<=sizeLine; lia,fun p1 hp1=>?_⟩
  obtain ⟨G1,e1,S1,k1⟩:=Ve (o:=.tup [.str "come", .str o,.int 0,.int 5]) hp1
  rw [e1]
  refine ⟨_,rfl,by show 4<=sizeLine; lia,fun p2 hp2=>?_⟩
  obtain ⟨G2,e2,S2,k2⟩:=Ve (o:=.tup [.str "come", .str t,.int 0,.int 6]) hp2
  rw [e2]
  refine ⟨_,rfl,by show 4<=sizeLine; lia,fun p3 hp3=>?_⟩
  obtain ⟨G3,e3,S3,k3⟩:=Ve (o:=.tup [.str "come", .str h,.int 0,.int 7]) hp3
  rw [e3]
  refine ⟨_,rfl,by show 3<=sizeLine; lia,fun p4 hp4=>?_⟩
  obtain ⟨G4,e4,S4,k4⟩:=Ve (o:=.tup [.str "bring", .str o,.int 1]) hp4
  rw [e4]
  refine ⟨by show 4<=sizeLine; lia,fun l hl=>?_⟩
  obtain ⟨G5,e5,S5,k5⟩:=Ve (o:=.lst [.ref p1,.ref p2,.ref p3,.ref p4]) hl
  rw [e5]
  have S45:=S5
  have S35:=S4.trans S45
  have S25:=S3.trans S35
  have S15:=S2.trans S25
  have S05:=S1.trans S15
  have r5:RepL (fz [] G5) ((b4 o t h ++ []).map pdD) [.ref p1,.ref p2,.ref p3,.ref p4]:=⟨_,_,rfl,rpd (S15 _ _ k1),⟨_,_,rfl,rpd (S25 _ _ k2),⟨_,_,rfl,rpd (S35 _ _ k3),⟨_,_,rfl,rpd (S45 _ _ k4),rfl⟩⟩⟩⟩
  have hs5:=hs1.keep S05
  have hlH1:H1 l=none:=(S1.trans (S2.trans (S3.trans S4))).free hl
  have hls:l≠s/\l≠la:=hs1.ne hlH1
  have hlH:H l=none:=by
   cases e:H l with
   | none=>rfl
   | some u=>rw [sx1 l u hls.1 e] at hlH1; cases hlH1
  refine Yg ?_
  dsimp only [Z4]
  refine ⟨_,rfl,s,la,3,rfl,hs5,by decide,by decide,fun tn H6 tn0 tn1 hs6 sx6=>?_⟩
  refine ⟨_,_,rfl,rfl,?_⟩
  refine Yg ?_
  dsimp only [Z4]
  have st6:Y0 G5 H6:=fun b u e=>sx6 b _ (fun z=>by obtain ⟨_,_,_,_,_,y,_⟩:=hs5; rw [z,y] at e; cases e) e
  refine ⟨_,rfl,_,_,rfl,rfl,_,rfl,by lia,by lia,?_⟩
  refine Zay (n - 4).toNat (by lia) (fun i σ H'=>∃ (v7 v8 v9:Option V) (xs:List Pd) (us:List V),σ = [some (.ref s),some (.int n),some (.str o),some (.str t),some (.str h),some (.ref l),some (.int (1+tn)),v7,v8,v9]/\(∀ p∈xs,Kd o t h p)/\xs.length=i/\H' l=some (.lst us)/\RepL (fz [] H') ((b4 o t h++xs).map pdD) us/\SrcAt H' s la/\SameX s H H')
   ⟨none,none,none,[],_,rfl,(fun _ z=>nomatch z),rfl,sx6 _ _ hls.1 k5,r5.mono' (Wg st6),hs6,fun b u nb e=>sx6 b u nb (S05 _ _ (sx1 b u nb e))⟩ ?_ ?_
  ·rintro i σ H' hi ⟨v7,v8,v9,xs,us,rfl,hk,hxl,hl',hr',hs',sx'⟩
   have hul:=Za6 hr'
   rw [xJ] at hul
   have hul:us.length=4+xs.length:=hul
   refine ⟨_,rfl,s,la,3,rfl,hs',by decide,by decide,fun cn J1 cn0 cn1 hsJ1 sxJ1=>?_⟩
   refine ⟨_,_,rfl,rfl,?_⟩
   refine Yg ?_
   dsimp only [Z4]
   refine ⟨_,rfl,_,rfl,_,rfl,by show 5<=sizeLine; lia,fun q1 hq1=>?_⟩
   obtain ⟨A1,f1,T1,j1⟩:=Ve (o:=.tup [.str "pay", .str t,.str o,.int (1000000 - cn),.int 6]) hq1
   rw [f1]
   refine ⟨_,rfl,_,rfl,by show 5<=sizeLine; lia,fun q2 hq2=>?_⟩
   obtain ⟨A2,f2,T2,j2⟩:=Ve (o:=.tup [.str "give", .int 0,.str o,.str t,.int 5]) hq2
   rw [f2]
   refine ⟨_,rfl,_,rfl,_,rfl,by show 5<=sizeLine; lia,fun q3 hq3=>?_⟩
   obtain ⟨A3,f3,T3,j3⟩:=Ve (o:=.tup [.str "pay", .str t,.str h,.int (1000000 - cn),.int 7]) hq3
   rw [f3]
   refine ⟨by show 3<=sizeLine; lia,fun la1 hla1=>?_⟩
   obtain ⟨A4,f4,T4,j4⟩:=Ve (o:=.lst [.ref q1,.ref q2,.ref q3]) hla1
   rw [f4]
   refine Yg ?_
   dsimp only [Z4]
   refine ⟨_,rfl,_,rfl,by show 2<=sizeLine; lia,fun q4 hq4=>?_⟩
   obtain ⟨A5,f5,T5,j5⟩:=Ve (o:=.tup [.str "penance", .str h]) hq4
   rw [f5]
   have T15:=T1.trans (T2.trans (T3.trans (T4.trans T5)))
   refine ⟨_,rfl,_,rfl,s,la,1000,rfl,hsJ1.keep T15,by decide,by decide,fun wt B1 wt0 wt1 hsB1 sxB1=>?_⟩
   refine ⟨_,_,rfl,rfl,by show 4<=sizeLine; lia,fun q5 hq5=>?_⟩
   obtain ⟨B2,f6,T6,j6⟩:=Ve (o:=.tup [.str "rise", .str t,.int 4,.int (1+wt)]) hq5
   rw [f6]
   refine ⟨by show 2<=sizeLine; lia,fun la2 hla2=>?_⟩
   obtain ⟨B3,f7,T7,j7⟩:=Ve (o:=.lst [.ref q4,.ref q5]) hla2
   rw [f7]
   obtain ⟨_,_,_,_,_,yJ1,_⟩:=id hsJ1
   have n4:la1≠s:=(hsJ1.keep (T1.trans (T2.trans T3))).ne hla1 |>.1
   refine ⟨la1,la2,_,_,rfl,rfl,T7 _ _ (T6 _ _ (sxB1 _ _ n4 (T5 _ _ j4))),j7,by show 3+2<=sizeLine; lia,fun la3 hla3=>?_⟩
   obtain ⟨B4,f8,T8,j8⟩:=Ve (o:=.lst [.ref q1,.ref q2,.ref q3,.ref q4,.ref q5]) hla3
   rw [show upd B3 la3 (.lst ([V.ref q1,V.ref q2,V.ref q3] ++ [V.ref q4,V.ref q5]))=B4 from f8]
   refine Yg ?_
   dsimp only [Z4]
   have T678:=T6.trans (T7.trans T8)
   have stB:Y0 A5 B1:=fun b u e=>sxB1 b _ (fun z=>by rw [z,T15 _ _ yJ1] at e; cases e) e
   have stJ:Y0 H' J1:=fun b u e=>sxJ1 b _ (fun z=>by obtain ⟨_,_,_,_,_,y,_⟩:=hs'; rw [z,y] at e; cases e) e
   have lA:A5 l=some (.lst us):=T15 _ _ (sxJ1 _ _ hls.1 hl')
   have lB:B4 l=some (.lst us):=T678 _ _ (sxB1 _ _ hls.1 lA)
   have hsB4:=hsB1.keep T678
   refine ⟨_,rfl,.inl ⟨rfl,_,SqL.of lB⟩,_,rfl,_,rfl,_,rfl,_,_,rfl,rfl,⟨by lia,by lia⟩,?_⟩
   refine ⟨_,rfl,s,la,2,rfl,hsB4,by decide,by decide,fun z2 C1 z20 z21 hsC1 sxC1=>?_⟩
   refine ⟨_,_,rfl,rfl,_,_,rfl,rfl,(show (0:Int) < 5 by decide),?_⟩
   have ix0:=Int.emod_nonneg ((0+(i:Int)) / (1+tn)+z2) (show (5:Int)≠0 by decide)
   have ix1:=Int.emod_lt_of_pos ((0+(i:Int)) / (1+tn)+z2) (show (0:Int) < 5 by decide)
   obtain ⟨m,em⟩:=Int.eq_ofNat_of_zero_le ix0
   have hm5:m < 5:=by lia
   obtain ⟨_,_,_,_,_,yB4,_⟩:=id hsB4
   have stC:Y0 B4 C1:=fun b u e=>sxC1 b _ (fun z=>by rw [z,yB4] at e; cases e) e
   have tB:∀ {b:Addr}{u:List V},A5 b=some (.tup u)->C1 b=some (.tup u):=fun e=>stC _ _ (T678 _ _ (stB _ _ e))
   have n8:la3≠s:=(hsB1.keep (T6.trans T7)).ne hla3 |>.1
   have kC:C1 la3=some (.lst [.ref q1,.ref q2,.ref q3,.ref q4,.ref q5]):=sxC1 _ _ n8 j8
   have rC:RepL (fz [] C1) (([.pay t o (1000000 - cn) 6,.give o t 5,.pay t h (1000000 - cn) 7,.pen h,.rise t 4 (1+wt)]:List Pd).map pdD) [.ref q1,.ref q2,.ref q3,.ref q4,.ref q5] :=
    ⟨_,_,rfl,rpd (tB (T5 _ _ (T4 _ _ (T3 _ _ (T2 _ _ j1))))),⟨_,_,rfl,rpd (tB (T5 _ _ (T4 _ _ (T3 _ _ j2)))),⟨_,_,rfl,rpd (tB (T5 _ _ (T4 _ _ j3))),⟨_,_,rfl,rpd (tB j5),⟨_,_,rfl,rpd (stC _ _ (T8 _ _ (T7 _ _ j6))),rfl⟩⟩⟩⟩⟩
   obtain ⟨v,hv⟩:∃ v,([.ref q1,.ref q2,.ref q3,.ref q4,.ref q5]:List V)[m]? = some v:=⟨_,xH hm5⟩
   obtain ⟨q,hq,hqr⟩:=Zb1 rC hv
   have hkd:Kd o t h q:=by
    match m,hq with
    | 0,hq=>cases hq; exact .pay _ _ _ (.inl rfl) (by decide) (by decide) (by lia) (by lia)
    | 1,hq=>cases hq; exact .give
    | 2,hq=>cases hq; exact .pay _ _ _ (.inr rfl) (by decide) (by decide) (by lia) (by lia)
    | 3,hq=>cases hq; exact .pen _ (by simp)
    | 4,hq=>cases hq; exact .rise _ (by lia) (by lia)
    | m+5,_=>lia
   have lC:C1 l=some (.lst us):=sxC1 _ _ hls.1 lB
   refine ⟨la3,_,_,v,rfl,rfl,SqL.of kC,(by rw [em]; exact Ua hv),l,us,v,rfl,rfl,lC,by lia,?_⟩
   have sxx:SameX l C1 (upd C1 l (.lst (us ++ [v]))):=SameX.upd
   have kl:(upd C1 l (.lst (us ++ [v]))) l=some (.lst (us ++ [v])):=Zi
   generalize (upd C1 l (.lst (us ++ [v])))=C2 at sxx kl ⊢
   have stC2:Y0 C1 C2:=fun b u e=>sxx b _ (fun z=>by rw [z,lC] at e; cases e) e
   have stAll:Y0 H' C1:=fun b u e=>tB (T15 _ _ (stJ _ _ e))
   refine ⟨_,_,_,xs ++ [q],us ++ [v],rfl,fun p hp=>?_,by rw [xJ,hxl]; rfl,kl,?_,hsC1.keepX sxx hls.1 hls.2,fun b u nb e=>?_⟩
   ·rcases xS.mp hp with hp | hp
    ·exact hk p hp
    ·rw [yC.mp hp]; exact hkd
   ·rw [← yH,xX]
    exact RepL.snoc (hqr.mono' (Wg stC2)) ((hr'.mono' (Wg stAll)).mono' (Wg stC2))
   ·exact sxx b u (fun z=>by rw [z,hlH] at e; cases e) (sxC1 b u nb (T678 _ _ (sxB1 b u nb (T15 _ _ (sxJ1 b u nb (sx' b u nb e))))))
  ·rintro σ H' ⟨v7,v8,v9,xs,us,rfl,hk,hxl,hl',hr',hs',sx'⟩
   exact ⟨_,rfl,k l us o t h xs H' hnd hnm hk (by lia) hlH hl' hr' hs' sx'⟩
end
section
variable {P:Program}{w:World}{K:uFg}{mg:Str->Option Value}{base:Heap}{C CM CP:Addr}
theorem Zqr:∀ (ps:List Pd) (s:Vv),(∀ n,Z5 s.1 n=none)->∀ n,Z5 (ps.foldl stp s).1 n=none
 | [],_,h=>h
 | p::ps,s,h=>Zqr ps (stp s p) fun n=>by
  cases p with
  | come m d wt=>show Z5 (s.1 ++ [_]) n=none; rw [Zgn]; exact h n
  | rise m d wt=>show Z5 (s.1 ++ [_]) n=none; rw [Zd6]; exact h n
  | _=>exact h n
theorem Zpj (ps:List Pd) (n:Str):Z5 (Zu ps).1 n=none:=Zqr ps _ (fun _=>rfl) n
theorem Zzh (ps:List Pd):(D.lst (ps.map pdD)).deep<=4:=by
 have:∀ ps:List Pd,Y9 (ps.map pdD)<=1:=by
  intro ps
  induction ps with
  | nil=>exact yQ _
  | cons b r ih =>
   rw [xP,Y9]
   have e:(pdD b).deep<=1:=by cases b <;> exact xB _
   lia
 show Y9 _+1<=4
 have:=this ps
 lia
theorem Zzi (ps:List Pd):(D.lst (ps.map fun p=>D.str (shw p))).deep<=4:=by
 have:∀ ps:List Pd,Y9 (ps.map fun p=>D.str (shw p))<=0:=by
  intro ps
  induction ps with
  | nil=>exact yQ _
  | cons b r ih=>rw [xP,Y9]; show max 0 _<=0; lia
 show Y9 _+1<=4
 have:=this ps
 lia
theorem Zzj (rs:List Row):(D.lst (rs.map Wd)).deep<=4:=by
 have:∀ rs:List Row,Y9 (rs.map Wd)<=1:=by
  intro rs
  induction rs with
  | nil=>exact yQ _
  | cons b r ih=>rw [xP,Y9]; show max (max 0 (max 0 (max 0 0))+1) _<=1; lia
 show Y9 _+1<=4
 have:=this rs
 lia
theorem Zic {H:Hp}:∀ ps:List Pd,RepL H (ps.map fun p=>D.str (shw p)) (ps.map fun p=>V.str (shw p))
 | []=>rfl
 | p::ps=>⟨_,_,rfl,rfl,Zic ps⟩
def Zqs (C CM CP:Addr):Sp:=fun vs H Q _=>∃ (p l:Addr) (ps us:List Pd) (O:Addr->Prop) (ws:List V) (o t h:Str),vs = [.ref p,.ref l,.int us.length]/\Pst C CM CP H p ps us O/\H l=some (.lst ws)/\RepL (fz [] H) (ps.map pdD) ws/\ps.length<=400 /\ [o,t,h].Nodup/\(∀ n ∈ [o,t,h],Yv n)/\Al o t h ps/\∀ H',Same H H'->Q (.bl true) H'
abbrev Uw:Stmt:=top 86
theorem Z9m:FnScope ["_law_past", "_law_rows_here", "_law_waiting"] ["_law_past", "_law_rows_here", "_law_waiting"] (Zb Uw):=⟨rfl,rfl,rfl,by decide +kernel,rfl,by decide +kernel,by decide +kernel⟩
theorem Z9n:Nm (Zb Uw) "_law_owed_of" .globalImplicit:=by decide +kernel
theorem Zgb:Nm (Zb Uw) "_law_past" .local:=by decide +kernel
theorem Zmj:Nm (Zb Uw) "_law_rows_here" .local:=by decide +kernel
theorem Zgc:Nm (Zb Uw) "_law_same" .globalImplicit:=by decide +kernel
theorem Z9o:Nm (Zb Uw) "_law_waiting" .local:=by decide +kernel
theorem Z9p:Nm (Zb Uw) "lines" .globalImplicit:=by decide +kernel
theorem Z9q (Zks:Has K mg "_law_fits" Uw) (Tp:TxCPast K CP) (Tm:TxCMoot K CM) (Zb7:Fn P w K mg base "_law_same" ["_law_found", "_law_due"] 6 (Zey 4)) (MM_roll:Mt P w K mg base CM "roll" ["self"] 2 (Ze0 C CM)) (MP_waiting:Mt P w K mg base CP "waiting" ["self"] 1 (Zqq C CM CP))
  (Z9r:Fn P w K mg base "lines" ["moot"] 3 (Zpe C CM)) (Z9s:Fn P w K mg base "_law_shown" ["_law_deed"] 1 Zeo) (MM_owed:Mt P w K mg base CM "owed" ["self", "day"] 4 (Zpb C CM)) (Z9t:Fn P w K mg base "_law_owed_of" ["_law_rows_here"] 1 Zph):Fn P w K mg base "_law_fits" ["_law_past", "_law_rows_here", "_law_waiting"] 7 (Zqs C CM CP):=by
 refine Zks.fnQ Z9m (fun _ _ _ _ _ _ us hl=>match us,hl with | [_,_,_],_=>rfl) (fun vs H Q E h=>?_) (fun f cdv A outer s H vs Q E hr h=>?_)
 ·obtain ⟨p,l,ps,us,O,ws,o,t,h,rfl,_⟩:=h
  rfl
 ·obtain ⟨p,l,ps,us,O,ws,o,t,h,rfl,W,hl,hrp,h4,hnd,hnm,ha,k⟩:=h
  refine ⟨_,(Zf (Zl (QW.pt (Ze7 (Wx (Wb (Zw Zb7 (hr.mono (by lia)) Zgc (Za (Vq (Zq (qvN 0 Zgb)) Tm.cl MM_roll (hr.mono (by lia))) (Za (qvN 1 Zmj) Zc))))) (Zet (Wx (Wb (Zw Zb7 (hr.mono (by lia)) Zgc (Za (Vq (qvN 0 Zgb) Tp.cl MP_waiting (hr.mono (by lia))) (Za (qvN 2 Z9o) Zc)))))))) (Zg (Zr Wy)) Zn)
 (Zf (Zl (Wx (Wb (Zw Zb7 (hr.mono (by lia)) Zgc (Za (Zw Z9r (hr.mono (by lia)) Z9p (Za (Zq (qvN 0 Zgb)) Zc)) (Za (Vt (locs:=["_law_deed"]) (fr:=[]) ⟨rfl,by decide +kernel,by decide +kernel,by decide +kernel,by decide +kernel,by decide +kernel⟩ .nil rfl (Vh (qvN 1 Zmj)) ⟨fun _ _ _ _ _ _=>by
  have cnd:(inN ["_law_deed"] []).Nodup:=by decide +kernel
  exact ⟨(Wl 0 cnd),Uf,(Zw Z9s (hr.mono (by lia)) nmC (Za (Y5 0) Zc))⟩⟩) Zc))))) (Zg (Zr Wy)) Zn)
 (Zg (Zr (Zw Zb7 (hr.mono (by lia)) Zgc (Za (Z6 (Zq (qvN 0 Zgb)) Tm.cl MM_owed (hr.mono (by lia)) (Za Ze Zc)) (Za (Zw Z9t (hr.mono (by lia)) Z9n (Za (qvN 1 Zmj) Zc)) Zc))))))),?_⟩
  have ok:∀ {d:D}{A B:Prop},B->if (!Yn d d)=true then A else B:=fun h=>Zi2 (fun z=>by rw [Zgl] at z; cases z) fun _=>h
  have hwl:=Za6 hrp
  obtain ⟨lu,M,wa,qs,W,rfl⟩:=W
  obtain ⟨dx,ob⟩:=W.ob
  obtain ⟨dm,obm⟩:=W.mt.ob
  refine ⟨_,rfl,p,CP,dx,_,_,rfl,ob,Tp.cl,Tp.nm,Zad _ _,M.p,dm,_,rfl,obm,Yk _ (by decide +kernel),M,(Zu ps).1,wa,[],(Zu ps).2,qs,rfl,W.mt,?_,by rw [Ui]; lia,fun l1 ms H1 nl1 kl1 hr1 S1=>?_⟩
  ·rw [Zac]
   intro d hd
   obtain ⟨p',_,rfl⟩:=yO.mp hd
   exact Zkb p'
  rw [Zac] at hr1
  refine ⟨_,rfl,.ref l1,.ref l,.lst (ps.map pdD),.lst (ps.map pdD),rfl,⟨l1,ms,rfl,kl1,hr1.mono' Zjw⟩,⟨l,ws,rfl,S1 _ _ hl,(hrp.mono' (Wg fun _ _ e=>S1 _ _ e)).mono' Zjw⟩,Zzh ps,fun H2 S2=>⟨_,rfl,?_⟩⟩
  refine ok ?_
  have S02:=S1.trans S2
  refine ⟨_,rfl,p,dx,_,rfl,S02 _ _ ob,Zs5 (by decide +kernel),p,ps,us,_,rfl,⟨lu,M,wa,qs,W.same S02,rfl⟩,?_⟩
  refine ⟨_,rfl,.int us.length,.int us.length,.int us.length,.int us.length,rfl,rfl,rfl,yQ _,fun H3 S3=>⟨_,rfl,?_⟩⟩
  refine ok ?_
  dsimp only [Z4]
  have S03:=S02.trans S3
  have W3:=W.same S03
  have hw:=ha.wrt hnm
  refine ⟨_,rfl,p,CP,dx,_,_,rfl,S03 _ _ ob,Tp.cl,Tp.nm,Zad _ _,M,ps,wa,qs,rfl,W3.mt,h4,hw,fun l4 H4 kl4 S4=>?_⟩
  have S04:=S03.trans S4
  refine ⟨_,rfl,l,rfl,⟨_,SqL.of (S04 _ _ hl)⟩,?_⟩
  refine Zd7 (xs:=ws) (fun i ys H'=>Same H4 H'/\ys=(ps.take i).map fun p=>V.str (shw p)) ⟨Same.refl _,rfl⟩ (by lia) (fun i ys H' _ ⟨e,_⟩=>SqL.of (e _ _ (S04 _ _ hl))) (fun i ys H' ⟨_,e⟩=>by rw [e,xD,xO]; lia) ?_ ?_
  ·rintro i v ys H' hv ⟨sm,rfl⟩ ls hls
   obtain ⟨w0,rfl⟩:=Zbd hls
   obtain ⟨q,hq,re⟩:=Zb1 hrp hv
   obtain ⟨a,rfl,ha⟩:=Zbb re
   refine ⟨⟨[_],rfl,rfl⟩,?_⟩
   refine ⟨_,rfl,q,a,rfl,sm _ _ (S04 _ _ (U9 ha).1),hw q (xK hq),fun H2 s2=>⟨sm.trans s2,?_⟩⟩
   rw [yG,hq,xX]
   rfl
  ·rintro ys H5 ⟨sm5,rfl⟩ l5 hl5
   rw [hwl,yL]
   have S5:=Same.new (o:=.lst (ps.map fun p=>V.str (shw p))) hl5
   have k5:(upd H5 l5 (.lst (ps.map fun p=>V.str (shw p)))) l5=some (.lst (ps.map fun p=>V.str (shw p))):=Zi
   generalize (upd H5 l5 (.lst (ps.map fun p=>V.str (shw p))))=H6 at S5 k5 ⊢
   have S46:=sm5.trans S5
   refine ⟨.ref l4,.ref l5,.lst (ps.map fun p=>D.str (shw p)),.lst (ps.map fun p=>D.str (shw p)),rfl,⟨l4,_,rfl,S46 _ _ kl4,Zic ps⟩,⟨l5,_,rfl,k5,Zic ps⟩,Zzi ps,fun H7 S7=>⟨_,rfl,?_⟩⟩
   refine ok ?_
   dsimp only [Z4]
   have S07:=(S04.trans S46).trans S7
   have W7:=W.same S07
   refine ⟨_,rfl,p,CP,dx,_,_,rfl,S07 _ _ ob,Tp.cl,Tp.nm,Zad _ _,M.p,dm,_,rfl,S07 _ _ obm,Yk _ (by decide +kernel),M,(Zu ps).1,wa,[],(Zu ps).2,qs,enl ps,9999,id,rfl,W7.mt,Zxq ps,by decide,by decide,fun n=>⟨0,by decide,.here (by unfold Wi; rw [Zpj])⟩,yK (List.length_filterMap_le _ _) h4,⟨[[.inr o,.inr t],[.inr t,.inr o],[.inr h,.inr t],[.inr t,.inr h]],(show 4 < 64 by decide),fun e he=>?_⟩,fun l8 rs vs8 H8 k8 r8 i8 _ S8=>?_⟩
   ·obtain ⟨e1,e2,_,_⟩:=ha.en e he
    rw [show id e.d=e.d from rfl,show id e.c=e.c from rfl,e1]
    rcases e2 with e2 | e2 <;> rw [e2] <;> simp
   have S08:=S07.trans S8
   refine ⟨_,rfl,l,ws,ps,o,t,h,rfl,S08 _ _ hl,hrp.mono' (Wg fun _ _ e=>S08 _ _ e),h4,hnd,ha,fun l9 ms9 rs9 H9 k9 r9 i9 S9=>?_⟩
   obtain rfl:=i9.eq i8
   refine ⟨.ref l8,.ref l9,.lst (rs9.map Wd),.lst (rs9.map Wd),rfl,⟨l8,_,rfl,S9 _ _ k8,r8.mono' S9⟩,⟨l9,_,rfl,k9,r9⟩,Zzj rs9,fun H10 S10=>?_⟩
   rw [Zgl]
   exact k H10 ((S08.trans S9).trans S10)
end
section
variable {P:Program}{w:World}{K:uFg}{mg:Str->Option Value}{base:Heap}{C CM CP:Addr}{c:Str->Addr}
structure W59 (C CM CP:Addr) (H:Hp) (p s la l:Addr) (ws:List V) (R ps us:List Pd) (O:Addr->Prop):Prop where
 w:Pst C CM CP H p ps us O
 sr:SrcAt H s la
 ns:¬ O s
 na:¬ O la
 lr:H l=some (.lst ws)
 nl:¬ O l
 rp:RepL (fz [] H) (R.map pdD) ws
 ne:l≠s
variable {H H':Hp}{p s la l:Addr}{ws:List V}{R ps us ps' us':List Pd}{O O':Addr->Prop}
theorem W59.step (h:W59 C CM CP H p s la l ws R ps us O) (k:Pst C CM CP H' p ps' us' O') (f:Frm O H O' H'):W59 C CM CP H' p s la l ws R ps' us' O':=by
 have no:∀ {b:Addr}{o:HO},H b=some o->¬ O b->¬ O' b:=fun e n z=>(f.2 _ z).elim n (fun y=>by rw [e] at y; cases y)
 have kt:Y0 H H':=fun b u e=>f.1 b _ e (h.w.ntup e)
 obtain ⟨ns,i,big,st,cnt,a,b,c,d⟩:=id h.sr
 exact ⟨k,⟨ns,i,big,st,cnt,f.1 _ _ a h.ns,f.1 _ _ b h.na,c,d⟩,no a h.ns,no b h.na,f.1 _ _ h.lr h.nl,no h.lr h.nl,h.rp.mono' (Wg kt),h.ne⟩
theorem W59.same (h:W59 C CM CP H p s la l ws R ps us O) (k:Same H H'):W59 C CM CP H' p s la l ws R ps us O :=
 ⟨h.w.same k,h.sr.keep k,h.ns,h.na,k _ _ h.lr,h.nl,h.rp.mono' (Yav k),h.ne⟩
theorem W59.x (h:W59 C CM CP H p s la l ws R ps us O) (hs:SrcAt H' s la) (k:SameX s H H'):W59 C CM CP H' p s la l ws R ps us O:=by
 obtain ⟨_,_,_,_,_,a,_⟩:=id h.sr
 exact ⟨h.w.x a h.ns k,hs,h.ns,h.na,k _ _ h.ne h.lr,h.nl,h.rp.mono' (Wg fun b u e=>k b _ (fun z=>by rw [z,a] at e; cases e) e),h.ne⟩
theorem Zpk {R:List Pd}{m:Nat}{q:Pd}(h:R[m]? = some q):(R.drop m).reverse=(R.drop (m+1)).reverse ++ [q]:=by
 obtain ⟨hm,rfl⟩:=xV.mp h
 rw [List.drop_eq_getElem_cons hm,List.reverse_cons]
theorem Zep {R:List Pd}{m:Nat}{q:Pd}(h:R[m]? = some q):R.take (m+1)=R.take m ++ [q]:=by rw [yG,h]; rfl
abbrev Yq:Stmt:=top 87
theorem sc_law:FnScope ["_law_script", "_law_src_here", "_law_past", "_law_long", "_law_many", "_law_back", "_law_rows_here", "_law_deed", "_law_k"] ["_law_script"] (Zb Yq):=⟨rfl,rfl,rfl,by decide +kernel,rfl,by decide +kernel,by decide +kernel⟩
theorem Z9u:Nm (Zb Yq) "Past" .globalImplicit:=by decide +kernel
theorem Ux:Nm (Zb Yq) "_law_back" .local:=by decide +kernel
theorem Zth:Nm (Zb Yq) "_law_deed" .local:=by decide +kernel
theorem Zti:Nm (Zb Yq) "_law_fits" .globalImplicit:=by decide +kernel
theorem Zmk:Nm (Zb Yq) "_law_k" .local:=by decide +kernel
theorem Zml:Nm (Zb Yq) "_law_kind" .globalImplicit:=by decide +kernel
theorem Zgd:Nm (Zb Yq) "_law_long" .local:=by decide +kernel
theorem Zbk:Nm (Zb Yq) "_law_many" .local:=by decide +kernel
theorem Zcs:Nm (Zb Yq) "_law_next" .globalImplicit:=by decide +kernel
theorem V9:Nm (Zb Yq) "_law_past" .local:=by decide +kernel
theorem Zge:Nm (Zb Yq) "_law_past_kind" .globalImplicit:=by decide +kernel
theorem Z9v:Nm (Zb Yq) "_law_rows" .globalImplicit:=by decide +kernel
theorem Zct:Nm (Zb Yq) "_law_rows_here" .local:=by decide +kernel
theorem Z9w:Nm (Zb Yq) "_law_script" .local:=by decide +kernel
theorem Z9x:Nm (Zb Yq) "_law_src" .globalImplicit:=by decide +kernel
theorem Zan:Nm (Zb Yq) "_law_src_here" .local:=by decide +kernel
theorem Zkt:Nm (Zb Yq) "range" .globalImplicit:=by decide +kernel
theorem Z9y {f:Addr}{fd:FuncData}(F_law:Fun K "law" "law" Yq f fd) (T:Txt mg) (Z9z:Fn P w K mg base "_law_src" ["_law_script"] 1 (Zr2 K)) (Yz:Fn P w K mg base "_law_next" ["_law_src_here", "_law_base"] 1 Zbz) (M_Past:Mks P w K mg base CP "Past" 5 (Zpd C CM CP))
  (Z90:Fn P w K mg base "_law_rows" ["_law_src_here", "_law_many"] 4 Zpi) (Zku:Fn P w K mg base "_law_kind" ["_law_past", "_law_deed"] 8 (Zpg C CM CP c)) (Zfl:Fn P w K mg base "_law_past_kind" ["_law_past", "_law_word_here"] 9 (Zpf C CM CP c)) (Ztj:Fn P w K mg base "_law_fits" ["_law_past", "_law_rows_here", "_law_waiting"] 7 (Zqs C CM CP)) :
  FnOk P w K mg base CX0 11 f fd ["_law_script"] (Ze8 K):=by
 refine F_law.okQ sc_law (fun vs H Q E h=>?_) (fun cdv A outer s0 H vs Q E hr h=>?_)
 ·obtain ⟨a,ns,rfl,_⟩:=h
  rfl
 ·obtain ⟨a,ns,rfl,hS,hlen,k⟩:=h
  refine ⟨_,(Zf (Z1 (i:=1) sc_law.nd Zan (Zw Z9z (hr.mono (by lia)) Z9x (Za (qvN 0 Z9w) Zc)))
 (Zf (Z1 (i:=2) sc_law.nd V9 (Zev M_Past (hr.mono (by lia)) Z9u))
 (Zf (Z1 (i:=3) sc_law.nd Zgd (U4 Yd (Zw Yz (hr.mono (by lia)) Zcs (Za (qvN 1 Zan) (Za Ze Zc))) Ze (Zo _)))
 (Zf (Z1 (i:=4) sc_law.nd Zbk (Zy Y4 Ze (Zw Yz (hr.mono (by lia)) Zcs (Za (qvN 1 Zan) (Za Ze Zc)))))
 (Zf (Z1 (i:=5) sc_law.nd Ux (Zy Y4 Ze (Zw Yz (hr.mono (by lia)) Zcs (Za (qvN 1 Zan) (Za (Zy U5 (qvN 4 Zbk) Ze) Zc)))))
 (Zf (Zl (Wb (qvN 3 Zgd)) (Zf (Z1 (i:=4) sc_law.nd Zbk (Zy Y4 Ze (Zw Yz (hr.mono (by lia)) Zcs (Za (qvN 1 Zan) (Za Ze Zc)))))
 (Zg (Z1 (i:=5) sc_law.nd Ux (Zw Yz (hr.mono (by lia)) Zcs (Za (qvN 1 Zan) (Za Ze Zc)))))) Zn)
 (Zf (Z1 (i:=6) sc_law.nd Zct (Zw Z90 (hr.mono (by lia)) Z9v (Za (qvN 1 Zan) (Za (qvN 4 Zbk) Zc))))
 (Zf (We PassesOwn.never rfl (Vh (qvN 6 Zct)) (Yp (i:=7) sc_law.nd Zth)
 (Zg (Zl (Zp V1 (Zw Zku (hr.mono (by lia)) Zml (Za (qvN 2 V9) (Za (qvN 7 Zth) Zc))) Zm (Zo _)) (Zg (Zr Wy)) Zn)))
 (Zf (We PassesOwn.never rfl (Zav Zkt.1 T.range (Za (qvN 5 Ux) Zc)) (Yp (i:=8) sc_law.nd Zmk)
 (Zg (Zl (Zp V1 (Zw Zfl (hr.mono (by lia)) Zge (Za (qvN 2 V9) (Za Zm Zc))) Zm (Zo _)) (Zg (Zr Wy)) Zn)))
 (Zf (Zl (Wx (Wb (Zw Ztj (hr.mono (by lia)) Zti (Za (qvN 2 V9) (Za (Ue Zg9 (qvN 6 Zct) Uc (Ud (Zy U5 (qvN 4 Zbk) (qvN 5 Ux)))) (Za (qvN 5 Ux) Zc)))))) (Zg (Zr Wy)) Zn)
 (Zf (Zl (QW.pt (Zeu (Zp Yd (qvN 5 Ux) (qvN 4 Zbk) (Zo _)) (Zeh (Zp V1 (Zw Zfl (hr.mono (by lia)) Zge (Za (qvN 2 V9) (Za Zm Zc))) Zm (Zo _))))) (Zg (Zr Wy)) Zn)
 (Zf (Zl (Zp Yd (Zw Yz (hr.mono (by lia)) Zcs (Za (qvN 1 Zan) (Za Ze Zc))) Ze (Zo _)) (Zf (We PassesOwn.never rfl (Zav Zkt.1 T.range (Za (qvN 5 Ux) Zc)) (Yp (i:=8) sc_law.nd Zmk)
 (Zg (Zl (Zp V1 (Zw Zfl (hr.mono (by lia)) Zge (Za (qvN 2 V9) (Za Zm Zc))) Zm (Zo _)) (Zg (Zr Wy)) Zn)))
 (Zf (Z1 (i:=5) sc_law.nd Ux Ze)
 (Zg (Zl (QW.pt (Ze7 (Zp V1 (Zw Zfl (hr.mono (by lia)) Zge (Za (qvN 2 V9) (Za Zm Zc))) Zm (Zo _)) (Zet (Wx (Wb (Zw Ztj (hr.mono (by lia)) Zti (Za (qvN 2 V9) (Za (qvN 6 Zct) (Za Ze Zc))))))))) (Zg (Zr Wy)) Zn)))) Zn)
 (Zf (We PassesOwn.never rfl (Zav Zkt.1 T.range (Za (Zy Y4 (Zy U5 Ze (qvN 4 Zbk)) (qvN 5 Ux)) Zc)) (Yp (i:=8) sc_law.nd Zmk)
 (Zg (Zl (QW.pt (Zeu (Wb (qvN 3 Zgd)) (Zeh (Zp V1 (Zw Zku (hr.mono (by lia)) Zml (Za (qvN 2 V9) (Za (Yc (Za Zm (Za (Zk Zz (Zk Yt (qvN 6 Zct) Ze (fun _ _=>rfl)) Ze (fun _ _=>rfl)) Zc))) Zc))) Zm (Zo _))))) (Zg (Zr Wy)) Zn)))
 (Zg (Zr (Z4c (Zpy (qvN 3 Zgd)) (Zaw (U4 Yd (Zw Zku (hr.mono (by lia)) Zml (Za (qvN 2 V9) (Za (Yc (Za Zm (Za (Zk Zz (Zk Yt (qvN 6 Zct) Ze (fun _ _=>rfl)) Ze (fun _ _=>rfl)) Zc))) Zc))) Zm (Zo _))))))))))))))))))),?_⟩
  have hz:(5000:Nat)<=sizeLine:=by decide
  refine ⟨_,rfl,a,ns,rfl,hS,fun s la H1 hs hla hs1 sm1=>?_⟩
  intro p dx nx ndx nex
  refine ⟨p,dx,rfl,Zi,fun O H2 P2 kp fr=>⟨rfl,?_⟩⟩
  have sm2:Same H1 H2:=fun b o e=>kp b o (by rw [Zd (Zj e nx),Zd (Zj e ndx)]; exact e) (Zj e nx)
  have no2:∀ b o,H1 b=some o->¬ O b:=fun b o e z=>by
   rcases fr b z with y | y
   ·rw [y,nx] at e; cases e
   ·have nb:b≠p:=fun z=>by rw [z,nx] at e; cases e
    rw [Zd nb,Zd (Zj e ndx),e] at y; cases y
  obtain ⟨_,_,_,_,_,hq1,hq2,_⟩:=id hs1
  have ns1:=no2 _ _ hq1
  have na1:=no2 _ _ hq2
  refine ⟨_,rfl,s,la,3,rfl,hs1.keep sm2,by decide,by decide,fun d3 H3 d30 d31 hs3 sx3=>?_⟩
  refine ⟨rfl,?_⟩
  refine Yg ?_
  dsimp only [Z4]
  generalize decide (V.int d3=V.int 0)=lg
  have W3:Pst C CM CP H3 p [] [] O:=P2.x (sm2 _ _ hq1) ns1 sx3
  refine ⟨_,rfl,s,la,28,rfl,hs3,by decide,by decide,fun d4 H4 d40 d41 hs4 sx4=>?_⟩
  refine ⟨_,_,rfl,rfl,?_⟩
  refine Yg ?_
  dsimp only [Z4]
  have W4:Pst C CM CP H4 p [] [] O:=by obtain ⟨_,_,_,_,_,z,_⟩:=id hs3; exact W3.x z ns1 sx4
  refine ⟨_,rfl,_,rfl,_,_,rfl,rfl,s,la,62+d4 - 60,rfl,hs4,by lia,by lia,fun d5 H5 d50 d51 hs5 sx5=>?_⟩
  refine ⟨_,_,rfl,rfl,?_⟩
  refine Yg ?_
  dsimp only [Z4]
  have W5:Pst C CM CP H5 p [] [] O:=by obtain ⟨_,_,_,_,_,z,_⟩:=id hs4; exact W4.x z ns1 sx5
  refine Zhu (fun σ H'=>∃ N B:Nat,σ = [some (.ref a),some (.ref s),some (.ref p),some (.bl lg),some (.int N),some (.int B),none,none,none]/\Pst C CM CP H' p [] [] O/\SrcAt H' s la/\B<=N/\62<=N/\N<=400/\(lg=true->398<=N/\B<=3)) ?_ fun D' hn _ _ _=>?_
  case refine_2 =>
   refine ⟨_,rfl,_,rfl,?_⟩
   cases lg with
   | false =>
    refine Zx (hn _ _ ⟨(62+d4).toNat,(61+d5).toNat,?_,W5,hs5,by lia,by lia,by lia,fun z=>nomatch z⟩)
    have e1:((62+d4).toNat:Int)=62+d4:=by lia
    have e2:((61+d5).toNat:Int)=61+d5:=by lia
    rw [e1,e2]
    rfl
   | true =>
    refine Yj ?_
    refine ⟨_,rfl,s,la,3,rfl,hs5,by decide,by decide,fun d6 H6 d60 d61 hs6 sx6=>?_⟩
    refine ⟨_,_,rfl,rfl,?_⟩
    refine Yg ?_
    refine ⟨_,rfl,s,la,4,rfl,hs6,by decide,by decide,fun d7 H7 d70 d71 hs7 sx7=>?_⟩
    refine Yg ?_
    have W6:Pst C CM CP H6 p [] [] O:=by obtain ⟨_,_,_,_,_,z,_⟩:=id hs5; exact W5.x z ns1 sx6
    have W7:Pst C CM CP H7 p [] [] O:=by obtain ⟨_,_,_,_,_,z,_⟩:=id hs6; exact W6.x z ns1 sx7
    refine hn _ _ ⟨(398+d6).toNat,d7.toNat,?_,W7,hs7,by lia,by lia,by lia,fun _=>⟨by lia,by lia⟩⟩
    have e1:((398+d6).toNat:Int)=398+d6:=by lia
    have e2:(d7.toNat:Int)=d7:=by lia
    rw [e1,e2]
    rfl
  rintro σ H6 ⟨N,B,rfl,W6,hs6,hBN,hN0,hN4,hlg⟩
  refine ⟨_,rfl,_,rfl,s,la,N,rfl,hs6,by lia,by lia,fun l ws o t h xs H7 hnd hnm hk hxl hlf hl7 hr7 hs7 sx7=>?_⟩
  have hxl:xs.length=N - 4:=by lia
  have hRl:(b4 o t h++xs).length=N:=by rw [xJ]; show 4+xs.length=N; lia
  have hG:Gd (b4 o t h++xs):=Zuh hnd hnm hk (by lia)
  have hA:Al o t h (b4 o t h++xs):=Z9d hk
  have W7:W59 C CM CP H7 p s la l ws (b4 o t h++xs) [] [] O:=by
   obtain ⟨_,_,_,_,_,z,_⟩:=id hs6
   exact ⟨W6.x z ns1 sx7,hs7,ns1,na1,hl7,(fun y=>by obtain ⟨o',e⟩:=W6.there y; rw [hlf] at e; cases e),hr7,(hs6.ne hlf).1⟩
  generalize eR:b4 o t h++xs=R at hRl hG hA W7
  have hwl:ws.length=N:=by rw [Za6 W7.rp]; exact hRl
  refine Yg ?_
  dsimp only [Z4]
  refine ⟨_,rfl,l,rfl,⟨_,SqL.of hl7⟩,?_⟩
  refine Zaz ws (fun i σ H'=>∃ (v7:Option V) (O:Addr->Prop),σ = [some (.ref a),some (.ref s),some (.ref p),some (.bl lg),some (.int N),some (.int B),some (.ref l),v7,none]/\W59 C CM CP H' p s la l ws R (R.take i) [] O) ⟨none,O,rfl,W7⟩ (fun i σ H' _ ⟨_,_,_,w⟩=>SqL.of w.lr) ?_ ?_
  ·rintro i v σ H' hv ⟨v7,O1,rfl,W'⟩
   obtain ⟨q,hq,re⟩:=Zb1 W'.rp hv
   obtain ⟨d,rfl,hd⟩:=Zbb re
   refine ⟨_,rfl,_,rfl,p,d,R.take i,[],O1,q,rfl,W'.w,(U9 hd).1,.inl ⟨by rw [← Zep hq]; exact hG.take _,fun v O2 H2 P2 f2=>?_⟩⟩
   rw [← Zep hq] at P2
   exact ⟨rfl,_,rfl,Ym (fun z=>absurd rfl z) (fun _=>⟨_,O2,rfl,W'.step P2 f2⟩)⟩
  rintro σ H8 ⟨v7,O8,rfl,W8⟩
  rw [hwl,← hRl,yL] at W8
  refine ⟨_,rfl,_,rfl,by lia,by lia,?_⟩
  refine Zay B (by lia) (fun j σ H'=>∃ (v8:Option V) (O:Addr->Prop),σ = [some (.ref a),some (.ref s),some (.ref p),some (.bl lg),some (.int N),some (.int B),some (.ref l),v7,v8]/\W59 C CM CP H' p s la l ws R (R.take (N - j)) ((R.drop (N - j)).reverse) O) ⟨none,O8,rfl,by rw [Nat.sub_zero,← hRl,yL,List.drop_length]; exact W8⟩ ?_ ?_
  ·rintro j σ H' hj ⟨v8,O1,rfl,W'⟩
   obtain ⟨q,hq⟩:∃ q,R[N - (j+1)]? = some q:=⟨_,xH (by lia)⟩
   have e1:=Zep hq
   have e2:=Zpk hq
   rw [show N - (j+1)+1=N - j by lia] at e1 e2
   refine ⟨_,rfl,.inl ⟨p,rfl,p,_,_,O1,rfl,W'.w,.inl ⟨R.take (N - (j+1)),q,e1,hG.take _,by rw [List.length_reverse,List.length_drop]; lia,fun O2 H2 P2 f2=>?_⟩⟩⟩
   rw [← e2] at P2
   exact ⟨rfl,_,rfl,Ym (fun z=>absurd rfl z) (fun _=>⟨_,O2,rfl,W'.step P2 f2⟩)⟩
  rintro σ H9 ⟨v8,O9,rfl,W9⟩
  have eNB:(N:Int) - (B:Int)=((N - B:Nat):Int):=by lia
  refine ⟨_,rfl,_,rfl,_,rfl,_,rfl,_,_,rfl,rfl,_,rfl,l,ws,rfl,SqL.of W9.lr,fun l2 hl2=>?_⟩
  rw [show Ws ws none (some ((N:Int) - (B:Int)))=ws.take (N - B) by rw [eNB,Zql ws (N - B) (by lia)]]
  have S10:=Same.new (o:=.lst (ws.take (N - B))) hl2
  have k10:(upd H9 l2 (.lst (ws.take (N - B)))) l2=some (.lst (ws.take (N - B))):=Zi
  generalize (upd H9 l2 (.lst (ws.take (N - B))))=H10 at S10 k10 ⊢
  have W10:=W9.same S10
  refine ⟨_,rfl,p,l2,R.take (N - B),(R.drop (N - B)).reverse,O9,ws.take (N - B),o,t,h,by rw [List.length_reverse,List.length_drop,hRl,show N - (N - B)=B by lia],W10.w,k10,by rw [List.map_take]; exact RepL.take _ W10.rp,by rw [xO]; lia,hnd,hnm,hA.take _,fun H11 S11=>⟨_,rfl,Zx ?_⟩⟩
  dsimp only [Z4]
  have W11:=W10.same S11
  refine Zhu (fun σ H'=>σ = [some (.ref a),some (.ref s),some (.ref p),some (.bl lg),some (.int N),some (.int B),some (.ref l),v7,v8]/\W59 C CM CP H' p s la l ws R (R.take (N - B)) ((R.drop (N - B)).reverse) O9) ?_ fun D' hn _ _ _=>?_
  case refine_2 =>
   refine ⟨_,rfl,_,rfl,rfl,_,rfl,Z0 (fun e=>?_) (fun e=>Zx (hn _ _ ⟨rfl,W11⟩))⟩
   have e:(B:Int)=N:=by injection e
   refine ⟨_,rfl,.inl ⟨p,rfl,p,_,_,O9,rfl,W11.w,.inr ⟨by rw [show N - B=0 by lia]; rfl,?_⟩⟩⟩
   exact ⟨rfl,_,rfl,Ym (fun z=>absurd rfl z) (fun _=>hn _ _ ⟨rfl,W11⟩)⟩
  rintro σ H12 ⟨rfl,W12⟩
  refine Zhu (fun σ H'=>∃ (m:Nat) (v8:Option V) (us:List Pd) (O:Addr->Prop),m<=N/\(lg=true->4<=m) /\ σ = [some (.ref a),some (.ref s),some (.ref p),some (.bl lg),some (.int N),some (.int ((N:Int) - m)),some (.ref l),v7,v8]/\W59 C CM CP H' p s la l ws R (R.take m) us O) ?_ fun D' hn _ _ _=>?_
  case refine_2 =>
   refine ⟨_,rfl,s,la,2,rfl,W12.sr,by decide,by decide,fun d13 H13 _ _ hs13 sx13=>?_⟩
   have W13:=W12.x hs13 sx13
   refine ⟨rfl,_,rfl,Z0 (fun _=>?_) (fun _=>hn _ _ ⟨N - B,v8,_,O9,by lia,fun z=>by have:=hlg z; lia,?_,W13⟩)⟩
   ·refine ⟨_,rfl,_,rfl,by lia,by lia,?_⟩
    refine Zay B (by lia) (fun j σ H'=>∃ (v8:Option V) (O:Addr->Prop),σ = [some (.ref a),some (.ref s),some (.ref p),some (.bl lg),some (.int N),some (.int B),some (.ref l),v7,v8]/\W59 C CM CP H' p s la l ws R (R.take (N - B+j)) ((R.drop (N - B+j)).reverse) O) ⟨v8,O9,rfl,W13⟩ ?_ ?_
    ·rintro j σ H' hj ⟨v8,O1,rfl,W'⟩
     obtain ⟨q,hq⟩:∃ q,R[N - B+j]? = some q:=⟨_,xH (by lia)⟩
     have e1:=Zep hq
     have e2:=Zpk hq
     refine ⟨_,rfl,.inr ⟨p,rfl,p,_,_,O1,rfl,W'.w,.inl ⟨_,q,e2,by rw [← e1]; exact hG.take _,fun O2 H2 P2 f2=>?_⟩⟩⟩
     rw [← e1] at P2
     exact ⟨rfl,_,rfl,Ym (fun z=>absurd rfl z) (fun _=>⟨_,O2,rfl,W'.step P2 f2⟩)⟩
    ·rintro σ H14 ⟨v8',O14,rfl,W14⟩
     rw [show N - B+B=N by lia,← hRl,yL,List.drop_length] at W14
     refine ⟨_,rfl,.inr ⟨p,rfl,p,_,_,O14,rfl,W14.w,.inr ⟨rfl,?_⟩⟩⟩
     refine ⟨rfl,_,rfl,Ym (fun z=>absurd rfl z) (fun _=>?_)⟩
     refine ⟨_,rfl,_,rfl,p,l,R,[],O14,ws,o,t,h,rfl,W14.w,W14.lr,W14.rp,hRl▸hN4,hnd,hnm,hA,fun H15 S15=>⟨_,rfl,Zx (hn _ _ ⟨N,v8',[],O14,xB _,fun _=>by lia,?_,?_⟩)⟩⟩
     ·rw [Int.sub_self]; rfl
     ·rw [← hRl,yL]; exact W14.same S15
   ·rw [show ((N:Int) - ((N - B:Nat):Int))=B by lia]
  rintro σ H16 ⟨m,v8,us,O16,hmN,hm4,rfl,W16⟩
  have hcnt:(400 - (N:Int)+((N:Int) - (m:Int))).toNat=400 - m:=by lia
  refine ⟨_,rfl,_,_,rfl,rfl,_,rfl,_,_,rfl,rfl,_,rfl,by lia,by lia,?_⟩
  cases lg with
  | false =>
   refine Zay (400 - m) (by lia) (fun j σ H'=>∃ v8:Option V,σ = [some (.ref a),some (.ref s),some (.ref p),some (.bl false),some (.int N),some (.int ((N:Int) - m)),some (.ref l),v7,v8]) ⟨v8,rfl⟩ ?_ ?_
   ·rintro j σ H' hj ⟨v8,rfl⟩
    exact ⟨_,rfl,_,rfl,Zx (Zx ⟨_,rfl⟩)⟩
   ·rintro σ H' ⟨v8,rfl⟩
    exact ⟨_,rfl,_,rfl,_,rfl,Yj (k H')⟩
  | true =>
   have hm4:=hm4 rfl
   have eT:R.take m=b4 o t h++xs.take (m - 4):=by
    rw [← eR,List.take_append,show (b4 o t h).length=4 from rfl,yJ (show (b4 o t h).length<=m from hm4)]
   have hkj:∀ j,∀ p∈xs.take (m - 4)++List.replicate j (Pd.pen o),Kd o t h p:=fun j p hp=>by
    rcases xS.mp hp with hp | hp
    ·exact hk p (List.mem_of_mem_take hp)
    ·rw [(List.mem_replicate.mp hp).2]; exact .pen _ (by simp)
   have hlj:∀ j,(xs.take (m - 4)++List.replicate j (Pd.pen o)).length=m - 4+j:=fun j=>by rw [xJ,xO,List.length_replicate]; lia
   have row0:∀ {H':Hp},RepL (fz [] H') (R.map pdD) ws->∃ d,ws[0]? = some (.ref d)/\H' d=some (.tup [.str "come", .str o,.int 0,.int 5]):=fun {H'} hr=>by
    obtain ⟨v0,hv0⟩:∃ v,ws[0]? = some v:=⟨_,xH (by lia)⟩
    obtain ⟨q,hq,re⟩:=Zb1 hr hv0
    rw [← eR] at hq
    cases hq
    obtain ⟨d,rfl,hd⟩:=Zbb re
    exact ⟨d,hv0,(U9 hd).1⟩
   refine Zay (400 - m) (by lia) (fun j σ H'=>∃ (v8:Option V) (us:List Pd) (O:Addr->Prop),σ = [some (.ref a),some (.ref s),some (.ref p),some (.bl true),some (.int N),some (.int ((N:Int) - m)),some (.ref l),v7,v8]/\W59 C CM CP H' p s la l ws R (b4 o t h++(xs.take (m - 4)++List.replicate j (Pd.pen o))) us O) ⟨v8,us,O16,rfl,by rw [List.replicate_zero,List.append_nil,← eT]; exact W16⟩ ?_ ?_
   ·rintro j σ H' hj ⟨v8,us,O1,rfl,W'⟩
    obtain ⟨d,hd0,hd⟩:=row0 W'.rp
    refine ⟨_,rfl,_,rfl,Yj ?_⟩
    refine ⟨_,rfl,_,rfl,l,ws,0,_,rfl,rfl,SqL.of W'.lr,Ua (j:=0) hd0,d,_,1,_,rfl,rfl,SqT.of hd,rfl,by show 2<=sizeLine; lia,fun q hq=>?_⟩
    have Sq:=Same.new (o:=.tup [.str "penance", .str o]) hq
    have kq:(upd H' q (.tup [.str "penance", .str o])) q=some (.tup [.str "penance", .str o]):=Zi
    generalize (upd H' q (.tup [.str "penance", .str o]))=H2 at Sq kq ⊢
    have W2:=W'.same Sq
    have ej:b4 o t h++(xs.take (m - 4)++List.replicate (j+1) (Pd.pen o))=b4 o t h++(xs.take (m - 4)++List.replicate j (Pd.pen o)) ++ [Pd.pen o]:=by rw [List.replicate_succ',← yH,← yH,yH (b4 o t h)]
    refine ⟨p,q,_,us,O1,.pen o,rfl,W2.w,kq,.inl ⟨by rw [← ej]; exact Zuh hnd hnm (hkj _) (by rw [hlj]; lia),fun v O2 H3 P3 f3=>?_⟩⟩
    rw [← ej] at P3
    exact ⟨rfl,_,rfl,Ym (fun z=>absurd rfl z) (fun _=>⟨_,_,O2,rfl,W2.step P3 f3⟩)⟩
   ·rintro σ H' ⟨v8,us,O1,rfl,W'⟩
    obtain ⟨d,hd0,hd⟩:=row0 W'.rp
    refine ⟨_,rfl,_,rfl,_,rfl,Zx ?_⟩
    refine ⟨_,rfl,_,rfl,l,ws,0,_,rfl,rfl,SqL.of W'.lr,Ua (j:=0) hd0,d,_,1,_,rfl,rfl,SqT.of hd,rfl,by show 2<=sizeLine; lia,fun q hq=>?_⟩
    have Sq:=Same.new (o:=.tup [.str "penance", .str o]) hq
    have kq:(upd H' q (.tup [.str "penance", .str o])) q=some (.tup [.str "penance", .str o]):=Zi
    generalize (upd H' q (.tup [.str "penance", .str o]))=H2 at Sq kq ⊢
    have W2:=W'.same Sq
    refine ⟨p,q,_,us,O1,.pen o,rfl,W2.w,kq,.inr ⟨by rw [xJ,hlj]; show 400<=4+_; lia,⟨o,0,rfl,(g59 hnd _ (hkj _)).co o (by simp),Zpj _ _⟩,rfl,?_⟩⟩
    rw [show decide (V.str "TooMany" = V.str "TooMany")=true from xM rfl]
    exact k H2
end
section
def Zmm:List (Str×Tok×Addr):=[("claim", 1547,1052),("wergild", 1552,1053),("accuse", 1558,1054)]
theorem Z1s:∀ p,Zce Zmm (wd p)=none:=fun p=>by
 have h:∀ x∈(["come", "rise", "penance", "bring", "give", "pay"]:List Str),Zce Zmm x=none:=by decide +kernel
 cases p <;> exact h _ (by simp [wd])
end
def cE (x:Str):Addr:=(([("MootError", 38),("TooMany", 248),("NothingBack", 362),("NothingForth", 381),("NoDeed", 400)]:List (Str×Addr)).lookup x).getD 0
local macro_rules | `(tactic| walk_at "k")=>`(tactic| ((repeat' (refine And.intro ?_ ?_)) <;> kernel_rfl))
theorem all_mk {Pz:Program}{w:World}{h:Heap}{mg:Str->Option Value}{fa:Addr}(X:(KK w.params).In h) (G:h.Ns mainGlobals mg) (hfa:mg "law" = some (.ref fa)) :
  ∃ fd:FuncData,(∀ (s:Shared) (v:Value),BindsTo s fd ⟨[v],[]⟩ [("_law_script", v)])/\∀ base:Heap,(KK w.params).In base->base.Ns mainGlobals mg->FnOk Pz w (KK w.params) mg base CX0 40 fa fd ["_law_script"] (Ze8 (KK w.params)):=by
 have e:some (Value.ref fa)=some (.ref 1156):=hfa.symm.trans (PySem.W.mg_of X G (by kernel_rfl))
 cases e
 have Zca:=hQ "done" Zab 409 408 pm0 X G (by walk_at "k")
 have Zj7:=hQ "copied" Zdl 414 413 pm0 X G (by walk_at "k")
 have Zjv:=hQ "owed" Va 419 418 pm1 X G (by walk_at "k")
 have Zjs:=hQ "set_against" Zbf 426 425 pm1 X G (by walk_at "k")
 have Zjt:=hQ "triple" Zdh 433 432 pm1 X G (by walk_at "k")
 have Zjd:=hQ "check_day" Zdf 440 439 pm2 X G (by walk_at "k")
 have Zje:=hQ "check_weight" Zdg 447 446 pm2 X G (by walk_at "k")
 have Zjx:=hQ "check_money" Zdi 461 460 pm2 X G (by walk_at "k")
 have Zjb:=hQ "is_name" Za2 466 465 pm3 X G (by walk_at "k")
 have Zkk:=hQ "shown_deed" Zdr 1059 1058 pm7 X G (by walk_at "k")
 have Zkm:=hQ "lines" Zfi 1064 1063 pm7 X G (by walk_at "k")
 have Zi5:=hQ "_law_src" Zdd 1071 1070 pm8 X G (by walk_at "k")
 have Zi6:=hQ "_law_next" U7 1078 1077 pm8 X G (by walk_at "k")
 have Zi3:=hQ "_law_whole" Za0 1085 1084 pm8 X G (by walk_at "k")
 have V3:=hQ "_law_same" Yy 1092 1091 pm8 X G (by walk_at "k")
 have Zi8:=hQ "_law_unlike" V4 1099 1098 pm8 X G (by walk_at "k")
 have Zi7:=hQ "_law_word" Za1 1104 1103 pm8 X G (by walk_at "k")
 have Zi9:=hQ "_law_names" Wf 1111 1110 pm8 X G (by walk_at "k")
 have Zkl:=hQ "_law_shown" Vw 1118 1117 pm8 X G (by walk_at "k")
 have Zkn:=hQ "_law_past_kind" Zam 1125 1124 pm8 X G (by walk_at "k")
 have Zko:=hQ "_law_kind" Zae 1132 1131 pm8 X G (by walk_at "k")
 have Zkr:=hQ "_law_rows" Wh 1139 1138 pm8 X G (by walk_at "k")
 have Zkq:=hQ "_law_owed_of" Zbi 1144 1143 pm8 X G (by walk_at "k")
 have Zks:=hQ "_law_fits" Uw 1149 1148 pm8 X G (by walk_at "k")
 have F_law:=Zim (K:=KK w.params) (x := "law") (qual := "law") (st:=Yq) (f:=1156) (oc:=.type "function") (od:=none) (an:=none) (osl:=#[]) (kV:=.none) (doc:=.none) (pm:=(.str "law_forsworn_k59_whole_long_pasts" 1579)) (cdv:=(.ref 1155)) (ct:=.none) (by kernel_rfl) (by kernel_rfl) (by kernel_rfl)
 have Zjj:=hMQ (K:=KK w.params) 626 "__init__" "Folk.__init__" Zfa 485 484 pm4 (by walk_at "k")
 have Zjm:=hMQ (K:=KK w.params) 626 "come" "Folk.come" Za4 492 491 pm4 (by walk_at "k")
 have Zjp:=hMQ (K:=KK w.params) 626 "rise" "Folk.rise" Za5 499 498 pm4 (by walk_at "k")
 have Zji:=hMQ (K:=KK w.params) 626 "stand_in" "Folk.stand_in" Zci 553 552 pm4 (by walk_at "k")
 have Zjh:=hMQ (K:=KK w.params) 626 "died_by" "Folk.died_by" Zch 560 559 pm4 (by walk_at "k")
 have Zjk:=hMQ (K:=KK w.params) 626 "check_coming" "Folk.check_coming" Vm 581 580 pm4 (by walk_at "k")
 have Zjo:=hMQ (K:=KK w.params) 626 "check_rise" "Folk.check_rise" Ur 588 587 pm4 (by walk_at "k")
 have Zjf:=hMQ (K:=KK w.params) 626 "check_known" "Folk.check_known" Zdy 602 601 pm4 (by walk_at "k")
 have Zjg:=hMQ (K:=KK w.params) 626 "check_there" "Folk.check_there" Zcg 609 608 pm4 (by walk_at "k")
 have Zjn:=hMQ (K:=KK w.params) 626 "check_living" "Folk.check_living" Zcj 616 615 pm4 (by walk_at "k")
 have Zjq:=hMQ (K:=KK w.params) 626 "check_untold" "Folk.check_untold" Zdz 623 622 pm4 (by walk_at "k")
 have TcFolk:Z1c (KK w.params) 626:=by
  refine ⟨⟨?_,?_,?_,?_⟩,?_,?_,?_,?_⟩ <;> (show _=_; kernel_rfl)
 have mkFolk:PySem.W.makesIn (KK w.params) 626=true:=by kernel_rfl
 have kcFolk:PySem.W.keepIn (KK w.params) (.ref 626)=true:=by kernel_rfl
 have gCFolk:mg "Folk" = some (.ref 626):=PySem.W.mg_of X G (by kernel_rfl)
 have Zj2:=hMQ (K:=KK w.params) 997 "__init__" "Moot.__init__" Zdj 701 700 pm5 (by walk_at "k")
 have Zjz:=hMQ (K:=KK w.params) 997 "come" "Moot.come" Za8 708 707 pm5 (by walk_at "k")
 have Zj3:=hMQ (K:=KK w.params) 997 "rise" "Moot.rise" Za9 715 714 pm5 (by walk_at "k")
 have Zco:=hMQ (K:=KK w.params) 997 "penance" "Moot.penance" Zbg 729 728 pm5 (by walk_at "k")
 have Zj1:=hMQ (K:=KK w.params) 997 "bring" "Moot.bring" Ut 736 735 pm5 (by walk_at "k")
 have Zj5:=hMQ (K:=KK w.params) 997 "give" "Moot.give" Uu 743 742 pm5 (by walk_at "k")
 have Zj4:=hMQ (K:=KK w.params) 997 "pay" "Moot.pay" V6 750 749 pm5 (by walk_at "k")
 have Zj6:=hMQ (K:=KK w.params) 997 "now" "Moot.now" Zdk 778 777 pm5 (by walk_at "k")
 have Zj8:=hMQ (K:=KK w.params) 997 "roll" "Moot.roll" Zff 783 782 pm5 (by walk_at "k")
 have Zka:=hMQ (K:=KK w.params) 997 "owed" "Moot.owed" Zba 921 920 pm5 (by walk_at "k")
 have Zkd:=hMQ (K:=KK w.params) 997 "then" "Moot.then" V7 942 941 pm5 (by walk_at "k")
 have Zj9:=hMQ (K:=KK w.params) 997 "counting" "Moot.counting" Zdm 947 946 pm5 (by walk_at "k")
 have Zj0:=hMQ (K:=KK w.params) 997 "check_named" "Moot.check_named" Us 973 972 pm5 (by walk_at "k")
 have Zjy:=hMQ (K:=KK w.params) 997 "check_thing" "Moot.check_thing" Zcn 980 979 pm5 (by walk_at "k")
 have Zcm:=hMQ (K:=KK w.params) 997 "check_moments" "Moot.check_moments" Zaj 994 993 pm5 (by walk_at "k")
 have TcMoot:TxCMoot (KK w.params) 997:=by
  refine ⟨⟨?_,?_,?_,?_⟩,?_,?_,?_,?_,?_,?_,?_,?_,?_⟩ <;> (show _=_; kernel_rfl)
 have mkMoot:PySem.W.makesIn (KK w.params) 997=true:=by kernel_rfl
 have kcMoot:PySem.W.keepIn (KK w.params) (.ref 997)=true:=by kernel_rfl
 have gCMoot:mg "Moot" = some (.ref 997):=PySem.W.mg_of X G (by kernel_rfl)
 have Zki:=hMQ (K:=KK w.params) 1046 "__init__" "Past.__init__" Zdq 1015 1014 pm6 (by walk_at "k")
 have Zke:=hMQ (K:=KK w.params) 1046 "does" "Past.does" Zbc 1022 1021 pm6 (by walk_at "k")
 have Zkf:=hMQ (K:=KK w.params) 1046 "undo" "Past.undo" Zcb 1029 1028 pm6 (by walk_at "k")
 have Zkg:=hMQ (K:=KK w.params) 1046 "redo" "Past.redo" Zcc 1036 1035 pm6 (by walk_at "k")
 have Zkh:=hMQ (K:=KK w.params) 1046 "waiting" "Past.waiting" Zdp 1043 1042 pm6 (by walk_at "k")
 have TcPast:TxCPast (KK w.params) 1046:=by
  refine ⟨⟨?_,?_,?_,?_⟩,?_,?_⟩ <;> (show _=_; kernel_rfl)
 have mkPast:PySem.W.makesIn (KK w.params) 1046=true:=by kernel_rfl
 have kcPast:PySem.W.keepIn (KK w.params) (.ref 1046)=true:=by kernel_rfl
 have gCPast:mg "Past" = some (.ref 1046):=PySem.W.mg_of X G (by kernel_rfl)
 have er:Er (KK w.params) mg cE errs:=Z4l X G (by kernel_rfl)
 have al_owed_dues:mg "owed_dues" = mg "owed" := (PySem.W.mg_of X G (by kernel_rfl):mg "owed_dues" = some (.ref 419)).trans (PySem.W.mg_of X G (by kernel_rfl):mg "owed" = some (.ref 419)).symm
 have al_breakers_stands:mg "breakers_stands" = mg "breakers" := (PySem.W.mg_of X G (by kernel_rfl):mg "breakers_stands" = some (.ref 651)).trans (PySem.W.mg_of X G (by kernel_rfl):mg "breakers" = some (.ref 651)).symm
 have c_LAST_DAY:mg "LAST_DAY" = some (.int 9999 704):=PySem.W.mg_of X G (by kernel_rfl)
 have c_MOST_WEIGHT:mg "MOST_WEIGHT" = some (.int 1000 706):=PySem.W.mg_of X G (by kernel_rfl)
 have c_MOST_MONEY:mg "MOST_MONEY" = some (.int 1000000 710):=PySem.W.mg_of X G (by kernel_rfl)
 have c_LONGEST_NAME:mg "LONGEST_NAME" = some (.int 12 742):=PySem.W.mg_of X G (by kernel_rfl)
 have c_MOST_FOLK:mg "MOST_FOLK" = some (.int 40 758):=PySem.W.mg_of X G (by kernel_rfl)
 have c_MOST_THINGS:mg "MOST_THINGS" = some (.int 40 1053):=PySem.W.mg_of X G (by kernel_rfl)
 have c_MOST_MOMENTS:mg "MOST_MOMENTS" = some (.int 400 1059):=PySem.W.mg_of X G (by kernel_rfl)
 have T:Txt mg:=⟨PySem.W.mg_none_of X G (by kernel_rfl),PySem.W.mg_none_of X G (by kernel_rfl),PySem.W.mg_none_of X G (by kernel_rfl),PySem.W.mg_none_of X G (by kernel_rfl),PySem.W.mg_none_of X G (by kernel_rfl),PySem.W.mg_none_of X G (by kernel_rfl),PySem.W.mg_none_of X G (by kernel_rfl),PySem.W.mg_none_of X G (by kernel_rfl),PySem.W.mg_none_of X G (by kernel_rfl),PySem.W.mg_none_of X G (by kernel_rfl),PySem.W.mg_none_of X G (by kernel_rfl)⟩
 exact ⟨PySem.W.fnOf "law" "law" (Wk Yq) (Yi Yq) (Zb Yq) .none .none .none (.str "law_forsworn_k59_whole_long_pasts" 1579) none (.ref 1155) .none,fun s v=>.of_eq rfl,fun base _ _=>by
  have F1:=Z4x (P:=Pz) (w:=w) (base:=base) Zi5 T
  have F2:=Z4z (P:=Pz) (w:=w) (base:=base) Zi6 T
  have F3:=Z43 Zi7 T F2
  have F4:=Z46 (P:=Pz) (w:=w) (base:=base) Zi8 T
  have F5:=Z5b Zi9 T F2 F3 F4
  have F8:=Zr1 V3 T (Z4p (P:=Pz) (w:=w) (base:=base) Zi3 T) 4
  have F9:=Z5h (P:=Pz) (w:=w) (base:=base) Zjb T ⟨_,c_LONGEST_NAME⟩
  have F10:=Z5l (P:=Pz) (w:=w) (base:=base) Zjd ⟨_,c_LAST_DAY⟩
  have F11:=Z5p (P:=Pz) (w:=w) (base:=base) Zje ⟨_,c_MOST_WEIGHT⟩
  have F12:=Z7c (P:=Pz) (w:=w) (base:=base) Zjx ⟨_,c_MOST_MONEY⟩
  have M1:=Z5t (P:=Pz) (w:=w) (mg:=mg) (base:=base) Zjf TcFolk
  have M2:=Z5y (P:=Pz) (w:=w) (mg:=mg) (base:=base) Zjg TcFolk
  have M3:=Z51 (P:=Pz) (w:=w) (mg:=mg) (base:=base) Zjh TcFolk
  have M3b:=Z53 Zji TcFolk M3
  have M6:=Z6e Zjk T TcFolk ⟨_,c_MOST_FOLK⟩ F9 F10 F11
  have M7:=Z6h Zjm TcFolk M6
  have M2b:=Z6x (P:=Pz) (w:=w) (mg:=mg) (base:=base) Zjq TcFolk
  have M2c:=Z6m Zjn TcFolk M3
  have M8:=Z6r Zjo TcFolk F10 F11 M1 M2 M2c
  have M9:=Z6t Zjp TcFolk M8
  have M0:=(Z55 (P:=Pz) (w:=w) (mg:=mg) (base:=base) Zjj TcFolk).mks mkFolk kcFolk gCFolk
  have F21:=Z6z (P:=Pz) (w:=w) (base:=base) Zjs
  have F22:=Z61 (P:=Pz) (w:=w) (base:=base) Zjt
  have F23:=Z65 Zjv T TcFolk M3b F21 F22
  have N1:=fun C=>Zum (P:=Pz) (w:=w) (base:=base) (C:=C) Zcm T TcMoot ⟨_,c_MOST_MOMENTS⟩
  have N1B:=fun C=>Zuk (P:=Pz) (w:=w) (base:=base) (C:=C) Zcm T TcMoot ⟨_,c_MOST_MOMENTS⟩ er
  have N2:=fun C=>Zuq (P:=Pz) (w:=w) (mg:=mg) (base:=base) (C:=C) Zjy T TcMoot
  have N3:=Zur Zj0 TcFolk TcMoot M1 M2 M2c (N2 _)
  have N0:=(Z1e Zj2 TcMoot M0).mks mkMoot kcMoot gCMoot
  have N4:=Z1d Zjz TcFolk TcMoot M6 M7 (N1 _)
  have N5:=Z1f Zj3 TcFolk TcMoot M8 M9 (N1 _)
  have N6:=Zv2 Zco T TcFolk TcMoot M1 M2b (N1 _)
  have N6B:=Zvb Zco T TcFolk TcMoot M1 M2b (N1B _)
  have N7:=Zzd Zj1 T TcMoot ⟨_,c_MOST_THINGS⟩ F10 N3 (N1 _)
  have N8:=Z1g Zj5 TcMoot F10 N3 (N1 _)
  have N9:=Z3p Zj4 TcMoot F12 F10 N3 (N1 _)
  have F30:=Z8d Zca TcMoot N4 N5 N6 N7 N8 N9
  have F31:=Z8h Zca TcMoot er N4 N5 N6B N7 N8 N9
  have F32:=F30.toX.or F31
  have N10:=fun C=>Z3q (P:=Pz) (w:=w) (base:=base) (C:=C) Zj6 T TcMoot
  have N11:=fun C=>Z1h (C:=C) Zj8 TcMoot (Z71 (P:=Pz) (w:=w) (base:=base) Zj7 T)
  have N12:=fun C=>Zva (P:=Pz) (w:=w) (mg:=mg) (base:=base) (C:=C) Zj9
  have N13:=Z1i Zka TcMoot F10 (N12 _) (Fn.alias F23 al_owed_dues)
  have N14:=Z1j Zkd T TcMoot N0 F30
  have P0:=(Z1p Zki TcPast N0).mks mkPast kcPast gCPast
  have P1:=Z1m Zke TcPast F32
  have P2:=Z1n Zkf TcPast TcMoot er (N10 _) (N11 _) N14
  have P3:=Z1o Zkg TcPast er F32
  have P4:=fun C CM=>Zv3 (P:=Pz) (w:=w) (base:=base) (C:=C) (CM:=CM) Zkh T TcPast
  have F40:=Z8v (P:=Pz) (w:=w) (base:=base) Zkk T (PySem.W.mg_of X G (by kernel_rfl)) (kS:=Zmm) (dS:=1051) ⟨⟨3,by kernel_rfl⟩,by decide +kernel,by decide⟩ Z1s
  have F41:=Z8z (P:=Pz) (w:=w) (base:=base) Zkl T
  have F42:=fun C=>Z82 (C:=C) Zkm TcMoot (N11 _) F40
  have F43:=Z87 Zkn TcPast er P2 P3
  have F44:=Z9c Zko TcPast er P1
  have F45:=Z9g (P:=Pz) (w:=w) (base:=base) Zkq T
  have F46:=Z9k Zkr T F2 F5
  have F47:=Z9q Zks TcPast TcMoot F8 (N11 _) (P4 _ _) (F42 _) F41 N13 F45
  exact (Z9y F_law T F1 F2 P0 F46 F44 F43 F47).mono (by decide)⟩
end Law
open PySem PySem.W PyProof.Rows
set_option maxRecDepth 100000 in
set_option maxHeartbeats 0 in
theorem PySem.Challenge.cw_forsworn_k59_whole_long_pasts_holds : PySem.Challenge.rw_forsworn_k59_whole_long_pasts.Holds := by
 w_on; o_law
 refine holds_open (q:=Law.q) (loose:=["owed_dues", "breakers_stands", "SWORN"]) (Xt:=fun s=>xlAt Law.q [] s && recOk (RowW.records PySem.Challenge.rw_forsworn_k59_whole_long_pasts.row.toRowW) s) (XP:=XL Law.q []) (Yf:=Law.HK.obs) (Ya:=Law.HK.val) (YP:=Law.HK.says) (N:=13565) Law.left Law.HK.of Law.HK.keeps (fun s e=>xl_of s (Bool.and_eq_true_iff.mp e).1) XL.keeps (by rfl) (by rfl) (by rfl) (fun s e=>recFacts_of (Bool.and_eq_true_iff.mp e).2) (by rfl) (by first | assumption | decide +kernel) (by decide +kernel) ⟨rfl,rfl,rfl,rfl,rfl,by decide +kernel⟩ ?hw ?hc
 case hw=>w_witness2
 refine L2.walkLaw (l:=PySem.Challenge.rw_forsworn_k59_whole_long_pasts) rfl rfl (fun w h Y=>PySem.W.kIn_of (K:=Law.KK) Y) fun w mg fa h KX G hmg=>Law.all_mk KX G hmg
namespace Law
end Law
