import PyProof.Rows.All
import Wide.All
import OpenK.AllK
import Wide.FinOn
import Lean
import PyProof.EqAt
import PyProof.EqKinds
import PyProof.TupleCall
import KE.KSortTup
import PyProof.NeKinds
import KE.KLam
import KE.KNestM
import KE.KSortKey
import PyProof.ExcArgsOwn
import PyProof.ExcAttrAll.ValueError
import KE.KIsAll
import KE.KIntText
import PyProof.Rows.StrNews
import PyProof.Rows.StrSplitCount
import PyProof.Rows.SetFrom
import PyProof.Conv_int_bool
import PySem.Challenge.RW_forsworn_k58_each_refusal_by_itself
set_option Elab.async false
set_option linter.all false
set_option maxRecDepth 100000
set_option maxHeartbeats 4000000
abbrev xA:=@List.length_map
abbrev xB:=@List.getElem?_eq_getElem
abbrev xC:=@List.mem_cons
abbrev xD:=@Option.none_or
abbrev xE:=@Nat.le_refl
abbrev xF:=@PySem.Heap.get?_push_of_some
abbrev xG:=@List.getElem?_eq_some_iff
abbrev xH:=@List.mem_append
abbrev xI:=@List.mem_singleton
abbrev xJ:=@List.length_append
abbrev xK:=@List.mem_append_right
abbrev xL:=@List.size_toArray
abbrev xM:=@Bool.false_ne_true
abbrev xN:=@PySem.Heap.lt_size
abbrev xO:=@List.mem_of_getElem?
abbrev xP:=@List.getElem?_map
abbrev xQ:=@List.map_append
abbrev xR:=@List.getD_eq_getElem?_getD
abbrev xS:=@Nat.le_trans
abbrev xT:=@List.cons_append
abbrev xU:=@List.length_cons
abbrev xV:=@List.map_cons
abbrev xW:=@PySem.Heap.get?_push_size
abbrev xX:=@List.mem_cons_of_mem
abbrev xY:=@List.length_take
abbrev xZ:=@Nat.lt_of_lt_of_le
abbrev yC:=@Nat.ne_of_lt
abbrev yD:=@List.mem_cons_self
abbrev yE:=@Option.map_eq_some_iff
abbrev yF:=@List.nodup_cons
abbrev yG:=@List.not_mem_nil
abbrev yH:=@decide_eq_false
abbrev yI:=@decide_eq_true
abbrev yJ:=@Bool.and_eq_true
abbrev yK:=@List.lookup_cons
abbrev yL:=@Nat.zero_le
abbrev yM:=@List.mem_append_left
abbrev yN:=@List.append_nil
abbrev yO:=@Int.eq_ofNat_of_zero_le
abbrev yP:=@List.take_add_one
abbrev yQ:=@List.replicate_succ
abbrev yR:=@Int.toNat_natCast
abbrev yS:=@List.mem_map
abbrev yT:=@Nat.lt_of_le_of_lt
abbrev yU:=@Option.bind_some
abbrev yV:=@List.take_of_length_le
abbrev yW:=@List.append_assoc
abbrev yX:=@List.of_mem_zip
abbrev yY:=@List.getElem?_zip_eq_some
abbrev yZ:=@List.take_length
abbrev zA:=@List.length_range
abbrev zB:=@Bool.eq_iff_iff
abbrev zC:=@List.nil_append
abbrev zD:=@List.find?_cons
abbrev zE:=@List.all_eq_true
abbrev zF:=@List.mem_of_mem_take
abbrev zG:=@Option.isSome_iff_exists
abbrev zH:=@Bool.false_and
abbrev zI:=@Nat.le_of_lt
abbrev zJ:=@Bool.false_eq_true
abbrev zK:=@List.length_singleton
abbrev zL:=@Array.getElem?_toList
abbrev zM:=@Option.or_eq_none_iff
abbrev zN:=@Nat.lt_irrefl
abbrev zO:=@List.getElem?_append_right
abbrev zP:=@Array.getElem?_eq_some_iff
abbrev zQ:=@List.flatten_cons
abbrev zR:=@List.nodup_append
abbrev zS:=@PySem.Heap.size_push
abbrev zT:=@List.getElem_mem
abbrev zU:=@List.getElem?_range
abbrev zV:=@Option.map_some
abbrev zW:=@List.mem_filter
abbrev zX:=@PySem.Heap.get?_update_other
abbrev zY:=@Nat.le_succ_of_le
abbrev zZ:=@List.length_filter_le
abbrev wA:=@List.mem_range
abbrev uFg:=PySem.W.Frag
section
namespace L2
open PySem PySem.W
def topRunT(tb:String->Option Builtin)(p:Program)(w:World)(m:Nat)(ann:Option Value):Nat->SharedT->Thread->Option SharedT
 | 0,_,_=>none
 | n+1,s,t=>match through t with
  | true=>some s
  | false=>match stepOk m ann t with
   | false=>none
   | true=>match stepT (denote tb) p w s t with
    | some x=>topRunT tb p w m ann n x.1 x.2
    | none=>none
theorem Zeo{tb:String->Option Builtin}{p:Program}{w:World}{m:Nat}{ann:Option Value}:∀{n:Nat}{s r:SharedT}{t:Thread},topRunT tb p w m ann n s t=some r->topRun tb p w m ann n s.abs t=some r.abs
 | 0,s,r,t,h=>by cases h
 | n+1,s,r,t,h=>by
  unfold topRunT at h
  unfold topRun
  cases a:through t with
  | true=>rw[a] at h;cases h;rfl
  | false =>
   rw[a] at h
   cases b:stepOk m ann t with
   | false=>rw[b] at h;cases h
   | true =>
    rw[b] at h
    cases c:stepT (denote tb) p w s t with
    | none=>rw[c] at h;cases h
    | some x=>obtain⟨s2,t2⟩:=x;rw[c] at h;dsimp only at h ⊢;rw[stepT_spec c];exact Zeo h
def Zd7:List Obj->Nat->BT->BT
 | [],_,t=>t
 | o::r,i,t=>Zd7 r (i+1) (t.ins i o)
noncomputable def s0T (P:Params) (os:OsState):SharedT:=⟨Zd7 (boot_heap P).objs.toList 0 .nil,11,(boot_heap P).life,#[],boot_drawn,boot_toks,os⟩
noncomputable def seenT {α:Type}(p q:Program) (loose:List Str) (Xt:Shared->Bool) (Yf:Shared->α) (P:Params) (s:Shared) :=
 (staticsOk (importedModules p.main.body) (boot_heap P) s.heap && namesBound p s.heap && gensDone s && laidKept (boot_heap P) s.heap,openSeen q loose (importedModules p.main.body) Xt true s,Yf s)
theorem Zka(P:Params)(os:OsState):(s0T P os).abs=⟨boot_heap P,#[],boot_drawn,boot_toks,os⟩:=by kernel_rfl
theorem Zi9(P:Params):((boot_heap P).isNs mainGlobals && (#[]:Array GenState).size == 0,(boot_heap P).objs.size,(boot_heap P).nsMap mainGlobals "__annotations__")=(true,11,some (.ref 6)):=by kernel_rfl
theorem Z1w{p q:Program}{loose:List Str}{Xt:Shared->Bool}{α:Type}{Yf:Shared->α}{Ya:World->α}{N:Nat}(e:opening p=plainProg p.main.scope.names)(hN:Nat.ble 600 N=true)(f:∀s,fenceModules? p s=some s)(run:∀ (w:World) (os:OsState),(topRunT treeTable p w 11 (some (.ref 6)) N (s0T w.params os) (topStub p)).map (fun s=>seenT p q loose Xt Yf w.params s.abs)=some (true,openGood q loose,Ya w)):LeftO p q loose Xt Yf Ya N:=fun w=>by
 obtain⟨⟨h,gs,d,k,os⟩,e1,e2⟩:=yE.mp (boot_open e hN f w)
 obtain⟨rfl,rfl,rfl,rfl⟩:h=boot_heap w.params/\gs = #[]/\d=boot_drawn/\k=boot_toks:=by simpa using e2
 obtain⟨s,r1,r2⟩:=yE.mp (run w os)
 unfold seenT at r2
 obtain⟨l1,l2,l3⟩:_/\_/\_:=by simpa only [Prod.mk.injEq] using r2
 have r:=Zeo r1
 rw[Zka] at r
 obtain⟨z1,z2,z3⟩:_/\_/\_:=by simpa only [Prod.mk.injEq] using Zi9 w.params
 have t:topFrom treeTable p w N ⟨boot_heap w.params,#[],boot_drawn,boot_toks,os⟩=some s.abs:=by
  unfold topFrom
  dsimp only
  rw[z1,z2,z3,r]
  show (match staticsOk (importedModules p.main.body) (boot_heap w.params) s.abs.heap && namesBound p s.abs.heap && gensDone s.abs && laidKept (boot_heap w.params) s.abs.heap with | true=>some s.abs | false=>none)=_
  rw[l1]
 unfold openEnds
 rw[e1]
 show (topFrom treeTable p w N _).map _=_
 rw[t]
 exact congrArg some (Prod.ext l2 l3)
def Zq(p:Program)(i:Nat):Stmt:=p.main.body.getD i (.Pass ⟨0,0,0,0⟩)
def hIn(s:Stmt)(j:Nat):Stmt:=match s with
 | .ClassDef _ _ _ b _ _ _ _ _ _ _=>b.getD j (.Pass ⟨0,0,0,0⟩)
 | _=>s
def Zlk(s:Stmt):Arguments:=match s with
 | .FunctionDef _ a _ _ _ _ _ _ _ _=>a
 | _=>⟨[],[],none,[],[],none,[]⟩
def Zll(s:Stmt):List Stmt:=match s with
 | .FunctionDef _ _ b _ _ _ _ _ _ _=>b
 | _=>[]
def Zks(s:Stmt):Scope:=match s with
 | .FunctionDef _ _ _ _ _ _ c _ _ _=>c
 | _=>{kind:=.function,names:=[],isGenerator:=false,isCoroutine:=false }
def de(P:Params)(n:Str)(t:Tok)(v:Value):DictEntry:=⟨PyData.keyHash P n,.str n t,v⟩
def kFn(n q:Str)(st:Stmt)(pm:Value)(c:Addr):Obj:=⟨.type "function", none,.func (PySem.W.fnOf n q (Zlk st) (Zll st) (Zks st) .none .none .none pm none (.ref c) .none),#[]⟩
def kC(n q:Str)(t l a u:Nat)(r s v x y:Value):Obj:=⟨.type "code", none,.fields #[.str n t,.str q (t+1),.str "/claim/cut.py" (t+2),.int l 0,.int a 0,.int 0 0,.int 0 0,.int 3 0,r,.bool true,.int 181 0,s,.none,v,x,y,.int u 0,.int l 0,.str "/claim/cut.py" (u+1)],#[]⟩
def kg(c:Nat)(n q:Str)(t l a u:Nat)(st:Stmt)(pm:Value)(r:uFg):uFg:=(c,kC n q t l a u (.ref (c - 5)) (.ref (c - 4)) (.ref (c - 3)) (.ref (c - 2)) (.ref (c - 1)))::(c+1,kFn n q st pm c)::r
def kg0(c:Nat)(n q:Str)(t l a u:Nat)(st:Stmt)(pm:Value)(r:uFg):uFg:=(c,kC n q t l a u (.ref (c - 3)) (.ref (c - 2)) .none .none (.ref (c - 1)))::(c+1,kFn n q st pm c)::r
def kE(P:Params)(a:Nat)(n:Str)(l t:Nat)(r:uFg):uFg:=(a,⟨.type "dict", none,.dict #[de P "__module__" t (.str "forsworn.errors" 194),de P "__firstlineno__" (t+4) (.int l (t+3)),de P "called" (t+11) (.ref (a - 2)),de P "__static_attributes__" (t+12) (.ref (a - 1)),de P "__doc__" (t+13) .none] 2,#[]⟩)::(a+1,⟨.type "type", none,.cls {name:=n,bases:=[.ref 38],mro:=[.ref (a+1),.ref 38,.type "ValueError", .type "Exception", .type "BaseException", .type "object"],ns:=a,qualname:=n,hasDict:=true,slotNames:=[],subclasses:=[],abstract:=false,collection:=none,hasDel:=false },#[some (.ref (a - 15)),none,some (.str n (t - 7)),some (.str n (t+1)),some (.builtin "ValueError.__new__"),some (.bool true)]⟩)::r
def kpO(x:Addr×Obj)(r:uFg):uFg:=x::r
def kf(c:Nat)(n:Str):=kg c n n
def kf0(c:Nat)(n:Str):=kg0 c n n
end L2
namespace PySem.W.Fast
noncomputable def tw14598715356260435866:PySem.Params->PySem.Obj:=PySem.W.boot_o_0
theorem te14598715356260435866:PySem.W.boot_o_0=tw14598715356260435866:=rfl
end PySem.W.Fast
lay_quick L2.topRunT L2.s0T L2.seenT
end
section
namespace L2
open PySem PySem.W PyProof.Rows
abbrev p0:Pos:=⟨0,0,0,0⟩
def Zc1(p:Program):Env:={scope:=p.main.scope,locals:=mainNs,globals:=mainNs,cells:=[],code:=.ref 13,frame:=some 14 }
def cP(p:Program):Code:=.body (behindTheImports p) (Zc1 p)
def Zdr(tb:String->Option Builtin)(p:Program)(w:World)(m:Nat)(ann:Option Value):Nat->SharedT->Thread->Option (SharedT×Thread)
 | 0,s,t=>some (s,t)
 | n+1,s,t=>match through t with
  | true=>none
  | false=>match stepOk m ann t with
   | false=>none
   | true=>match stepT (denote tb) p w s t with
    | some x=>Zdr tb p w m ann n x.1 x.2
    | none=>none
theorem Zja{tb:String->Option Builtin}{p:Program}{w:World}{m:Nat}{ann:Option Value}:∀{n:Nat}{s r:SharedT}{t u:Thread},Zdr tb p w m ann n s t=some (r,u)->topGo tb p w m ann n s.abs t=some (r.abs,u)
 | 0,s,r,t,u,h=>by cases h;rfl
 | n+1,s,r,t,u,h=>by
  unfold Zdr at h
  unfold topGo
  cases a:through t with
  | true=>rw[a] at h;cases h
  | false =>
   rw[a] at h
   cases b:stepOk m ann t with
   | false=>rw[b] at h;cases h
   | true =>
    rw[b] at h
    cases c:stepT (denote tb) p w s t with
    | none=>rw[c] at h;cases h
    | some x=>obtain⟨s2,t2⟩:=x;rw[c] at h;dsimp only at h ⊢;rw[stepT_spec c];exact Zja h
def preP(p:Program)(w:World)(s:SharedT):Option (SharedT×Thread):=Zdr treeTable p w 11 (some (.ref 6)) 12 s (topStub p)
def stubT(p:Program):Thread:=⟨denote treeTable (cP p),cP p,p0,[topFrame p0]⟩
def blkP(p:Program)(w:World)(s:SharedT):Option (Flow×SharedT×Code×Pos):=segRunT treeTable p w 11 (some (.ref 6)) 1 1 s (blockOf (behindTheImports p) (Zc1 p) (cP p) p0 [topFrame p0])
def segP(p:Program)(w:World)(n k j:Nat)(pos:Pos)(s:SharedT):Option (Flow×SharedT×Code×Pos):=segRunT treeTable p w 11 (some (.ref 6)) 1 n s (piecesOf (((behindTheImports p).drop k).take j) (Zc1 p) (cP p) pos [topFrame p0])
def topQ(p:Program)(w:World)(n k:Nat)(pos:Pos)(s:SharedT):Option SharedT:=topRunT treeTable p w 11 (some (.ref 6)) n s (restOf ((behindTheImports p).drop k) (Zc1 p) (cP p) pos [topFrame p0])
def vI(n:Nat):Value:=.int n 0
def tuO(l:List Value):Obj:=⟨.type "tuple", none,.seq l.toArray 0,#[]⟩
def fdO(c:Value)(l:List Value):Obj:=⟨c,none,.fields l.toArray,#[]⟩
def diO(l:List DictEntry)(n:Nat):Obj:=⟨.type "dict", none,.dict l.toArray n,#[]⟩
def cut(t:Nat):Value:=.str "/claim/cut.py" t
def mdl:Value:=.str "forsworn.errors" 194
def cdO(n q:Str)(b l:Nat)(ar fl:Nat)(fn:Bool)(a:Nat)(r:List Value):Obj:=fdO (.type "code") ([.str n b,.str q (b+1),cut (b+2),vI l,vI ar,vI 0,vI 0,vI fl,.ref a,.bool fn,vI 181,.ref (a+1)]++r ++ [vI (if fn then b+4 else b+3),vI l,cut (if fn then b+5 else b+4)])
def fn0(n q:Str)(st:Stmt):Obj:=⟨.none,none,.func {name:=n,qualname:=q,params:=Zlk st,body:=.stmts (Zll st),scope:=Zks st,globals:=0,closure:=[],defaults:=.none,kwdefaults:=.none },#[]⟩
def Znr(P:Params)(a b l:Nat)(st:Stmt)(bs:Value)(dc:Nat)(more:List DictEntry)(cl:Obj)(n q:Str)(hd:List Obj)(tl:List Obj):List Obj :=
 let one:=[de P "__module__" (b+7) mdl]
 let two:=[de P "__firstlineno__" (b+11) (.int l (b+10)),de P "called" (b+18) (.ref (a+13)),de P "__static_attributes__" (b+19) (.ref (a+14))]
 hd ++ [tuO [bs],fdO (.type "builtin_function_or_method") [.builtin "type.__prepare__", .type "type"],diO (one ++ [de P "__qualname__" (b+9) (.str n (b+8))]++two) 5,tuO [],fdO .none [vI (l+2),vI 4,.ref (a+12)],
  cdO n n (b+2) l 0 0 false (a+3) [.none,.none,.none,.none],⟨.type "frame", none,.plain,#[some (.ref (a+5)),some (.ref 3),some (.ref (a+2)),none,some mdl,none,some (.ref 0)]⟩,
  tuO [],fdO .none [],tuO [.str "self" (b+15)],tuO [],fn0 "called" q st,cdO "called" q (b+12) (l+2) 1 3 true (a+7) [.none,.ref (a+9),.ref (a+10),.ref (a+11)],
  kFn "called" q st mdl (a+12),tuO [],diO (one++two++more) dc,cl]++tl ++ [fdO (.type "super") [.ref (a+16),.ref (a+16),.ref (a+16)],fdO (.type "builtin_function_or_method") [.builtin "object.__init_subclass__", .ref (a+16)]]
def tyO(a b:Nat)(n:Str)(bs:List Value)(mro:List Value)(sub:List Value):Obj:=⟨.type "type", none,.cls {name:=n,bases:=bs,mro:=.ref (a+16)::mro,ns:=a+15,qualname:=n,hasDict:=true,slotNames:=[],subclasses:=sub,abstract:=false,collection:=none,hasDel:=false },
 #[some (.ref a),none,some (.str n b),some (.str n (b+8)),some (.builtin "ValueError.__new__"),some (.bool true)]⟩
def Zns:List Value:=[.type "ValueError", .type "Exception", .type "BaseException", .type "object"]
def Z0p(P:Params)(p:Program)(j:Nat)(x:Str×Str):List Obj:=let a:=42+19 * j;let b:=221+23 * j;let l:=9+4 * j
 Znr P a b l (hIn (Zq p (3+j)) 0) (.ref 38) 2 [de P "__doc__" (b+20) .none] (tyO a b x.1 [.ref 38] (.ref 38::Zns) []) x.1 x.2 [] []
def num{α:Type}:Nat->List α->List (Nat × α)
 | _,[]=>[]
 | i,x::r=>(i,x)::num (i+1) r
noncomputable def Z0q (p:Program) (P:Params) (ns:List (Str×Str)):List Obj:=let w:=Zq p 0
  [boot_o_0 P,boot_o_1 P,boot_o_2 P,
   diO ([de P "__name__" 165 mdl,de P "__doc__" 166 .none,de P "__package__" 167 .none,de P "__loader__" 168 (.builtin "__main__.__loader__#opaque"),de P "__spec__" 169 .none,de P "__annotations__" 170 (.ref 6),de P "__builtins__" 171 (.ref 4),de P "__file__" 173 (cut 172),de P "__cached__" 174 .none,de P "_wall" 193 (.ref 21),de P "MootError" 220 (.ref 38)]++(num 0 ns).map fun x=>de P x.2.1 (243+23 * x.1) (.ref (58+19 * x.1))) (11+ns.length),
   boot_o_4 P,boot_o_5 P,boot_o_6 P,boot_o_7 P,boot_o_8 P,boot_o_9 P,boot_o_10 P,tuO [],fdO .none ([vI 1,vI 0,.ref 20,vI 5,vI 0,.ref 27]++((num 0 ns).map fun x=>[vI (9+4 * x.1),vI 0,.ref (47+19 * x.1)]).flatten),
   cdO "<module>" "<module>" 182 1 0 0 false 11 [.none,.none,.none,.none],⟨.type "frame", none,.plain,#[some (.ref 13),some (.ref 3),some (.ref 3),none,some (.str "__main__" 164),none,some (.ref 0)]⟩,
   tuO [],fdO .none [],tuO [.str "k" 190],tuO [],fn0 "_wall" "_wall" w,cdO "_wall" "_wall" 187 1 1 3 true 15 [.none,.ref 17,.ref 18,.ref 19],kFn "_wall" "_wall" w (.str "__main__" 164) 20] ++
  Znr P 22 196 5 (hIn (Zq p 2) 0) (.type "ValueError") 3 [de P "__weakref__" 217 (.ref 39),de P "__doc__" 218 .none] (tyO 22 196 "MootError" [.type "ValueError"] Zns ((num 0 ns).map fun x=>.ref (58+19 * x.1))) "MootError" "MootError.called" [] [fdO (.type "getset_descriptor") [.str "__weakref__" 216,.ref 38,.builtin "ExceptionGroup.__weakref__", .none]] ++
  ((num 0 ns).map fun x=>Z0p P p x.1 x.2).flatten
noncomputable def errS (p:Program) (ns:List (Str×Str)) (P:Params) (os:OsState):SharedT:=⟨Zd7 (Z0q p P ns) 0 .nil,42+19 * ns.length,(boot_heap P).life,#[],boot_drawn,221+23 * ns.length,os⟩
noncomputable def stubS (P:Params) (os:OsState):SharedT:=⟨Zd7 ((boot_heap P).objs.toList ++ [tuO [],fdO .none [],cdO "<module>" "<module>" 182 1 0 0 false 11 [.none,.none,.none,.none],⟨.type "frame", none,.plain,#[some (.ref 13),some (.ref 3),some (.ref 3),none,some (.str "__main__" 164),none,some (.ref 0)]⟩]) 0 .nil,15,(boot_heap P).life,#[],boot_drawn,187,os⟩
def Reach(p:Program)(w:World)(os:OsState)(M:Nat)(s:SharedT)(k:Nat)(pos:Pos):Prop:=∀(N:Nat)(r:Shared),
 topRun treeTable p w 11 (some (.ref 6)) N s.abs (restOf ((behindTheImports p).drop k) (Zc1 p) (cP p) pos [topFrame p0])=some r->topRun treeTable p w 11 (some (.ref 6)) (M+N) (s0T w.params os).abs (topStub p)=some r
theorem Reach.zero{p:Program}{w:World}{os:OsState}(h:preP p w (s0T w.params os)=some (stubS w.params os,stubT p))(b:blkP p w (stubS w.params os)=some (.next,stubS w.params os,cP p,p0)):Reach p w os 13 (stubS w.params os) 0 p0:=fun N r k=>by
 have k':=go_top (Zja h) (piece_block (segRun_of b) k)
 rwa [← Nat.add_assoc] at k'
theorem Reach.step{p:Program}{w:World}{os:OsState}{M k:Nat}{s s':SharedT}{pos pos':Pos}(R:Reach p w os M s k pos)(n j:Nat)(h:segP p w n k j pos s=some (.next,s',cP p,pos')):Reach p w os (M+n) s' (k+j) pos':=fun N r x=>by
 rw[Nat.add_assoc]
 refine R _ r ?_
 rw[← List.take_append_drop j ((behindTheImports p).drop k),List.drop_drop]
 exact piece_app (segRun_of h) x
section
variable(p q:Program)(loose:List Str)(Xt:Shared->Bool)
noncomputable def sn0 (P:Params) (s:SharedT):Bool:=staticsOk (importedModules p.main.body) (boot_heap P) s.abs.heap && namesBound p s.abs.heap && gensDone s.abs && laidKept (boot_heap P) s.abs.heap
def sn1(s:SharedT):=(seen ((recsOf q).map (·.name)) (ownsOf q) [] {s.abs with gens:=#[] },s.abs.heap.bltView)
def sn2(s:SharedT):Bool:=s.abs.heap.keysOk (looseW q loose) ((recsOf q).map (·.name)) ((litsOf q).map (·.1)) ((clssOf q (looseW q loose)).map (·.name)) && s.abs.heap.accountedOkI (importedModules p.main.body) && s.abs.heap.isNs mainGlobals && s.abs.heap.isNs builtinsNs && tablesOk q s.abs.heap && Xt s.abs && (if true then s.abs.gens.size == 0 else !leftWithCleanup s.abs.gens)
def sn3(s:SharedT):Bool:=tabsOk q s.abs
def sn4(s:SharedT):=pinSeenD q (drecsOf q) s.abs
def sn9(i:Nat)(s:SharedT):=(((plainsOf q (looseW q loose)).drop i).take 1).map fun c=>s.abs.heap.plainShapeAt c.withCmp
def snA(i:Nat)(s:SharedT):=((plainsOf q (looseW q loose)).drop i).map fun c=>s.abs.heap.plainShapeAt c.withCmp
def sn5(s:SharedT):=plainSeenD q loose s.abs
def sn8(s:SharedT):=wideSeen q s.abs
def sn6(s:SharedT):=clsSeenW q loose s.abs
end
def gd9(q:Program)(loose:List Str)(i:Nat):=(((plainsOf q (looseW q loose)).drop i).take 1).map fun c=>some c.withCmp.plainShape
def gdA(q:Program)(loose:List Str)(i:Nat):=((plainsOf q (looseW q loose)).drop i).map fun c=>some c.withCmp.plainShape
theorem Znt{α β:Type}(f : α->β)(l:List α):l.map f=((l.drop 0).take 1).map f++(((l.drop 1).take 1).map f++(l.drop 2).map f):=by
 rcases l with _ | ⟨a,_ | ⟨b,l⟩⟩<;>rfl
theorem Zr6{p q:Program}{loose:List Str}{Xt:Shared->Bool}{α:Type}{Yf:Shared->α}{Ya:World->α}{M N k:Nat}{s:World->OsState->SharedT}{pos:Pos}(e:opening p=plainProg p.main.scope.names)(hN:Nat.ble 600 (M+N)=true)(f:∀s,fenceModules? p s=some s)(R:∀ (w:World) (os:OsState),Reach p w os M (s w os) k pos)(r0:∀ (w:World) (os:OsState),(topQ p w N k pos (s w os)).map (sn0 p w.params)=some true)(r1:∀ (w:World) (os:OsState),(topQ p w N k pos (s w os)).map (sn1 q)=some (expectedOf q,bltViewBooted))(r2:∀ (w:World) (os:OsState),(topQ p w N k pos (s w os)).map (sn2 p q loose Xt)=some true)(r3:∀ (w:World) (os:OsState),(topQ p w N k pos (s w os)).map (sn3 q)=some true)(r4:∀ (w:World) (os:OsState),(topQ p w N k pos (s w os)).map (sn4 q)=some (pinGoodD (drecsOf q)))(r9:∀ (w:World) (os:OsState),(topQ p w N k pos (s w os)).map (sn9 q loose 0)=some (gd9 q loose 0))(rB:∀ (w:World) (os:OsState),(topQ p w N k pos (s w os)).map (sn9 q loose 1)=some (gd9 q loose 1))(rA:∀ (w:World) (os:OsState),(topQ p w N k pos (s w os)).map (snA q loose 2)=some (gdA q loose 2))(r5:∀ (w:World) (os:OsState),(topQ p w N k pos (s w os)).map (sn5 q loose)=some (plainGoodD q loose))(r8:∀ (w:World) (os:OsState),(topQ p w N k pos (s w os)).map (sn8 q)=some (wideGood q))(r6:∀ (w:World) (os:OsState),(topQ p w N k pos (s w os)).map (sn6 q loose)=some (clsGoodW q loose))(r7:∀ (w:World) (os:OsState),(topQ p w N k pos (s w os)).map (fun s=>Yf s.abs)=some (Ya w)):LeftO p q loose Xt Yf Ya (M+N):=fun w=>by
 obtain⟨⟨h,gs,d,k,os⟩,e1,e2⟩:=yE.mp (boot_open e hN f w)
 obtain⟨rfl,rfl,rfl,rfl⟩:h=boot_heap w.params/\gs = #[]/\d=boot_drawn/\k=boot_toks:=by simpa using e2
 obtain⟨s,x,y0⟩:=yE.mp (r0 w os)
 have y1:=r1 w os
 have y2:=r2 w os
 have y3:=r3 w os
 have y4:=r4 w os
 have y5:=r5 w os
 have y9:=r9 w os
 have yA:=rA w os
 have yB:=rB w os
 have y8:=r8 w os
 have y6:=r6 w os
 have y7:=r7 w os
 rw[x,zV,Option.some_inj] at y1 y2 y3 y4 y5 y6 y7 y8 y9 yA yB
 have r:=R w os N _ (Zeo x)
 rw[Zka] at r
 obtain⟨z1,z2,z3⟩:_/\_/\_:=by simpa only [Prod.mk.injEq] using Zi9 w.params
 have t:topFrom treeTable p w (M+N) ⟨boot_heap w.params,#[],boot_drawn,boot_toks,os⟩=some s.abs:=by
  unfold topFrom
  dsimp only
  rw[z1,z2,z3,r]
  show (match staticsOk (importedModules p.main.body) (boot_heap w.params) s.abs.heap && namesBound p s.abs.heap && gensDone s.abs && laidKept (boot_heap w.params) s.abs.heap with | true=>some s.abs | false=>none)=_
  unfold sn0 at y0
  rw[y0]
 unfold openEnds
 rw[e1]
 show (topFrom treeTable p w (M+N) _).map _=_
 rw[t]
 refine congrArg some (Prod.ext ?_ y7)
 have a1:=congrArg Prod.fst y1
 have b1:=congrArg Prod.snd y1
 exact Prod.ext a1 (Prod.ext b1 (Prod.ext y2 (Prod.ext y3 (Prod.ext y4 (Prod.ext ((Znt _ _).trans ((congr (congrArg _ y9) (congr (congrArg _ yB) yA)).trans (Znt _ _).symm)) (Prod.ext y5 (Prod.ext y8 y6)))))))
end L2
lay_quick L2.preP L2.blkP L2.segP L2.topQ L2.errS L2.stubS L2.stubT L2.sn0 L2.sn1 L2.sn2 L2.sn3 L2.sn4 L2.sn5 L2.sn6 L2.sn8 L2.sn9 L2.snA L2.gd9 L2.gdA
end
namespace Law
open PySem L2
def pm0:Value:=(.str "forsworn.deeds" 658)
def pm1:Value:=(.str "forsworn.measures" 675)
def pm2:Value:=(.str "forsworn.oaths" 713)
def pm3:Value:=(.str "forsworn.folk" 729)
def pm4:Value:=(.str "forsworn.stands" 938)
def pm5:Value:=(.str "forsworn.moot" 1024)
def pm6:Value:=(.str "forsworn.past" 1458)
def pm7:Value:=(.str "forsworn.notes" 1520)
def pm8:Value:=(.str "law_forsworn_k58_each_refusal_by_itself" 1625)
def Kp(p:Program)(P:Params):uFg :=
 kpO (3,⟨(.type "dict"),none,(.dict #[de P "__name__" 165 (.str "law_forsworn_k58_each_refusal_by_itself" 1625),de P "__doc__" 166 .none,de P "__package__" 167 .none,de P "__loader__" 168 (.builtin "__main__.__loader__#opaque"),de P "__spec__" 169 .none,de P "__annotations__" 170 (.ref 6),de P "__builtins__" 171 (.ref 4),de P "__file__" 173 (.str "/claim/cut.py" 172),de P "__cached__" 174 .none,de P "_wall" 193 (.ref 21),de P "MootError" 220 (.ref 38),de P "NoName" 243 (.ref 58),de P "NoMeasure" 266 (.ref 77),de P "Unknown" 289 (.ref 96),de P "Taken" 312 (.ref 115),de P "NoThing" 335 (.ref 134),de P "NoCase" 358 (.ref 153),de P "NoOath" 381 (.ref 172),de P "NotYet" 404 (.ref 191),de P "Dead" 427 (.ref 210),de P "NoHeir" 450 (.ref 229),de P "TooMany" 473 (.ref 248),de P "SwornTwice" 496 (.ref 267),de P "Forsworn" 519 (.ref 286),de P "TooLight" 542 (.ref 305),de P "Broken" 565 (.ref 324),de P "NoMoment" 588 (.ref 343),de P "NothingBack" 611 (.ref 362),de P "NothingForth" 634 (.ref 381),de P "NoDeed" 657 (.ref 400),de P "done" 668 (.ref 409),de P "copied" 674 (.ref 414),de P "LAST_DAY" 678 (.int (9999) 677),de P "MOST_WEIGHT" 680 (.int (1000) 679),de P "MOST_NEED" 682 (.int (12000) 681),de P "MOST_MONEY" 684 (.int (1000000) 683),de P "check_day" 691 (.ref 421),de P "check_weight" 698 (.ref 428),de P "check_need" 705 (.ref 435),de P "check_money" 712 (.ref 442),de P "LONGEST_NAME" 716 (.int (12) 715),de P "is_name" 722 (.ref 447),de P "total" 728 (.ref 452),de P "MOST_FOLK" 732 (.int (40) 731),de P "Folk" 937 (.ref 607),de P "ONES" 941 (.int (0) 940),de P "OTHERS" 943 (.int (1) 942),de P "NEED" 945 (.int (2) 944),de P "NAMED" 947 (.int (3) 946),de P "settled" 954 (.ref 618),de P "settled_with" 966 (.ref 625),de P "breakers" 975 (.ref 632),de P "breakers_stands" 976 (.ref 632),de P "breaking" 982 (.ref 637),de P "naming" 993 (.ref 644),de P "check_case" 1001 (.ref 651),de P "check_oath" 1007 (.ref 656),de P "margin_without" 1017 (.ref 663),de P "kept_weight" 1023 (.ref 668),de P "MOST_THINGS" 1027 (.int (40) 1026),de P "MOST_CASES" 1029 (.int (60) 1028),de P "MOST_SWEARERS" 1031 (.int (12) 1030),de P "MOST_MOMENTS" 1033 (.int (400) 1032),de P "Moot" 1457 (.ref 980),de P "Past" 1519 (.ref 1029),de P "MOST_FIGURES" 1523 (.int (9) 1522),de P "PLAIN" 1558 (.ref 1034),de P "SWORN" 1578 (.ref 1042),de P "read_deed" 1590 (.ref 1052),de P "place_of" 1598 (.ref 1059),de P "read_names" 1604 (.ref 1064),de P "read_values" 1610 (.ref 1069),de P "read_value" 1618 (.ref 1076),de P "is_number" 1624 (.ref 1081),de P "_law_src" 1633 (.ref 1088),de P "_law_next" 1643 (.ref 1095),de P "_law_unlike" 1654 (.ref 1102),de P "_law_word" 1660 (.ref 1107),de P "_law_names" 1674 (.ref 1114),de P "_law_pick" 1686 (.ref 1121),de P "_law_does" 1695 (.ref 1128),de P "_law_flags" 1706 (.ref 1135),de P "law" 1712 (.ref 1140)] 83),#[]⟩)<|
 kpO (37,⟨(.type "dict"),none,(.dict #[de P "__module__" 203 (.str "forsworn.errors" 194),de P "__firstlineno__" 207 (.int (5) 206),de P "called" 214 (.ref 35),de P "__static_attributes__" 215 (.ref 36),de P "__weakref__" 217 (.ref 39),de P "__doc__" 218 .none] 3),#[]⟩)<|
 kpO (38,⟨(.type "type"),none,(.cls {name:="MootError", bases:=[(.type "ValueError")],mro:=[(.ref 38),(.type "ValueError"),(.type "Exception"),(.type "BaseException"),(.type "object")],ns:=37,qualname:="MootError", hasDict:=true,slotNames:=[],subclasses:=[(.ref 58),(.ref 77),(.ref 96),(.ref 115),(.ref 134),(.ref 153),(.ref 172),(.ref 191),(.ref 210),(.ref 229),(.ref 248),(.ref 267),(.ref 286),(.ref 305),(.ref 324),(.ref 343),(.ref 362),(.ref 381),(.ref 400)],abstract:=false,collection:=none,hasDel:=false }),#[some (.ref 22),none,some (.str "MootError" 196),some (.str "MootError" 204),some (.builtin "ValueError.__new__"),some (.bool true)]⟩)<|
 kE P 57 "NoName" 9 228<|
 kE P 76 "NoMeasure" 13 251<|
 kE P 95 "Unknown" 17 274<|
 kE P 114 "Taken" 21 297<|
 kE P 133 "NoThing" 25 320<|
 kE P 152 "NoCase" 29 343<|
 kE P 171 "NoOath" 33 366<|
 kE P 190 "NotYet" 37 389<|
 kE P 209 "Dead" 41 412<|
 kE P 228 "NoHeir" 45 435<|
 kE P 247 "TooMany" 49 458<|
 kE P 266 "SwornTwice" 53 481<|
 kE P 285 "Forsworn" 57 504<|
 kE P 304 "TooLight" 61 527<|
 kE P 323 "Broken" 65 550<|
 kE P 342 "NoMoment" 69 573<|
 kE P 361 "NothingBack" 73 596<|
 kE P 380 "NothingForth" 77 619<|
 kE P 399 "NoDeed" 81 642<|
 kf 408 "done" 660 86 2 666 (Zq p 23) pm0<|
 kf 420 "check_day" 685 116 1 689 (Zq p 30) pm1<|
 kf 427 "check_weight" 692 119 1 696 (Zq p 31) pm1<|
 kf 434 "check_need" 699 122 1 703 (Zq p 32) pm1<|
 kf 441 "check_money" 706 125 1 710 (Zq p 33) pm1<|
 kf0 446 "is_name" 717 130 1 720 (Zq p 36) pm2<|
 kf0 451 "total" 723 132 1 726 (Zq p 37) pm2<|
 kg 465 "__init__" "Folk.__init__" 745 138 1 749 (hIn (Zq p 40) 0) pm3<|
 kg 472 "come" "Folk.come" 752 144 4 759 (hIn (Zq p 40) 1) pm3<|
 kg 479 "rise" "Folk.rise" 762 149 4 769 (hIn (Zq p 40) 2) pm3<|
 kg 486 "die" "Folk.die" 772 153 4 779 (hIn (Zq p 40) 3) pm3<|
 kg0 505 "weight" "Folk.weight" 797 164 3 800 (hIn (Zq p 40) 6) pm3<|
 kg 540 "died_by" "Folk.died_by" 837 185 3 843 (hIn (Zq p 40) 11) pm3<|
 kg 561 "check_coming" "Folk.check_coming" 862 194 4 869 (hIn (Zq p 40) 14) pm3<|
 kg 568 "check_rise" "Folk.check_rise" 872 204 4 879 (hIn (Zq p 40) 15) pm3<|
 kg 575 "check_death" "Folk.check_death" 882 211 4 889 (hIn (Zq p 40) 16) pm3<|
 kg 582 "check_known" "Folk.check_known" 892 221 2 897 (hIn (Zq p 40) 17) pm3<|
 kg 589 "check_there" "Folk.check_there" 900 225 3 906 (hIn (Zq p 40) 18) pm3<|
 kg 596 "check_living" "Folk.check_living" 909 229 3 915 (hIn (Zq p 40) 19) pm3<|
 kg 603 "check_untold" "Folk.check_untold" 918 233 2 923 (hIn (Zq p 40) 20) pm3<|
 kpO (606,⟨(.type "dict"),none,(.dict #[de P "__module__" 740 (.str "forsworn.folk" 729),de P "__firstlineno__" 744 (.int (136) 743),de P "__init__" 751 (.ref 466),de P "come" 761 (.ref 473),de P "rise" 771 (.ref 480),de P "die" 781 (.ref 487),de P "names" 788 (.ref 494),de P "came" 796 (.ref 501),de P "weight" 802 (.ref 506),de P "dead" 811 (.ref 513),de P "stands_for" 820 (.ref 520),de P "twin" 827 (.ref 527),de P "stand_in" 836 (.ref 534),de P "died_by" 845 (.ref 541),de P "death_day" 853 (.ref 548),de P "heir_of" 861 (.ref 555),de P "check_coming" 871 (.ref 562),de P "check_rise" 881 (.ref 569),de P "check_death" 891 (.ref 576),de P "check_known" 899 (.ref 583),de P "check_there" 908 (.ref 590),de P "check_living" 917 (.ref 597),de P "check_untold" 925 (.ref 604),de P "__static_attributes__" 930 (.ref 605),de P "__dict__" 932 (.ref 608),de P "__weakref__" 934 (.ref 609),de P "__doc__" 935 .none] 4),#[]⟩)<|
 kpO (607,⟨(.type "type"),none,(.cls {name:="Folk", bases:=[(.type "object")],mro:=[(.ref 607),(.type "object")],ns:=606,qualname:="Folk", hasDict:=true,slotNames:=[],subclasses:=[],abstract:=false,collection:=none,hasDel:=false }),#[none,none,some (.str "Folk" 733),some (.str "Folk" 741),some (.builtin "object.__new__"),some (.bool true)]⟩)<|
 kf 617 "settled" 948 241 1 952 (Zq p 46) pm4<|
 kf 624 "settled_with" 955 243 2 964 (Zq p 47) pm4<|
 kf 631 "breakers" 967 253 3 973 (Zq p 48) pm4<|
 kf0 636 "breaking" 977 257 1 980 (Zq p 50) pm4<|
 kf 643 "naming" 983 259 2 991 (Zq p 51) pm4<|
 kf 650 "check_case" 994 266 2 999 (Zq p 52) pm4<|
 kf0 655 "check_oath" 1002 269 3 1005 (Zq p 53) pm4<|
 kf 662 "margin_without" 1008 273 3 1015 (Zq p 54) pm4<|
 kf0 667 "kept_weight" 1018 276 3 1021 (Zq p 55) pm4<|
 kg 681 "__init__" "Moot.__init__" 1046 285 1 1050 (hIn (Zq p 61) 0) pm5<|
 kg 688 "come" "Moot.come" 1053 296 4 1060 (hIn (Zq p 61) 1) pm5<|
 kg 695 "rise" "Moot.rise" 1063 302 4 1070 (hIn (Zq p 61) 2) pm5<|
 kg 702 "die" "Moot.die" 1073 308 4 1080 (hIn (Zq p 61) 3) pm5<|
 kg 709 "penance" "Moot.penance" 1083 314 2 1088 (hIn (Zq p 61) 4) pm5<|
 kg 716 "bring" "Moot.bring" 1091 321 3 1097 (hIn (Zq p 61) 5) pm5<|
 kg 723 "give" "Moot.give" 1100 332 5 1108 (hIn (Zq p 61) 6) pm5<|
 kg 730 "pay" "Moot.pay" 1111 339 5 1119 (hIn (Zq p 61) 7) pm5<|
 kg 737 "claim" "Moot.claim" 1122 347 7 1133 (hIn (Zq p 61) 8) pm5<|
 kg 744 "wergild" "Moot.wergild" 1136 357 8 1148 (hIn (Zq p 61) 9) pm5<|
 kg 751 "accuse" "Moot.accuse" 1151 368 7 1161 (hIn (Zq p 61) 10) pm5<|
 kg 758 "now" "Moot.now" 1164 378 1 1168 (hIn (Zq p 61) 11) pm5<|
 kg 922 "then" "Moot.then" 1354 452 2 1361 (hIn (Zq p 61) 35) pm5<|
 kg 936 "forsworn_names" "Moot.forsworn_names" 1372 463 1 1380 (hIn (Zq p 61) 37) pm5<|
 kg0 941 "weighed" "Moot.weighed" 1383 471 3 1386 (hIn (Zq p 61) 38) pm5<|
 kg 948 "try_case" "Moot.try_case" 1389 474 6 1398 (hIn (Zq p 61) 39) pm5<|
 kg 955 "check_named" "Moot.check_named" 1401 480 5 1410 (hIn (Zq p 61) 40) pm5<|
 kg 962 "check_thing" "Moot.check_thing" 1413 496 2 1418 (hIn (Zq p 61) 41) pm5<|
 kg 969 "check_sides" "Moot.check_sides" 1421 500 5 1431 (hIn (Zq p 61) 42) pm5<|
 kg 976 "check_moments" "Moot.check_moments" 1434 515 1 1438 (hIn (Zq p 61) 43) pm5<|
 kpO (979,⟨(.type "dict"),none,(.dict #[de P "__module__" 1041 (.str "forsworn.moot" 1024),de P "__firstlineno__" 1045 (.int (283) 1044),de P "__init__" 1052 (.ref 682),de P "come" 1062 (.ref 689),de P "rise" 1072 (.ref 696),de P "die" 1082 (.ref 703),de P "penance" 1090 (.ref 710),de P "bring" 1099 (.ref 717),de P "give" 1110 (.ref 724),de P "pay" 1121 (.ref 731),de P "claim" 1135 (.ref 738),de P "wergild" 1150 (.ref 745),de P "accuse" 1163 (.ref 752),de P "now" 1170 (.ref 759),de P "roll" 1176 (.ref 764),de P "names" 1183 (.ref 771),de P "weight" 1192 (.ref 778),de P "dead" 1201 (.ref 785),de P "stands_for" 1210 (.ref 792),de P "things" 1217 (.ref 799),de P "cases" 1224 (.ref 806),de P "suits" 1230 (.ref 811),de P "standing" 1237 (.ref 818),de P "stands" 1245 (.ref 825),de P "margin" 1253 (.ref 832),de P "breakers" 1262 (.ref 839),de P "chain" 1270 (.ref 846),de P "bearing" 1278 (.ref 853),de P "paper" 1286 (.ref 860),de P "fewest" 1294 (.ref 867),de P "forsworn" 1302 (.ref 874),de P "holder" 1311 (.ref 881),de P "road" 1320 (.ref 888),de P "holds" 1329 (.ref 895),de P "owed" 1337 (.ref 902),de P "balance" 1346 (.ref 909),de P "twin" 1353 (.ref 916),de P "then" 1363 (.ref 923),de P "counting" 1371 (.ref 930),de P "forsworn_names" 1382 (.ref 937),de P "weighed" 1388 (.ref 942),de P "try_case" 1400 (.ref 949),de P "check_named" 1412 (.ref 956),de P "check_thing" 1420 (.ref 963),de P "check_sides" 1433 (.ref 970),de P "check_moments" 1440 (.ref 977),de P "__static_attributes__" 1450 (.ref 978),de P "__dict__" 1452 (.ref 981),de P "__weakref__" 1454 (.ref 982),de P "__doc__" 1455 .none] 4),#[]⟩)<|
 kpO (980,⟨(.type "type"),none,(.cls {name:="Moot", bases:=[(.type "object")],mro:=[(.ref 980),(.type "object")],ns:=979,qualname:="Moot", hasDict:=true,slotNames:=[],subclasses:=[],abstract:=false,collection:=none,hasDel:=false }),#[none,none,some (.str "Moot" 1034),some (.str "Moot" 1042),some (.builtin "object.__new__"),some (.bool true)]⟩)<|
 kg 997 "__init__" "Past.__init__" 1472 521 1 1476 (hIn (Zq p 63) 0) pm6<|
 kg 1011 "undo" "Past.undo" 1488 530 1 1493 (hIn (Zq p 63) 2) pm6<|
 kg 1018 "redo" "Past.redo" 1496 537 1 1500 (hIn (Zq p 63) 3) pm6<|
 kpO (1028,⟨(.type "dict"),none,(.dict #[de P "__module__" 1467 (.str "forsworn.past" 1458),de P "__firstlineno__" 1471 (.int (519) 1470),de P "__init__" 1478 (.ref 998),de P "does" 1487 (.ref 1005),de P "undo" 1495 (.ref 1012),de P "redo" 1502 (.ref 1019),de P "waiting" 1509 (.ref 1026),de P "__static_attributes__" 1512 (.ref 1027),de P "__dict__" 1514 (.ref 1030),de P "__weakref__" 1516 (.ref 1031),de P "__doc__" 1517 .none] 4),#[]⟩)<|
 kpO (1029,⟨(.type "type"),none,(.cls {name:="Past", bases:=[(.type "object")],mro:=[(.ref 1029),(.type "object")],ns:=1028,qualname:="Past", hasDict:=true,slotNames:=[],subclasses:=[],abstract:=false,collection:=none,hasDel:=false }),#[none,none,some (.str "Past" 1460),some (.str "Past" 1468),some (.builtin "object.__new__"),some (.bool true)]⟩)<|
 kpO (1034,⟨(.type "dict"),none,(.dict #[de P "come" 1524 (.ref 1035),de P "rise" 1528 (.ref 1036),de P "die" 1532 (.ref 1037),de P "penance" 1536 (.ref 1038),de P "bring" 1538 (.ref 1039),de P "give" 1541 (.ref 1040),de P "pay" 1546 (.ref 1041)] 7),#[]⟩)<|
 kpO (1035,⟨(.type "tuple"),none,(.seq #[(.str "name" 1525),(.str "number" 1526),(.str "number" 1527)] 0),#[]⟩)<|
 kpO (1036,⟨(.type "tuple"),none,(.seq #[(.str "name" 1529),(.str "number" 1530),(.str "number" 1531)] 0),#[]⟩)<|
 kpO (1037,⟨(.type "tuple"),none,(.seq #[(.str "name" 1533),(.str "number" 1534),(.str "name" 1535)] 0),#[]⟩)<|
 kpO (1038,⟨(.type "tuple"),none,(.seq #[(.str "name" 1537)] 0),#[]⟩)<|
 kpO (1039,⟨(.type "tuple"),none,(.seq #[(.str "name" 1539),(.str "number" 1540)] 0),#[]⟩)<|
 kpO (1040,⟨(.type "tuple"),none,(.seq #[(.str "number" 1542),(.str "name" 1543),(.str "name" 1544),(.str "number" 1545)] 0),#[]⟩)<|
 kpO (1041,⟨(.type "tuple"),none,(.seq #[(.str "name" 1547),(.str "name" 1548),(.str "number" 1549),(.str "number" 1550)] 0),#[]⟩)<|
 kpO (1042,⟨(.type "dict"),none,(.dict #[de P "claim" 1559 (.ref 1043),de P "wergild" 1564 (.ref 1044),de P "accuse" 1570 (.ref 1045)] 3),#[]⟩)<|
 kpO (1043,⟨(.type "tuple"),none,(.seq #[(.str "name" 1560),(.str "number" 1561),(.str "number" 1562),(.str "number" 1563)] 0),#[]⟩)<|
 kpO (1044,⟨(.type "tuple"),none,(.seq #[(.str "name" 1565),(.str "name" 1566),(.str "number" 1567),(.str "number" 1568),(.str "number" 1569)] 0),#[]⟩)<|
 kpO (1045,⟨(.type "tuple"),none,(.seq #[(.str "number" 1571),(.str "name" 1572),(.str "number" 1573),(.str "number" 1574)] 0),#[]⟩)<|
 kf 1051 "read_deed" 1579 549 1 1588 (Zq p 68) pm7<|
 kf 1087 "_law_src" 1627 581 1 1631 (Zq p 75) pm8<|
 kf 1094 "_law_next" 1634 583 2 1641 (Zq p 76) pm8<|
 kf 1101 "_law_unlike" 1644 598 2 1652 (Zq p 77) pm8<|
 kf0 1106 "_law_word" 1655 606 2 1658 (Zq p 78) pm8<|
 kf 1113 "_law_names" 1661 609 2 1672 (Zq p 79) pm8<|
 kf 1120 "_law_pick" 1675 622 3 1684 (Zq p 80) pm8<|
 kf 1127 "_law_does" 1687 628 3 1693 (Zq p 81) pm8<|
 kf 1134 "_law_flags" 1696 638 3 1704 (Zq p 82) pm8<|
 kf0 1139 "law" 1707 650 1 1710 (Zq p 83) pm8<|[]
def KK(P:Params):uFg:=Kp PySem.Challenge.pw_forsworn_k58_each_refusal_by_itself P
def askd:List Addr:=[3,37,38,57,58,76,77,95,96,114,115,133,134,152,153,171,172,190,191,209,210,228,229,247,248,266,267,285,286,304,305,323,324,342,343,361,362,380,381,399,400,408,409,420,421,427,428,434,435,441,442,446,447,451,452,465,466,472,473,479,480,486,487,505,506,540,541,561,562,568,569,575,576,582,583,589,590,596,597,603,604,606,607,617,618,624,625,631,632,636,637,643,644,650,651,655,656,662,663,667,668,681,682,688,689,695,696,702,703,709,710,716,717,723,724,730,731,737,738,744,745,751,752,758,759,922,923,936,937,941,942,948,949,955,956,962,963,969,970,976,977,979,980,997,998,1011,1012,1018,1019,1028,1029,1034,1035,1036,1037,1038,1039,1040,1041,1042,1043,1044,1045,1051,1052,1087,1088,1094,1095,1101,1102,1106,1107,1113,1114,1120,1121,1127,1128,1134,1135,1139,1140]
def HK:PySem.W.Hook:=PySem.W.kHook KK askd fun _=>by kernel_rfl
def q:Program:=PySem.W.view PySem.Challenge.pw_forsworn_k58_each_refusal_by_itself [0,2,3,4,5,6,7,8,9,10,11,12,13,14,15,16,17,18,19,20,21,23,24,26,27,28,29,30,31,32,33,35,36,37,39,40,42,43,44,45,46,47,48,49,50,51,52,53,54,55,57,58,59,60,61,63,65,66,67,68,69,70,71,72,73,75,76,77,78,79,80,81,82,83]
def ens:List (Str×Str):=[("NoName", "NoName.called"),("NoMeasure", "NoMeasure.called"),("Unknown", "Unknown.called"),("Taken", "Taken.called"),("NoThing", "NoThing.called"),("NoCase", "NoCase.called"),("NoOath", "NoOath.called"),("NotYet", "NotYet.called"),("Dead", "Dead.called"),("NoHeir", "NoHeir.called"),("TooMany", "TooMany.called"),("SwornTwice", "SwornTwice.called"),("Forsworn", "Forsworn.called"),("TooLight", "TooLight.called"),("Broken", "Broken.called"),("NoMoment", "NoMoment.called"),("NothingBack", "NothingBack.called"),("NothingForth", "NothingForth.called"),("NoDeed", "NoDeed.called")]
end Law
namespace PySem.W.Fast
noncomputable def tw16784974349774329734:PySem.Program:=PySem.Challenge.pw_forsworn_k58_each_refusal_by_itself
theorem te16784974349774329734:PySem.Challenge.pw_forsworn_k58_each_refusal_by_itself=tw16784974349774329734:=rfl
end PySem.W.Fast
lay_quick PySem.Challenge.rw_forsworn_k58_each_refusal_by_itself Law.q Law.ens
namespace Law
open PySem L2 PySem.W.Fast
set_option maxRecDepth 1000000
noncomputable abbrev zqP:=(tw2368527892694137696 tw10162187256294452422).prog
def Zfu(b:Bool):Prop:=∀(w:World)(os:PySem.OsState),tw14574945829899846032 zqP (w.withFollow "special-get-raises" b) (tw15095419895629540892 (w.withFollow "special-get-raises" b).params os)=some (tw17173385231801463501 (w.withFollow "special-get-raises" b).params os,tw17649063868247884333 zqP)
theorem Zv4:Zfu false:=by
 intro w os;kernel_rfl
theorem Zv5:Zfu true:=by
 intro w os;kernel_rfl
theorem Z0r:∀b,Zfu b
 | false=>Zv4
 | true=>Zv5
def Zfv(b:Bool):Prop:=∀(w:World)(os:PySem.OsState),tw897522592586576512 zqP (w.withFollow "special-get-raises" b) (tw17173385231801463501 (w.withFollow "special-get-raises" b).params os)=some (.next,tw17173385231801463501 (w.withFollow "special-get-raises" b).params os,cP zqP,p0)
theorem Zv6:Zfv false:=by
 intro w os;kernel_rfl
theorem Zv7:Zfv true:=by
 intro w os;kernel_rfl
theorem Z0s:∀b,Zfv b
 | false=>Zv6
 | true=>Zv7
def Zfw(b:Bool):Prop:=∀(w:World)(os:PySem.OsState),tw3364177927453363911 zqP (w.withFollow "special-get-raises" b) 1956 0 10 p0 (tw17173385231801463501 (w.withFollow "special-get-raises" b).params os)=some (.next,(tw15053072615319938550 zqP (tw2665081048563830263.take 7) (w.withFollow "special-get-raises" b).params os),cP zqP,⟨33,0,36,23⟩)
theorem Zv8:Zfw false:=by
 intro w os;kernel_rfl
theorem Zv9:Zfw true:=by
 intro w os;kernel_rfl
theorem Z0t:∀b,Zfw b
 | false=>Zv8
 | true=>Zv9
def Zfx(b:Bool):Prop:=∀(w:World)(os:PySem.OsState),tw3364177927453363911 zqP (w.withFollow "special-get-raises" b) 1702 10 7 ⟨33,0,36,23⟩ (tw15053072615319938550 zqP (tw2665081048563830263.take 7) (w.withFollow "special-get-raises" b).params os)=some (.next,(tw15053072615319938550 zqP (tw2665081048563830263.take 14) (w.withFollow "special-get-raises" b).params os),cP zqP,⟨61,0,64,25⟩)
theorem Zwa:Zfx false:=by
 intro w os;kernel_rfl
theorem Zwb:Zfx true:=by
 intro w os;kernel_rfl
theorem Z0u:∀b,Zfx b
 | false=>Zwa
 | true=>Zwb
def Zfy(b:Bool):Prop:=∀(w:World)(os:PySem.OsState),tw3364177927453363911 zqP (w.withFollow "special-get-raises" b) 1216 17 5 ⟨61,0,64,25⟩ (tw15053072615319938550 zqP (tw2665081048563830263.take 14) (w.withFollow "special-get-raises" b).params os)=some (.next,(tw15053072615319938550 zqP (tw2665081048563830263.take 19) (w.withFollow "special-get-raises" b).params os),cP zqP,⟨81,0,84,23⟩)
theorem Zwc:Zfy false:=by
 intro w os;kernel_rfl
theorem Zwd:Zfy true:=by
 intro w os;kernel_rfl
theorem Z0v:∀b,Zfy b
 | false=>Zwc
 | true=>Zwd
def Zex(b:Bool):Prop:=∀(w:World)(os:PySem.OsState),Option.map (tw5166864615210023351 zqP (w.withFollow "special-get-raises" b).params) (tw9491608239551792999 zqP (w.withFollow "special-get-raises" b) 8696 22 ⟨81,0,84,23⟩ (tw15053072615319938550 zqP (tw2665081048563830263.take 19) (w.withFollow "special-get-raises" b).params os))=some true
theorem Zpv:Zex false:=by
 intro w os;kernel_rfl
theorem Zpw:Zex true:=by
 intro w os;kernel_rfl
theorem Ztt:∀b,Zex b
 | false=>Zpv
 | true=>Zpw
def Zey(b:Bool):Prop:=∀(w:World)(os:PySem.OsState),Option.map (tw9146811602139678113 tw2797900513057943271) (tw9491608239551792999 zqP (w.withFollow "special-get-raises" b) 8696 22 ⟨81,0,84,23⟩ (tw15053072615319938550 zqP (tw2665081048563830263.take 19) (w.withFollow "special-get-raises" b).params os))=some (PyProof.Rows.expectedOf tw2797900513057943271,bltViewBooted)
theorem Zpx:Zey false:=by
 intro w os;kernel_rfl
theorem Zpy:Zey true:=by
 intro w os;kernel_rfl
theorem Ztu:∀b,Zey b
 | false=>Zpx
 | true=>Zpy
def Zez(b:Bool):Prop:=∀(w:World)(os:PySem.OsState),Option.map (tw4330636226384752446 zqP tw2797900513057943271 ["breakers_stands", "PLAIN", "SWORN"] (fun s=>PySem.W.xlAt tw2797900513057943271 [] s && PySem.W.recOk (tw2368527892694137696 tw10162187256294452422).records s)) (tw9491608239551792999 zqP (w.withFollow "special-get-raises" b) 8696 22 ⟨81,0,84,23⟩ (tw15053072615319938550 zqP (tw2665081048563830263.take 19) (w.withFollow "special-get-raises" b).params os))=some true
theorem Zpz:Zez false:=by
 intro w os;kernel_rfl
theorem Zp0:Zez true:=by
 intro w os;kernel_rfl
theorem Ztv:∀b,Zez b
 | false=>Zpz
 | true=>Zp0
def Ze0(b:Bool):Prop:=∀(w:World)(os:PySem.OsState),Option.map (tw290884773970851577 tw2797900513057943271) (tw9491608239551792999 zqP (w.withFollow "special-get-raises" b) 8696 22 ⟨81,0,84,23⟩ (tw15053072615319938550 zqP (tw2665081048563830263.take 19) (w.withFollow "special-get-raises" b).params os))=some true
theorem Zp1:Ze0 false:=by
 intro w os;kernel_rfl
theorem Zp2:Ze0 true:=by
 intro w os;kernel_rfl
theorem Ztw:∀b,Ze0 b
 | false=>Zp1
 | true=>Zp2
def Ze1(b:Bool):Prop:=∀(w:World)(os:PySem.OsState),Option.map (tw9020109020722589832 tw2797900513057943271) (tw9491608239551792999 zqP (w.withFollow "special-get-raises" b) 8696 22 ⟨81,0,84,23⟩ (tw15053072615319938550 zqP (tw2665081048563830263.take 19) (w.withFollow "special-get-raises" b).params os))=some (pinGoodD (PyProof.Rows.drecsOf tw2797900513057943271))
theorem Zp3:Ze1 false:=by
 intro w os;kernel_rfl
theorem Zp4:Ze1 true:=by
 intro w os;kernel_rfl
theorem Ztx:∀b,Ze1 b
 | false=>Zp3
 | true=>Zp4
def Ze2(b:Bool):Prop:=∀(w:World)(os:PySem.OsState),Option.map (tw1658975667393823239 tw2797900513057943271 ["breakers_stands", "PLAIN", "SWORN"] 0) (tw9491608239551792999 zqP (w.withFollow "special-get-raises" b) 8696 22 ⟨81,0,84,23⟩ (tw15053072615319938550 zqP (tw2665081048563830263.take 19) (w.withFollow "special-get-raises" b).params os))=some (tw10258256380655884400 tw2797900513057943271 ["breakers_stands", "PLAIN", "SWORN"] 0)
theorem Zp5:Ze2 false:=by
 intro w os;kernel_rfl
theorem Zp6:Ze2 true:=by
 intro w os;kernel_rfl
theorem Zty:∀b,Ze2 b
 | false=>Zp5
 | true=>Zp6
def Ze3(b:Bool):Prop:=∀(w:World)(os:PySem.OsState),Option.map (tw1658975667393823239 tw2797900513057943271 ["breakers_stands", "PLAIN", "SWORN"] 1) (tw9491608239551792999 zqP (w.withFollow "special-get-raises" b) 8696 22 ⟨81,0,84,23⟩ (tw15053072615319938550 zqP (tw2665081048563830263.take 19) (w.withFollow "special-get-raises" b).params os))=some (tw10258256380655884400 tw2797900513057943271 ["breakers_stands", "PLAIN", "SWORN"] 1)
theorem Zp7:Ze3 false:=by
 intro w os;kernel_rfl
theorem Zp8:Ze3 true:=by
 intro w os;kernel_rfl
theorem Ztz:∀b,Ze3 b
 | false=>Zp7
 | true=>Zp8
def Ze4(b:Bool):Prop:=∀(w:World)(os:PySem.OsState),Option.map (tw1671388014868620310 tw2797900513057943271 ["breakers_stands", "PLAIN", "SWORN"] 2) (tw9491608239551792999 zqP (w.withFollow "special-get-raises" b) 8696 22 ⟨81,0,84,23⟩ (tw15053072615319938550 zqP (tw2665081048563830263.take 19) (w.withFollow "special-get-raises" b).params os))=some (tw2047387775680494199 tw2797900513057943271 ["breakers_stands", "PLAIN", "SWORN"] 2)
theorem Zp9:Ze4 false:=by
 intro w os;kernel_rfl
theorem Zqa:Ze4 true:=by
 intro w os;kernel_rfl
theorem Zt0:∀b,Ze4 b
 | false=>Zp9
 | true=>Zqa
def Ze5(b:Bool):Prop:=∀(w:World)(os:PySem.OsState),Option.map (tw11153056314078912757 tw2797900513057943271 ["breakers_stands", "PLAIN", "SWORN"]) (tw9491608239551792999 zqP (w.withFollow "special-get-raises" b) 8696 22 ⟨81,0,84,23⟩ (tw15053072615319938550 zqP (tw2665081048563830263.take 19) (w.withFollow "special-get-raises" b).params os))=some (PyProof.Rows.plainGoodD tw2797900513057943271 ["breakers_stands", "PLAIN", "SWORN"])
theorem Zqb:Ze5 false:=by
 intro w os;kernel_rfl
theorem Zqc:Ze5 true:=by
 intro w os;kernel_rfl
theorem Zt1:∀b,Ze5 b
 | false=>Zqb
 | true=>Zqc
def Ze6(b:Bool):Prop:=∀(w:World)(os:PySem.OsState),Option.map (tw1743938642414776662 tw2797900513057943271) (tw9491608239551792999 zqP (w.withFollow "special-get-raises" b) 8696 22 ⟨81,0,84,23⟩ (tw15053072615319938550 zqP (tw2665081048563830263.take 19) (w.withFollow "special-get-raises" b).params os))=some (PySem.W.wideGood tw2797900513057943271)
theorem Zqd:Ze6 false:=by
 intro w os;kernel_rfl
theorem Zqe:Ze6 true:=by
 intro w os;kernel_rfl
theorem Zt2:∀b,Ze6 b
 | false=>Zqd
 | true=>Zqe
def Ze7(b:Bool):Prop:=∀(w:World)(os:PySem.OsState),Option.map (tw15055011524645977279 tw2797900513057943271 ["breakers_stands", "PLAIN", "SWORN"]) (tw9491608239551792999 zqP (w.withFollow "special-get-raises" b) 8696 22 ⟨81,0,84,23⟩ (tw15053072615319938550 zqP (tw2665081048563830263.take 19) (w.withFollow "special-get-raises" b).params os))=some (PySem.W.clsGoodW tw2797900513057943271 ["breakers_stands", "PLAIN", "SWORN"])
theorem Zqf:Ze7 false:=by
 intro w os;kernel_rfl
theorem Zqg:Ze7 true:=by
 intro w os;kernel_rfl
theorem Zt3:∀b,Ze7 b
 | false=>Zqf
 | true=>Zqg
def Ze8(b:Bool):Prop:=∀(w:World)(os:PySem.OsState),Option.map (fun s=>askd.map s.abs.heap.get?) (tw9491608239551792999 zqP (w.withFollow "special-get-raises" b) 8696 22 ⟨81,0,84,23⟩ (tw15053072615319938550 zqP (tw2665081048563830263.take 19) (w.withFollow "special-get-raises" b).params os))=some ((Kp tw16784974349774329734 (w.withFollow "special-get-raises" b).params).map fun p=>some p.2)
theorem Zqh:Ze8 false:=by
 intro w os;kernel_rfl
theorem Zqi:Ze8 true:=by
 intro w os;kernel_rfl
theorem Zt4:∀b,Ze8 b
 | false=>Zqh
 | true=>Zqi
local macro_rules | `(tactic| walk_at "q")=>`(tactic| (intro h;rw[World.withFollow_self] at h;simp only[← te14574945829899846032,← te897522592586576512,← te3364177927453363911,← te9491608239551792999,← te15053072615319938550,← te17173385231801463501,← te17649063868247884333,← te2665081048563830263,← te5166864615210023351,← te9146811602139678113,← te4330636226384752446,← te290884773970851577,← te9020109020722589832,← te11153056314078912757,← te15055011524645977279,← te1743938642414776662,← te1658975667393823239,← te1671388014868620310,← te10258256380655884400,← te2047387775680494199,← te15095419895629540892,← te2797900513057943271,← te2368527892694137696,← te10162187256294452422,← te14364793385576792824,← te16784974349774329734] at h;exact h))
theorem left:PySem.W.LeftO PySem.Challenge.rw_forsworn_k58_each_refusal_by_itself.row.prog q ["breakers_stands", "PLAIN", "SWORN"] (fun s=>PySem.W.xlAt q [] s && PySem.W.recOk (PySem.W.RowW.records PySem.Challenge.rw_forsworn_k58_each_refusal_by_itself.row.toRowW) s) HK.obs HK.val 13583:=by
 refine Zr6 (M:=4887) (N:=8696) (k:=22) (pos:=⟨81,0,84,23⟩) (s:=fun w os=>errS PySem.Challenge.rw_forsworn_k58_each_refusal_by_itself.row.prog (ens.take 19) w.params os) (by kernel_rfl) (by decide) (fun s=>by kernel_rfl) (fun w os=>?_)
  (fun w os=>(by have h:=Ztt (w.params.followText "special-get-raises") w os;revert h;walk_at "q"))
  (fun w os=>(by have h:=Ztu (w.params.followText "special-get-raises") w os;revert h;walk_at "q"))
  (fun w os=>(by have h:=Ztv (w.params.followText "special-get-raises") w os;revert h;walk_at "q"))
  (fun w os=>(by have h:=Ztw (w.params.followText "special-get-raises") w os;revert h;walk_at "q"))
  (fun w os=>(by have h:=Ztx (w.params.followText "special-get-raises") w os;revert h;walk_at "q"))
  (fun w os=>(by have h:=Zty (w.params.followText "special-get-raises") w os;revert h;walk_at "q"))
  (fun w os=>(by have h:=Ztz (w.params.followText "special-get-raises") w os;revert h;walk_at "q"))
  (fun w os=>(by have h:=Zt0 (w.params.followText "special-get-raises") w os;revert h;walk_at "q"))
  (fun w os=>(by have h:=Zt1 (w.params.followText "special-get-raises") w os;revert h;walk_at "q"))
  (fun w os=>(by have h:=Zt2 (w.params.followText "special-get-raises") w os;revert h;walk_at "q"))
  (fun w os=>(by have h:=Zt3 (w.params.followText "special-get-raises") w os;revert h;walk_at "q"))
  (fun w os=>(by have h:=Zt4 (w.params.followText "special-get-raises") w os;revert h;walk_at "q"))
 have R:=Reach.zero (p:=PySem.Challenge.rw_forsworn_k58_each_refusal_by_itself.row.prog) (w:=w) (os:=os) (by have h:=Z0r (w.params.followText "special-get-raises") w os;revert h;walk_at "q") (by have h:=Z0s (w.params.followText "special-get-raises") w os;revert h;walk_at "q")
 have R:=R.step 1956 10 (by have h:=Z0t (w.params.followText "special-get-raises") w os;revert h;walk_at "q")
 have R:=R.step 1702 7 (by have h:=Z0u (w.params.followText "special-get-raises") w os;revert h;walk_at "q")
 have R:=R.step 1216 5 (by have h:=Z0v (w.params.followText "special-get-raises") w os;revert h;walk_at "q")
 exact R
end Law
section
namespace L2
open PySem PySem.Spec PyProof.Rows
abbrev Key:=Sum Int Str
def Zb1:Key->Value->Bool
 | .inl k,v=>Value.isInt k v
 | .inr x,v=>Value.isStrOf x v
def Z0w(w:World):Key->Int
 | .inl k=>hashInt k
 | .inr x=>hashStr w x
theorem Zaa:∀{k:Key}{v:Value},Zb1 k v=true->(∃i t,k=Sum.inl i/\v=Value.int i t)\/(∃x t,k=Sum.inr x/\v=Value.str x t)
 | .inl i,v,h=>by
  obtain⟨t,e⟩:=Value.isInt_shape (k:=i) (v:=v) h
  exact .inl ⟨i,t,rfl,e⟩
 | .inr x,v,h=>by
  obtain⟨t,e⟩:=Value.isStrOf_shape (x:=x) (v:=v) h
  exact .inr ⟨x,t,rfl,e⟩
theorem Zqj(i:Int)(t:Tok):Zb1 (.inl i) (.int i t)=true:=by simp[Zb1,Value.isInt]
theorem Ze9(x:Str)(t:Tok):Zb1 (.inr x) (.str x t)=true:=by simp[Zb1,Value.isStrOf]
theorem Zwe(a b:Int):decide ((Sum.inl a:Key)=Sum.inl b)=(a == b):=by
 by_cases e:a=b
 ·subst e;simp
 ·have h:¬(Sum.inl a:Key)=Sum.inl b:=fun q=>e (Sum.inl.inj q)
  rw[yH h]
  exact(beq_eq_false_iff_ne.mpr e).symm
theorem Zkt(a b:Str):decide ((Sum.inr a:Key)=Sum.inr b)=decide (a=b):=by
 by_cases e:a=b
 ·subst e;simp
 ·have h:¬(Sum.inr a:Key)=Sum.inr b:=fun q=>e (Sum.inr.inj q)
  rw[yH h,yH e]
theorem Zwf(a:Int)(b:Str):decide ((Sum.inl a:Key)=Sum.inr b)=false:=yH (fun q=>nomatch q)
theorem Zwg(a:Str)(b:Int):decide ((Sum.inr a:Key)=Sum.inl b)=false:=yH (fun q=>nomatch q)
def Y0(prog:Program)(w:World):PySem.KeyKind prog w Key where
 is:=Zb1
 hash:=Z0w w
 inj:=fun v a b ha hb=>by
  rcases Zaa ha with⟨i,t,rfl,rfl⟩ | ⟨x,t,rfl,rfl⟩
  ·rcases Zaa hb with⟨j,u,rfl,e⟩ | ⟨y,u,rfl,e⟩
   ·injection e with e1 _;rw[e1]
   ·exact nomatch e
  ·rcases Zaa hb with⟨j,u,rfl,e⟩ | ⟨y,u,rfl,e⟩
   ·exact nomatch e
   ·injection e with e1 _;rw[e1]
 byValue:=fun k v h=>by
  rcases Zaa h with⟨i,t,rfl,rfl⟩ | ⟨x,t,rfl,rfl⟩<;>rfl
 pyHash:=fun hv h=>by
  rcases Zaa hv with⟨i,t,rfl,rfl⟩ | ⟨x,t,rfl,rfl⟩
  ·exact wpAny_pyHash_int h
  ·exact wpAny_pyHash_str h
 eqBool:=fun hu hv h=>by
  rcases Zaa hu with⟨i,t,rfl,rfl⟩ | ⟨x,t,rfl,rfl⟩
  ·rcases Zaa hv with⟨j,u,rfl,rfl⟩ | ⟨y,u,rfl,rfl⟩
   ·rw[Zwe] at h;exact wpAny_eqBool_int h
   ·rw[Zwf] at h;exact SeqAt.EqAt.int_str i t y u _ _ _ _ h
  ·rcases Zaa hv with⟨j,u,rfl,rfl⟩ | ⟨y,u,rfl,rfl⟩
   ·rw[Zwg] at h;exact SeqAt.EqAt.str_int x t j u _ _ _ _ h
   ·rw[Zkt] at h;exact wpAny_eqBool_str h
 «strs»:=fun k x t v h=>by
  rcases Zaa h with⟨i,u,rfl,e⟩ | ⟨y,u,rfl,e⟩
  ·exact nomatch e
  ·injection e with e1 _
   subst e1
   cases v<;>rfl
theorem Zo1(prog:Program)(w:World)(i:Int)(t:Tok):(Y0 prog w).is (.inl i) (.int i t)=true:=Zqj i t
theorem Zo2(prog:Program)(w:World)(x:Str)(t:Tok):(Y0 prog w).is (.inr x) (.str x t)=true:=Ze9 x t
end L2
namespace L2
open PySem PySem.Spec PyProof.Rows
inductive V where
 | non | bl (b:Bool) | int (i:Int) | str (x:Str) | byt (b:Array UInt8) | flt (b:UInt64) | ref (a:Addr) | ty (n:String)
 deriving DecidableEq
def RelV:V->Value->Prop
 | .non,u=>u=Value.none
 | .bl b,u=>u=Value.bool b
 | .int i,u=>∃t,u=Value.int i t
 | .str x,u=>∃t,u=Value.str x t
 | .byt b,u=>∃t,u=Value.bytes b t
 | .flt b,u=>∃t,u=Value.float b t
 | .ref a,u=>u=Value.ref a
 | .ty n,u=>u=Value.type n
abbrev Vals:List V->List Value->Prop:=Paired RelV
theorem Vals.length{xs:List V}{us:List Value}(r:Vals xs us):xs.length=us.length:=Paired.length r
theorem Vals.get:∀{xs:List V}{us:List Value}{i:Nat}{x:V},Vals xs us->xs[i]? = some x->∃u,us[i]? = some u/\RelV x u
 | _,_,_,_,.nil,e=>by simp at e
 | _,_,0,_,.cons r _,e=>by simp at e;subst e;exact⟨_,rfl,r⟩
 | _,_,i+1,x,.cons _ t,e=>by
  obtain⟨u,h1,h2⟩:=Vals.get (i:=i) (x:=x) t (by simpa using e)
  exact⟨u,by simpa using h1,h2⟩
theorem Vals.set{x:V}{u:Value}(r:RelV x u):∀{xs:List V}{us:List Value}(i:Nat),Vals xs us->Vals (xs.set i x) (us.set i u)
 | _,_,_,.nil=>.nil
 | _,_,0,.cons _ t=>.cons r t
 | _,_,i+1,.cons q t=>.cons q (Vals.set r i t)
theorem Vals.append:∀{xs ys:List V}{us ws:List Value},Vals xs us->Vals ys ws->Vals (xs++ys) (us++ws)
 | _,_,_,_,.nil,s=>s
 | _,_,_,_,.cons r t,s=>.cons r (Vals.append t s)
theorem Vals.take:∀{xs:List V}{us:List Value}(n:Nat),Vals xs us->Vals (xs.take n) (us.take n)
 | _,_,0,_=>.nil
 | _,_,_+1,.nil=>.nil
 | _,_,n+1,.cons r t=>.cons r (Vals.take n t)
theorem Vals.drop:∀{xs:List V}{us:List Value}(n:Nat),Vals xs us->Vals (xs.drop n) (us.drop n)
 | _,_,0,r=>r
 | _,_,_+1,.nil=>.nil
 | _,_,n+1,.cons _ t=>Vals.drop n t
def RelO:Option V->Option Value->Prop
 | some v,some u=>RelV v u
 | none,none=>True
 | _,_=>False
def KV{κ:Type}:List (κ×V)->List (κ×Value)->Prop:=Paired fun(p : κ×V) (q : κ×Value)=>p.1=q.1/\RelV p.2 q.2
def kV:Key->V
 | .inl i=>.int i
 | .inr x=>.str x
inductive HO where
 | lst (xs:List V)
 | tup (xs:List V)
 | dK (kvs:List (Key×V)) | dT (kvs:List (List Key×V))
 | set (S:Int->Bool) (n:Nat)
 | ins (C dx:Addr) (fs:List (Str×V))
 | own (x:Addr)
 | xd (fs:List (Str×V))
 | met (f x:Addr)
 | rng (lo hi:Int)
 | frz (o:Obj) (u:HO)
 | tbl (ps:Array Value)
 | ext (φ:Heap->Prop)
abbrev Hp:=Addr->Option HO
def upd(H:Hp)(a:Addr)(o:HO):Hp:=fun b=>if b=a then some o else H b
theorem Zg{H:Hp}{a:Addr}{o:HO}:upd H a o a=some o:=by unfold upd;rw[if_pos rfl]
theorem Zc{H:Hp}{a b:Addr}{o:HO}(h:b≠a):upd H a o b=H b:=by unfold upd;rw[if_neg h]
theorem Zlm{H:Hp}{a b:Addr}{o u:HO}(h:H a=some o)(h':H b=some u)(d:o≠u):a≠b:=by
 intro e;subst e;rw[h] at h';exact d (Option.some.inj h')
theorem Zl{H:Hp}{a b:Addr}{o:HO}(h:H a=some o)(h':H b=none):a≠b:=by
 intro e;subst e;rw[h] at h';cases h'
section
variable(P:Program)(w:World)
def ObjOk(H:Hp)(h:Heap)(a:Addr):HO->Prop
 | .lst xs=>xs.length<=sizeLine/\∃(its:List Value)(n:Nat),Vals xs its/\h.get? a=some {cls:=.type "list", data:=.seq its.toArray n }
 | .tup xs=>xs.length<=sizeLine/\∃its:List Value,Vals xs its/\IsTup h a its.toArray
 | .dK kvs=>kvs.length<=sizeLine/\(a == sysModules)=false/\∃vs,KV kvs vs/\h.DictOf (Y0 P w) a vs
 | .dT kvs=>kvs.length<=sizeLine/\(a == sysModules)=false/\∃xs:List (List Key×Addr×Value),
   Paired (fun(p:List Key×V) (q:List Key×Addr×Value)=>p.1=q.1/\H q.2.1=some (.tup (p.1.map kV))/\RelV p.2 q.2.2) kvs xs /\
   ∃o es ep,h.get? a=some o/\o.ExactDict/\o.data = .dict es ep/\es.toList=xs.map (entryOfKey (tupleKind (Y0 P w)))/\(xs.map (·.1)).Nodup
 | .set S n=>h.SetOf (intKind P w) a S n
 | .ins C dx fs=>H dx=some (.own a)/\fs.length<=1000/\dx≠a/\h.get? a=some (PySem.W.instObj C dx)/\
   ∃mA,h.Ns1 dx mA/\(∀f,RelO (fs.lookup f) (mA f))/\PySem.Within mA (fs.map (·.1))
 | .own _=>∃o,h.get? a=some o
 | .xd fs=>∃mA,h.Ns1 a mA/\∀f,RelO (fs.lookup f) (mA f)
 | .rng lo hi=>∃t u v,h.get? a=some {cls:=.type "range", data:=.fields #[.int lo t,.int hi u,.int 1 v] }
 | .frz o u=>h.get? a=some o/\ObjOk H h a u
 | .tbl ps=>∃(qs:Array Value)(nm:Str)(t:Tok),h.get? a=some {cls:=.none,data:=.fields qs }/\TriplesOk qs.toList/\ps[0]? = some (.str nm t)/\∀pos cv,codeAmong pos qs.toList=some cv->∃c,cv = .ref c/\H c=some (.own a)/\h.CodeRec (.ref c) nm
 | .met f x=>h.get? a=some (PySem.W.methodObj (.ref f) (.ref x))
 | .ext φ=>φ h/\(∃o,h.get? a=some o)/\∀h1 h2:Heap,φ h1->(∀o,h1.get? a=some o->h2.get? a=some o)->φ h2
def HOk(H:Hp)(h:Heap):Prop:=∀a o,H a=some o->ObjOk P w H h a o
end
section
variable{P:Program}{w:World}{H H':Hp}{h h':Heap}{a:Addr}{o:HO}
theorem ObjOk.lt(x:ObjOk P w H h a o):a < h.objs.size:=by
 cases o with
 | lst xs=>obtain⟨_,_,_,_,e⟩:=x;exact xN e
 | tup xs=>obtain⟨_,_,_,p⟩:=x;exact p.lt
 | dK kvs=>obtain⟨_,_,_,_,o,_,_,e,_⟩:=x;exact xN e
 | dT kvs=>obtain⟨_,_,_,_,o,_,_,e,_⟩:=x;exact xN e
 | set S n=>obtain⟨o,_,_,_,e,_⟩:=x;exact xN e
 | ins C dx fs=>obtain⟨_,_,_,e,_⟩:=x;exact xN e
 | own y=>obtain⟨_,e⟩:=x;exact xN e
 | xd fs=>obtain⟨_,⟨_,_,_,e,_⟩,_⟩:=x;exact xN e
 | rng lo hi=>obtain⟨_,_,_,e⟩:=x;exact xN e
 | frz ob u=>obtain⟨e,_⟩:=x;exact xN e
 | tbl ps=>obtain⟨_,_,_,e,_⟩:=x;exact xN e
 | met f y=>exact xN (show h.get? a=some _ from x)
 | ext φ=>obtain⟨_,⟨_,e⟩,_⟩:=x;exact xN e
theorem Paired.mapP{α β:Type}{F G : α->β->Prop}:∀{l₁:List α}{l₂:List β},Paired F l₁ l₂->(∀a b,F a b->G a b)->Paired G l₁ l₂
 | _,_,.nil,_=>.nil
 | _,_,.cons r t,f=>.cons (f _ _ r) (Paired.mapP t f)
theorem ObjOk.stay(x:ObjOk P w H h a o)(k:∀b u,(b=a\/H b=some (.own a))->h.get? b=some u->h'.get? b=some u)(ho:∀b,H b=some (.own a)->H' b=some (.own a))(ht:∀b xs,H b=some (.tup xs)->H' b=some (.tup xs)):ObjOk P w H' h' a o:=by
 induction o with
 | lst xs=>obtain⟨z,its,n,r,e⟩:=x;exact⟨z,its,n,r,k _ _ (.inl rfl) e⟩
 | tup xs=>obtain⟨z,its,r,ob,e,c⟩:=x;exact⟨z,its,r,ob,k _ _ (.inl rfl) e,c⟩
 | dK kvs=>obtain⟨z,y,vs,r,ob,es,ep,e,c⟩:=x;exact⟨z,y,vs,r,ob,es,ep,k _ _ (.inl rfl) e,c⟩
 | dT kvs =>
  obtain⟨z,y,xs,r,ob,es,ep,e,c⟩:=x
  exact⟨z,y,xs,Paired.mapP r fun p q z=>⟨z.1,ht _ _ z.2.1,z.2.2⟩,ob,es,ep,k _ _ (.inl rfl) e,c⟩
 | set S n=>obtain⟨ob,es,ep,t,e,c⟩:=x;exact⟨ob,es,ep,t,k _ _ (.inl rfl) e,c⟩
 | ins C dx fs =>
  obtain⟨d,z,ne,e,mA,⟨od,es,ep,e2,c⟩,r⟩:=x
  exact⟨ho _ d,z,ne,k _ _ (.inl rfl) e,mA,⟨od,es,ep,k _ _ (.inr d) e2,c⟩,r⟩
 | own y=>obtain⟨ob,e⟩:=x;exact⟨ob,k _ _ (.inl rfl) e⟩
 | xd fs=>obtain⟨mA,⟨od,es,ep,e,c⟩,r⟩:=x;exact⟨mA,⟨od,es,ep,k _ _ (.inl rfl) e,c⟩,r⟩
 | rng lo hi=>obtain⟨t,u,v,e⟩:=x;exact⟨t,u,v,k _ _ (.inl rfl) e⟩
 | frz ob u ih=>obtain⟨e,q⟩:=x;exact⟨k _ _ (.inl rfl) e,ih q⟩
 | tbl ps =>
  obtain⟨qs,nm,t,e,z1,z2,z3⟩:=x
  refine⟨qs,nm,t,k a _ (.inl rfl) e,z1,z2,fun pos cv ec=>?_⟩
  obtain⟨c,e1,e2,c2,oc,vs,tt,e3,e4,e5⟩:=z3 pos cv ec
  cases e3
  exact⟨c,e1,ho _ e2,c,oc,vs,tt,rfl,k _ _ (.inr e2) e4,e5⟩
 | met f y =>
  have e:h.get? a=some (PySem.W.methodObj (.ref f) (.ref y)):=x
  show h'.get? a=some (PySem.W.methodObj (.ref f) (.ref y))
  exact k a _ (.inl rfl) e
 | ext φ=>obtain⟨p,⟨o,e⟩,st⟩:=x;exact⟨st _ _ p fun o q=>k _ _ (.inl rfl) q,⟨o,k _ _ (.inl rfl) e⟩,st⟩
theorem HOk.lt(x:HOk P w H h)(e:H a=some o):a < h.objs.size:=(x a o e).lt
theorem HOk.fresh(x:HOk P w H h)(e:h.objs.size<=a):H a=none:=by
 cases q:H a with
 | none=>rfl
 | some u=>exact absurd (xZ (x.lt q) e) (zN _)
theorem HOk.kept(x:HOk P w H h)(k:∀b u,h.get? b=some u->h'.get? b=some u):HOk P w H h':=fun a o e =>
 (x a o e).stay (fun b u _ q=>k b u q) (fun _ q=>q) fun _ _ q=>q
theorem HOk.laid(x:HOk P w H h)(k:∀b u,h.get? b=some u->h'.get? b=some u)(hp:h.objs.size<=a)(new:ObjOk P w (upd H a o) h' a o):HOk P w (upd H a o) h':=fun b u e=>by
 have hn:=x.fresh hp
 by_cases hb:b=a
 ·subst hb;rw[Zg] at e;cases e;exact new
 ·rw[Zc hb] at e
  exact(x b u e).stay (fun c v _ q=>k c v q) (fun c q=>by rw[Zc (Zl q hn)];exact q) fun c xs q=>by rw[Zc (Zl q hn)];exact q
end
def Rd(H:Hp)(a:Addr)(u:HO):Prop:=H a=some u\/∃o,H a=some (.frz o u)
theorem Rd.ok{P:Program}{w:World}{H:Hp}{h:Heap}{a:Addr}{u:HO}(r:Rd H a u)(x:HOk P w H h):ObjOk P w H h a u:=by
 rcases r with r | ⟨o,r⟩
 ·exact x a u r
 ·obtain⟨_,q⟩:=x a _ r
  exact q
def Mut:Option HO->Prop
 | some (.lst _)=>True
 | some (.dK _)=>True
 | some (.dT _)=>True
 | some (.set _ _)=>True
 | some (.ins _ _ _)=>True
 | some (.ext _)=>True
 | _=>False
section
variable{P:Program}{w:World}{H:Hp}{h h':Heap}{x e:Addr}{o':HO}
theorem HOk.write(ok:HOk P w H h)(mu:Mut (H x))(he:e=x\/H e=some (.own x))(k:∀b u,b≠e->h.get? b=some u->h'.get? b=some u)(heo:∃u,h'.get? e=some u)(new:ObjOk P w (upd H x o') h' x o'):HOk P w (upd H x o') h':=fun b u q=>by
 have nown:∀c y,H c=some (.own y)->c≠x:=fun c y r z=>by subst z;rw[r] at mu;exact mu
 have ntup:∀c xs,H c=some (.tup xs)->c≠x:=fun c xs r z=>by subst z;rw[r] at mu;exact mu
 by_cases hb:b=x
 ·subst hb;rw[Zg] at q;cases q;exact new
 ·rw[Zc hb] at q
  by_cases hbe:b=e
  ·have q':H b=some (.own x):=by
    rcases he with z | z
    ·exact absurd (hbe.trans z) hb
    ·rw[hbe];exact z
   rw[q] at q';cases q'
   obtain⟨v,hv⟩:=heo
   exact⟨v,by rw[hbe];exact hv⟩
  ·refine(ok b u q).stay (fun c v hc r=>k c v ?_ r) (fun c r=>by rw[Zc (nown c b r)];exact r) fun c xs r=>by rw[Zc (ntup c xs r)];exact r
   rcases hc with rfl | hc
   ·exact hbe
   ·rintro rfl
    rcases he with z | z
    ·exact nown c b hc z
    ·rw[hc] at z;cases z;exact hb rfl
end
structure Un (fs ex:List Addr) (H H':Hp) (h h':Heap):Prop where
 keep:∀b o,h.get? b=some o->H b=none->b∉fs->b∉ex->h'.get? b=some o
 slot:∀b o,h.get? b=some o->H b=none->b∈fs->b∉ex->∃sl,h'.get? b=some {o with slots:=sl }
 free:∀b o,h.get? b=some o->H b=none->b∉ex->H' b=none
 there:∀b o,h.get? b=some o->b∉ex->∃o',h'.get? b=some o'
 tups:∀b xs,H b=some (.tup xs)->H' b=some (.tup xs)
 frzs:∀b o u,H b=some (.frz o u)->H' b=some (.frz o u)
 tbls:∀b ps,H b=some (.tbl ps)->∃more,H' b=some (.tbl (ps++more))
section
variable{fs fs' ex ex':List Addr}{H H1 H2:Hp}{h h1 h2 h':Heap}{a x e:Addr}{o:HO}
theorem Un.any(u:Un fs ex H H1 h h1){b:Addr}{ob:Obj}(q:h.get? b=some ob)(n:H b=none)(hx:b∉ex):∃sl,h1.get? b=some {ob with slots:=sl }:=by
 by_cases hb:b∈fs
 ·exact u.slot b ob q n hb hx
 ·exact⟨ob.slots,u.keep b ob q n hb hx⟩
theorem Un.kept(k:∀b u,h.get? b=some u->h'.get? b=some u):Un fs ex H H h h' :=
 ⟨fun b ob q _ _ _=>k b ob q,fun b ob q _ _ _=>⟨ob.slots,k b ob q⟩,fun _ _ _ n _=>n,fun b ob q _=>⟨ob,k b ob q⟩,fun _ _ q=>q,fun _ _ _ q=>q,fun _ ps q=>⟨#[],by rw[q];simp⟩⟩
theorem Un.refl:Un fs ex H H h h:=Un.kept fun _ _ q=>q
theorem Un.laid(k:∀b u,h.get? b=some u->h'.get? b=some u)(hp:h.objs.size<=a)(hn:H a=none):Un fs ex H (upd H a o) h h' where
 keep:=fun b u q _ _ _=>k b u q
 slot:=fun b u q _ _ _=>⟨u.slots,k b u q⟩
 free:=fun b u q n _=>by rw[Zc (yC (xZ (xN q) hp))];exact n
 there:=fun b u q _=>⟨u,k b u q⟩
 tups:=fun b xs q=>by rw[Zc (Zl q hn)];exact q
 frzs:=fun b u xs q=>by rw[Zc (Zl q hn)];exact q
 tbls:=fun b ps q=>⟨#[],by rw[Zc (Zl q hn),q];simp⟩
theorem Un.write(mu:Mut (H x))(he:e=x\/H e=some (.own x))(k:∀b u,b≠e->h.get? b=some u->h'.get? b=some u)(heo:∃u,h'.get? e=some u):Un fs ex H (upd H x o) h h':=by
 have hx:∀b,H b=none->b≠x:=fun b n z=>by subst z;rw[n] at mu;exact mu
 have hb:∀b,H b=none->b≠e:=fun b n z=>by
  subst z
  rcases he with r | r
  ·exact hx b n r
  ·rw[n] at r;cases r
 have hm:∀b u,H b=some u->¬Mut (some u)->b≠x:=fun b u q nm z=>by subst z;rw[q] at mu;exact nm mu
 refine⟨fun b u q n _ _=>k b u (hb b n) q,fun b u q n _ _=>⟨u.slots,k b u (hb b n) q⟩,fun b u q n _=>by rw[Zc (hx b n)];exact n,fun b u q _=>?_,
  fun b xs q=>by rw[Zc (hm b _ q fun z=>z)];exact q,fun b u xs q=>by rw[Zc (hm b _ q fun z=>z)];exact q,fun b ps q=>⟨#[],by rw[Zc (hm b _ q fun z=>z),q];simp⟩⟩
 by_cases hbe:b=e
 ·subst hbe;exact heo
 ·exact⟨u,k b u hbe q⟩
end
def trk(h:Heap)(H:Hp):List Addr:=(List.range h.objs.size).filter fun a=>(H a).isSome
def Zab(h:Heap)(H:Hp):Heap:=PySem.W.hideAll h (trk h H)
theorem Zqk(h:Heap)(H:Hp):(Zab h H).objs.size=h.objs.size:=PySem.W.hideAll_size _ _
theorem Zr7{h:Heap}{H:Hp}{b:Addr}{o:Obj}(e:h.get? b=some o)(n:H b=none):(Zab h H).get? b=some o :=
 PySem.W.hideAll_get _ e fun hm=>by
  have q:(H b).isSome=true:=(zW.mp hm).2
  rw[n] at q;simp at q
theorem Zt5{h:Heap}{H:Hp}{b:Addr}{o:Obj}(e:(Zab h H).get? b=some o):h.get? b=some o/\H b=none:=by
 have e':h.get? b=some o:=PySem.W.of_hideAll (trk h H) e
 refine⟨e',?_⟩
 cases q:H b with
 | none=>rfl
 | some x =>
  have hm:b∈trk h H:=zW.mpr ⟨wA.mpr (xN e'),by simp[q]⟩
  have z:(Zab h H).get? b=none:=PySem.W.hideAll_none (trk h H) hm
  rw[z] at e;cases e
end L2
namespace L2
open PySem PySem.Spec PyProof.Rows
structure Mod (K:uFg) (mg:Str->Option Value) (base:Heap):Prop where
 kin:K.In base
 glob:base.Ns mainGlobals mg
 blt:∃mb,base.Ns builtinsNs mb/\∀x:Str,x ≠ "__name__" -> mb x=bootBuiltins x
 nolimit:base.NoLimit
/-- the context: a def's body (or a comprehension's block) running. base: fixed through the whole law;s₀,H₀: the entry;outer: the frames whose slots others may change (a def's callers);stack: all frames that run;
   ex: iterators that were made ahead of the entry and are walked here (a comprehension's);fn: the names whose cells were made at the entry (a def: all;a comprehension's block: its own);calm: not within an except suite;pn: pins that every state bears;xe: what is wanted of an exception that leaves the code -/
structure Cx where
 prog:Program
 w:World
 K:uFg
 mg:Str->Option Value
 base:Heap
 A:Around
 N:List Str
 s₀:Shared
 H₀:Hp
 env:Env
 outer:List Env
 stack:List Env
 ex:List Addr
 fn:Str->Bool
 calm:Bool
 pn:List (Addr×Obj)
 xe:Value->Shared->Prop
def frs(l:List Env):List Addr:=l.filterMap (·.frame)
abbrev Cx.fs(X:Cx):List Addr:=frs X.outer
def Vis(sc:Scope)(x:Str):Prop:=sc.names.lookup x=some .local\/sc.names.lookup x=some .cell\/sc.names.lookup x=some .free
def Loc(sc:Scope)(x:Str):Prop:=sc.names.lookup x=some .local\/sc.names.lookup x=some .cell
def Z0x(env:Env)(h:Heap)(m:Str->Option Value)(x:Str)(u:Value):Prop :=
 (env.kindOf x=some .local/\m x=some u)\/((env.kindOf x=some .cell\/env.kindOf x=some .free)/\∃c,env.cells.lookup x=some c/\h.IsCell c (some u))
structure Cx.Ok (X:Cx):Prop where
 mod:Mod X.K X.mg X.base
 kind:X.env.scope.kind = .function
 glob:X.env.globals=mainGlobals
 blt:X.env.builtins=builtinsNs
 above:X.s₀.heap.objs.size<=X.env.locals
 inj:∀x y c,X.env.cells.lookup x=some c->X.env.cells.lookup y=some c->x=y
 has:∀x,(X.env.kindOf x=some .cell\/X.env.kindOf x=some .free)->∃c,X.env.cells.lookup x=some c
 cab:∀x c,X.fn x=true->X.env.cells.lookup x=some c->X.s₀.heap.objs.size<=c
 hd:X.calm=true->X.A.handled=none
 frames:X.A.frames=some X.stack
 stk:X.stack=X.outer\/(X.stack=X.env::X.outer/\X.env.frame=some X.env.locals)
 exf:∀b∈X.ex,b≠X.env.locals/\∀x c,X.env.cells.lookup x=some c->c≠b
 bs:∀b o,X.base.get? b=some o->X.s₀.heap.get? b=some o/\X.H₀ b=none
 bsz:X.base.objs.size<=X.s₀.heap.objs.size
 noex:∀b o,X.base.get? b=some o->b∉X.ex
 exfs:∀b∈X.ex,b∉X.fs
 funs:X.s₀.heap.FunFrames X.base X.outer
 frf:∀b∈X.fs,X.H₀ b=none
structure Inv (X:Cx) (pins:List (Addr×Obj)) (σ:List (Option V)) (H:Hp) (s:Shared):Prop where
 ok:X.Ok
 os:s.os=X.s₀.os
 bare:AllBare s.gens
 base:Un X.fs X.ex X.H₀ H X.s₀.heap s.heap
 loc:∃m,s.heap.Ns X.env.locals m/\∀(i:Nat)(x:Str)(v:V),X.N[i]? = some x->σ[i]? = some (some v)->Vis X.env.scope x->∃u,RelV v u/\Z0x X.env s.heap m x u
 cell:∀x c,X.env.cells.lookup x=some c->∃v,s.heap.IsCell c v
 free:H X.env.locals=none
 freeC:∀x c,X.env.cells.lookup x=some c->H c=none
 pin:∀p∈X.pn++pins,s.heap.get? p.1=some p.2/\H p.1=none/\p.1≠X.env.locals/\p.1∉X.fs/\∀v,p.2.data ≠ .cell v
 hok:HOk X.prog X.w H s.heap
 len : σ.length=X.N.length
section
variable{X:Cx}{pins:List (Addr×Obj)}{σ:List (Option V)}{H H':Hp}{s:Shared}{h':Heap}
theorem Cx.Ok.nofr(ok:X.Ok){b:Addr}{o:Obj}(e:X.base.get? b=some o):b∉X.fs:=fun hb=>by
 have:=(ok.funs.mem hb).1
 rw[e] at this;cases this
theorem Inv.bs(I:Inv X pins σ H s):∀b o,X.base.get? b=some o->s.heap.get? b=some o/\H b=none:=fun b o e =>
 ⟨I.base.keep b o (I.ok.bs b o e).1 (I.ok.bs b o e).2 (I.ok.nofr e) (I.ok.noex b o e),I.base.free b o (I.ok.bs b o e).1 (I.ok.bs b o e).2 (I.ok.noex b o e)⟩
theorem Inv.bk(I:Inv X pins σ H s):∀b o,X.base.get? b=some o->s.heap.get? b=some o:=fun b o e=>(I.bs b o e).1
theorem Inv.mod(I:Inv X pins σ H s):Mod X.K X.mg X.base:=I.ok.mod
theorem Inv.kIn(I:Inv X pins σ H s):X.K.In s.heap:=I.ok.mod.kin.keeps I.bk
theorem Inv.lt(I:Inv X pins σ H s):X.env.locals < s.heap.objs.size:=let ⟨_,hn,_⟩:=I.loc;hn.lt
theorem Inv.sz(I:Inv X pins σ H s):X.s₀.heap.objs.size<=s.heap.objs.size:=xS I.ok.above (zI I.lt)
theorem Inv.nofs(I:Inv X pins σ H s){a:Addr}(h:s.heap.objs.size<=a):a∉X.fs:=fun hb=>by
 obtain⟨_,o,ho,_⟩:=I.ok.funs.mem hb
 exact absurd (xZ (xN ho) (xS I.sz h)) (zN _)
theorem Inv.cne(I:Inv X pins σ H s):∀x c,X.env.cells.lookup x=some c->c≠X.env.locals:=fun x c e z=>by
 obtain⟨v,o,ho,hd⟩:=I.cell x c e
 obtain⟨m,⟨o',es,ep,ho',hd',_⟩,_⟩:=I.loc
 rw[z,ho'] at ho;cases ho;rw[hd'] at hd;cases hd
theorem Inv.funs(I:Inv X pins σ H s):s.heap.FunFrames X.base X.outer:=by
 have all:∀(l:List Env),(∀b∈frs l,b∈X.fs)->X.s₀.heap.FunFrames X.base l->s.heap.FunFrames X.base l:=by
  intro l
  induction l with
  | nil=>intro _ _;trivial
  | cons env r ih =>
   intro hs hl
   obtain⟨hk,⟨L,o,hf,hn,ho,hd⟩,hr⟩:=hl
   have hL:L∈X.fs:=hs L (by unfold frs;rw[List.filterMap_cons,hf];exact yD)
   obtain⟨sl,e⟩:=I.base.slot L o ho (I.ok.frf L hL) hL fun z=>I.ok.exfs L z hL
   exact⟨hk,⟨L,_,hf,hn,e,hd⟩,ih (fun b hb=>hs b (by unfold frs;rw[List.filterMap_cons,hf];exact xX _ hb)) hr⟩
 exact all X.outer (fun _ hb=>hb) I.ok.funs
theorem Inv.stack(I:Inv X pins σ H s):s.heap.FunFrames X.base X.stack:=by
 rcases I.ok.stk with e | ⟨e,hf⟩
 ·rw[e];exact I.funs
 ·rw[e]
  obtain⟨m,hn,_⟩:=I.loc
  refine .cons (by rw[I.ok.kind];decide) hf hn ?_ I.funs
  exact Heap.get?_none_of_le (xS I.ok.bsz I.ok.above)
theorem Inv.stkSub(I:Inv X pins σ H s):∀b∈frs X.stack,b∈X.env.locals::X.fs:=fun b hb=>by
 rcases I.ok.stk with e | ⟨e,hf⟩
 ·rw[e] at hb;exact xX _ hb
 ·rw[e] at hb
  unfold frs at hb
  rw[List.filterMap_cons,hf] at hb
  exact hb
theorem Inv.stkFree(I:Inv X pins σ H s):∀b∈frs X.stack,H b=none:=fun b hb=>by
 rcases xC.mp (I.stkSub b hb) with e | hb
 ·rw[e];exact I.free
 ·obtain⟨_,o,ho,_⟩:=I.ok.funs.mem hb
  exact I.base.free b o ho (I.ok.frf b hb) fun z=>I.ok.exfs b z hb
theorem Inv.step{g':Array GenState}{t':Nat}{d':Drawn}{ch:List Addr}(I:Inv X pins σ H s)(hch:∀b∈ch,(b∈X.ex\/X.s₀.heap.objs.size<=b)/\b≠X.env.locals/\(∀x c,X.env.cells.lookup x=some c->c≠b)/\∀p∈X.pn++pins,p.1≠b)(keep:∀b o,b≠X.env.locals->b∉X.fs->b∉ch->s.heap.get? b=some o->H b=none->h'.get? b=some o)(slot:∀b o,b≠X.env.locals->b∈X.fs->b∉ch->s.heap.get? b=some o->H b=none->∃sl,h'.get? b=some {o with slots:=sl })(free:∀b o,b∉ch->s.heap.get? b=some o->H b=none->H' b=none)(there:∀b o,b∉ch->s.heap.get? b=some o->∃o',h'.get? b=some o')(tups:∀b xs,H b=some (.tup xs)->H' b=some (.tup xs))(frzs:∀b o u,H b=some (.frz o u)->H' b=some (.frz o u))(tbls:∀b ps,H b=some (.tbl ps)->∃more,H' b=some (.tbl (ps++more)))(ns:∀m,s.heap.Ns X.env.locals m->h'.Ns X.env.locals m)(hok:HOk X.prog X.w H' h')(hg:AllBare g') :
  Inv X pins σ H' {s with heap:=h',gens:=g',drawn:=d',toks:=t' }:=by
 have neL:∀b o,X.s₀.heap.get? b=some o->b≠X.env.locals:=fun b o e=>yC (xZ (xN e) I.ok.above)
 have neC:∀b o,X.s₀.heap.get? b=some o->b∉X.ex->b∉ch:=fun b o e hx hb=>by
  rcases(hch b hb).1 with z | z
  ·exact hx z
  ·exact absurd (xZ (xN e) z) (zN _)
 have cellK:∀x c,X.env.cells.lookup x=some c->∀v,s.heap.IsCell c v->h'.IsCell c v:=fun x c e v ⟨o,ho,hd⟩=>by
  have nch:c∉ch:=fun z=>(hch c z).2.2.1 x c e rfl
  by_cases hc:c∈X.fs
  ·obtain⟨sl,q⟩:=slot c o (I.cne x c e) hc nch ho (I.freeC x c e)
   exact⟨_,q,hd⟩
  ·exact⟨o,keep c o (I.cne x c e) hc nch ho (I.freeC x c e),hd⟩
 refine⟨I.ok,I.os,hg,⟨fun b o e n hb hx=>?_,fun b o e n hb hx=>?_,fun b o e n hx=>?_,fun b o e hx=>?_,fun b xs e=>tups b xs (I.base.tups b xs e),fun b o xs e=>frzs b o xs (I.base.frzs b o xs e),fun b ps e=>?_⟩,?_,fun x c e=>?_,?_,fun x c e=>?_,fun p hp=>?_,hok,I.len⟩
 ·exact keep b o (neL b o e) hb (neC b o e hx) (I.base.keep b o e n hb hx) (I.base.free b o e n hx)
 ·obtain⟨sl,e1⟩:=I.base.slot b o e n hb hx
  obtain⟨sl',e2⟩:=slot b _ (neL b o e) hb (neC b o e hx) e1 (I.base.free b o e n hx)
  exact⟨sl',e2⟩
 ·obtain⟨o',e1⟩:=I.base.there b o e hx
  exact free b o' (neC b o e hx) e1 (I.base.free b o e n hx)
 ·obtain⟨o',e1⟩:=I.base.there b o e hx
  exact there b o' (neC b o e hx) e1
 ·obtain⟨m1,e1⟩:=I.base.tbls b ps e
  obtain⟨m2,e2⟩:=tbls b _ e1
  exact⟨m1++m2,by rw[e2,Array.append_assoc]⟩
 ·obtain⟨m,hn,hl⟩:=I.loc
  refine⟨m,ns m hn,fun i x v e1 e2 e3=>?_⟩
  obtain⟨u,r,l⟩:=hl i x v e1 e2 e3
  refine⟨u,r,?_⟩
  rcases l with l | ⟨k,c,e,z⟩
  ·exact .inl l
  ·exact .inr ⟨k,c,e,cellK x c e _ z⟩
 ·obtain⟨v,z⟩:=I.cell x c e
  exact⟨v,cellK x c e v z⟩
 ·obtain⟨m,⟨o,_,_,ho,_⟩,_⟩:=I.loc
  exact free _ o (fun z=>(hch _ z).2.1 rfl) ho I.free
 ·obtain⟨v,o,ho,hd⟩:=I.cell x c e
  exact free c o (fun z=>(hch c z).2.2.1 x c e rfl) ho (I.freeC x c e)
 ·obtain⟨e,n,ne,nf,d⟩:=I.pin p hp
  have nch:p.1∉ch:=fun z=>(hch p.1 z).2.2.2 p hp rfl
  exact⟨keep p.1 p.2 ne nf nch e n,free p.1 p.2 nch e n,ne,nf,d⟩
theorem Inv.un{t':Nat}(I:Inv X pins σ H s)(u:Un X.fs [] H H' s.heap h')(hok:HOk X.prog X.w H' h'):Inv X pins σ H' {s with heap:=h',toks:=t' }:=by
 obtain⟨m,⟨o,es,ep,ho,r⟩,_⟩:=id I.loc
 obtain⟨sl,hL⟩:=u.any ho I.free (by simp)
 exact I.step (g':=s.gens) (d':=s.drawn) (ch:=[]) (fun _ z=>nomatch z) (fun b o _ hb _ e n=>u.keep b o e n hb (by simp)) (fun b o _ hb _ e n=>u.slot b o e n hb (by simp)) (fun b o _ e n=>u.free b o e n (by simp)) (fun b o _ e=>u.there b o e (by simp)) u.tups u.frzs u.tbls (fun m' hm=>by
  obtain⟨o',es',ep',ho',r'⟩:=hm
  rw[ho] at ho';cases ho'
  exact⟨_,es',ep',hL,r'⟩) hok I.bare
theorem Inv.call{g':Array GenState}{t':Nat}{d':Drawn}{ch:List Addr}(I:Inv X pins σ H s)(u:Un (frs X.stack) ch H H' s.heap h')(hok:HOk X.prog X.w H' h')(hg:AllBare g')(hch:∀b∈ch,(b∈X.ex\/X.s₀.heap.objs.size<=b)/\b≠X.env.locals/\(∀x c,X.env.cells.lookup x=some c->c≠b)/\∀p∈X.pn++pins,p.1≠b) :
  Inv X pins σ H' {s with heap:=h',gens:=g',drawn:=d',toks:=t' }:=by
 obtain⟨m,⟨o,es,ep,ho,r⟩,_⟩:=id I.loc
 obtain⟨sl,hL⟩:=u.any ho I.free fun z=>(hch _ z).2.1 rfl
 exact I.step (ch:=ch) hch (fun b o hL hb hc e n=>u.keep b o e n (fun z=>(xC.mp (I.stkSub b z)).elim hL hb) hc) (fun b o _ _ hc e n=>u.any e n hc) (fun b o hc e n=>u.free b o e n hc) (fun b o hc e=>u.there b o e hc) u.tups u.frzs u.tbls (fun m' hm=>by
  obtain⟨o',es',ep',ho',r'⟩:=hm
  rw[ho] at ho';cases ho'
  exact⟨_,es',ep',hL,r'⟩) hok hg
theorem Inv.turned{t':Nat}{it:Addr}(I:Inv X pins σ H s)(k:∀b o,b≠it->s.heap.get? b=some o->h'.get? b=some o)(hn:H it=none)(hL:it≠X.env.locals)(h1:it∈X.ex\/X.s₀.heap.objs.size<=it)(h2:∀x c,X.env.cells.lookup x=some c->c≠it)(h3:∀p∈X.pn++pins,p.1≠it):Inv X pins σ H {s with heap:=h',toks:=t' }:=by
 have nit:∀b u,H b=some u->b≠it:=fun b u e z=>by rw[z,hn] at e;cases e
 refine I.step (g':=s.gens) (d':=s.drawn) (ch:=[it]) (fun b hb=>?_) (fun b o _ _ hc e _=>k b o (fun z=>hc (by simp[z])) e) (fun b o _ _ hc e _=>⟨o.slots,k b o (fun z=>hc (by simp[z])) e⟩) (fun _ _ _ _ n=>n)
  (fun b o hc e=>⟨o,k b o (fun z=>hc (by simp[z])) e⟩) (fun _ _ e=>e) (fun _ _ _ e=>e) (fun b ps e=>⟨#[],by rw[e];simp⟩) (fun m hm=>?_) (fun b u e=>?_) I.bare
 ·have e:b=it:=by simpa using hb
  subst e
  exact⟨h1,hL,h2,h3⟩
 ·obtain⟨o,es,ep,ho,r⟩:=hm
  exact⟨o,es,ep,k _ o (Ne.symm hL) ho,r⟩
 ·refine(I.hok b u e).stay (fun c v hc q=>k c v ?_ q) (fun _ q=>q) fun _ _ q=>q
  rcases hc with z | z
  ·rw[z];exact nit b u e
  ·exact nit c _ z
theorem Inv.tok(I:Inv X pins σ H s)(t:Nat):Inv X pins σ H {s with toks:=t }:=I.un (h':=s.heap) (t':=t) Un.refl I.hok
theorem Inv.kept{t':Nat}(I:Inv X pins σ H s)(k:∀b u,s.heap.get? b=some u->h'.get? b=some u):Inv X pins σ H {s with heap:=h',toks:=t' }:=I.un (Un.kept k) (I.hok.kept k)
theorem Inv.laid{a:Addr}{o:HO}{t':Nat}(I:Inv X pins σ H s)(k:∀b u,s.heap.get? b=some u->h'.get? b=some u)(hp:s.heap.objs.size<=a)(new:ObjOk X.prog X.w (upd H a o) h' a o) :
  Inv X pins σ (upd H a o) {s with heap:=h',toks:=t' }:=I.un (Un.laid k hp (I.hok.fresh hp)) (I.hok.laid k hp new)
theorem Inv.write{x e:Addr}{o:HO}{t':Nat}(I:Inv X pins σ H s)(mu:Mut (H x))(he:e=x\/H e=some (.own x))(k:∀b u,b≠e->s.heap.get? b=some u->h'.get? b=some u)(heo:∃u,h'.get? e=some u)(new:ObjOk X.prog X.w (upd H x o) h' x o):Inv X pins σ (upd H x o) {s with heap:=h',toks:=t' }:=I.un (Un.write mu he k heo) (I.hok.write mu he k heo new)
theorem Inv.pins_of{pins':List (Addr×Obj)}(I:Inv X pins σ H s)(h:∀p∈pins',s.heap.get? p.1=some p.2/\H p.1=none/\p.1≠X.env.locals/\p.1∉X.fs/\∀v,p.2.data ≠ .cell v):Inv X pins' σ H s :=
 ⟨I.ok,I.os,I.bare,I.base,I.loc,I.cell,I.free,I.freeC,fun p hp=>(xH.mp hp).elim (fun z=>I.pin p (yM _ z)) (h p),I.hok,I.len⟩
theorem Zfe{N:List Str}(hN:N.Nodup){i j:Nat}{x:Str}(a:N[i]? = some x)(b:N[j]? = some x):i=j:=by
 obtain⟨h1,e1⟩:=xG.mp a
 obtain⟨h2,e2⟩:=xG.mp b
 exact(List.getElem_inj hN).mp (e1.trans e2.symm)
theorem Zql{M:Model}{A:Around}{E:Value->Shared->Prop}{i:Nat}{x:Str}{v:V}{u:Value}{Q:Unit->Shared->Prop}(I:Inv X pins σ H s)(hN:X.N.Nodup)(hi:X.N[i]? = some x)(hx:Loc X.env.scope x)(r:RelV v u)(h:∀s',Inv X pins (σ.set i (some v)) H s'->(∃a,Heap.SameBut a s.heap s'.heap/\(a=X.env.locals\/X.env.cells.lookup x=some a))->Q () s')(hf:X.fn x=true\/X.env.scope.names.lookup x=some .local:=by first | exact .inl rfl | exact .inr rfl | assumption):wpAny M A (storeName X.env x u) Q E s:=by
 obtain⟨m,hn,hl⟩:=id I.loc
 have hcls:(X.env.scope.kind == .class || (X.env.scope.kind == .module && X.env.locals != X.env.globals))=false:=by rw[I.ok.kind];rfl
 have hiσ:i < σ.length:=by rw[I.len];exact(xG.mp hi).1
 have cne:=I.cne
 have tracked:∀{a:Addr}{h':Heap},(∃o,s.heap.get? a=some o/\H a=none)->Heap.SameBut a s.heap h'->HOk X.prog X.w H h':=fun {a h'} ha hs b ob e=>by
  obtain⟨_,_,hfree⟩:=ha
  refine(I.hok b ob e).stay (fun c w' hc q=>(hs.2 c ?_).trans q) (fun _ q=>q) fun _ _ q=>q
  rintro rfl
  rcases hc with rfl | hc
  ·rw[hfree] at e;cases e
  ·rw[hfree] at hc;cases hc
 rcases hx with hk | hk
 ·refine wpAny_storeName_local hk hn (fun h' hn' hs=>?_) hcls
  obtain⟨oL,_,_,hoL,_⟩:=id hn
  refine h _ ⟨I.ok,I.os,I.bare,⟨fun b o e n hb hx=>?_,fun b o e n hb hx=>?_,I.base.free,fun b o e hx=>?_,I.base.tups,I.base.frzs,I.base.tbls⟩,⟨_,hn',fun j y v' e1 e2 e3=>?_⟩,fun y c e=>?_,I.free,I.freeC,fun p hp=>?_,tracked ⟨oL,hoL,I.free⟩ hs,by simpa using I.len⟩ ⟨_,hs,.inl rfl⟩
  ·exact(hs.2 b (yC (xZ (xN e) I.ok.above))).trans (I.base.keep b o e n hb hx)
  ·obtain⟨sl,e1⟩:=I.base.slot b o e n hb hx
   exact⟨sl,(hs.2 b (yC (xZ (xN e) I.ok.above))).trans e1⟩
  ·obtain⟨o',e1⟩:=I.base.there b o e hx
   exact⟨o',(hs.2 b (yC (xZ (xN e) I.ok.above))).trans e1⟩
  ·by_cases hj:j=i
   ·subst hj
    rw[hi] at e1;cases e1
    rw[List.getElem?_set_self hiσ] at e2
    cases e2
    exact⟨u,r,.inl ⟨hk,by simp⟩⟩
   ·rw[List.getElem?_set_ne (Ne.symm hj)] at e2
    obtain⟨u',r',q⟩:=hl j y v' e1 e2 e3
    refine⟨u',r',?_⟩
    rcases q with⟨k,e⟩ | ⟨k,c,e,z⟩
    ·refine .inl ⟨k,?_⟩
     have:y≠x:=fun e=>hj (Zfe hN e1 (e▸hi))
     simp[this,e]
    ·exact .inr ⟨k,c,e,z.sameBut hs (cne y c e)⟩
  ·obtain⟨w',z⟩:=I.cell y c e
   exact⟨w',z.sameBut hs (cne y c e)⟩
  ·obtain⟨e,n,ne,nf,d⟩:=I.pin p hp
   exact⟨(hs.2 p.1 ne).trans e,n,ne,nf,d⟩
 ·have hfn:X.fn x=true:=by
   rcases hf with z | z
   ·exact z
   ·rw[z] at hk;cases hk
  obtain⟨c,hc⟩:=I.ok.has x (.inl hk)
  obtain⟨w',z⟩:=I.cell x c hc
  refine wpAny_storeName_cell I.ok.kind hk hc z (fun h' hc' hs=>?_)
  obtain⟨oc,hoc,hocd⟩:=id z
  refine h {s with heap:=h' } ⟨I.ok,I.os,I.bare,⟨fun b o e n hb hx=>?_,fun b o e n hb hx=>?_,I.base.free,fun b o e hx=>?_,I.base.tups,I.base.frzs,I.base.tbls⟩,⟨m,hn.sameBut hs (Ne.symm (cne x c hc)),fun j y v' e1 e2 e3=>?_⟩,fun y c' e=>?_,I.free,I.freeC,fun p hp=>?_,tracked ⟨oc,hoc,I.freeC x c hc⟩ hs,by simpa using I.len⟩ ⟨c,hs,.inr hc⟩
  ·exact(hs.2 b (yC (xZ (xN e) (I.ok.cab x c hfn hc)))).trans (I.base.keep b o e n hb hx)
  ·obtain⟨sl,e1⟩:=I.base.slot b o e n hb hx
   exact⟨sl,(hs.2 b (yC (xZ (xN e) (I.ok.cab x c hfn hc)))).trans e1⟩
  ·obtain⟨o',e1⟩:=I.base.there b o e hx
   exact⟨o',(hs.2 b (yC (xZ (xN e) (I.ok.cab x c hfn hc)))).trans e1⟩
  ·by_cases hj:j=i
   ·subst hj
    rw[hi] at e1;cases e1
    rw[List.getElem?_set_self hiσ] at e2
    cases e2
    exact⟨u,r,.inr ⟨.inl hk,c,hc,hc'⟩⟩
   ·rw[List.getElem?_set_ne (Ne.symm hj)] at e2
    obtain⟨u',r',q⟩:=hl j y v' e1 e2 e3
    refine⟨u',r',?_⟩
    rcases q with q | ⟨k,c',e,z'⟩
    ·exact .inl q
    ·refine .inr ⟨k,c',e,z'.sameBut hs ?_⟩
     rintro rfl
     exact hj (Zfe hN e1 (I.ok.inj _ _ _ e hc▸hi))
  ·by_cases hcc:c'=c
   ·subst hcc;exact⟨_,hc'⟩
   ·obtain⟨w2,z2⟩:=I.cell y c' e
    exact⟨w2,z2.sameBut hs hcc⟩
  ·obtain⟨e,n,ne,nf,d⟩:=I.pin p hp
   refine⟨(hs.2 p.1 ?_).trans e,n,ne,nf,d⟩
   intro q
   rw[q,hoc] at e
   have q':oc=p.2:=Option.some.inj e
   exact d w' (by rw[← q'];exact hocd)
theorem Zff{M:Model}{A:Around}{E:Value->Shared->Prop}{i:Nat}{x:Str}{v:V}{u:Value}{Q:Unit->Shared->Prop}(I:Inv X pins σ H s)(hN:X.N.Nodup)(hi:X.N[i]? = some x)(hx:Loc X.env.scope x)(r:RelV v u)(h:∀s',Inv X pins (σ.set i (some v)) H s'->Q () s')(hf:X.fn x=true\/X.env.scope.names.lookup x=some .local:=by first | exact .inl rfl | exact .inr rfl | assumption):wpAny M A (storeName X.env x u) Q E s :=
 Zql I hN hi hx r (fun s' I' _=>h s' I') hf
theorem Inv.call'{s':Shared}{ch:List Addr}(I:Inv X pins σ H s)(ho:s'.os=s.os)(u:Un (frs X.stack) ch H H' s.heap s'.heap)(hok:HOk X.prog X.w H' s'.heap)(hg:AllBare s'.gens)(hch:∀b∈ch,(b∈X.ex\/X.s₀.heap.objs.size<=b)/\b≠X.env.locals/\(∀x c,X.env.cells.lookup x=some c->c≠b)/\∀p∈X.pn++pins,p.1≠b):Inv X pins σ H' s':=by
 obtain⟨h',g',d',t',o'⟩:=s'
 have e:o'=s.os:=ho
 subst e
 exact I.call (g':=g') (t':=t') (d':=d') u hok hg hch
end
abbrev XK:=Value->Option Addr->Hp->Prop
abbrev St:=List (Option V)
abbrev VK:=V->Hp->Prop
abbrev TE:=St->Hp->VK->Prop
abbrev TT:=St->Hp->(Bool->Hp->Prop)->Prop
abbrev TA:=St->Hp->(List V->Hp->Prop)->Prop
structure Ends where
 nx:St->Hp->Prop
 rt:VK
 bk:St->Hp->Prop:=fun _ _=>False
 ct:St->Hp->Prop:=fun _ _=>False
abbrev TS:=Ends->St->Hp->Prop
def EP(X:Cx)(pins:List (Addr×Obj))(σ:St)(Q:VK)(u:Value)(s':Shared):Prop:=∃v H',Inv X pins σ H' s'/\RelV v u/\Q v H'
def TP(X:Cx)(pins:List (Addr×Obj))(σ:St)(Q:Bool->Hp->Prop)(b:Bool)(s':Shared):Prop:=∃H',Inv X pins σ H' s'/\Q b H'
def AP(X:Cx)(pins:List (Addr×Obj))(σ:St)(Q:List V->Hp->Prop)(us:List Value)(s':Shared):Prop:=∃vs H',Inv X pins σ H' s'/\Vals vs us/\Q vs H'
def SP(X:Cx)(pins:List (Addr×Obj))(D:Ends)(f:Flow)(s':Shared):Prop :=
 match f with
 | .next=>∃ σ' H',Inv X pins σ' H' s'/\D.nx σ' H'
 | .brk=>∃ σ' H',Inv X pins σ' H' s'/\D.bk σ' H'
 | .cont=>∃ σ' H',Inv X pins σ' H' s'/\D.ct σ' H'
 | .ret u=>∃v σ' H',Inv X pins σ' H' s'/\RelV v u/\D.rt v H'
def PE(X:Cx)(e:Expr)(t:TE):Prop :=
 ∀(pins:List (Addr×Obj))(s:Shared)(σ:St)(H:Hp)(Q:VK),Inv X pins σ H s->t σ H Q->wpAny (model X.prog X.w) X.A (eval e X.env) (EP X pins σ Q) X.xe s
def PT(X:Cx)(e:Expr)(t:TT):Prop :=
 ∀(pins:List (Addr×Obj))(s:Shared)(σ:St)(H:Hp)(Q:Bool->Hp->Prop),Inv X pins σ H s->t σ H Q->wpAny (model X.prog X.w) X.A (isTrue e X.env (eval e X.env)) (TP X pins σ Q) X.xe s
def PW(X:Cx)(e:Expr)(t:TT):Prop :=
 ∀(whole:Sem Value)(pins:List (Addr×Obj))(s:Shared)(σ:St)(H:Hp)(Q:Bool->Hp->Prop),Inv X pins σ H s->t σ H Q->wpAny (model X.prog X.w) X.A (isTrue e X.env whole) (TP X pins σ Q) X.xe s
theorem PW.pt{X:Cx}{e:Expr}{t:TT}(h:PW X e t):PT X e t:=h _
def PA(X:Cx)(es:List Expr)(t:TA):Prop :=
 ∀(pos:Pos)(pins:List (Addr×Obj))(s:Shared)(σ:St)(H:Hp)(Q:List V->Hp->Prop),Inv X pins σ H s->t σ H Q->wpAny (model X.prog X.w) X.A (spliced (backTo pos (starEach es X.env))) (AP X pins σ Q) X.xe s
def PS(X:Cx)(st:Stmt)(t:TS):Prop :=
 ∀(pins:List (Addr×Obj))(s:Shared)(σ:St)(H:Hp)(D:Ends),Inv X pins σ H s->t D σ H->wpAny (model X.prog X.w) X.A (exec st X.env) (SP X pins D) X.xe s
def PSs(X:Cx)(st:List Stmt)(t:TS):Prop :=
 ∀(pins:List (Addr×Obj))(s:Shared)(σ:St)(H:Hp)(D:Ends),Inv X pins σ H s->t D σ H->wpAny (model X.prog X.w) X.A (execs st X.env) (SP X pins D) X.xe s
theorem thn{α:Type}{t:Sem α}{Q Q' : α->Shared->Prop}{M:Model}{A:Around}{E:Value->Shared->Prop}{s:Shared}(h:wpAny M A t Q E s)(hQ:∀a s,Q a s->Q' a s):wpAny M A t Q' E s:=wpAny_mono h hQ fun _ _ x=>x
end L2
namespace L2
open PySem PySem.Spec PyProof.Rows
section
variable{X:Cx}
inductive tVar (i:Nat) (σ:St) (H:Hp) (Q:VK):Prop
 | mk (v) (h0 : σ[i]? = some (some v)) (h1:Q v H)
def tC(v:V):TE:=fun _ H Q=>Q v H
theorem Zds{i:Nat}{x:Str}{pos:Pos}(hN:X.N[i]? = some x)(hv:Vis X.env.scope x)(hd:(x == ("__debug__" : Str))=false:=by decide)(hcd:(x == ("__classdict__" : Str))=false:=by decide):PE X (.Name x pos) (tVar i):=by
 intro pins s σ H Q I h
 obtain⟨v,e,h⟩:=h
 obtain⟨m,hn,hl⟩:=I.loc
 obtain⟨u,r,l⟩:=hl i x v hN e hv
 have fin:EP X pins σ Q u s:=⟨v,H,I,r,h⟩
 rcases l with⟨hk,hm⟩ | ⟨hk,c,hc,hcell⟩
 ·exact wpAny_Name (wpAny_loadName_local I.ok.kind hk hn hm fin) hd
 ·rcases hk with hk | hk
  ·exact wpAny_Name (wpAny_loadName_cell I.ok.kind hk hc hcell fin) hd
  ·exact wpAny_Name (wpAny_loadName_free I.ok.kind hk hc hcell fin hcd) hd
theorem Zwh {i j pos}:PE X (.Constant (.int i) j pos) (tC (.int i)):=fun _ _ _ H _ I h=>wpAny_Constant_int ⟨.int i,H,I.tok _,⟨_,rfl⟩,h⟩
theorem Zx2 {b j pos}:PE X (.Constant (.bool b) j pos) (tC (.bl b)):=fun _ _ _ H _ I h=>Constant_bool ⟨.bl b,H,I,rfl,h⟩
theorem Zwi {j pos}:PE X (.Constant .none j pos) (tC .non):=fun _ _ _ H _ I h=>Constant_none ⟨.non,H,I,rfl,h⟩
theorem Zwj {x j pos}:PE X (.Constant (.str x) j pos) (tC (.str x)):=fun _ _ _ H _ I h=>Calls.Constant_str ⟨.str x,H,I.tok _,⟨_,rfl⟩,h⟩
def Gl(X:Cx)(x:Str):Prop:=X.env.kindOf x=some .globalImplicit
theorem Zbt{E:Value->Shared->Prop}{pins:List (Addr×Obj)}{s:Shared}{σ:St}{H:Hp}{x:Str}{u:Value}{pos:Pos}{Q:Value->Shared->Prop}(I:Inv X pins σ H s)(hg:Gl X x)(hm:X.mg x=some u)(h:Q u s)(hd:(x == ("__debug__" : Str))=false:=by decide):wpAny (model X.prog X.w) X.A (eval (.Name x pos) X.env) Q E s :=
 Calls.Name_function_global I.ok.kind hg (Calls.loadGlobal_global (by rw[I.ok.glob];exact I.mod.glob.keeps I.bk) hm h) hd
theorem Ug{E:Value->Shared->Prop}{pins:List (Addr×Obj)}{s:Shared}{σ:St}{H:Hp}{x:Str}{u:Value}{pos:Pos}{Q:Value->Shared->Prop}(I:Inv X pins σ H s)(hg:Gl X x)(hm:X.mg x=none)(hv:bootBuiltins x=some u)(h:Q u s)(hn:x ≠ "__name__" := by decide)(hd:(x == ("__debug__" : Str))=false:=by decide):wpAny (model X.prog X.w) X.A (eval (.Name x pos) X.env) Q E s:=by
 obtain⟨mb,h1,h2⟩:=I.mod.blt
 exact Calls.Name_function_global I.ok.kind hg (Calls.loadGlobal_builtin (by rw[I.ok.glob];exact I.mod.glob.keeps I.bk) hm (by rw[I.ok.blt];exact h1.keeps I.bk) ((h2 x hn).trans hv) h) hd
theorem Zt6{x:Str}{v:V}{u:Value}{pos:Pos}(hg:Gl X x)(hm:X.mg x=some u)(r:RelV v u)(hd:(x == ("__debug__" : Str))=false:=by decide):PE X (.Name x pos) (tC v) :=
 fun _ _ _ H _ I h=>Zbt I hg hm ⟨v,H,I,r,h⟩ hd
theorem Zt7{x:Str}{v:V}{u:Value}{pos:Pos}(hg:Gl X x)(hm:X.mg x=none)(hv:bootBuiltins x=some u)(r:RelV v u)(hn:x ≠ "__name__" := by decide)(hd:(x == ("__debug__" : Str))=false:=by decide):PE X (.Name x pos) (tC v) :=
 fun _ _ _ H _ I h=>Ug I hg hm hv ⟨v,H,I,r,h⟩ hn hd
variable{a b:Expr}{ta tb:TE}{pos:Pos}
inductive tB_ (Q:Bool->Hp->Prop) (x:V) (H1:Hp):Prop
 | mk (c) (h0:x = .bl c) (h1:Q c H1)
def tB(t:TE):TT:=fun σ H Q=>t σ H fun x H1=>tB_ Q x H1
theorem Zwk{e:Expr}{t:TE}(h:PE X e t)(he:∀whole,isTrue e X.env whole=(do let v ← whole;standAt e.pos;holding [v] (truthy v)):=by intro _;rfl):PT X e (tB t):=by
 intro pins s σ H Q I hw
 refine isTrue_plain (thn (h pins s σ H _ I hw) fun v s1 ⟨x,H1,I1,r1,q1⟩=>?_) (he _)
 obtain⟨d,rfl,q⟩:=q1
 cases r1
 exact wpAny_truthy_bool ⟨H1,I1,q⟩
variable{tA tB':TT}{rest:List Expr}
def Znu(t u:TT):TT:=fun σ H Q=>t σ H fun c H1=>if c=true then u σ H1 Q else Q false H1
def tOr(t u:TT):TT:=fun σ H Q=>t σ H fun c H1=>if c=true then Q true H1 else u σ H1 Q
def Znv(t:TT):TT:=fun σ H Q=>t σ H fun c H1=>Q (!c) H1
theorem Zt8(ha:PT X a tA):PW X (.BoolOp .And [a] pos) tA:=by
 intro wh pins s σ H Q I h
 refine isTrue_and (thn (ha pins s σ H Q I h) fun c s1 e=>?_)
 cases c with
 | true=>exact isTrue_and_nil e
 | false=>exact e
theorem Zwl(ha:PT X a tA):PW X (.BoolOp .Or [a] pos) tA:=by
 intro wh pins s σ H Q I h
 refine isTrue_or (thn (ha pins s σ H Q I h) fun c s1 e=>?_)
 cases c with
 | false=>exact isTrue_or_nil e
 | true=>exact e
theorem Zwm(ha:PT X a tA)(hb:PW X (.BoolOp .And (b::rest) pos) tB'):PW X (.BoolOp .And (a::b::rest) pos) (Znu tA tB'):=by
 intro wh pins s σ H Q I h
 refine isTrue_and (thn (ha pins s σ H _ I h) fun c s1 ⟨H1,I1,q1⟩=>?_)
 cases c with
 | true=>exact hb wh pins s1 σ H1 Q I1 q1
 | false=>exact⟨H1,I1,q1⟩
theorem Zx3(ha:PT X a tA)(hb:PW X (.BoolOp .Or (b::rest) pos) tB'):PW X (.BoolOp .Or (a::b::rest) pos) (tOr tA tB'):=by
 intro wh pins s σ H Q I h
 refine isTrue_or (thn (ha pins s σ H _ I h) fun c s1 ⟨H1,I1,q1⟩=>?_)
 cases c with
 | true=>exact⟨H1,I1,q1⟩
 | false=>exact hb wh pins s1 σ H1 Q I1 q1
theorem Zwn(ha:PT X a tA):PT X (.UnaryOp .Not a pos) (Znv tA):=by
 intro pins s σ H Q I h
 exact isTrue_not (ha pins s σ H (fun c H1=>Q (!c) H1) I h)
inductive tAndV_ (tb:TE) (σ:St) (Q:VK) (x:V) (H1:Hp):Prop
 | mk (c) (h0:x = .bl c) (h1:if c=true then tb σ H1 Q else Q (.bl false) H1)
def Zln(ta tb:TE):TE:=fun σ H Q=>ta σ H fun x H1=>tAndV_ tb σ Q x H1
theorem Zwo {op} {t:TE}(h:PE X a t):PE X (.BoolOp op [a] pos) t:=fun pins s σ H Q I hw=>BoolOp_one (h pins s σ H Q I hw)
theorem Zwp(ha:PE X a ta)(hb:PE X (.BoolOp .And (b::rest) pos) tb):PE X (.BoolOp .And (a::b::rest) pos) (Zln ta tb):=by
 intro pins s σ H Q I h
 refine BoolOp_and (thn (ha pins s σ H _ I h) fun v s1 ⟨x,H1,I1,r1,q1⟩=>?_)
 obtain⟨c,rfl,q1⟩:=q1
 cases r1
 refine wpAny_truthy_bool ?_
 cases c with
 | true=>exact hb pins s1 σ H1 Q I1 q1
 | false=>exact⟨.bl false,H1,I1,rfl,q1⟩
end
end L2
namespace L2
open PySem PySem.Spec PyProof.Rows
def SqL(K:uFg)(H:Hp)(a:Addr)(xs:List V):Prop :=
 Rd H a (.lst xs)\/
  ∃(o:Obj)(its:Array Value)(n:Nat),K.lookup a=some o/\o.cls = .type "list" /\ o.dict=none/\o.data = .seq its n/\its.size<=sizeLine/\Vals xs its.toList
def SqT(K:uFg)(H:Hp)(a:Addr)(xs:List V):Prop :=
 Rd H a (.tup xs)\/
  ∃(o:Obj)(its:Array Value)(n:Nat),K.lookup a=some o/\o.cls = .type "tuple" /\ o.data = .seq its n/\its.size<=sizeLine/\Vals xs its.toList
def Z0y:Value->Option V
 | .none=>some .non
 | .bool b=>some (.bl b)
 | .int i _=>some (.int i)
 | .str x _=>some (.str x)
 | .bytes b _=>some (.byt b)
 | .float b _=>some (.flt b)
 | .ref a=>some (.ref a)
 | .type n=>some (.ty n)
 | _=>none
theorem RelV.abs{x:V}{u:Value}(r:RelV x u):Z0y u=some x:=by
 cases x with
 | non=>cases r;rfl
 | bl _=>cases r;rfl
 | int _=>obtain⟨t,rfl⟩:=r;rfl
 | str _=>obtain⟨t,rfl⟩:=r;rfl
 | byt _=>obtain⟨t,rfl⟩:=r;rfl
 | flt _=>obtain⟨t,rfl⟩:=r;rfl
 | ref _=>cases r;rfl
 | ty _=>cases r;rfl
theorem RelV.inj{x y:V}{u:Value}(r:RelV x u)(q:RelV y u):x=y:=Option.some.inj (r.abs.symm.trans q.abs)
theorem Vals.inj:∀{xs ys:List V}{us:List Value},Vals xs us->Vals ys us->xs=ys
 | _,_,_,.nil,.nil=>rfl
 | _,_,_,.cons r t,.cons r' t'=>by rw[r.inj r',Vals.inj t t']
section
variable{X:Cx}{pins:List (Addr×Obj)}{σ:St}{H:Hp}{s:Shared}{a:Addr}{xs ys:List V}
theorem SqL.of{K:uFg}(h:H a=some (.lst xs)):SqL K H a xs:=.inl (.inl h)
theorem SqT.of{K:uFg}(h:H a=some (.tup xs)):SqT K H a xs:=.inl (.inl h)
theorem Inv.list(I:Inv X pins σ H s)(h:SqL X.K H a xs):∃its:List Value,Vals xs its/\PlainL s.heap a its.toArray/\xs.length<=sizeLine:=by
 rcases h with h | ⟨o,its,n,hk,hc,hd,hs,hz,r⟩
 ·obtain⟨z,its,n,r,e⟩:=h.ok I.hok
  exact⟨its,r,⟨_,n,e,rfl,rfl,rfl⟩,z⟩
 ·refine⟨its.toList,r,⟨o,n,I.kIn a o hk,hc,hd,by simpa using hs⟩,?_⟩
  have e:=r.length
  simp only[Array.length_toList] at e
  lia
theorem Inv.tuple(I:Inv X pins σ H s)(h:SqT X.K H a xs):∃its:List Value,Vals xs its/\IsTup s.heap a its.toArray/\xs.length<=sizeLine:=by
 rcases h with h | ⟨o,its,n,hk,hc,hs,hz,r⟩
 ·obtain⟨z,its,r,p⟩:=h.ok I.hok
  exact⟨its,r,p,z⟩
 ·refine⟨its.toList,r,⟨o,I.kIn a o hk,hc,n,by simpa using hs⟩,?_⟩
  have e:=r.length
  simp only[Array.length_toList] at e
  lia
theorem Inv.list_inj(I:Inv X pins σ H s)(h:SqL X.K H a xs)(h':SqL X.K H a ys):xs=ys:=by
 obtain⟨its,r,⟨o,n,e,_,_,d⟩,_⟩:=I.list h
 obtain⟨its',r',⟨o',n',e',_,_,d'⟩,_⟩:=I.list h'
 rw[e] at e';cases e'
 rw[d] at d'
 injection d' with d1 _
 have:its=its':=by simpa using congrArg Array.toList d1
 subst this
 exact r.inj r'
end
abbrev Cx.wish(X:Cx)(E:Value->Shared->Prop):Cx:={X with xe:=E }
abbrev Cx.nox(X:Cx):Cx:=X.wish fun _ _=>False
theorem Cx.Ok.wish{X:Cx}(ok:X.Ok)(E:Value->Shared->Prop):(X.wish E).Ok :=
 ⟨ok.mod,ok.kind,ok.glob,ok.blt,ok.above,ok.inj,ok.has,ok.cab,ok.hd,ok.frames,ok.stk,ok.exf,ok.bs,ok.bsz,ok.noex,ok.exfs,ok.funs,ok.frf⟩
theorem Cx.Ok.unwish{X:Cx}{E:Value->Shared->Prop}(ok:(X.wish E).Ok):X.Ok :=
 ⟨ok.mod,ok.kind,ok.glob,ok.blt,ok.above,ok.inj,ok.has,ok.cab,ok.hd,ok.frames,ok.stk,ok.exf,ok.bs,ok.bsz,ok.noex,ok.exfs,ok.funs,ok.frf⟩
section
variable{X:Cx}{pins:List (Addr×Obj)}{σ:St}{H:Hp}{s:Shared}{E:Value->Shared->Prop}
theorem Inv.wish(I:Inv X pins σ H s)(E:Value->Shared->Prop):Inv (X.wish E) pins σ H s:=⟨I.ok.wish E,I.os,I.bare,I.base,I.loc,I.cell,I.free,I.freeC,I.pin,I.hok,I.len⟩
theorem Inv.unwish(I:Inv (X.wish E) pins σ H s):Inv X pins σ H s:=⟨I.ok.unwish,I.os,I.bare,I.base,I.loc,I.cell,I.free,I.freeC,I.pin,I.hok,I.len⟩
theorem SP.unwish{D:Ends}{f:Flow}{s':Shared}(h:SP (X.wish E) pins D f s'):SP X pins D f s':=by
 cases f with
 | next=>obtain⟨σ',H',I,q⟩:=h;exact⟨σ',H',I.unwish,q⟩
 | brk=>obtain⟨σ',H',I,q⟩:=h;exact⟨σ',H',I.unwish,q⟩
 | cont=>obtain⟨σ',H',I,q⟩:=h;exact⟨σ',H',I.unwish,q⟩
 | ret u=>obtain⟨v,σ',H',I,r,q⟩:=h;exact⟨v,σ',H',I.unwish,r,q⟩
theorem PSs.nox{st:List Stmt}{t:TS}(h:PSs X.nox st t):PSs X st t:=fun pins s σ H D I hw =>
 wpAny_mono (h pins s σ H D (I.wish _) hw) (fun _ _ q=>q.unwish) fun _ _ z=>False.elim z
end
section
variable{X:Cx}{st:Stmt}{rest:List Stmt}{t u:TS}{e:Expr}{te:TE}{pos:Pos}
def Zah:TS:=fun D σ H=>D.nx σ H
def Vs(t u:TS):TS:=fun D σ H=>t {D with nx:=u D } σ H
theorem Zt9:PSs X [] Zah:=fun _ _ σ H _ I h=>wpAny_execs_nil ⟨σ,H,I,h⟩
theorem Zr8(h1:PS X st t)(h2:PSs X rest u):PSs X (st::rest) (Vs t u):=by
 intro pins s σ H D I h
 refine wpAny_execs_cons (thn (h1 pins s σ H {D with nx:=u D } I h) fun f s1 q=>?_)
 cases f with
 | next =>
  obtain⟨σ',H',I',q⟩:=q
  exact h2 pins s1 σ' H' D I' q
 | ret v=>exact q
 | brk=>exact q
 | cont=>exact q
theorem Zua(h1:PS X st t):PSs X [st] t:=by
 intro pins s σ H D I h
 refine wpAny_execs_cons (thn (h1 pins s σ H D I h) fun f s1 q=>?_)
 cases f with
 | next=>exact wpAny_execs_nil q
 | ret v=>exact q
 | brk=>exact q
 | cont=>exact q
theorem Inv.quiet{pins:List (Addr×Obj)}{σ:St}{H:Hp}{s:Shared}(I:Inv X pins σ H s):interactive X.env=false:=by simp[interactive,I.ok.kind]
def Zdw(te:TE):TS:=fun D σ H=>te σ H fun _ H1=>D.nx σ H1
theorem Zub(he:PE X e te)(hs:swapsWith e none pos.line X.env=pure false:=by rfl):PS X (.Expr e pos) (Zdw te):=by
 intro pins s σ H D I h
 exact wpAny_Expr_any (thn (he pins s σ H _ I h) fun v s1 ⟨x,H1,I1,r1,q1⟩=>⟨σ,H1,I1,q1⟩) I.quiet hs
def Znw(te:TE):TS:=fun D σ H=>te σ H D.rt
theorem Zwq(he:PE X e te):PS X (.Return (some e) pos) (Znw te):=by
 intro pins s σ H D I h
 exact wpAny_Return_some (thn (he pins s σ H _ I h) fun v s1 ⟨x,H1,I1,r1,q1⟩=>⟨x,σ,H1,I1,r1,q1⟩)
def Zc2(c:TT)(t u:TS):TS:=fun D σ H=>c σ H fun b H1=>if b=true then t D σ H1 else u D σ H1
theorem Zx4{c:Expr}{a b:List Stmt}{tc:TT}(hc:PT X c tc)(ha:PSs X a t)(hb:PSs X b u):PS X (.If c a b pos) (Zc2 tc t u):=by
 intro pins s σ H D I h
 refine wpAny_If (thn (hc pins s σ H _ I h) fun d s1 ⟨H1,I1,q1⟩=>?_)
 cases d with
 | true=>exact ha pins s1 σ H1 D I1 q1
 | false=>exact hb pins s1 σ H1 D I1 q1
end
abbrev TG:=V->St->Hp->(St->Hp->Prop)->Prop
abbrev TGs:=List V->St->Hp->(St->Hp->Prop)->Prop
def PG(X:Cx)(target:Expr)(t:TG):Prop :=
 ∀(pins:List (Addr×Obj))(s:Shared)(σ:St)(H:Hp)(v:V)(u:Value)(Q:St->Hp->Prop),Inv X pins σ H s->RelV v u->t v σ H Q ->
  wpAny (model X.prog X.w) X.A (assign target X.env u) (fun _ s'=>∃ σ' H',Inv X pins σ' H' s'/\Q σ' H') X.xe s
def PGs(X:Cx)(ts:List Expr)(t:TGs):Prop :=
 ∀(pins:List (Addr×Obj))(s:Shared)(σ:St)(H:Hp)(vs:List V)(us:List Value)(Q:St->Hp->Prop),Inv X pins σ H s->Vals vs us->t vs σ H Q ->
  wpAny (model X.prog X.w) X.A (assignInOrder ((assignEach ts X.env).map (·.2)) us) (fun _ s'=>∃ σ' H',Inv X pins σ' H' s'/\Q σ' H') X.xe s
abbrev Zc3:=V->V->V->Hp->(Hp->Prop)->Prop
def Zh9(X:Cx)(t:Zc3):Prop :=
 ∀(pins:List (Addr×Obj))(s:Shared)(σ:St)(H:Hp)(o i v:V)(ov iv u:Value)(Q:Hp->Prop),Inv X pins σ H s->RelV o ov->RelV i iv->RelV v u->t o i v H Q ->
  wpAny (model X.prog X.w) X.A (setItem ov iv u) (fun _ s'=>∃H',Inv X pins σ H' s'/\Q H') X.xe s
abbrev TIp:=V->V->Hp->VK->Prop
def PIp(X:Cx)(op:Operator)(t:TIp):Prop :=
 ∀(pins:List (Addr×Obj))(s:Shared)(σ:St)(H:Hp)(x y:V)(v u:Value)(Q:VK),Inv X pins σ H s->RelV x v->RelV y u->t x y H Q ->
  wpAny (model X.prog X.w) X.A (inplaceOp op v u) (EP X pins σ Q) X.xe s
section
variable{X:Cx}{pos:Pos}
def Wp(i:Nat):TG:=fun v σ H Q=>Q (σ.set i (some v)) H
theorem Zfk{i:Nat}{x:Str}(hN:X.N.Nodup)(hi:X.N[i]? = some x)(hx:Loc X.env.scope x)(hf:X.fn x=true\/X.env.scope.names.lookup x=some .local:=by first | exact .inl rfl | exact .inr rfl | assumption):PG X (.Name x pos) (Wp i):=by
 intro pins s σ H v u Q I r h
 exact wpAny_assign_Name (Zff I hN hi hx r (fun s' I'=>⟨_,H,I',h⟩) hf)
def Zd8:TGs:=fun vs σ H Q=>vs = []/\Q σ H
inductive gCons (t:TG) (u:TGs) (vs:List V) (σ:St) (H:Hp) (Q:St->Hp->Prop):Prop
 | mk (v r) (h0:vs=v::r) (h1:t v σ H fun σ' H'=>u r σ' H' Q)
theorem Zuc:PGs X [] Zd8:=by
 intro pins s σ H vs us Q I r h
 obtain⟨e,h⟩:=h
 subst e
 cases r
 exact assignInOrder_nil ⟨σ,H,I,h⟩
theorem Zr9{e:Expr}{es:List Expr}{t:TG}{u:TGs}(h1:PG X e t)(h2:PGs X es u)(hs:(assignEach (e::es) X.env).map (·.2)=assign e X.env::(assignEach es X.env).map (·.2):=by rfl):PGs X (e::es) (gCons t u):=by
 intro pins s σ H vs us Q I r h
 obtain⟨v,vr,e1,h⟩:=h
 subst e1
 cases r with
 | cons r rr =>
  rw[hs]
  refine assignInOrder_cons (thn (h1 pins s σ H _ _ _ I r h) fun _ s1 ⟨σ1,H1,I1,q1⟩=>?_)
  exact h2 pins s1 σ1 H1 _ _ Q I1 rr q1
inductive gTup (K:uFg) (n:Nat) (t:TGs) (v:V) (σ:St) (H:Hp) (Q:St->Hp->Prop):Prop
 | mk (a xs) (h0:v = .ref a) (h1:SqT K H a xs) (h2:xs.length=n) (h3:t xs σ H Q)
theorem Zku{es:List Expr}{k:Nat}{t:TGs}{n:Nat}(hc:X.calm=true)(h:PGs X es t)(hn:(assignEach es X.env).length=n:=by rfl)(hst:(assignEach es X.env).findIdx? (·.1)=none:=by rfl):PG X (.Tuple es k pos) (gTup X.K n t):=by
 intro pins s σ H v u Q I r hw
 obtain⟨a,xs,e1,hq,hl,hw⟩:=hw
 subst e1
 cases r
 obtain⟨its,rv,ht,hz⟩:=I.tuple hq
 refine assign_Tuple_tuple (I.ok.hd hc) ht (by simp[hn,← hl,rv.length]) hst fun h' hx=>?_
 have I1:Inv X pins σ H {s with heap:=h' }:=I.kept (t':=s.toks) fun b o e=>hx b o (yC (xN e)) e
 exact h pins _ σ H xs _ Q I1 (by simpa using rv) hw
def Znx(to ti:TE)(t:Zc3):TG:=fun v σ H Q=>to σ H fun o H1=>ti σ H1 fun i H2=>t o i v H2 fun H3=>Q σ H3
theorem Zwr{o i:Expr}{to ti:TE}{t:Zc3}(ho:PE X o to)(hi:PE X i ti)(hs:Zh9 X t)(ha:∀v,assign (.Subscript o i pos) X.env v=(do
   let ov ← holding [v] (eval o X.env)
   let iv ← holding [v,ov] (eval i X.env)
   standAt pos
   holding [v,ov,iv] (setItem ov iv v)
   release [v,ov,iv] []):=by intro _;rfl):PG X (.Subscript o i pos) (Znx to ti t):=by
 intro pins s σ H v u Q I r h
 rw[ha]
 refine wpAny_bind (wpAny_holding (thn (ho pins s σ H _ I h) fun ov s1 ⟨x,H1,I1,r1,q1⟩=>?_))
 refine wpAny_bind (wpAny_holding (thn (hi pins s1 σ H1 _ I1 q1) fun iv s2 ⟨y,H2,I2,r2,q2⟩=>?_))
 refine wpAny_bind (wpAny_standAt (wpAny_bind (wpAny_holding (thn (hs pins s2 σ H2 x y v ov iv u _ I2 r1 r2 r q2) fun _ s3 ⟨H3,I3,q3⟩=>?_))))
 exact wpAny_release ⟨σ,H3,I3,q3⟩
def Zac(te:TE)(g:TG):TS:=fun D σ H=>te σ H fun x H1=>g x σ H1 D.nx
theorem Zws{tg e:Expr}{te:TE}{g:TG}(he:PE X e te)(hg:PG X tg g)(hs:swapsWithSole [tg] e pos.line X.env=pure false:=by rfl)(hw:swappedStores [tg] e X.env=pure none:=by rfl)(h1:(assignEach [tg] X.env).map (·.2)= [assign tg X.env]:=by rfl):PS X (.Assign [tg] e pos) (Zac te g):=by
 intro pins s σ H D I h
 refine wpAny_Assign_stores (thn (he pins s σ H _ I h) fun v s1 ⟨x,H1,I1,r1,q1⟩=>?_) hs hw
 rw[h1]
 exact thn (hg pins s1 σ H1 x v _ I1 r1 q1) fun _ s2 q=>q
theorem Zkv{i:Nat}{x:Str}{e:Expr}{te:TE}{pos':Pos}(hN:X.N.Nodup)(hi:X.N[i]? = some x)(hx:Loc X.env.scope x)(he:PE X e te)(hs:swapsWith e (some (.Name x pos')) pos.line X.env=pure false:=by rfl)(hf:X.fn x=true\/X.env.scope.names.lookup x=some .local:=by first | exact .inl rfl | exact .inr rfl | assumption) :
  PS X (.Assign [.Name x pos'] e pos) (Zac te (Wp i)):=by
 intro pins s σ H D I h
 refine wpAny_Assign_Name (thn (he pins s σ H _ I h) fun v s1 ⟨y,H1,I1,r1,q1⟩=>?_) hs
 exact Zff I1 hN hi hx r1 (fun s2 I2=>⟨_,H1,I2,q1⟩) hf
inductive ipI (f:Int->Int->Int) (x:V) (y:V) (H:Hp) (Q:VK):Prop
 | mk (i j) (h0:x = .int i) (h1:y = .int j) (h2:Q (.int (f i j)) H)
end
section
variable{X:Cx}{pos:Pos}
end
structure It where
 go:Nat->Hp->Prop
 yld:Nat->Hp->V->Hp->Prop
 stop:Nat->Hp->Prop
def Vt(X:Cx)(pins:List (Addr×Obj))(H:Hp)(b:Addr):Prop :=
 H b=none/\b≠X.env.locals/\b∉X.fs/\(b∈X.ex\/X.s₀.heap.objs.size<=b)/\(∀x c,X.env.cells.lookup x=some c->c≠b)/\∀p∈X.pn++pins,p.1≠b
theorem Inv.fpOk{X:Cx}{pins:List (Addr×Obj)}{σ:St}{H H':Hp}{s:Shared}{b:Addr}(I:Inv X pins σ H s)(hb:s.heap.objs.size<=b)(hn:H' b=none):Vt X pins H' b:=by
 refine⟨hn,Nat.ne_of_gt (xZ I.lt hb),I.nofs hb,.inr (xS I.sz hb),fun x c e z=>?_,fun p hp z=>?_⟩
 ·obtain⟨v,q⟩:=I.cell x c e
  exact absurd (xZ q.lt (by rw[z];exact hb)) (zN _)
 ·exact absurd (xZ (xN (I.pin p hp).1) (by rw[z];exact hb)) (zN _)
structure Turn (P:Program) (w:World) (K:uFg) (tg:Expr) (J:It) (fp:List Addr) (it:Addr) (tn:Nat->Heap->Prop):Prop where
 mem:it∈fp
 obj:∀i h,tn i h->∀b∈fp,∃o,h.get? b=some o/\∀v,o.data ≠ .cell v
 keep:∀i h h',tn i h->(∀b∈fp,∀o,h.get? b=some o->h'.get? b=some o)->tn i h'
 item:∀(X:Cx),X.prog=P->X.w=w->X.K=K->X.calm=true->∀(i:Nat)(pins:List (Addr×Obj))(s:Shared)(σ:St)(H:Hp)(E:Value->Shared->Prop),Inv X pins σ H s->(∀b∈fp,Vt X pins H b)->tn i s.heap->J.go i H ->
  wpAny (model P w) X.A (pyNext (.ref it)) (fun r s1=>∃u,r=some u /\
   wpAny (model P w) X.A (letOwnedTupleGo tg (.ref it) u) (fun _ s2=>∃x H',Inv X pins σ H' s2/\RelV x u/\J.yld i H x H'/\tn (i+1) s2.heap/\∀b∈fp,H' b=none) E s1) E s
 done:∀(X:Cx),X.prog=P->X.w=w->X.K=K->X.calm=true->∀(i:Nat)(pins:List (Addr×Obj))(s:Shared)(σ:St)(H:Hp)(E:Value->Shared->Prop),Inv X pins σ H s->(∀b∈fp,Vt X pins H b)->tn i s.heap->J.stop i H ->
  wpAny (model P w) X.A (pyNext (.ref it)) (fun r s1=>r=none/\Inv X pins σ H s1) E s
 self:∀(A:Around)(i:Nat)(s:Shared)(Q:Value->Shared->Prop)(E:Value->Shared->Prop),tn i s.heap->Q (.ref it) s->wpAny (model P w) A (pyIter (.ref it)) Q E s
abbrev TI:=St->Hp->(It->Hp->Prop)->Prop
def PIE(X:Cx)(pins:List (Addr×Obj))(σ:St)(tg:Expr)(R:It->Hp->Prop)(itv:Value)(s2:Shared):Prop :=
 ∃(it:Addr)(fp:List Addr)(tn:Nat->Heap->Prop)(J:It)(H':Hp),itv = .ref it/\Inv X pins σ H' s2/\Turn X.prog X.w X.K tg J fp it tn/\tn 0 s2.heap/\(∀b∈fp,Vt X pins H' b)/\R J H'
def PI(X:Cx)(tg iter:Expr)(wi:TI):Prop :=
 ∀(pins:List (Addr×Obj))(s:Shared)(σ:St)(H:Hp)(R:It->Hp->Prop),Inv X pins σ H s->wi σ H R ->
  wpAny (model X.prog X.w) X.A (eval iter X.env) (fun v s1=>wpAny (model X.prog X.w) X.A (pyIter v) (PIE X pins σ tg R) X.xe s1) X.xe s
theorem Zcu{M:Model}{A:Around}{E:Value->Shared->Prop}{s:Shared}{tg:Expr}{it:Addr}{u:Value}{o:Obj}{n:String}{vs:Array Value}{Q:Unit->Shared->Prop}(ho:s.heap.get? it=some o)(hc:o.cls = .type n)(hd:o.data = .fields vs)(hn : ["enumerate", "zip", "dict_itemiterator", "dict_reverseitemiterator", "odict_iterator", "itertools.zip_longest", "itertools.pairwise"].contains n=false)(hQ:Q () s):wpAny M A (letOwnedTupleGo tg (.ref it) u) Q E s:=by
  unfold letOwnedTupleGo
  cases tg<;>first
    | exact wpAny_pure hQ
    | (cases u<;>first
        | exact wpAny_pure hQ
        | (refine wpAny_bind (wpAny_load ho ?_)
           rw[hc,hd]
           show wpAny M A (if (["enumerate", "zip", "dict_itemiterator", "dict_reverseitemiterator", "odict_iterator", "itertools.zip_longest", "itertools.pairwise"].contains n && vs[0]? == some (rawInt _))=true then _ else _) Q E s
           rw[if_neg (by intro h;rw[hn,zH] at h;cases h)]
           exact wpAny_pure hQ))
def Itl(K:uFg)(a:Addr):It :=
 ⟨fun i H=>∃xs x,SqL K H a xs/\xs[i]? = some x,fun i H x H'=>H'=H/\∀xs,SqL K H a xs->xs[i]? = some x,fun i H=>∃xs,SqL K H a xs/\xs.length<=i⟩
def Itr(lo:Int)(n:Nat):It:=⟨fun i _=>i < n,fun i H x H'=>H'=H/\x = .int (lo+i),fun i _=>n<=i⟩
theorem Zqm{P:Program}{w:World}{K:uFg}{tg:Expr}(a it:Addr):Turn P w K tg (Itl K a) [it] it (fun i h=>h.IsListIter it a i) where
 mem:=by simp
 obj:=fun i h st b hb=>by
  have e:b=it:=by simpa using hb
  subst e
  obtain⟨o,e,c,d⟩:=st
  exact⟨o,e,fun v z=>by rw[d] at z;cases z⟩
 keep:=fun i h h' st k=>st.at fun o e=>k it (by simp) o e
 item:=by
  intro X hP hw hK hc i pins s σ H E I hf st hg
  subst hP hw hK
  obtain⟨xs,x,hq,hx⟩:=hg
  obtain⟨its,rv,p,hz⟩:=I.list hq
  obtain⟨u,hu,ru⟩:=rv.get hx
  obtain⟨f0,f1,f2,f3,f4,f5⟩:=hf it (by simp)
  refine wpAny_pyNext_list_item st p.isList (x:=u) (by simpa using hu) fun h' st' sb=>?_
  have I1:Inv X pins σ H {s with heap:=h' }:=I.turned (t':=s.toks) (fun b o hb e=>(sb.2 b hb).trans e) f0 f1 f3 f4 f5
  obtain⟨o,e,c,d⟩:=id st'
  exact⟨u,rfl,Zcu (s:={s with heap:=h' }) e c d (by decide) ⟨x,H,I1,ru,⟨rfl,fun ys hy=>by rw[I.list_inj hy hq];exact hx⟩,st',fun b hb=>(hf b hb).1⟩⟩
 done:=by
  intro X hP hw hK hc i pins s σ H E I hf st hg
  subst hP hw hK
  obtain⟨xs,hq,hx⟩:=hg
  obtain⟨its,rv,p,hz⟩:=I.list hq
  obtain⟨f0,f1,f2,f3,f4,f5⟩:=hf it (by simp)
  have hl:=rv.length
  exact wpAny_pyNext_list_end (I.ok.hd hc) st p.isList (by simp;lia) fun h' eb=>⟨rfl,I.turned (t':=s.toks) (fun b o hb e=>eb b o hb e) f0 f1 f3 f4 f5⟩
 self:=fun _ _ _ _ _ st h=>wpAny_pyIter_listiter st h
theorem Zo6{P:Program}{w:World}{K:uFg}{tg:Expr}(it:Addr)(lo:Int)(n:Nat):Turn P w K tg (Itr lo n) [it] it (fun i h=>IsRangeIter h it (lo+(i:Nat) * 1) ((n:Int) - (i:Nat)) 1) where
 mem:=by simp
 obj:=fun i h st b hb=>by
  have e:b=it:=by simpa using hb
  subst e
  exact⟨_,st,fun v z=>by
   have z':Data.fields _=Data.cell v:=z
   cases z'⟩
 keep:=fun i h h' st k=>k it (by simp) _ st
 item:=by
  intro X hP hw hK hc i pins s σ H E I hf st hg
  subst hP hw hK
  obtain⟨f0,f1,f2,f3,f4,f5⟩:=hf it (by simp)
  have W:=Walks.range (prog:=X.prog) (w:=X.w) (I.ok.hd hc) it lo 1 n
  refine W.item i s _ _ hg st fun v h' tk hv st' kk=>?_
  obtain⟨t,rfl⟩:=hv
  have I1:Inv X pins σ H {s with heap:=h',toks:=tk }:=I.turned (fun b o hb e=>kk b o (by simpa using hb) e) f0 f1 f3 f4 f5
  refine⟨_,rfl,Zcu (s:={s with heap:=h',toks:=tk }) (n:="range_iterator") st' rfl rfl (by decide) ⟨.int (lo+i),H,I1,⟨t,?_⟩,⟨rfl,rfl⟩,st',fun b hb=>(hf b hb).1⟩⟩
  rw[Int.mul_one]
 done:=by
  intro X hP hw hK hc i pins s σ H E I hf st hg
  subst hP hw hK
  obtain⟨f0,f1,f2,f3,f4,f5⟩:=hf it (by simp)
  exact wpAny_pyNext_range_end (I.ok.hd hc) st (by have:n<=i:=hg;lia) fun h' eb=>⟨rfl,I.turned (t':=s.toks) (fun b o hb e=>eb b o hb e) f0 f1 f3 f4 f5⟩
 self:=fun _ _ _ _ _ st h=>wpAny_pyIter_rangeiter st h
end L2
namespace L2
open PySem PySem.Spec PyProof.Rows
section
variable{X:Cx}{tg:Expr}
inductive iList_ (K:uFg) (R:It->Hp->Prop) (x:V) (H1:Hp):Prop
 | mk (a) (h0:x = .ref a) (h1:(∃xs,SqL K H1 a xs)) (h2:R (Itl K a) H1)
def Zlo(K:uFg)(tl:TE):TI:=fun σ H R=>tl σ H fun x H1=>iList_ K R x H1
theorem Zud{l:Expr}{tl:TE}(hl:PE X l tl):PI X tg l (Zlo X.K tl):=by
 intro pins s σ H R I h
 refine thn (hl pins s σ H _ I h) fun v s1 ⟨x,H1,I1,r1,q1⟩=>?_
 obtain⟨a,e,⟨xs,hq⟩,q⟩:=q1
 subst e
 cases r1
 obtain⟨its,rv,p,hz⟩:=I1.list hq
 refine wpAny_pyIter_list p.isList ?_
 refine⟨s1.heap.objs.size,[s1.heap.objs.size],_,_,H1,rfl,I1.kept (t':=s1.toks) fun b o e=>xF _ e,Zqm a _,⟨_,xW _ rfl,rfl,rfl⟩,fun b hb=>?_,q⟩
 have e:b=s1.heap.objs.size:=by simpa using hb
 subst e
 exact I1.fpOk (xE _) (I1.hok.fresh (xE _))
theorem Zsa{pins:List (Addr×Obj)}{σ:St}{H:Hp}{s:Shared}{R:It->Hp->Prop}{E:Value->Shared->Prop}{lo hi:Int}{t u v:Tok}{tk:Nat}(I:Inv X pins σ H s)(h1 : -(2 ^ 62)<=lo)(h2:lo < 2 ^ 62)(h3 : -(2 ^ 62)<=hi)(h4:hi < 2 ^ 62)(q:R (Itr lo (hi - lo).toNat) H):wpAny (model X.prog X.w) X.A (pyIter (.ref s.heap.objs.size)) (PIE X pins σ tg R) E {s with heap:=s.heap.push {cls:=.type "range", data:=.fields #[.int lo t,.int hi u,.int 1 v] },toks:=tk }:=by
 refine wpAny_pyIter_range (IsRange.new ..) (small_one h1 h2 h3 h4) ?_
 have I1:Inv X pins σ H {s with heap:=s.heap.push {cls:=.type "range", data:=.fields #[.int lo t,.int hi u,.int 1 v] },toks:=tk }:=I.kept fun b o e=>xF _ e
 refine⟨(s.heap.push {cls:=.type "range", data:=.fields #[.int lo t,.int hi u,.int 1 v] }).objs.size,[(s.heap.push {cls:=.type "range", data:=.fields #[.int lo t,.int hi u,.int 1 v] }).objs.size],_,_,H,rfl,
  I1.kept (t':=tk) fun b o e=>xF _ e,Zo6 _ lo (hi - lo).toNat,?_,fun b hb=>?_,q⟩
 ·have e1:lo+((0:Nat):Int) * 1=lo:=by simp
  have e2:(((hi - lo).toNat:Nat):Int) - ((0:Nat):Int)=Builtin.Range.rangeSize lo hi 1:=by rw[rangeSize_one];split<;>lia
  show IsRangeIter _ _ (lo+((0:Nat):Int) * 1) ((((hi - lo).toNat:Nat):Int) - ((0:Nat):Int)) 1
  rw[e1,e2]
  exact xW _ rfl
 ·have e:b=(s.heap.push {cls:=.type "range", data:=.fields #[.int lo t,.int hi u,.int 1 v] }).objs.size:=by simpa using hb
  subst e
  exact I1.fpOk (xE _) (I1.hok.fresh (xE _))
inductive iRng1_ (R:It->Hp->Prop) (vs:List V) (H1:Hp):Prop
 | mk (j:Int) (h0:vs = [.int j]) (h1 : -(2 ^ 62)<=j) (h2:j < 2 ^ 62) (h3:R (Itr 0 j.toNat) H1)
def Zlp(ta:TA):TI:=fun σ H R=>ta σ H fun vs H1=>iRng1_ R vs H1
theorem Zqn{a:Expr}{ta:TA}{p pos:Pos}(hg:Gl X "range")(hm:X.mg "range" = none)(ha:PA X [a] ta)(hs:starEach [a] X.env = [(false,eval a X.env)]:=by rfl):PI X tg (.Call (.Name "range" p) [a] [] pos) (Zlp ta):=by
 intro pins s σ H R I h
 refine Call_ (Ug I hg hm boot_range (PyProof.Rows.callWith_type1 (thn (ha pos pins s σ H _ I h) fun us s1 ⟨vs,H1,I1,r1,q1⟩=>?_) hs rfl))
 obtain⟨j,e,q1,q2,q⟩:=q1
 subst e
 cases r1 with
 | cons r rr =>
  cases rr
  obtain⟨t,rfl⟩:=r
  exact call_range_1 (Zsa I1 (by lia) (by lia) q1 q2 (by simpa using q))
def Z0z(wi:TI)(g:TG)(tb:TS):TS:=fun D σ H=>wi σ H fun J H1=>∃W:Nat->Nat->St->Hp->Prop,(∃m,W 0 m σ H1)/\∀i m σ H,W i m σ H ->
 (J.stop i H/\D.nx σ H)\/(J.go i H/\∃N:St->Hp->Prop,(∀ σ' H',N σ' H'->∃m',m' < m/\W (i+1) m' σ' H')/\∀x H',J.yld i H x H'->g x σ H' fun σ2 H2=>tb {D with nx:=N,ct:=N,bk:=D.nx } σ2 H2)
def Za5(fp:List Addr)(h:Heap):List (Addr×Obj):=fp.filterMap fun b=>(h.get? b).map fun o=>(b,o)
theorem Zcg{fp:List Addr}{h:Heap}{b:Addr}{o:Obj}(hb:b∈fp)(e:h.get? b=some o):(b,o)∈Za5 fp h:=List.mem_filterMap.mpr ⟨b,hb,by rw[e];rfl⟩
theorem Zjb{fp:List Addr}{h:Heap}{p:Addr×Obj}(hp:p∈Za5 fp h):p.1∈fp/\h.get? p.1=some p.2:=by
 obtain⟨b,hb,e⟩:=List.mem_filterMap.mp hp
 cases q:h.get? b with
 | none=>rw[q] at e;cases e
 | some o =>
  rw[q] at e
  have e':(b,o)=p:=Option.some.inj e
  subst e'
  exact⟨hb,q⟩
theorem Inv.pinned{pins:List (Addr×Obj)}{σ:St}{H:Hp}{s:Shared}{fp:List Addr}(I:Inv X pins σ H s)(hf:∀b∈fp,Vt X pins H b)(ho:∀b∈fp,∃o,s.heap.get? b=some o/\∀v,o.data ≠ .cell v):Inv X (pins++Za5 fp s.heap) σ H s :=
 I.pins_of fun p hp=>(xH.mp hp).elim (fun z=>I.pin p (xK _ z)) fun z=>by
  obtain⟨hb,e⟩:=Zjb z
  obtain⟨f0,f1,f2,_⟩:=hf p.1 hb
  obtain⟨o,e',d⟩:=ho p.1 hb
  rw[e] at e';cases e'
  exact⟨e,f0,f1,f2,d⟩
theorem Inv.unpinned{pins pl:List (Addr×Obj)}{σ:St}{H:Hp}{s:Shared}(I:Inv X (pins++pl) σ H s):Inv X pins σ H s:=I.pins_of fun p hp=>I.pin p (xK _ (yM _ hp))
theorem Zwt{iter:Expr}{body:List Stmt}{wi:TI}{g:TG}{tb:TS}{pos:Pos}(hp:PassesOwn (model X.prog X.w) X.A X.env X.xe)(hc:X.calm=true)(hi:PI X tg iter wi)(hg:PG X tg g)(hb:PSs X body tb)(hs:∀x,foldedSetIterable iter X.env x=pure x:=by intro _;rfl):PS X (.For tg iter body [] pos) (Z0z wi g tb):=by
 intro pins s σ H D I h
 refine wpAny_For (thn (hi pins s σ H _ I h) fun v s1 h1=>thn h1 fun itv s2 h2=>?_) hs
 obtain⟨it,fp,tn,J,H2,e,I2,T,st2,f2,W,⟨m0,w0⟩,turn⟩:=h2
 subst e
 have stat:∀{H':Hp},(∀b∈fp,H' b=none)->∀b∈fp,Vt X pins H' b:=fun hn b hb=>⟨hn b hb,(f2 b hb).2⟩
 refine codeAny_forLoop_any (fun n s'=>∃i σ' H',Inv X pins σ' H' s'/\tn i s'.heap/\(∀b∈fp,H' b=none)/\W i n σ' H') ?_ m0 ⟨0,σ,H2,I2,st2,fun b hb=>(f2 b hb).1,w0⟩
 rintro n s3 ⟨i,σ3,H3,I3,st3,fr3,w3⟩
 rcases turn i n σ3 H3 w3 with⟨stop,qn⟩ | ⟨go,N,hN,step⟩
 ·refine wpAny_passesOwn hp (thn (T.done X rfl rfl rfl hc i pins s3 σ3 H3 X.xe I3 (stat fr3) st3 stop) fun r s4 ⟨hr,I4⟩=>?_)
  subst hr
  exact wpAny_execs_nil ⟨σ3,H3,I4,qn⟩
 ·refine wpAny_passesOwn hp (thn (T.item X rfl rfl rfl hc i pins s3 σ3 H3 X.xe I3 (stat fr3) st3 go) fun r s4 ⟨u,hr,h4⟩=>?_)
  subst hr
  refine wpAny_passesOwn hp (thn h4 fun _ s5 ⟨x,H5,I5,r5,y5,st5,fr5⟩=>?_)
  have I5':=I5.pinned (stat fr5) (T.obj _ _ st5)
  refine wpAny_passesOwn hp (thn (hg _ s5 σ3 H5 x u _ I5' r5 (step x H5 y5)) fun _ s6 ⟨σ6,H6,I6,q6⟩=>?_)
  refine wpAny_passesOwn hp (thn (hb _ s6 σ6 H6 _ I6 q6) fun f s7 q7=>?_)
  have again:∀{σ7:St}{H7:Hp},Inv X (pins++Za5 fp s5.heap) σ7 H7 s7->N σ7 H7->∃m,m < n/\∃i σ' H',Inv X pins σ' H' s7/\tn i s7.heap/\(∀b∈fp,H' b=none)/\W i m σ' H':=fun {σ7 H7} I7 n7=>by
   obtain⟨m',hm,w7⟩:=hN σ7 H7 n7
   refine⟨m',hm,i+1,σ7,H7,I7.unpinned,T.keep _ _ _ st5 fun b hb o e=>(I7.pin (b,o) (xK _ (xK _ (Zcg hb e)))).1,fun b hb=>?_,w7⟩
   obtain⟨o,e,d⟩:=T.obj _ _ st5 b hb
   exact(I7.pin (b,o) (xK _ (xK _ (Zcg hb e)))).2.1
  cases f with
  | next=>obtain⟨σ7,H7,I7,n7⟩:=q7;exact again I7 n7
  | cont=>obtain⟨σ7,H7,I7,n7⟩:=q7;exact again I7 n7
  | brk=>obtain⟨σ7,H7,I7,q7⟩:=q7;exact⟨σ7,H7,I7.unpinned,q7⟩
  | ret v=>obtain⟨x7,σ7,H7,I7,r7,q7⟩:=q7;exact⟨x7,σ7,H7,I7.unpinned,r7,q7⟩
end
theorem Zsb{K:uFg}{a:Addr}{xs:List V}{g:TG}{tb:TS}{D:Ends}{σ:St}{H:Hp}(Pv:Nat->St->Hp->Prop)(h0:Pv 0 σ H)(hl:∀i σ H,i<=xs.length->Pv i σ H->SqL K H a xs)(hs:∀i x σ H,xs[i]? = some x->Pv i σ H->g x σ H fun σ2 H2=>tb {D with nx:=Pv (i+1),ct:=Pv (i+1),bk:=D.nx } σ2 H2)(hd:∀ σ H,Pv xs.length σ H->D.nx σ H) :
  ∃W:Nat->Nat->St->Hp->Prop,(∃m,W 0 m σ H)/\∀i m σ H,W i m σ H ->
   ((Itl K a).stop i H/\D.nx σ H)\/((Itl K a).go i H/\∃N:St->Hp->Prop,(∀ σ' H',N σ' H'->∃m',m' < m/\W (i+1) m' σ' H')/\∀x H',(Itl K a).yld i H x H'->g x σ H' fun σ2 H2=>tb {D with nx:=N,ct:=N,bk:=D.nx } σ2 H2):=by
 refine⟨fun i m σ H=>m=xs.length - i/\i<=xs.length/\Pv i σ H,⟨xs.length,by simp,yL _,h0⟩,?_⟩
 rintro i m σ H ⟨rfl,hi,p⟩
 have q:=hl i σ H hi p
 by_cases hlt:i < xs.length
 ·refine .inr ⟨⟨xs,xs[i],q,by simp[hlt]⟩,Pv (i+1),fun σ' H' p'=>⟨xs.length - (i+1),by lia,rfl,hlt,p'⟩,fun x H' y=>?_⟩
  obtain⟨e,y⟩:=y
  subst e
  exact hs i x σ _ (y xs q) p
 ·have e:i=xs.length:=by lia
  subst e
  exact .inl ⟨⟨xs,q,xE _⟩,hd σ H p⟩
theorem Zqo{lo:Int}{n:Nat}{g:TG}{tb:TS}{D:Ends}{σ:St}{H:Hp}(Pv:Nat->St->Hp->Prop)(h0:Pv 0 σ H)(hs:∀i σ H,i < n->Pv i σ H->g (.int (lo+i)) σ H fun σ2 H2=>tb {D with nx:=Pv (i+1),ct:=Pv (i+1),bk:=D.nx } σ2 H2)(hd:∀ σ H,Pv n σ H->D.nx σ H) :
  ∃W:Nat->Nat->St->Hp->Prop,(∃m,W 0 m σ H)/\∀i m σ H,W i m σ H ->
   ((Itr lo n).stop i H/\D.nx σ H)\/((Itr lo n).go i H/\∃N:St->Hp->Prop,(∀ σ' H',N σ' H'->∃m',m' < m/\W (i+1) m' σ' H')/\∀x H',(Itr lo n).yld i H x H'->g x σ H' fun σ2 H2=>tb {D with nx:=N,ct:=N,bk:=D.nx } σ2 H2):=by
 refine⟨fun i m σ H=>m=n - i/\i<=n/\Pv i σ H,⟨n,by simp,yL _,h0⟩,?_⟩
 rintro i m σ H ⟨rfl,hi,p⟩
 by_cases hlt:i < n
 ·refine .inr ⟨hlt,Pv (i+1),fun σ' H' p'=>⟨n - (i+1),by lia,rfl,hlt,p'⟩,fun x H' y=>?_⟩
  obtain⟨e,y⟩:=y
  subst e y
  exact hs i σ _ hlt p
 ·have e:i=n:=by lia
  subst e
  exact .inl ⟨xE _,hd σ H p⟩
end L2
namespace L2
open PySem PySem.Spec PyProof.Rows
abbrev R2:=V->V->Hp->VK->Prop
def OpR(X:Cx)(f:Value->Value->Sem Value)(r:R2):Prop :=
 ∀(pins:List (Addr×Obj))(s:Shared)(σ:St)(H:Hp)(x y:V)(v u:Value)(Q:VK),Inv X pins σ H s->RelV x v->RelV y u->r x y H Q ->
  wpAny (model X.prog X.w) X.A (f v u) (EP X pins σ Q) X.xe s
def UnR(X:Cx)(f:Value->Sem Value)(r:V->Hp->VK->Prop):Prop :=
 ∀(pins:List (Addr×Obj))(s:Shared)(σ:St)(H:Hp)(x:V)(v:Value)(Q:VK),Inv X pins σ H s->RelV x v->r x H Q ->
  wpAny (model X.prog X.w) X.A (f v) (EP X pins σ Q) X.xe s
def Vj(X:Cx)(f:Value)(r:List V->Hp->VK->Prop):Prop :=
 ∀(pins:List (Addr×Obj))(s:Shared)(σ:St)(H:Hp)(xs:List V)(us:List Value)(Q:VK),Inv X pins σ H s->Vals xs us->r xs H Q ->
  wpAny (model X.prog X.w) X.A (call f us) (EP X pins σ Q) X.xe s
def Z00(X:Cx)(r:V->Hp->(Bool->Hp->Prop)->Prop):Prop :=
 ∀(pins:List (Addr×Obj))(s:Shared)(σ:St)(H:Hp)(x:V)(v:Value)(Q:Bool->Hp->Prop),Inv X pins σ H s->RelV x v->r x H Q ->
  wpAny (model X.prog X.w) X.A (truthy v) (TP X pins σ Q) X.xe s
def tOp(r:R2)(ta tb:TE):TE:=fun σ H Q=>ta σ H fun x H1=>tb σ H1 fun y H2=>r x y H2 Q
def tUn(r:V->Hp->VK->Prop)(ta:TE):TE:=fun σ H Q=>ta σ H fun x H1=>r x H1 Q
inductive rI (C:Int->Int->Prop) (g:Int->Int->V) (x:V) (y:V) (H:Hp) (Q:VK):Prop
 | mk (i j) (h0:x = .int i) (h1:y = .int j) (h2:C i j) (h3:Q (g i j) H)
inductive rI0 (g:Int->Int->V) (x:V) (y:V) (H:Hp) (Q:VK):Prop
 | mk (i j) (h0:x = .int i) (h1:y = .int j) (h2:Q (g i j) H)
inductive rU (g:Int->V) (x:V) (H:Hp) (Q:VK):Prop
 | mk (i) (h0:x = .int i) (h1:Q (g i) H)
section
variable{X:Cx}{a b c:Expr}{ta tb tc:TE}{pos:Pos}
theorem Zia(ha:PE X a ta)(hb:PE X b tb){pins:List (Addr×Obj)}{s:Shared}{σ:St}{H:Hp}{R:V->V->Hp->Prop}(I:Inv X pins σ H s)(h:ta σ H fun x H1=>tb σ H1 fun y H2=>R x y H2){Q:Value->Shared->Prop}{f:Value->Value->Sem Value}(hf:∀v u s2 x y H2,Inv X pins σ H2 s2->RelV x v->RelV y u->R x y H2->wpAny (model X.prog X.w) X.A (f v u) Q X.xe s2) :
  wpAny (model X.prog X.w) X.A (eval a X.env) (fun v s₁=>wpAny (model X.prog X.w) X.A (eval b X.env) (fun u s₂=>wpAny (model X.prog X.w) X.A (f v u) Q X.xe s₂) X.xe s₁) X.xe s:=by
 refine thn (ha pins s σ H _ I h) fun v s1 ⟨x,H1,I1,r1,q1⟩=>?_
 refine thn (hb pins s1 σ H1 _ I1 q1) fun u s2 ⟨y,H2,I2,r2,q2⟩=>?_
 exact hf v u s2 x y H2 I2 r1 r2 q2
theorem Zx5{op:Operator}{r:R2}(ho:OpR X (binaryOp op) r)(ha:PE X a ta)(hb:PE X b tb):PE X (.BinOp a op b pos) (tOp r ta tb):=by
 intro pins s σ H Q I h
 exact wpAny_BinOp (Zia ha hb I h fun v u s2 x y H2 I2 rx ry q=>ho pins s2 σ H2 x y v u Q I2 rx ry q)
theorem Zx6{op:UnaryOp}{r:V->Hp->VK->Prop}(ho:UnR X (unaryOp op) r)(ha:PE X a ta):PE X (.UnaryOp op a pos) (tUn r ta):=by
 intro pins s σ H Q I h
 exact UnaryOp_ (thn (ha pins s σ H _ I h) fun v s1 ⟨x,H1,I1,r1,q1⟩=>ho pins s1 σ H1 x v Q I1 r1 q1)
theorem opI{f:Value->Value->Sem Value}{C:Int->Int->Prop}{g:Int->Int->Int}(rule:∀ (i j:Int) (t u:Tok) (s:Shared) (Q:Value->Shared->Prop) (E:Value->Shared->Prop),C i j->Q (.int (g i j) s.toks) {s with toks:=s.toks+1 }->wpAny (model X.prog X.w) X.A (f (.int i t) (.int j u)) Q E s) :
  OpR X f (rI C fun i j=>.int (g i j)):=by
 intro pins s σ H x y v u Q I rx ry h
 obtain⟨i,j,rfl,rfl,hc,q⟩:=h
 obtain⟨t,rfl⟩:=rx
 obtain⟨t',rfl⟩:=ry
 exact rule i j t t' s _ _ hc ⟨.int (g i j),H,I.tok _,⟨_,rfl⟩,q⟩
theorem Zny{f:Value->Value->Sem Value}{g:Int->Int->Int}(rule:∀ (i j:Int) (t u:Tok) (s:Shared) (Q:Value->Shared->Prop) (E:Value->Shared->Prop),Q (.int (g i j) s.toks) {s with toks:=s.toks+1 }->wpAny (model X.prog X.w) X.A (f (.int i t) (.int j u)) Q E s) :
  OpR X f (rI0 fun i j=>.int (g i j)):=by
 intro pins s σ H x y v u Q I rx ry h
 obtain⟨i,j,rfl,rfl,q⟩:=h
 obtain⟨t,rfl⟩:=rx
 obtain⟨t',rfl⟩:=ry
 exact rule i j t t' s _ _ ⟨.int (g i j),H,I.tok _,⟨_,rfl⟩,q⟩
theorem Zd9{f:Value->Value->Sem Value}{g:Int->Int->Bool}(rule:∀ (i j:Int) (t u:Tok) (s:Shared) (Q:Value->Shared->Prop) (E:Value->Shared->Prop),Q (.bool (g i j)) s->wpAny (model X.prog X.w) X.A (f (.int i t) (.int j u)) Q E s) :
  OpR X f (rI0 fun i j=>.bl (g i j)):=by
 intro pins s σ H x y v u Q I rx ry h
 obtain⟨i,j,rfl,rfl,q⟩:=h
 obtain⟨t,rfl⟩:=rx
 obtain⟨t',rfl⟩:=ry
 exact rule i j t t' s _ _ ⟨.bl (g i j),H,I,rfl,q⟩
def Zib(i j:Int):Prop:=0 < j/\j < 1073741824
def Zic(i j:Int):Prop:=0<=j/\j<=1000000/\i.natAbs < 2 ^ 64
def CMul(i j:Int):Prop:=(-(2 ^ 64) < i/\i < 2 ^ 64)\/(-(2 ^ 64) < j/\j < 2 ^ 64)
theorem CMul.ok{i j:Int}(h:CMul i j):IntMulOk i j:=by
 rcases h with⟨h1,h2⟩ | ⟨h1,h2⟩
 ·exact .of_left (intBits_le_64 h1 h2)
 ·exact .of_right (intBits_le_64 h1 h2)
theorem Zwu:OpR X (binaryOp .Add) (rI0 fun i j=>.int (i+j)):=Zny fun _ _ _ _ _ _ _ q=>add_int q
theorem Zwv:OpR X (binaryOp .Sub) (rI0 fun i j=>.int (i - j)):=Zny fun _ _ _ _ _ _ _ q=>sub_int q
theorem Zww:OpR X (binaryOp .Mult) (rI CMul fun i j=>.int (i * j)):=opI fun _ _ _ _ _ _ _ hc q=>mul_int q hc.ok
theorem Zue:OpR X (binaryOp .FloorDiv) (rI Zib fun i j=>.int (i / j)):=opI fun i j _ _ _ _ _ hc q=>by
 have h1:(0:Int) < j:=hc.1
 have h2:j < 1073741824:=hc.2
 exact floordiv_int (by lia) (by rw[Int.fdiv_eq_ediv_of_nonneg i (by lia)];exact q) (.inl (PyProof.noPylong_small (by lia)))
theorem Zwx:OpR X (binaryOp .Mod) (rI (fun _ j=>0 < j) fun i j=>.int (i % j)):=opI fun i j _ _ _ _ _ hc q=>by
 have h1:(0:Int) < j:=hc
 exact mod_int' (by lia) (by rw[Int.fmod_eq_emod_of_nonneg i (by lia)];exact q)
theorem Zwy:OpR X (binaryOp .Pow) (rI Zic fun i j=>.int (i ^ j.toNat)):=opI fun _ _ _ _ _ _ _ hc q=>pow_int_small hc.1 hc.2.1 hc.2.2 q
end
def Z01:V->V->Bool
 | .non,.non=>true | .non,.int _=>true | .int _,.non=>true | .non,.bl _=>true | .bl _,.non=>true | .non,.str _=>true | .str _,.non=>true
 | .int _,.int _=>true | .bl _,.bl _=>true | .str _,.str _=>true | .byt _,.byt _=>true
 | .int _,.str _=>true | .str _,.int _=>true | .bl _,.str _=>true | .str _,.bl _=>true
 | _,_=>false
def rEq:R2:=fun x y H Q=>Z01 x y=true/\Q (.bl (decide (x=y))) H
theorem Zuf{i j:Int}:decide (V.int i=V.int j)=(i == j):=by
 rw[zB]
 simp
theorem Zwz{i j:Bool}:decide (V.bl i=V.bl j)=(i == j):=by
 rw[zB]
 simp
theorem Zug{i j:Str}:decide (V.str i=V.str j)=(i == j):=by
 rw[zB]
 simp
theorem Zuh{i j:Array UInt8}:decide (V.byt i=V.byt j)=(i.toList == j.toList):=by
 rw[zB]
 cases i
 cases j
 simp
section
variable{X:Cx}{a b c:Expr}{ta tb tc:TE}{pos:Pos}
theorem Wv{pins:List (Addr×Obj)}{σ:St}{H:Hp}{s:Shared}{Q:VK}{k k':Bool}(I:Inv X pins σ H s)(q:Q (.bl k) H)(e:k=k'):EP X pins σ Q (.bool k') s:=by
 subst e
 exact⟨.bl k,H,I,rfl,q⟩
theorem Zx7:OpR X (compareOp .Eq) rEq:=by
 intro pins s σ H x y v u Q I rx ry h
 obtain⟨hs,q⟩:=h
 cases x with
 | non =>
  cases rx
  cases y with
  | non=>cases ry;exact PySem.EqNone.eq_none_none (Wv I q (by simp))
  | bl j=>cases ry;exact PySem.EqNone.eq_none_bool (Wv I q (by simp))
  | int j=>obtain⟨t',rfl⟩:=ry;exact PySem.EqNone.eq_none_int (Wv I q (by simp))
  | str j=>obtain⟨t',rfl⟩:=ry;exact PySem.EqNone.eq_none_str (Wv I q (by simp))
  | _=>exact absurd (show false=true from hs) xM
 | bl i =>
  cases rx
  cases y with
  | non=>cases ry;exact PySem.EqNone.eq_bool_none (Wv I q (by simp))
  | bl j=>cases ry;exact eq_bool (Wv I q Zwz)
  | str j=>obtain⟨t',rfl⟩:=ry;exact PySem.EqMixed.eq_bool_str (Wv I q (by simp))
  | _=>exact absurd (show false=true from hs) xM
 | int i =>
  obtain⟨t,rfl⟩:=rx
  cases y with
  | non=>cases ry;exact PySem.EqNone.eq_int_none (Wv I q (by simp))
  | int j=>obtain⟨t',rfl⟩:=ry;exact eq_int (Wv I q Zuf)
  | str j=>obtain⟨t',rfl⟩:=ry;exact PySem.EqMixed.eq_int_str (Wv I q (by simp))
  | _=>exact absurd (show false=true from hs) xM
 | str i =>
  obtain⟨t,rfl⟩:=rx
  cases y with
  | non=>cases ry;exact PySem.EqNone.eq_str_none (Wv I q (by simp))
  | bl j=>cases ry;exact PySem.EqMixed.eq_str_bool (Wv I q (by simp))
  | int j=>obtain⟨t',rfl⟩:=ry;exact PySem.EqMixed.eq_str_int (Wv I q (by simp))
  | str j=>obtain⟨t',rfl⟩:=ry;exact eq_str (Wv I q Zug)
  | _=>exact absurd (show false=true from hs) xM
 | byt i =>
  obtain⟨t,rfl⟩:=rx
  cases y with
  | byt j=>obtain⟨t',rfl⟩:=ry;exact PySem.W.eq_bytes (Wv I q Zuh)
  | _=>exact absurd (show false=true from hs) xM
 | _=>cases y<;>exact absurd (show false=true from hs) xM
theorem Zx8:OpR X (compareOp .Lt) (rI0 fun i j=>.bl (decide (i < j))):=Zd9 fun _ _ _ _ _ _ _ q=>lt_int q
theorem Zx9:OpR X (compareOp .LtE) (rI0 fun i j=>.bl (decide (i<=j))):=Zd9 fun _ _ _ _ _ _ _ q=>le_int q
theorem Zya:OpR X (compareOp .Gt) (rI0 fun i j=>.bl (decide (j < i))):=Zd9 fun _ _ _ _ _ _ _ q=>gt_int q
theorem Zyb:OpR X (compareOp .GtE) (rI0 fun i j=>.bl (decide (j<=i))):=Zd9 fun _ _ _ _ _ _ _ q=>ge_int q
theorem Zui:OpR X (compareOp .IsNot) (fun x y H Q=>y = .non/\Q (.bl (!decide (x = .non))) H):=by
 intro pins s σ H x y v u Q I rx ry h
 obtain⟨rfl,q⟩:=h
 cases ry
 refine isnot_none_gen (Wv I q ?_)
 cases x<;>first
  | (cases rx;rfl)
  | (obtain⟨t,rfl⟩:=rx;rfl)
theorem Z2(b:Expr){op:CmpOp}(h:op ≠ .In:=by decide)(h2:op ≠ .NotIn:=by decide):behindInMarks op b=false:=by
 have e1:(op == CmpOp.In)=false:=by cases op<;>first | rfl | exact absurd rfl h
 have e2:(op == CmpOp.NotIn)=false:=by cases op<;>first | rfl | exact absurd rfl h2
 cases b<;>simp[behindInMarks,e1,e2]
theorem Zuj{op:CmpOp}{r:R2}(ho:OpR X (compareOp op) r)(ha:PE X a ta)(hb:PE X b tb)(hm:behindInMarks op b=false):PE X (.Compare a [op] [b] pos) (tOp r ta tb):=by
 intro pins s σ H Q I h
 exact wpAny_Compare1 (Zia ha hb I h fun v u s2 x y H2 I2 rx ry q=>ho pins s2 σ H2 x y v u Q I2 rx ry q) hm
def Za6(t:TE):TT:=fun σ H Q=>t σ H fun x H'=>∃k,x = .bl k/\Q k H'
theorem Zuk{op:CmpOp}{r:R2}(ho:OpR X (compareOp op) r)(ha:PE X a ta)(hb:PE X b tb)(hm:behindInMarks op b=false):PT X (.Compare a [op] [b] pos) (Za6 (tOp r ta tb)):=by
 intro pins s σ H Q I h
 refine wpAny_isTrue_Compare1 (thn (ha pins s σ H _ I h) fun v s1 ⟨x,H1,I1,r1,q1⟩=>thn (hb pins s1 σ H1 _ I1 q1) fun u s2 ⟨y,H2,I2,r2,q2⟩=>
  thn (ho pins s2 σ H2 x y v u _ I2 r1 r2 q2) fun c s3 ⟨z,H3,I3,r3,k,e,q3⟩=>?_) hm
 subst e
 cases r3
 exact wpAny_truthy_bool ⟨H3,I3,q3⟩
inductive tChain_ (r':R2) (tc:TE) (σ:St) (Q:VK) (y:V) (z:V) (H3:Hp):Prop
 | mk (k) (h0:z = .bl k) (h1:(if k=true then tc σ H3 fun w' H4=>r' y w' H4 Q else Q (.bl false) H3))
def Zdt(r r':R2)(ta tb tc:TE):TE:=fun σ H Q=>ta σ H fun x H1=>tb σ H1 fun y H2=>r x y H2 fun z H3=>tChain_ r' tc σ Q y z H3
theorem Zsc{op op':CmpOp}{r r':R2}(ho:OpR X (compareOp op) r)(ho':OpR X (compareOp op') r')(ha:PE X a ta)(hb:PE X b tb)(hc:PE X c tc)(hm:lastMarks [op,op'] [b,c]=false:=by with_unfolding_all rfl):PE X (.Compare a [op,op'] [b,c] pos) (Zdt r r' ta tb tc):=by
 intro pins s σ H Q I h
 refine Compare_chain (thn (ha pins s σ H _ I h) fun v s1 ⟨x,H1,I1,r1,q1⟩=>chain_link (thn (hb pins s1 σ H1 _ I1 q1) fun u s2 ⟨y,H2,I2,r2,q2⟩=>
  thn (ho pins s2 σ H2 x y v u _ I2 r1 r2 q2) fun d s3 ⟨z,H3,I3,r3,k,e,q3⟩=>?_)) hm
 subst e
 cases r3
 refine wpAny_truthy_bool ?_
 cases k with
 | false=>exact ite_ff ⟨.bl false,H3,I3,rfl,q3⟩
 | true=>exact ite_tt (chain_last (thn (hc pins s3 σ H3 _ I3 q3) fun w' s4 ⟨z',H4,I4,r4,q4⟩=>ho' pins s4 σ H4 y z' u w' Q I4 r2 r4 q4))
theorem Zsd{op op':CmpOp}{r r':R2}(ho:OpR X (compareOp op) r)(ho':OpR X (compareOp op') r')(ha:PE X a ta)(hb:PE X b tb)(hc:PE X c tc)(hm:lastMarks [op,op'] [b,c]=false:=by with_unfolding_all rfl):PT X (.Compare a [op,op'] [b,c] pos) (Za6 (Zdt r r' ta tb tc)):=by
 intro pins s σ H Q I h
 refine isTrue_chain (thn (ha pins s σ H _ I h) fun v s1 ⟨x,H1,I1,r1,q1⟩=>test_link (thn (hb pins s1 σ H1 _ I1 q1) fun u s2 ⟨y,H2,I2,r2,q2⟩=>
  thn (ho pins s2 σ H2 x y v u _ I2 r1 r2 q2) fun d s3 ⟨z,H3,I3,r3,k,e,q3⟩=>?_)) hm
 subst e
 cases r3
 refine wpAny_truthy_bool ?_
 cases k with
 | false =>
  obtain⟨k',e',q'⟩:=q3
  cases e'
  exact ite_ff ⟨H3,I3,q'⟩
 | true =>
  refine ite_tt (test_last (thn (hc pins s3 σ H3 _ I3 q3) fun w' s4 ⟨z',H4,I4,r4,q4⟩=>thn (ho' pins s4 σ H4 y z' u w' _ I4 r2 r4 q4) fun d' s5 ⟨z2,H5,I5,r5,k2,e2,q5⟩=>?_))
  subst e2
  cases r5
  exact wpAny_truthy_bool ⟨H5,I5,q5⟩
def Zid(K:uFg)(x:V)(H:Hp)(k:Bool):Prop :=
 match x with
 | .non=>k=false
 | .bl b=>k=b
 | .int i=>k=(i != 0)
 | .str y=>y.length<=sizeLine/\k=((y.length:Int) != 0)
 | .byt y=>y.size<=sizeLine/\k=((y.size:Int) != 0)
 | .ref p=>(∃xs,SqL K H p xs/\k = !xs.isEmpty)\/(∃xs,SqT K H p xs/\k = !xs.isEmpty)\/∃kvs,H p=some (.dK kvs)/\k = !kvs.isEmpty
 | _=>False
theorem Zo7{κ:Type}{kvs:List (κ×V)}{vs:List (κ×Value)}(r:KV kvs vs):(!vs.isEmpty)= !kvs.isEmpty:=by
 cases r<;>rfl
theorem Ziz{xs:List V}{its:List Value}(r:Vals xs its):(!its.toArray.isEmpty)= !xs.isEmpty:=by
 cases r<;>simp
theorem Za7:(sizeLine:Nat) < 2 ^ 63:=by rw[sizeLine_eq];decide
theorem Zw0:Z00 X (fun x H Q=>∃k,Zid X.K x H k/\Q k H):=by
 intro pins s σ H x v Q I rx h
 obtain⟨k,e,q⟩:=h
 have hl:=Za7
 have hs:sizeLine=16777216:=sizeLine_eq
 cases x with
 | non =>
  cases rx
  have e':k=false:=e
  subst e'
  exact truthy_none ⟨H,I,q⟩
 | bl b =>
  cases rx
  have e':k=b:=e
  subst e'
  exact wpAny_truthy_bool ⟨H,I,q⟩
 | int i =>
  obtain⟨t,rfl⟩:=rx
  have e':k=(i != 0):=e
  subst e'
  exact PySem.P.truthy_int ⟨H,I,q⟩
 | str y =>
  obtain⟨t,rfl⟩:=rx
  obtain⟨hy,e'⟩:y.length<=sizeLine/\k=((y.length:Int) != 0):=e
  subst e'
  exact PySem.P.truthy_str (by lia) ⟨H,I.tok _,q⟩
 | byt y =>
  obtain⟨t,rfl⟩:=rx
  obtain⟨hy,e'⟩:y.size<=sizeLine/\k=((y.size:Int) != 0):=e
  subst e'
  exact PySem.W.truthy_bytes (by lia) ⟨H,I.tok _,q⟩
 | ref p =>
  cases rx
  have e':(∃xs,SqL X.K H p xs/\k = !xs.isEmpty)\/(∃xs,SqT X.K H p xs/\k = !xs.isEmpty)\/∃kvs,H p=some (.dK kvs)/\k = !kvs.isEmpty:=e
  rcases e' with⟨xs,hx,e'⟩ | ⟨xs,hx,e'⟩ | ⟨kvs,hx,e'⟩
  ·subst e'
   obtain⟨its,r,pl,hz⟩:=I.list hx
   have hlen:=r.length
   exact wpAny_truthy_list pl.isList (by simp only[xL];lia) ⟨H,I.tok _,by rw[Ziz r];exact q⟩
  ·subst e'
   obtain⟨its,r,pl,hz⟩:=I.tuple hx
   have hlen:=r.length
   exact truthy_tuple pl (by simp only[xL];lia) ⟨H,I.tok _,by rw[Ziz r];exact q⟩
  ·subst e'
   obtain⟨hz,hS,vs,r,m⟩:kvs.length<=sizeLine/\(p == sysModules)=false/\∃vs,KV kvs vs/\s.heap.DictOf (Y0 X.prog X.w) p vs:=I.hok p _ hx
   have hlen:kvs.length=vs.length:=Paired.length r
   exact wpAny_truthy_dict hS m (by lia) ⟨H,I.tok _,by rw[Zo7 r];exact q⟩
 | _=>exact(show False from e).elim
theorem Zse(ha:PE X a ta)(he:∀whole,isTrue a X.env whole=(do let v ← whole;standAt a.pos;holding [v] (truthy v))) :
  PT X a (fun σ H Q=>ta σ H fun x H'=>∃k,Zid X.K x H' k/\Q k H'):=by
 intro pins s σ H Q I h
 exact isTrue_plain (thn (ha pins s σ H _ I h) fun v s1 ⟨x,H1,I1,r1,q1⟩=>Zw0 pins s1 σ H1 x v Q I1 r1 q1) (he _)
theorem Zo8:OpR X (binaryOp .Add) (fun x y H Q=>∃i j,x = .str i/\y = .str j/\i.length+j.length<=sizeLine/\Q (.str (i++j)) H):=by
 intro pins s σ H x y v u Q I rx ry h
 obtain⟨i,j,rfl,rfl,hz,q⟩:=h
 obtain⟨t,rfl⟩:=rx
 obtain⟨t',rfl⟩:=ry
 exact add_str (fun t' tk=>⟨.str (i++j),H,I.tok _,⟨_,rfl⟩,q⟩) hz
theorem Uh{x:V}{us:List Value}(r:Vals [x] us):∃u,us = [u]/\RelV x u:=by
 cases r with
 | cons r1 r2=>cases r2;exact⟨_,rfl,r1⟩
theorem Zlq{x y:V}{us:List Value}(r:Vals [x,y] us):∃u w',us = [u,w']/\RelV x u/\RelV y w':=by
 cases r with
 | cons r1 r2 =>
  cases r2 with
  | cons r3 r4=>cases r4;exact⟨_,_,rfl,r1,r3⟩
theorem Zqp(hc:X.calm=true):Vj X (.builtin "max") (fun xs H Q=>∃i j,xs = [.int i,.int j]/\Q (.int (if j > i then j else i)) H):=by
 intro pins s σ H xs us Q I r h
 obtain⟨i,j,rfl,q⟩:=h
 obtain⟨u,w',rfl,⟨t,rfl⟩,⟨t',rfl⟩⟩:=Zlq r
 refine max_two_ints (I.ok.hd hc) fun h' tk k=>⟨_,H,I.kept k,?_,q⟩
 by_cases hj:j > i
 ·rw[if_pos hj,if_pos hj];exact⟨_,rfl⟩
 ·rw[if_neg hj,if_neg hj];exact⟨_,rfl⟩
theorem Zqq(hc:X.calm=true):Vj X (.builtin "min") (fun xs H Q=>∃i j,xs = [.int i,.int j]/\Q (.int (if j < i then j else i)) H):=by
 intro pins s σ H xs us Q I r h
 obtain⟨i,j,rfl,q⟩:=h
 obtain⟨u,w',rfl,⟨t,rfl⟩,⟨t',rfl⟩⟩:=Zlq r
 refine min_two_ints (I.ok.hd hc) fun h' tk k=>⟨_,H,I.kept k,?_,q⟩
 by_cases hj:j < i
 ·rw[if_pos hj,if_pos hj];exact⟨_,rfl⟩
 ·rw[if_neg hj,if_neg hj];exact⟨_,rfl⟩
end
end L2
namespace L2
open PySem PySem.Spec PyProof.Rows
structure ObjM (h:Heap) (x dx C:Addr) (mA:Str->Option Value):Prop where
 obj:h.get? x=some (PySem.W.instObj C dx)
 ns:h.Ns1 dx mA
 ne:dx≠x
theorem Zqr{h:Heap}{dx:Addr}{mA:Str->Option Value}(n:h.Ns1 dx mA):∃od,h.get? dx=some od/\∀name,PySem.W.lookIn name od=some (mA name):=by
 obtain⟨o,es,ep,ho,hd,hk,_,hm⟩:=n
 refine⟨o,ho,fun name=>?_⟩
 have e:=hm name
 unfold nsFind findBy at e
 rw[← Array.find?_toList] at e
 unfold PySem.W.lookIn
 rw[hd]
 dsimp only
 split
 ·rename_i y q
  rw[q] at e
  exact congrArg some e
 ·rename_i q
  rw[q] at e
  have a:es.toList.any (·.refKey)=false:=by
   rw[List.any_eq_false]
   intro y hy
   obtain⟨z,t,hkey⟩:=hk y (Array.mem_toList_iff.mp hy)
   simp[DictEntry.refKey,hkey]
  have a':¬es.toList.any (·.refKey)=true:=by rw[a];exact xM
  rw[if_neg a']
  exact congrArg some e
theorem ObjM.look{h:Heap}{x dx C:Addr}{mA:Str->Option Value}(I:ObjM h x dx C mA):∃od,PySem.W.InstAt h x (PySem.W.instObj C dx) C (some od)/\∀name,PySem.W.lookIn name od=some (mA name) :=
 let ⟨od,ho,hl⟩:=Zqr I.ns
 ⟨od,⟨I.obj,rfl,rfl,ho⟩,hl⟩
section
variable{prog:Program}{w:World}{A:Around}{E:Value->Shared->Prop}{s:Shared}{K:uFg}{x dx C f:Addr}{mA:Str->Option Value}{name:Str}{v:Value}
theorem Zul{expr:Bool}{Q:Value->Shared->Prop}(X:K.In s.heap)(I:ObjM s.heap x dx C mA)(hg:PySem.W.plainGet K C name=true)(hh:PySem.W.hasDictIn K C=true)(ha:PySem.W.findIn K (.ref C) name=some none)(hv:mA name=some v)(hv':PySem.W.handedIn v=true)(h:Q v {s with toks:=s.toks+1 }) :
  wpAny (model prog w) A (getAttr (.ref x) name expr) Q E s:=by
 obtain⟨od,J,hl⟩:=I.look
 exact PySem.W.get_value X J (PySem.W.plainGet_of hg).1 (PySem.W.findObj_own hh ha rfl (by rw[hl,hv])) hv' h
theorem Zsf{pl:Sem Bool}{Q:Value×List Value->Shared->Prop}(X:K.In s.heap)(I:ObjM s.heap x dx C mA)(hg:PySem.W.plainGet K C name=true)(hf:PySem.W.findIn K (.ref C) name=some (some (.ref f)))(ht:PySem.W.isFn K (.ref f)=true)(hv:mA name=none)(h:Q (.ref f,[.ref x]) s) :
  wpAny (model prog w) A (getMethod (.ref x) name pl) Q E s:=by
 obtain⟨od,J,hl⟩:=I.look
 exact PySem.W.method_fn X J (PySem.W.plainGet_of hg).1 (PySem.W.plainGet_of hg).2 hf (beq_iff_eq.mp ht) (by show (PySem.W.lookIn name od).map (·.isSome)=some false;rw[hl,hv];rfl) h
theorem Zum{ns:List Str}{Q:Unit->Shared->Prop}(X:K.In s.heap)(I:ObjM s.heap x dx C mA)(hs:PySem.W.findIn K (.ref C) "__setattr__" = some (some (.builtin "object.__setattr__")))(hp:PySem.W.plainOver K C=true)(ht:PySem.W.takerIn K C name=some none)(hh:PySem.W.hasDictIn K C=true)(hw:PySem.Within mA ns)(hsz:ns.length<=sizeLine)(h:∀h',ObjM h' x dx C (fun y=>if y=name then some v else mA y)->Heap.SameBut dx s.heap h'->Q () {s with heap:=h',toks:=s.toks+2 }) :
  wpAny (model prog w) A (setAttr (.ref x) name v) Q E s:=by
 obtain⟨od,J,hl⟩:=I.look
 refine PySem.W.set_plain X J hs (PySem.W.osa_open (s:={s with toks:=s.toks+1 }) (r:=none) X J hp ht fun b=>?_)
 obtain⟨cd,hc,hd'⟩:=PySem.W.any_some hh
 have hx:s.heap.get? x=some ⟨.ref C,some dx,.plain,#[]⟩:=I.obj
 refine wpAny_bind (wpAny_pure (wpAny_bind (wpAny_bind (wpAny_loadPart hx (wpAny_bind (PySem.W.Looks.here (s:={s with toks:=s.toks+1 }) (PySem.W.looks_clsIn X hc) ?_))))))
 rw[hd']
 refine wpAny_pure (a:=some dx) (wpAny_bind (wpAny_pure (wpAny_bind ?_)))
 refine wpAny_nsSet1 (s:={s with toks:=s.toks+1 }) I.ns fun h' hn2 hs2=>?_
 obtain⟨oD,esD,epD,hoD,hdD,hcD⟩:=hn2.count (PySem.Within.cons name v hw)
 refine wpAny_bind (wpAny_lookBehind hoD (by rw[hdD];exact pastItsLine_dict (xS hcD (by rw[xU];lia))) ?_)
 exact wpAny_pure (h _ ⟨(hs2.2 _ (Ne.symm I.ne)).trans I.obj,hn2,I.ne⟩ hs2)
theorem Zsg{R:Result->Shared->Prop}{vs:List Value}{kw:List (Str×Value)}(X:K.In s.heap)(hm:PySem.W.makesIn K C=true)(hi:PySem.W.findIn K (.ref C) "__init__" = some (some (.ref f)))(hf:PySem.W.typeIn K (.ref f)=some (.type "function"))(h:codeAny (model prog w) (A.under (.builtin "type.__call__" ⟨.ref C::vs,kw⟩)) (.call (.ref f) ⟨.ref (s.heap.objs.size+1)::vs,kw⟩) (PySem.W.InitBack (s.heap.objs.size+1) R)
   {s with heap:=(s.heap.push PySem.W.emptyDict).push (PySem.W.instObj C s.heap.objs.size) }) :
  codeAny (model prog w) A (.call (.ref C) ⟨vs,kw⟩) R s:=by
 obtain⟨hh,g,d,t,os⟩:=s
 exact PySem.W.make_core (PySem.W.makes_of X hm) (PySem.W.looks_findIn X hi) (fun self=>PySem.W.bind_fn X self hf) (.inl rfl) h
end
def Zi(f:Str)(v:V):List (Str×V)->List (Str×V)
 | []=>[(f,v)]
 | (g,x)::r=>if g=f then (g,v)::r else (g,x)::Zi f v r
theorem Yp(f g:Str)(v:V):∀fs:List (Str×V),(Zi f v fs).lookup g=if g=f then some v else fs.lookup g
 | []=>by
  show List.lookup g [(f,v)]=_
  by_cases h:g=f
  ·have hb:(g == f)=true:=beq_iff_eq.mpr h
   simp only[List.lookup,hb,if_pos h]
  ·have hb:(g == f)=false:=beq_eq_false_iff_ne.mpr h
   simp only[List.lookup,hb,if_neg h]
 | (k,x)::r=>by
  have ih:=Yp f g v r
  rw[show Zi f v ((k,x)::r)=(if k=f then (k,v)::r else (k,x)::Zi f v r) from rfl]
  by_cases hk:k=f
  ·rw[if_pos hk]
   by_cases h:g=k
   ·have hb:(g == k)=true:=beq_iff_eq.mpr h
    simp only[List.lookup,hb,if_pos (h.trans hk)]
   ·have hb:(g == k)=false:=beq_eq_false_iff_ne.mpr h
    simp only[List.lookup,hb,if_neg (fun e:g=f=>h (e.trans hk.symm))]
  ·rw[if_neg hk]
   by_cases h:g=k
   ·have hb:(g == k)=true:=beq_iff_eq.mpr h
    simp only[List.lookup,hb,if_neg (fun e:g=f=>hk (h.symm.trans e))]
   ·have hb:(g == k)=false:=beq_eq_false_iff_ne.mpr h
    simp only[List.lookup,hb]
    exact ih
theorem Zfa(f:Str)(v:V):∀fs:List (Str×V),f∈(Zi f v fs).map (·.1)/\∀g,g∈fs.map (·.1)->g∈(Zi f v fs).map (·.1)
 | []=>⟨by simp[Zi],fun g h=>by simp at h⟩
 | (k,x)::r=>by
  obtain⟨i1,i2⟩:=Zfa f v r
  rw[show Zi f v ((k,x)::r)=(if k=f then (k,v)::r else (k,x)::Zi f v r) from rfl]
  by_cases hk:k=f
  ·rw[if_pos hk]
   subst hk
   exact⟨by simp,fun g h=>by simpa using h⟩
  ·rw[if_neg hk]
   refine⟨?_,fun g h=>?_⟩
   ·rw[xV]
    exact xX _ i1
   ·rw[xV] at h ⊢
    rcases xC.mp h with e | e
    ·exact xC.mpr (.inl e)
    ·exact xX _ (i2 g e)
theorem Za8(f:Str)(v:V):∀fs:List (Str×V),(Zi f v fs).length<=fs.length+1
 | []=>by simp[Zi]
 | (k,x)::r=>by
  have ih:=Za8 f v r
  rw[show Zi f v ((k,x)::r)=(if k=f then (k,v)::r else (k,x)::Zi f v r) from rfl]
  by_cases hk:k=f
  ·rw[if_pos hk,xU,xU];lia
  ·rw[if_neg hk,xU,xU];lia
theorem RelO.some_of{v:V}{o:Option Value}(r:RelO (some v) o):∃u,o=some u/\RelV v u:=by
 cases o with
 | none=>exact(show False from r).elim
 | some u=>exact⟨u,rfl,r⟩
theorem RelO.none_of{o:Option Value}(r:RelO none o):o=none:=by
 cases o with
 | none=>rfl
 | some u=>exact(show False from r).elim
theorem Zqs{v:V}{u:Value}(r:RelV v u):PySem.W.handedIn u=true:=by
 cases v with
 | non=>cases (show u=Value.none from r);rfl
 | bl b=>cases (show u=Value.bool b from r);rfl
 | int i=>obtain⟨t,e⟩:=(show ∃t,u=Value.int i t from r);cases e;rfl
 | str x=>obtain⟨t,e⟩:=(show ∃t,u=Value.str x t from r);cases e;rfl
 | byt b=>obtain⟨t,e⟩:=(show ∃t,u=Value.bytes b t from r);cases e;rfl
 | flt b=>obtain⟨t,e⟩:=(show ∃t,u=Value.float b t from r);cases e;rfl
 | ref a=>cases (show u=Value.ref a from r);rfl
 | ty n=>cases (show u=Value.type n from r);rfl
section
variable{P:Program}{w:World}{H H':Hp}{h h':Heap}{a C dx:Addr}{fs fs':List (Str×V)}
theorem Zfl(hok:HOk P w H h)(e:H a=some (.ins C dx fs)):∃mA,ObjM h a dx C mA/\(∀f,RelO (fs.lookup f) (mA f))/\PySem.Within mA (fs.map (·.1))/\fs.length<=1000/\H dx=some (.own a):=by
 obtain⟨d,z,ne,ob,mA,n,r,q⟩:=(show ObjOk P w H h a (.ins C dx fs) from hok a _ e)
 exact⟨mA,⟨ob,n,ne⟩,r,q,z,d⟩
end
structure Cls (K:uFg) (C:Addr):Prop where
 pg:PySem.W.plainGet K C Str.empty=true
 hd:PySem.W.hasDictIn K C=true
 po:PySem.W.plainOver K C=true
 sa:PySem.W.findIn K (.ref C) "__setattr__" = some (some (.builtin "object.__setattr__"))
theorem Cls.get{K:uFg}{C:Addr}(c:Cls K C)(f:Str):PySem.W.plainGet K C f=true:=c.pg
def NoAttr(K:uFg)(C:Addr)(f:Str):Prop:=PySem.W.findIn K (.ref C) f=some none
theorem NoAttr.taker{K:uFg}{C:Addr}{f:Str}(n:NoAttr K C f):PySem.W.takerIn K C f=some none:=by
 unfold PySem.W.takerIn
 rw[show PySem.W.findIn K (.ref C) f=some none from n]
 rfl
structure Con (K:uFg) (C:Addr) (f:Str) (v:V) (u:Value):Prop where
 at_:PySem.W.findIn K (.ref C) f=some (some u)
 rel:RelV v u
 get:PySem.W.specialIn K u "__get__" = some none
 cp:PySem.W.copiedNames.contains f=false
structure Meth (K:uFg) (C:Addr) (m:Str) (f:Addr):Prop where
 at_:PySem.W.findIn K (.ref C) m=some (some (.ref f))
 fn:PySem.W.isFn K (.ref f)=true
 kp:PySem.W.keepIn K (.ref f)=true
section
variable{X:Cx}{pins:List (Addr×Obj)}{σ:St}{H:Hp}{s:Shared}{a C dx:Addr}{fs:List (Str×V)}{f:Str}{v:V}{A:Around}{E:Value->Shared->Prop}
theorem Zo9{b:Bool}{Q:Value->Shared->Prop}(I:Inv X pins σ H s)(e:H a=some (.ins C dx fs))(c:Cls X.K C)(n:NoAttr X.K C f)(l:fs.lookup f=some v)(h:∀u s',Inv X pins σ H s'->RelV v u->Q u s'):wpAny (model X.prog X.w) A (getAttr (.ref a) f b) Q E s:=by
 obtain⟨mA,O,r,_,_,_⟩:=Zfl I.hok e
 obtain⟨u,hu,ru⟩:=RelO.some_of (v:=v) (o:=mA f) (by rw[← l];exact r f)
 exact Zul I.kIn O (c.get f) c.hd n hu (Zqs ru) (h u _ (I.tok _) ru)
theorem Zdb{m:Str}{g:Addr}{pl:Sem Bool}{Q:Value×List Value->Shared->Prop}(I:Inv X pins σ H s)(e:H a=some (.ins C dx fs))(c:Cls X.K C)(k:Meth X.K C m g)(l:fs.lookup m=none)(h:Q (.ref g,[.ref a]) s):wpAny (model X.prog X.w) A (getMethod (.ref a) m pl) Q E s:=by
 obtain⟨mA,O,r,_,_,_⟩:=Zfl I.hok e
 have hn:mA m=none:=RelO.none_of (by rw[← l];exact r m)
 exact Zsf I.kIn O (c.get m) k.at_ k.fn hn h
theorem Zpa{y:V}{u:Value}{Q:Unit->Shared->Prop}(I:Inv X pins σ H s)(e:H a=some (.ins C dx fs))(c:Cls X.K C)(n:NoAttr X.K C f)(hl:fs.length < 1000)(ry:RelV y u)(h:∀s',Inv X pins σ (upd H a (.ins C dx (Zi f y fs))) s'->Q () s'):wpAny (model X.prog X.w) A (setAttr (.ref a) f u) Q E s:=by
 obtain⟨mA,O,r,wi,_,ho⟩:=Zfl I.hok e
 have hz:(fs.map (·.1)).length<=sizeLine:=by rw[xA,sizeLine_eq];lia
 refine Zum I.kIn O c.sa c.po n.taker c.hd wi hz fun h' O' sb=>h _ ?_
 have hd:∃o,h'.get? dx=some o:=let ⟨o,_,_,e',_⟩:=O'.ns;⟨o,e'⟩
 refine I.write (x:=a) (e:=dx) (by rw[e];exact True.intro) (.inr ho) (fun b q hb z=>(sb.2 b hb).trans z) hd ?_
 refine⟨by rw[Zc O.ne];exact ho,?_,O.ne,O'.obj,_,O'.ns,fun g=>?_,fun g hg=>?_⟩
 ·have:=Za8 f y fs;lia
 ·show RelO ((Zi f y fs).lookup g) (if g=f then some u else mA g)
  rw[Yp]
  by_cases q:g=f
  ·rw[if_pos q,if_pos q];exact ry
  ·rw[if_neg q,if_neg q];exact r g
 ·by_cases q:g=f
  ·rw[q];exact(Zfa f y fs).1
  ·refine(Zfa f y fs).2 g (wi g fun z=>hg ?_)
   show (if g=f then some u else mA g)=none
   rw[if_neg q];exact z
theorem Inv.made(I:Inv X pins σ H s):Inv X pins σ (upd (upd H s.heap.objs.size (.own (s.heap.objs.size+1))) (s.heap.objs.size+1) (.ins C s.heap.objs.size []))
  {s with heap:=(s.heap.push PySem.W.emptyDict).push (PySem.W.instObj C s.heap.objs.size) }:=by
 have e1:(s.heap.push PySem.W.emptyDict).get? s.heap.objs.size=some PySem.W.emptyDict:=xW s.heap rfl
 have e2:((s.heap.push PySem.W.emptyDict).push (PySem.W.instObj C s.heap.objs.size)).get? (s.heap.objs.size+1)=some (PySem.W.instObj C s.heap.objs.size):=by
  have:=xW (s.heap.push PySem.W.emptyDict) (o:=PySem.W.instObj C s.heap.objs.size) rfl
  rwa [zS] at this
 have e3:(s.heap.push PySem.W.emptyDict).Ns s.heap.objs.size (fun _=>none):=⟨PySem.W.emptyDict,#[],_,e1,rfl,(fun e he=>absurd he (by simp)),fun _=>rfl⟩
 have I1:=I.laid (a:=s.heap.objs.size) (o:=.own (s.heap.objs.size+1)) (h':=s.heap.push PySem.W.emptyDict) (t':=s.toks) (fun b u q=>xF _ q) (xE _) ⟨_,e1⟩
 refine I1.laid (a:=s.heap.objs.size+1) (o:=.ins C s.heap.objs.size []) (t':=s.toks) (fun b u q=>xF _ q) (Nat.le_of_eq (zS _ _)) ?_
 have ne:s.heap.objs.size≠s.heap.objs.size+1:=yC (Nat.lt_succ_self _)
 refine⟨by rw[Zc ne,Zg],yL _,ne,e2,fun _=>none,(Heap.Ns1.of_empty e3).at fun o q=>xF _ q,fun _=>True.intro,fun y hy=>absurd rfl hy⟩
theorem Zun{prog:Program}{w:World}{env:Env}{e:Expr}{f:Str}{pos:Pos}{s:Shared}{Q:Value->Shared->Prop}(hb:attributeBase e f env (eval e env)=eval e env)(h:wpAny (model prog w) A (eval e env) (fun o s₁=>wpAny (model prog w) A (getAttr o f true) Q E s₁) E s):wpAny (model prog w) A (eval (.Attribute e f pos) env) Q E s :=
 Attribute_any_ h (by rw[arm_eval_Attribute,hb])
end
inductive tFld_ (K:uFg) (f:Str) (Q:VK) (x:V) (H1:Hp):Prop
 | mk (a C dx fs v) (h0:x = .ref a) (h1:H1 a=some (.ins C dx fs)) (h2:Cls K C) (h3:NoAttr K C f) (h4:fs.lookup f=some v) (h5:Q v H1)
def Zie(K:uFg)(ta:TE)(f:Str):TE:=fun σ H Q=>ta σ H fun x H1=>tFld_ K f Q x H1
inductive sFld_ (K:uFg) (f:Str) (D:Ends) (σ:St) (y:V) (x:V) (H2:Hp):Prop
 | mk (a C dx fs) (h0:x = .ref a) (h1:H2 a=some (.ins C dx fs)) (h2:Cls K C) (h3:NoAttr K C f) (h4:fs.length < 1000) (h5:D.nx σ (upd H2 a (.ins C dx (Zi f y fs))))
def Znz(K:uFg)(ta tv:TE)(f:Str):TS:=fun D σ H=>tv σ H fun y H1=>ta σ H1 fun x H2=>sFld_ K f D σ y x H2
section
variable{X:Cx}{o e value:Expr}{f:Str}{pos pos' tpos:Pos}{ta tv:TE}
theorem Zkw(he:PE X e ta)(hb:attributeBase e f X.env (eval e X.env)=eval e X.env):PE X (.Attribute e f pos) (Zie X.K ta f):=by
 intro pins s σ H Q I h
 refine Zun hb (thn (he pins s σ H _ I h) fun u s1 ⟨x,H1,I1,rx,a,C,dx,fs,v,ex,ea,c,n,l,q⟩=>?_)
 subst ex
 obtain rfl:u=Value.ref a:=rx
 exact Zo9 I1 ea c n l fun u' s2 I2 ru=>⟨v,H1,I2,ru,q⟩
theorem Zw1(ha:PE X o ta)(hv:PE X value tv)(hs:swapsWith value (some (.Attribute o f pos')) pos.line X.env=pure false):PS X (.Assign [.Attribute o f pos'] value pos) (Znz X.K ta tv f):=by
 intro pins s σ H D I h
 refine plainObj_wpAny_Assign_Attribute (thn (hv pins s σ H _ I h) fun u s1 ⟨y,H1,I1,ry,q⟩=>thn (ha pins s1 σ H1 _ I1 q) fun ov s2 ⟨x,H2,I2,rx,a,C,dx,fs,ex,ea,c,n,l,q2⟩=>?_) hs
 subst ex
 obtain rfl:ov=Value.ref a:=rx
 exact Zpa I2 ea c n l ry fun s3 I3=>⟨σ,_,I3,q2⟩
end
section
variable{X:Cx}{pins:List (Addr×Obj)}{σ:St}{H:Hp}{s:Shared}{A:Around}{E:Value->Shared->Prop}{Q:Value->Shared->Prop}{c:Value}{b:Bool}
inductive TyOf (K:uFg) (H:Hp):V->Value->Prop where
 | non:TyOf K H .non (.type "NoneType")
 | bl (x:Bool):TyOf K H (.bl x) (.type "bool")
 | int (i:Int):TyOf K H (.int i) (.type "int")
 | str (x:Str):TyOf K H (.str x) (.type "str")
 | flt (x:UInt64):TyOf K H (.flt x) (.type "float")
 | lst {a:Addr}{xs:List V}(e:H a=some (.lst xs)):TyOf K H (.ref a) (.type "list")
 | frz {a:Addr}{o:Obj}{xs:List V}(e:H a=some (.frz o (.lst xs))):TyOf K H (.ref a) (.type "list")
 | tup {a:Addr}{xs:List V}(e:H a=some (.tup xs)):TyOf K H (.ref a) (.type "tuple")
 | dK {a:Addr}{kvs:List (Key×V)}(e:H a=some (.dK kvs)):TyOf K H (.ref a) (.type "dict")
 | dT {a:Addr}{kvs:List (List Key×V)}(e:H a=some (.dT kvs)):TyOf K H (.ref a) (.type "dict")
 | ins {a C dx:Addr}{fs:List (Str×V)}(e:H a=some (.ins C dx fs)) (cl:Cls K C) (ha:PySem.W.findIn K (.ref C) "__class__" = some (some (.builtin "object.__class__")))
   (hn:PySem.W.specialIn K (.builtin "object.__class__") "__get__" = some (some (.builtin "getset_descriptor.__get__"))) (htk:PySem.W.takesIn K (.builtin "object.__class__")=some true)
   (hm:PySem.W.mroIn K C (.type "object")=some true):TyOf K H (.ref a) (.ref C)
end
end L2
namespace L2
open PySem PySem.Spec PyProof.Rows
structure Room (k:Nat) (A:Around):Prop where
 hd:A.handled=none
 dp:A.depth+3 * k+5 < recursionLimit
 un:A.units+16 * k+200 < cLine
theorem Room.mono{j k:Nat}{A:Around}(r:Room k A)(h:j<=k):Room j A:=⟨r.hd,by have:=r.dp;lia,by have:=r.un;lia⟩
theorem Room.deeper{k:Nat}{A:Around}(r:Room (k+1) A)(env:Env):Room k (A.deeper env) :=
 ⟨r.hd,by have:=r.dp;show A.depth+1+3 * k+5 < _;lia,by have:=r.un;show A.units+3+16 * k+200 < _;lia⟩
theorem Zpb{A:Around}{C:Addr}{us:List Value}{kw:List (Str×Value)}:(A.under (.builtin "type.__call__" ⟨.ref C::us,kw⟩)).depth=A.depth+1:=by
 first | rfl | simp[Around.under,Code.weight,Code.isCreation,Code.isGuard,Code.isCaller,Code.frames,Code.isFrame,guardIds]
theorem Zpc{A:Around}{C:Addr}{us:List Value}{kw:List (Str×Value)}:(A.under (.builtin "type.__call__" ⟨.ref C::us,kw⟩)).units=A.units+1:=by
 first | rfl | simp[Around.under,Code.cUnits,Code.frames,Code.isFrame]
theorem Room.make{k:Nat}{A:Around}(r:Room (k+1) A)(C:Addr)(us:List Value)(kw:List (Str×Value)):Room k (A.under (.builtin "type.__call__" ⟨.ref C::us,kw⟩)) :=
 ⟨r.hd,by have:=r.dp;rw[Zpb];lia,by have:=r.un;rw[Zpc];lia⟩
theorem Room.depth{k:Nat}{A:Around}(r:Room k A):A.depth < recursionLimit:=by have:=r.dp;lia
theorem Room.units{k:Nat}{A:Around}(r:Room k A):A.units+64 < cLine:=by have:=r.un;lia
theorem Room.units0{k:Nat}{A:Around}(r:Room k A):A.units < cLine:=by have:=r.un;lia
def Vl:TA:=fun _ H Q=>Q [] H
def Wy(ta:TE)(tr:TA):TA:=fun σ H Q=>ta σ H fun x H1=>tr σ H1 fun xs H2=>Q (x::xs) H2
section
variable{X:Cx}{e:Expr}{es:List Expr}{te:TE}{t:TA}{pos:Pos}
theorem Zw2:PA X [] Vl:=fun _ _ _ _ H Q I h=>Calls.spliced_nil ⟨[],H,I,.nil,h⟩
theorem Zuo(ha:PE X e te)(hr:PA X es t)(hs:starEach (e::es) X.env=(false,eval e X.env)::starEach es X.env:=by rfl):PA X (e::es) (Wy te t):=by
 intro pos pins s σ H Q I h
 rw[hs]
 show wpAny _ _ (spliced ((false,eval e X.env)::backTo pos (starEach es X.env))) _ _ s
 refine Calls.spliced_cons (thn (ha pins s σ H _ I h) fun u s1 ⟨x,H1,I1,r1,q1⟩=>?_)
 exact thn (hr pos pins s1 σ H1 _ I1 q1) fun us s2 ⟨xs,H2,I2,r2,q2⟩=>⟨x::xs,H2,I2,.cons r1 r2,q2⟩
def Zea(t:TA):TE:=fun σ H Q=>t σ H fun xs H1=>xs.length<=sizeLine/\∀p,H1 p=none->Q (.ref p) (upd H1 p (.tup xs))
def Zc4(t:TA):TE:=fun σ H Q=>t σ H fun xs H1=>xs.length<=sizeLine/\∀p,H1 p=none->Q (.ref p) (upd H1 p (.lst xs))
theorem Zw3 {x1} (h:PA X es t):PE X (.Tuple es x1 pos) (Zea t):=by
 intro pins s σ H Q I hq
 refine wpAny_Tuple_spliced (thn (h pos pins s σ H _ I hq) fun us s1 ⟨xs,H1,I1,r,z,q⟩=>⟨by rw[← r.length];exact z,?_⟩)
 have hf:H1 s1.heap.objs.size=none:=I1.hok.fresh (xE _)
 refine⟨.ref s1.heap.objs.size,upd H1 s1.heap.objs.size (.tup xs),I1.laid (t':=s1.toks) (fun b u e=>xF _ e) (xE _) ?_,rfl,q _ hf⟩
 exact⟨z,us,r,⟨_,xW _ rfl,rfl,_,rfl⟩⟩
theorem Zw4(h:PA X es t):PE X (.List es pos) (Zc4 t):=by
 intro pins s σ H Q I hq
 refine wpAny_List_spliced (thn (h pos pins s σ H _ I hq) fun us s1 ⟨xs,H1,I1,r,z,q⟩=>⟨by rw[← r.length];exact z,?_⟩)
 have hf:H1 s1.heap.objs.size=none:=I1.hok.fresh (xE _)
 refine⟨.ref s1.heap.objs.size,upd H1 s1.heap.objs.size (.lst xs),I1.laid (t':=s1.toks) (fun b u e=>xF _ e) (xE _) ?_,rfl,q _ hf⟩
 exact⟨z,us,0,r,xW _ rfl⟩
end
abbrev Sp:=List V->Hp->VK->XK->Prop
abbrev CXT:=List Env->Hp->Shared->XK->Value->Shared->Prop
structure Env0 (P:Program) (w:World) (K:uFg) (mg:Str->Option Value) (base:Heap) (A:Around) (outer:List Env) (s:Shared) (H:Hp):Prop where
 frames:A.frames=some outer
 mod:Mod K mg base
 bs:∀b o,base.get? b=some o->s.heap.get? b=some o/\H b=none
 bsz:base.objs.size<=s.heap.objs.size
 funs:s.heap.FunFrames base outer
 frf:∀b∈frs outer,H b=none
 hok:HOk P w H s.heap
 bare:AllBare s.gens
def CE(outer:List Env)(P:Program)(w:World)(H:Hp)(s:Shared)(Q:VK)(u:Value)(s':Shared):Prop :=
 ∃v H',s'.os=s.os/\AllBare s'.gens/\Un (frs outer) [] H H' s.heap s'.heap/\HOk P w H' s'.heap/\RelV v u/\Q v H'
def CR(CX:CXT)(outer:List Env)(P:Program)(w:World)(H:Hp)(s:Shared)(Q:VK)(E:XK)(r:Result)(s':Shared):Prop :=
 match r with
 | .ok (.ret u)=>CE outer P w H s Q u s'
 | .ok _=>False
 | .error e=>CX outer H s E e s'
structure FnOk (P:Program) (w:World) (K:uFg) (mg:Str->Option Value) (base:Heap) (CX:CXT) (k:Nat) (f:Addr) (fd:FuncData) (ps:List Str) (sp:Sp):Prop where
 len:∀vs H Q E,sp vs H Q E->vs.length=ps.length
 run:∀(A:Around)(outer:List Env)(s:Shared)(H:Hp)(args:Args)(us:List Value)(vs:List V)(Q:VK)(E:XK),Room k A->Env0 P w K mg base A outer s H->BindsTo s fd args (ps.zip us)->Vals vs us->sp vs H Q E ->
  codeAny (model P w) A (.call (.ref f) args) (CR CX outer P w H s Q E) s
theorem FnOk.mono{P:Program}{w:World}{K:uFg}{mg:Str->Option Value}{base:Heap}{CX:CXT}{j k:Nat}{f:Addr}{fd:FuncData}{ps:List Str}{sp:Sp}(F:FnOk P w K mg base CX j f fd ps sp)(h:j<=k) :
  FnOk P w K mg base CX k f fd ps sp:=⟨F.len,fun A outer s H args us vs Q E hr=>F.run A outer s H args us vs Q E (hr.mono h)⟩
theorem Env0.make{P:Program}{w:World}{K:uFg}{mg:Str->Option Value}{base:Heap}{A:Around}{outer:List Env}{s:Shared}{H:Hp}(e:Env0 P w K mg base A outer s H)(C:Addr)(us:List Value)(kw:List (Str×Value)) :
  Env0 P w K mg base (A.under (.builtin "type.__call__" ⟨.ref C::us,kw⟩)) outer s H:=⟨by first | exact e.frames | (simpa [Around.under,Code.envs,Code.isFrame,pushEnvs] using e.frames),e.mod,e.bs,e.bsz,e.funs,e.frf,e.hok,e.bare⟩
section
variable{X:Cx}{pins:List (Addr×Obj)}{σ:St}{H:Hp}{s s':Shared}
theorem Inv.env0(I:Inv X pins σ H s):Env0 X.prog X.w X.K X.mg X.base X.A X.stack s H :=
 ⟨I.ok.frames,I.ok.mod,I.bs,xS I.ok.bsz I.sz,I.stack,I.stkFree,I.hok,I.bare⟩
theorem Inv.after{Q:VK}{u:Value}(I:Inv X pins σ H s)(h:CE X.stack X.prog X.w H s Q u s'):EP X pins σ Q u s':=by
 obtain⟨v,H',os,bare,un,hok,r,q⟩:=h
 obtain⟨hh,g,d,t,os'⟩:=s'
 obtain rfl:os'=s.os:=os
 exact⟨v,H',I.call (h':=hh) (g':=g) (d':=d) (t':=t) (ch:=[]) un hok bare (fun b z=>absurd z (by simp)),r,q⟩
end
def Zf6(sp:Sp)(dvs:List V)(E:XK)(t:TA):TE:=fun σ H Q=>t σ H fun vs H1=>sp (vs++dvs) H1 Q E
inductive tMeth_ (C:Addr) (m:Str) (sp:Sp) (dvs:List V) (E:XK) (t:TA) (σ:St) (Q:VK) (x:V) (H1:Hp):Prop
 | mk (a dx fs) (h0:x = .ref a) (h1:H1 a=some (.ins C dx fs)) (h2:fs.lookup m=none) (h3:t σ H1 fun vs H2=>sp (x::(vs++dvs)) H2 Q E)
def Zdx(C:Addr)(m:Str)(sp:Sp)(dvs:List V)(E:XK)(ta:TE)(t:TA):TE:=fun σ H Q=>ta σ H fun x H1=>tMeth_ C m sp dvs E t σ Q x H1
def Zlr(C:Addr)(sp:Sp)(dvs:List V)(E:XK)(t:TA):TE:=fun σ H Q=>t σ H fun vs H1=>∀x dx,H1 x=none->H1 dx=none->dx≠x ->
 sp (.ref x::(vs++dvs)) (upd (upd H1 dx (.own x)) x (.ins C dx [])) (fun v H2=>v = .non/\Q (.ref x) H2) E
def Binds(K:uFg)(fd:FuncData)(ps:List Str)(ds:List Value):Prop :=
 ∀(s:Shared)(us:List Value),K.In s.heap->(us++ds).length=ps.length->BindsTo s fd ⟨us,[]⟩ (ps.zip (us++ds))
theorem Binds.all{K:uFg}{fd:FuncData}{ps:List Str}(h:∀us:List Value,us.length=ps.length->bindArgs fd ⟨us,[]⟩=pure (ps.zip us)):Binds K fd ps []:=fun s us _ hl=>by
 rw[yN] at hl ⊢
 exact .of_eq (h us hl)
def Za9(CX:CXT)(X:Cx)(E:XK):Prop:=∀(pins:List (Addr×Obj))(σ:St)(H:Hp)(s:Shared)(e:Value)(s':Shared),Inv X pins σ H s->CX X.stack H s E e s'->X.xe e s'
section
variable{X:Cx}{CX:CXT}{k:Nat}{f C:Addr}{fd:FuncData}{ps:List Str}{sp:Sp}{dvs:List V}{ds:List Value}{E:XK}{x m:Str}{p pos apos:Pos}{e o:Expr}{es:List Expr}{ta:TE}{t:TA}
theorem Zfz{pins:List (Addr×Obj)}{σ:St}{H:Hp}{s:Shared}{Q:VK}{us:List Value}{vs:List V}(F:FnOk X.prog X.w X.K X.mg X.base CX k f fd ps sp)(hr:Room k X.A)(hb:Binds X.K fd ps ds)(hd:Vals dvs ds)(hx:Za9 CX X E)(I:Inv X pins σ H s)(r:Vals vs us)(h:sp (vs++dvs) H Q E):wpAny (model X.prog X.w) X.A (call (.ref f) us) (EP X pins σ Q) X.xe s:=by
 have r2:Vals (vs++dvs) (us++ds):=r.append hd
 have hl:(us++ds).length=ps.length:=by rw[← r2.length];exact F.len _ _ _ _ h
 refine wpAny_call (codeAny_mono (F.run X.A X.stack s H ⟨us,[]⟩ (us++ds) (vs++dvs) Q E hr I.env0 (hb s us I.kIn hl) r2 h) fun r s' hq=>?_)
 cases r with
 | error e=>exact hx pins σ H s e s' I hq
 | ok fl =>
  cases fl with
  | ret u=>exact I.after hq
  | next=>exact False.elim hq
  | brk=>exact False.elim hq
  | cont=>exact False.elim hq
theorem Zup(F:FnOk X.prog X.w X.K X.mg X.base CX k f fd ps sp)(hr:Room k X.A)(hg:Gl X x)(hm:X.mg x=some (.ref f))(hk:PySem.W.keepIn X.K (.ref f)=true)(hb:Binds X.K fd ps ds)(hd:Vals dvs ds)(hx:Za9 CX X E)(ha:PA X (e::es) t)(hdb:(x == ("__debug__" : Str))=false:=by decide)(he:starEach (e::es) X.env=(false,eval e X.env)::starEach es X.env:=by rfl)(hpl:(backTo pos (starEach es X.env)).any (·.1)=false:=by rfl) :
  PE X (.Call (.Name x p) (e::es) [] pos) (Zf6 sp dvs E t):=by
 intro pins s σ H Q I h
 refine wpAny_Call_Name_kw (Zbt I hg hm ?_ hdb)
 refine PySem.W.callWith_K (h₀:=X.base) I.ok.mod.kin hk (thn (ha pos pins s σ H _ I h) fun us s1 ⟨vs,H1,I1,r,q⟩=>⟨I1.kIn,?_⟩) he hpl
 exact Zfz F hr hb hd hx I1 r q
theorem Zuq{pl:Sem Bool}(he:PE X o ta)(c:Cls X.K C)(hm:Meth X.K C m f)(F:FnOk X.prog X.w X.K X.mg X.base CX k f fd ps sp)(hr:Room k X.A)(hb:Binds X.K fd ps ds)(hd:Vals dvs ds)(hx:Za9 CX X E)(ha:PA X (e::es) t)(hst:starEach (e::es) X.env=(false,eval e X.env)::starEach es X.env:=by rfl)(hpl:(backTo pos (starEach es X.env)).any (·.1)=false:=by rfl)(ht:eval (.Call (.Attribute o m apos) (e::es) [] pos) X.env=(do
   let ov ← eval o X.env
   standAt apos.atName
   let (f,first) ← holding [ov] (getMethod ov m pl)
   callWith pos f first (backTo pos (starEach (e::es) X.env)) (backToKw pos (keywordEach [] X.env))):=by rfl) :
  PE X (.Call (.Attribute o m apos) (e::es) [] pos) (Zdx C m sp dvs E ta t):=by
 intro pins s σ H Q I h
 refine PySem.W.methodCall_KW (pl:=pl) (thn (he pins s σ H _ I h) fun u s1 ⟨x,H1,I1,rx,a,dx,fs,ex,ea,l,q⟩=>?_) ht
 subst ex
 obtain rfl:u=Value.ref a:=rx
 refine Zdb I1 ea c hm l ?_
 refine PySem.W.callWith_K (first:=[.ref a]) (h₀:=X.base) I.ok.mod.kin hm.kp (thn (ha pos pins s1 σ H1 _ I1 q) fun us s2 ⟨vs,H2,I2,r,q2⟩=>⟨I2.kIn,?_⟩) hst hpl
 exact Zfz (us:=.ref a::us) (vs:=.ref a::vs) F hr hb hd hx I2 (.cons rfl r) q2
theorem Zsh{pl:Sem Bool}(he:PE X o ta)(c:Cls X.K C)(hm:Meth X.K C m f)(F:FnOk X.prog X.w X.K X.mg X.base CX k f fd ps sp)(hr:Room k X.A)(hb:Binds X.K fd ps ds)(hd:Vals dvs ds)(hx:Za9 CX X E)(ht:eval (.Call (.Attribute o m apos) [] [] pos) X.env=(do
   let ov ← eval o X.env
   standAt apos.atName
   let (f,first) ← holding [ov] (getMethod ov m pl)
   callWith pos f first (backTo pos (starEach [] X.env)) (backToKw pos (keywordEach [] X.env))):=by rfl) :
  PE X (.Call (.Attribute o m apos) [] [] pos) (Zdx C m sp dvs E ta Vl):=by
 intro pins s σ H Q I h
 refine PySem.W.methodCall_KW (pl:=pl) (thn (he pins s σ H _ I h) fun u s1 ⟨x,H1,I1,rx,a,dx,fs,ex,ea,l,q⟩=>?_) ht
 subst ex
 obtain rfl:u=Value.ref a:=rx
 refine Zdb I1 ea c hm l ?_
 exact PySem.W.callWith_K0 (first:=[.ref a]) I1.kIn hm.kp (Zfz (us:=[.ref a]) (vs:=[.ref a]) F hr hb hd hx I1 (.cons rfl .nil) q)
structure Mk (K:uFg) (C f:Addr):Prop where
 makes:PySem.W.makesIn K C=true
 init:PySem.W.findIn K (.ref C) "__init__" = some (some (.ref f))
 fn:PySem.W.isFn K (.ref f)=true
 kp:PySem.W.keepIn K (.ref C)=true
theorem Zsi{pins:List (Addr×Obj)}{σ:St}{H:Hp}{s:Shared}{Q:VK}{us:List Value}{vs:List V}(M:Mk X.K C f)(F:FnOk X.prog X.w X.K X.mg X.base CX k f fd ps sp)(hr:Room (k+1) X.A)(hb:Binds X.K fd ps ds)(hd:Vals dvs ds)(hx:Za9 CX X E)(I:Inv X pins σ H s)(r:Vals vs us)(h:∀x dx,H x=none->H dx=none->dx≠x->sp (.ref x::(vs++dvs)) (upd (upd H dx (.own x)) x (.ins C dx [])) (fun v H2=>v = .non/\Q (.ref x) H2) E) :
  wpAny (model X.prog X.w) X.A (call (.ref C) us) (EP X pins σ Q) X.xe s:=by
 have hq:=h (s.heap.objs.size+1) s.heap.objs.size (I.hok.fresh (Nat.le_succ _)) (I.hok.fresh (xE _)) (yC (Nat.lt_succ_self _))
 have I2:=Inv.made (C:=C) I
 have r2:Vals (V.ref (s.heap.objs.size+1)::(vs++dvs)) (Value.ref (s.heap.objs.size+1)::(us++ds)):=.cons rfl (r.append hd)
 have hl:(Value.ref (s.heap.objs.size+1)::us++ds).length=ps.length:=by
  have e:=r2.length
  rw[F.len _ _ _ _ hq] at e
  exact e.symm
 refine wpAny_call (Zsg (f:=f) I.kIn M.makes M.init (beq_iff_eq.mp M.fn) (codeAny_mono (F.run _ X.stack _ _ ⟨Value.ref (s.heap.objs.size+1)::us,[]⟩ (Value.ref (s.heap.objs.size+1)::(us++ds)) _ _ E (hr.make C us [])
  (I2.env0.make C us []) (hb _ (Value.ref (s.heap.objs.size+1)::us) I2.kIn hl) r2 hq) fun r s' hq'=>?_))
 cases r with
 | error e=>exact hx pins σ _ _ e s' I2 hq'
 | ok fl =>
  cases fl with
  | ret u =>
   obtain⟨v,H',I3,rv,ev,q3⟩:=I2.after hq'
   subst ev
   exact⟨rv,⟨V.ref (s.heap.objs.size+1),H',I3,rfl,q3⟩⟩
  | next=>exact False.elim hq'
  | brk=>exact False.elim hq'
  | cont=>exact False.elim hq'
theorem Zsj(M:Mk X.K C f)(F:FnOk X.prog X.w X.K X.mg X.base CX k f fd ps sp)(hr:Room (k+1) X.A)(hg:Gl X x)(hm:X.mg x=some (.ref C))(hb:Binds X.K fd ps ds)(hd:Vals dvs ds)(hx:Za9 CX X E)(hdb:(x == ("__debug__" : Str))=false:=by decide):PE X (.Call (.Name x p) [] [] pos) (Zlr C sp dvs E Vl):=by
 intro pins s σ H Q I h
 refine wpAny_Call_Name_kw (Zbt I hg hm ?_ hdb)
 exact PySem.W.callWith_K0 I.kIn M.kp (Zsi (us:=[]) M F hr hb hd hx I .nil h)
end
section
variable{X:Cx}{CX:CXT}{k:Nat}{f C:Addr}{fd:FuncData}{ps ks:List Str}{sp:Sp}{E:XK}{x m:Str}{p pos apos kpos:Pos}{e o:Expr}{es:List Expr}{kws:List Keyword}{te ta:TE}{t tk:TA}{nm:Option Str}
structure KBinds (K:uFg) (fd:FuncData) (ps ks:List Str) (g:List Value->List Value->List Value) (gV:List V->List V->List V):Prop where
 to:∀(s:Shared)(us ws:List Value),K.In s.heap->(g us ws).length=ps.length->BindsTo s fd ⟨us,ks.zip ws⟩ (ps.zip (g us ws))
 rel:∀{vs:List V}{us:List Value}{zs:List V}{ws:List Value},Vals vs us->Vals zs ws->Vals (gV vs zs) (g us ws)
variable{g:List Value->List Value->List Value}{gV:List V->List V->List V}
end
structure FnScope (N P:List Str) (sc:Scope):Prop where
 kind:sc.kind = .function
 co:sc.isCoroutine=false
 gen:sc.isGenerator=false
 nd:N.Nodup
 pre:N.take P.length=P
 par:∀x∈P,sc.names.lookup x=some .local\/sc.names.lookup x=some .cell
 nofree:∀y∈sc.names,y.2 ≠ .free
theorem Zjc{kindOf:Str->Option NameKind}{x:Str}:∀{binds:List (Str×Value)}{m:Str->Option Value},(∀v,(x,v)∉binds)->bindL kindOf binds m x=m x
 | [],_,_=>rfl
 | (n,v)::r,m,h=>by
  unfold bindL
  rw[Zjc fun w hw=>h w (xX _ hw)]
  split
  ·have:x≠n:=by rintro rfl;exact h v yD
   simp[this]
  ·rfl
theorem Zjd{kindOf:Str->Option NameKind}{x:Str}:∀{binds:List (Str×Value)}{m:Str->Option Value},(∀v,(x,v)∉binds)->bindC kindOf binds m x=m x
 | [],_,_=>rfl
 | (n,v)::r,m,h=>by
  unfold bindC
  rw[Zjd fun w hw=>h w (xX _ hw)]
  split
  ·rfl
  ·have:x≠n:=by rintro rfl;exact h v yD
   simp[this]
theorem Zje{kindOf:Str->Option NameKind}{x:Str}{v:Value}:∀{P:List Str}{vs:List Value}{i:Nat}{m:Str->Option Value},P.Nodup->P[i]? = some x->vs[i]? = some v->kindOf x=some .local ->
  bindL kindOf (P.zip vs) m x=some v
 | [],_,_,_,_,h,_,_=>by simp at h
 | _::_,[],_,_,_,_,h,_=>by simp at h
 | p::P,w::vs,0,m,nd,h1,h2,hk=>by
  simp at h1 h2;subst h1;subst h2
  show bindL kindOf ((p,w)::P.zip vs) m p=_
  unfold bindL
  rw[Zjc fun v hv=>(yF.mp nd).1 (yX hv).1,if_pos hk]
  simp
 | p::P,w::vs,i+1,m,nd,h1,h2,hk=>by
  show bindL kindOf ((p,w)::P.zip vs) m x=_
  unfold bindL
  exact Zje (i:=i) (yF.mp nd).2 (by simpa using h1) (by simpa using h2) hk
theorem Zjf{kindOf:Str->Option NameKind}{x:Str}{v:Value}:∀{P:List Str}{vs:List Value}{i:Nat}{m:Str->Option Value},P.Nodup->P[i]? = some x->vs[i]? = some v->kindOf x≠some .local ->
  bindC kindOf (P.zip vs) m x=some v
 | [],_,_,_,_,h,_,_=>by simp at h
 | _::_,[],_,_,_,_,h,_=>by simp at h
 | p::P,w::vs,0,m,nd,h1,h2,hk=>by
  simp at h1 h2;subst h1;subst h2
  show bindC kindOf ((p,w)::P.zip vs) m p=_
  unfold bindC
  rw[Zjd fun v hv=>(yF.mp nd).1 (yX hv).1,if_neg hk]
  simp
 | p::P,w::vs,i+1,m,nd,h1,h2,hk=>by
  show bindC kindOf ((p,w)::P.zip vs) m x=_
  unfold bindC
  exact Zjf (i:=i) (yF.mp nd).2 (by simpa using h1) (by simpa using h2) hk
def start(N:List Str)(vs:List V):St:=vs.map some++List.replicate (N.length - vs.length) none
def Yu(CX:CXT)(P:Program)(w:World)(K:uFg)(mg:Str->Option Value)(base:Heap)(N:List Str)(qual:Str)(scope:Scope)(f:Addr)(cd:Value)(A:Around)(outer:List Env)(s:Shared)(H:Hp)(E:XK):Cx where
 prog:=P
 w:=w
 K:=K
 mg:=mg
 base:=base
 A:=A.deeper (envOfC qual scope s.heap.objs.size f cd)
 N:=N
 s₀:=s
 H₀:=H
 env:=envOfC qual scope s.heap.objs.size f cd
 outer:=outer
 stack:=envOfC qual scope s.heap.objs.size f cd::outer
 ex:=[]
 calm:=true
 fn:=fun _=>true
 pn:=[]
 xe:=fun e s'=>wpAny (model P w) (A.deeper (envOfC qual scope s.heap.objs.size f cd)) (leaving (envOfC qual scope s.heap.objs.size f cd) e) (fun _ s''=>CX outer H s E e s'') (fun e' s''=>CX outer H s E e' s'') s'
theorem Zjv{sc:Scope}{n:Nat}{x:Str}(h:sc.names.lookup x=some .cell):∃c,(cellsFrom n sc.names []).lookup x=some c:=by
 have q:=PySem.W.cellsFrom_some sc.names n [] (.inl h)
 exact zG.mp q
theorem Zjg{CX:CXT}{P:Program}{w:World}{K:uFg}{mg:Str->Option Value}{base:Heap}{N ps:List Str}{qual:Str}{scope:Scope}{f:Addr}{cd:Value}{A:Around}{outer:List Env}{s s1:Shared}{H:Hp}{E:XK}{us:List Value}{vs:List V}(S:FnScope N ps scope)(hd:A.handled=none)(e0:Env0 P w K mg base A outer s H)(hl:vs.length=ps.length)(r:Vals vs us)(x:InCallC s s.heap.objs.size (bindL (envOfC qual scope s.heap.objs.size f cd).kindOf (ps.zip us) fun _=>none) (cellsFrom (s.heap.objs.size+1) scope.names []) (bindC (envOfC qual scope s.heap.objs.size f cd).kindOf (ps.zip us) fun _=>none) s1) :
  Inv (Yu CX P w K mg base N qual scope f cd A outer s H E) [] (start N vs) H s1:=by
 have hpl:ps.length<=N.length:=by have:=congrArg List.length S.pre;rw[xY] at this;lia
 obtain⟨h1,tk,rfl,hk⟩:=x.done
 have noA:∀b:Addr,b∉(Yu CX P w K mg base N qual scope f cd A outer s H E).ex:=fun b z=>absurd (show b∈([]:List Addr) from z) (by simp)
 refine⟨⟨e0.mod,S.kind,rfl,rfl,xE _,fun y z c h1 h2=>?_,fun y hy=>?_,fun y c _ h=>?_,fun _=>hd,Around.frames_deeper e0.frames,.inr ⟨rfl,rfl⟩,fun b z=>absurd z (noA b),e0.bs,e0.bsz,fun b _ _=>noA b,fun b z=>absurd z (noA b),e0.funs,e0.frf⟩,
  rfl,e0.bare,Un.kept hk,⟨_,x.toInCall.ns,fun i y v h1 h2 h3=>?_⟩,fun y c h=>⟨_,x.cell y c h⟩,e0.hok.fresh (xE _),fun y c h=>?_,fun p hp=>absurd (show p∈([]:List (Addr×Obj)) from hp) (by simp),e0.hok.kept hk,?_⟩
 ·exact name_of_addr x.apart (PySem.mem_of_lookup h1) (PySem.mem_of_lookup h2)
 ·have hy:scope.names.lookup y=some .cell\/scope.names.lookup y=some .free:=hy
  rcases hy with hy | hy
  ·exact Zjv hy
  ·exact absurd rfl (S.nofree _ (PySem.mem_of_lookup hy))
 ·exact zI (x.above y c (PySem.mem_of_lookup h))
 ·have hi:i < vs.length:=by
   unfold start at h2
   by_cases hi:i < vs.length
   ·exact hi
   ·rw[zO (by simpa using hi)] at h2
    rw[List.getElem?_replicate] at h2
    split at h2<;>cases h2
  have ha:vs[i]? = some v:=by
   unfold start at h2
   rw[List.getElem?_append_left (by simpa using hi),xP] at h2
   cases e:vs[i]? with
   | none=>rw[e] at h2;cases h2
   | some a=>rw[e] at h2;cases h2;rfl
  obtain⟨u,hu,rv⟩:=r.get ha
  have hp:ps[i]? = some y:=by
   rw[← S.pre,List.getElem?_take_of_lt (by lia)];exact h1
  have ndP:ps.Nodup:=by rw[← S.pre];exact S.nd.sublist (List.take_sublist _ _)
  refine⟨u,rv,?_⟩
  rcases S.par y (xO hp) with k | k
  ·exact .inl ⟨k,Zje ndP hp hu k⟩
  ·obtain⟨c,e⟩:=Zjv (n:=s.heap.objs.size+1) k
   refine .inr ⟨.inl k,c,e,?_⟩
   have q:=x.cell y c e
   rw[Zjf ndP hp hu (by show scope.names.lookup y≠_;rw[k];decide)] at q
   exact q
 ·exact e0.hok.fresh (zI (x.above y c (PySem.mem_of_lookup h)))
 ·unfold start
  show _=N.length
  rw[xJ,xA,List.length_replicate]
  lia
theorem Zls{CX:CXT}{P:Program}{w:World}{K:uFg}{mg:Str->Option Value}{base:Heap}{k:Nat}{f:Addr}{name qual:Str}{params:Arguments}{body:List Stmt}{scope:Scope}{dV kV doc pm cdv ct oc:Value}{an od:Option Addr}{osl:Array (Option Value)}{N ps:List Str}{sp:Sp}(lk:K.lookup f=some ⟨oc,od,.func (PySem.W.fnOf name qual params body scope dV kV doc pm an cdv ct),osl⟩)(hcd:PySem.W.codeIn K cdv qual=true)(S:FnScope N ps scope)(len:∀vs H Q E,sp vs H Q E->vs.length=ps.length)(hbody:∀ (A:Around) (outer:List Env) (s:Shared) (H:Hp) (vs:List V) (Q:VK) (E:XK),Room k (A.deeper (envOfC qual scope s.heap.objs.size f cdv))->sp vs H Q E ->
   ∃t,PSs (Yu CX P w K mg base N qual scope f cdv A outer s H E) body t/\t {nx:=fun _ H'=>Q .non H',rt:=Q } (start N vs) H) :
  FnOk P w K mg base CX (k+1) f (PySem.W.fnOf name qual params body scope dV kV doc pm an cdv ct) ps sp:=by
 refine⟨len,fun A outer s H args us vs Q E hr e0 hb r hsp=>?_⟩
 have hl:=len _ _ _ _ hsp
 have KX:K.In s.heap:=e0.mod.kin.keeps fun b o e=>(e0.bs b o e).1
 have lim:s.heap.NoLimit:=e0.mod.nolimit.keeps fun b o e=>(e0.bs b o e).1
 have hkind:∀y∈ps.zip us,scope.names.lookup y.1=some .local\/(scope.names.lookup y.1=some .cell/\((cellsFrom (s.heap.objs.size+1) scope.names []).lookup y.1).isSome=true):=fun⟨n,v⟩ hy=>by
  rcases S.par n (yX hy).1 with q | q
  ·exact .inl q
  ·exact .inr ⟨q,PySem.W.cellsFrom_some _ _ _ (.inl q)⟩
 refine codeAny_call_function hr.depth (KX _ _ lk) rfl S.co S.gen rfl (PySem.W.codeRec_of KX hcd) (hb _ _ _ _ ?_)
 refine wpAny_newFunctionEnv_cells S.kind hkind fun env he s1 x=>?_
 subst he
 refine⟨lim.keeps x.toInCall.keep,codeAny_func ?_⟩
 obtain⟨t,ht,hq⟩:=hbody A outer s H vs Q E (hr.deeper _) hsp
 have I:Inv (Yu CX P w K mg base N qual scope f cdv A outer s H E) [] (start N vs) H s1:=Zjg S hr.hd e0 hl r x
 refine wpAny_mono (ht [] s1 (start N vs) H _ I hq) (fun fl s' hs=>?_) fun e s' hs=>hs
 have fin:∀{σ':St}{H':Hp}{v:V}{u:Value},Inv (Yu CX P w K mg base N qual scope f cdv A outer s H E) [] σ' H' s'->RelV v u->Q v H'->CE outer P w H s Q u s' :=
  fun {σ' H' v u} J rv q=>⟨v,H',J.os,J.bare,J.base,J.hok,rv,q⟩
 cases fl with
 | ret u =>
  obtain⟨v,σ',H',J,rv,q⟩:=hs
  exact fin J rv q
 | next =>
  obtain⟨σ',H',J,q⟩:=hs
  exact fin (v:=V.non) (u:=Value.none) J rfl q
 | brk =>
  obtain⟨_,_,_,q⟩:=hs
  exact False.elim q
 | cont =>
  obtain⟨_,_,_,q⟩:=hs
  exact False.elim q
end L2
namespace L2
open PySem PySem.Spec PyProof.Rows
section
variable{X:Cx}{x:Str}{p pos:Pos}{e:Expr}{es:List Expr}{t:TA}{id T:String}{r:List V->Hp->VK->Prop}
def tCB(r:List V->Hp->VK->Prop)(t:TA):TE:=fun σ H Q=>t σ H fun vs H1=>r vs H1 Q
theorem Zsk(hc:Vj X (.builtin id) r)(hg:Gl X x)(hm:X.mg x=none)(hv:bootBuiltins x=some (.builtin id))(ha:PA X (e::es) t)(hn:x ≠ "__name__" := by decide)(hdb:(x == ("__debug__" : Str))=false:=by decide)(he:starEach (e::es) X.env=(false,eval e X.env)::starEach es X.env:=by rfl)(hpl:(backTo pos (starEach es X.env)).any (·.1)=false:=by rfl):PE X (.Call (.Name x p) (e::es) [] pos) (tCB r t):=by
 intro pins s σ H Q I h
 refine wpAny_Call_Name_kw (Ug I hg hm hv ?_ hn hdb)
 exact PyProof.Rows.callWith_builtin1 (thn (ha pos pins s σ H _ I h) fun us s1 ⟨vs,H1,I1,r1,q1⟩=>hc pins s1 σ H1 vs us Q I1 r1 q1) he hpl
theorem Zqt(hc:Vj X (.type T) r)(hg:Gl X x)(hm:X.mg x=none)(hv:bootBuiltins x=some (.type T))(ha:PA X (e::es) t)(hn:x ≠ "__name__" := by decide)(hdb:(x == ("__debug__" : Str))=false:=by decide)(he:starEach (e::es) X.env=(false,eval e X.env)::starEach es X.env:=by rfl)(hpl:(backTo pos (starEach es X.env)).any (·.1)=false:=by rfl):PE X (.Call (.Name x p) (e::es) [] pos) (tCB r t):=by
 intro pins s σ H Q I h
 refine wpAny_Call_Name_kw (Ug I hg hm hv ?_ hn hdb)
 exact PyProof.Rows.callWith_type1 (thn (ha pos pins s σ H _ I h) fun us s1 ⟨vs,H1,I1,r1,q1⟩=>hc pins s1 σ H1 vs us Q I1 r1 q1) he hpl
end
end L2
namespace HT
open PySem PyProof.Rows
section
open PySem.SeqAt
open PySem.AutoSeq1 (wpAny_loadPart')
open PySem.MeetsSeq PySem.MeetsSeq2 PySem.MeetsSeq3
end
section
variable{prog:Program}{w:World}{A:Around}{E:Value->Shared->Prop}{s:Shared}
def sIx(n d:Nat):Option Int->Nat
 | none=>d
 | some v=>if v < 0 then (v+(n:Int)).toNat else min v.toNat n
theorem sIx_none(n d:Nat):sIx n d none=d:=rfl
theorem sIx_nat(n d k:Nat):sIx n d (some (k:Int))=min k n:=by
 show (if (k:Int) < 0 then ((k:Int)+(n:Int)).toNat else min (k:Int).toNat n)=min k n
 rw[if_neg (by lia),yR]
end
end HT
namespace L2
open PySem PySem.Spec PyProof.Rows
abbrev TO:=St->Hp->(Option Int->Hp->Prop)->Prop
def PO(X:Cx)(e:Option Expr)(t:TO):Prop :=
 ∀(pins:List (Addr×Obj))(s:Shared)(σ:St)(H:Hp)(Q:Option Int->Hp->Prop),Inv X pins σ H s->t σ H Q ->
  wpAny (model X.prog X.w) X.A (evalPart e X.env) (fun u s'=>∃o H',Inv X pins σ H' s'/\IsPart u o/\Q o H') X.xe s
def Zkb:TO:=fun _ H Q=>Q none H
inductive tPart_ (Q:Option Int->Hp->Prop) (x:V) (H1:Hp):Prop
 | mk (i) (h0:x = .int i) (h1:Q (some i) H1)
def Zlt(t:TE):TO:=fun σ H Q=>t σ H fun x H1=>tPart_ Q x H1
section
variable{X:Cx}{e:Expr}{te:TE}{lo hi:Option Expr}{tl th:TO}{pos p2:Pos}
theorem Zur:PO X none Zkb:=by
 intro pins s σ H Q I h
 rw[evalPart_none]
 exact wpAny_pure ⟨none,H,I,.none,h⟩
theorem Zus(h:PE X e te):PO X (some e) (Zlt te):=by
 intro pins s σ H Q I hw
 rw[evalPart_some]
 refine thn (h pins s σ H _ I hw) fun u s1 ⟨x,H1,I1,r1,q1⟩=>?_
 obtain⟨i,rfl,q⟩:=q1
 obtain⟨t,rfl⟩:=r1
 exact⟨some i,H1,I1,.int i t,q⟩
def SlR(X:Cx)(r:V->Option Int->Option Int->Hp->VK->Prop):Prop :=
 ∀(pins:List (Addr×Obj))(s:Shared)(σ:St)(H:Hp)(x:V)(v vl vu:Value)(lo hi:Option Int)(sl:Addr)(Q:VK),Inv X pins σ H s->RelV x v->s.heap.IsSliceOf sl vl vu .none->IsPart vl lo->IsPart vu hi->r x lo hi H Q ->
  ∃T id,typeLookup (.type T) "__getitem__" = pure (some (.builtin id))/\s.TypeIs v T/\wpAny (model X.prog X.w) X.A (getItem v (.ref sl)) (EP X pins σ Q) X.xe s
def tSl(r:V->Option Int->Option Int->Hp->VK->Prop)(te:TE)(tl th:TO):TE:=fun σ H Q=>te σ H fun x H1=>tl σ H1 fun l H2=>th σ H2 fun u H3=>r x l u H3 Q
theorem Zsl{r:V->Option Int->Option Int->Hp->VK->Prop}(hr:SlR X r)(he:PE X e te)(hl:PO X lo tl)(hu:PO X hi th):PE X (.Subscript e (.Slice lo hi none p2) pos) (tSl r te tl th):=by
 intro pins s σ H Q I h
 refine Subscript_ (thn (he pins s σ H _ I h) fun v s1 ⟨x,H1,I1,r1,q1⟩=>?_)
 refine wpAny_Slice (thn (hl pins s1 σ H1 _ I1 q1) fun vl s2 ⟨l,H2,I2,pl,q2⟩=>thn (hu pins s2 σ H2 _ I2 q2) fun vu s3 ⟨u,H3,I3,pu,q3⟩=>?_)
 rw[evalPart_none]
 refine wpAny_pure ?_
 have I4:Inv X pins σ H3 {s3 with heap:=s3.heap.push {cls:=.type "slice", data:=.fields #[vl,vu,.none] } }:=I3.kept (t':=s3.toks) fun b ob q=>xF _ q
 obtain⟨T,id,hT,ht,hg⟩:=hr pins {s3 with heap:=s3.heap.push {cls:=.type "slice", data:=.fields #[vl,vu,.none] } } σ H3 x v vl vu l u s3.heap.objs.size Q I4 r1 (Heap.IsSliceOf.new ..) pl pu q3
 show wpAny (model X.prog X.w) X.A (subscriptTail e (.Slice lo hi none p2) v (.ref s3.heap.objs.size)) (EP X pins σ Q) X.xe {s3 with heap:=s3.heap.push {cls:=.type "slice", data:=.fields #[vl,vu,.none] } }
 exact tail_any (ops:=[.ref s3.heap.objs.size,v]) ht hT hg (by with_unfolding_all rfl)
def V3(xs:List V)(lo hi:Option Int):List V:=(xs.drop (HT.sIx xs.length 0 lo)).take (HT.sIx xs.length xs.length hi - HT.sIx xs.length 0 lo)
theorem Zo3(xs:List V)(lo hi:Option Int):(V3 xs lo hi).length<=xs.length:=by
 unfold V3
 rw[xY,List.length_drop]
 lia
end
end L2
namespace L2
open PySem PySem.Spec PyProof.Rows
def ixN(n:Nat)(i:Int):Option Nat:=if 0<=i then (if i < n then some i.toNat else none) else if -(n:Int)<=i then some (i+n).toNat else none
def atI{α:Type}(xs:List α)(i:Int):Option α:=(ixN xs.length i).bind fun j=>xs[j]?
theorem Zkc{n:Nat}{i:Int}{j:Nat}(h:ixN n i=some j):seqIndex? i n=some j/\j < n /\ -(n:Int)<=i/\i < n:=by
 unfold ixN at h
 by_cases h0 : 0<=i
 ·rw[if_pos h0] at h
  by_cases h1:i < n
  ·rw[if_pos h1] at h
   have e:i.toNat=j:=Option.some.inj h
   exact⟨by rw[seqIndex_of h0 h1,e],by lia,by lia,h1⟩
  ·rw[if_neg h1] at h;cases h
 ·rw[if_neg h0] at h
  by_cases h1 : -(n:Int)<=i
  ·rw[if_pos h1] at h
   have e:(i+n).toNat=j:=Option.some.inj h
   exact⟨by rw[seqIndex_neg (by lia) h1,e],by lia,h1,by lia⟩
  ·rw[if_neg h1] at h;cases h
theorem Zfm{α:Type}{xs:List α}{i:Int}{v : α}(h:atI xs i=some v):∃j,seqIndex? i xs.length=some j/\xs[j]? = some v/\j < xs.length /\ -(xs.length:Int)<=i/\i < xs.length:=by
 unfold atI at h
 cases e:ixN xs.length i with
 | none=>rw[e] at h;cases h
 | some j =>
  rw[e] at h
  obtain⟨h1,h2,h3,h4⟩:=Zkc e
  exact⟨j,h1,h,h2,h3,h4⟩
theorem Va{α:Type}{xs:List α}{j:Nat}{v : α}(h:xs[j]? = some v):atI xs (j:Int)=some v:=by
 have hj:j < xs.length:=(xG.mp h).1
 have e:ixN xs.length (j:Int)=some j:=by
  unfold ixN
  rw[if_pos (by lia),if_pos (by lia)];simp
 unfold atI;rw[e];exact h
def Zkd(b:Expr):Prop:=∀o i,subscripted b false o i=operate [o,i] (getItem o i)
def IxR(X:Cx)(r:R2):Prop :=
 ∀(value slice:Expr)(pins:List (Addr×Obj))(s:Shared)(σ:St)(H:Hp)(x y:V)(v u:Value)(Q:VK),Inv X pins σ H s->RelV x v->RelV y u->r x y H Q ->
  subscripted slice false v u=operate [v,u] (getItem v u)->wpAny (model X.prog X.w) X.A (subscriptTail value slice v u) (EP X pins σ Q) X.xe s
def MtR(X:Cx)(id:String)(r:V->List V->Hp->VK->Prop):Prop :=
 ∀(pins:List (Addr×Obj))(s:Shared)(σ:St)(H:Hp)(x:V)(xs:List V)(v:Value)(us:List Value)(Q:VK),Inv X pins σ H s->RelV x v->Vals xs us->r x xs H Q ->
  wpAny (model X.prog X.w) X.A (call (.builtin id) (v::us)) (EP X pins σ Q) X.xe s
section
variable{X:Cx}{a b:Expr}{ta tb:TE}{pos:Pos}
theorem Zyc{r:R2}(hr:IxR X r)(ha:PE X a ta)(hb:PE X b tb)(hs:Zkd b):PE X (.Subscript a b pos) (tOp r ta tb):=by
 intro pins s σ H Q I h
 exact Subscript_ (Zia ha hb I h fun v u s2 x y H2 I2 rx ry q=>hr a b pins s2 σ H2 x y v u Q I2 rx ry q (hs _ _))
inductive rIxL (K:uFg) (x:V) (y:V) (H:Hp) (Q:VK):Prop
 | mk (p xs i v) (h0:x = .ref p) (h1:y = .int i) (h2:SqL K H p xs) (h3:atI xs i=some v) (h4:Q v H)
inductive rIxT (K:uFg) (x:V) (y:V) (H:Hp) (Q:VK):Prop
 | mk (p xs i v) (h0:x = .ref p) (h1:y = .int i) (h2:SqT K H p xs) (h3:atI xs i=some v) (h4:Q v H)
inductive rIxS (x:V) (y:V) (H:Hp) (Q:VK):Prop
 | mk (z i c) (h0:x = .str z) (h1:y = .int i) (h2:z.length<=sizeLine) (h3:atI z.cps.toList i=some c) (h4:Q (.str ⟨#[c]⟩) H)
theorem Zut:IxR X (rIxL X.K):=by
 intro value slice pins s σ H x y v u Q I rx ry h hs
 obtain⟨p,xs,i,z,rfl,rfl,hq,he,q⟩:=h
 cases rx
 obtain⟨t,rfl⟩:=ry
 obtain⟨its,r,pl,hz⟩:=I.list hq
 obtain⟨j,h1,h2,h3,h4,h5⟩:=Zfm he
 obtain⟨w,ew,rw'⟩:=r.get h2
 have hl:=r.length
 have hn:=Za7
 have fin:EP X pins σ Q w s:=⟨z,H,I,rw',q⟩
 by_cases h0 : 0<=i
 ·have hj:i.toNat=j:=by
   rw[seqIndex_of h0 h5] at h1
   exact Option.some.inj h1
  exact item_listR pl.isList h0 (by lia) (by rw[hj];simpa using ew) fin hs
 ·have hj:(i+(its.toArray.size:Int)).toNat=j:=by
   rw[seqIndex_neg (by lia) h4] at h1
   rw[xL,← hl]
   exact Option.some.inj h1
  exact subscriptTail_builtinR (x:=w) pl.isList.typeIs slot_list_getitem.lookup
   (wpAny_getItem_list_neg (Q:=fun r s'=>r=w/\EP X pins σ Q r s') pl.isList (by lia) (by rw[xL]<;>lia) (by lia) (by rw[hj];simpa using ew) ⟨rfl,fin⟩) hs
theorem Zw5:IxR X (rIxT X.K):=by
 intro value slice pins s σ H x y v u Q I rx ry h hs
 obtain⟨p,xs,i,z,rfl,rfl,hq,he,q⟩:=h
 cases rx
 obtain⟨t,rfl⟩:=ry
 obtain⟨its,r,pl,hz⟩:=I.tuple hq
 obtain⟨j,h1,h2,h3,h4,h5⟩:=Zfm he
 obtain⟨w,ew,rw'⟩:=r.get h2
 have hl:=r.length
 have hn:=Za7
 have fin:EP X pins σ Q w s:=⟨z,H,I,rw',q⟩
 exact subscriptTail_builtinR (x:=w) pl.typeIs slot_tuple_getitem.lookup
  (getItem_tuple (j:=j) (Q:=fun r s'=>r=w/\EP X pins σ Q r s') pl (by lia) (by lia) (by rw[xL,← hl];exact h1) (by simpa using ew) ⟨rfl,fin⟩) hs
theorem Zw6:IxR X rIxS:=by
 intro value slice pins s σ H x y v u Q I rx ry h hs
 obtain⟨z,i,c,rfl,rfl,hz,he,q⟩:=h
 obtain⟨t,rfl⟩:=rx
 obtain⟨t',rfl⟩:=ry
 obtain⟨j,h1,h2,h3,h4,h5⟩:=Zfm he
 have hl:z.cps.toList.length=z.length:=by simp[Str.length]
 rw[hl] at h1 h4 h5
 have hn:=Za7
 exact tail_any (typeIs_str s z t) slot_str_getitem.lookup (getItem_str (c:=c) (by
  have e1:decide (i < -(2 ^ 63:Int))=false:=yH (by lia)
  have e2:decide (i>=2 ^ 63)=false:=yH (by lia)
  rw[e1,e2,Bool.or_false]) (by rw[h1];simpa using h2) ⟨.str ⟨#[c]⟩,H,I.tok _,⟨_,rfl⟩,q⟩) hs
theorem Zpd(its:List Value)(n j:Nat)(u:Value):Obj.mapSeq (·.setIfInBounds j u) {cls:=.type "list", data:=.seq its.toArray n }={cls:=.type "list", data:=.seq (its.set j u).toArray n }:=by
 simp[Obj.mapSeq]
theorem Inv.lst{pins:List (Addr×Obj)}{σ:St}{H:Hp}{s:Shared}{p:Addr}{xs:List V}(I:Inv X pins σ H s)(h:H p=some (.lst xs)) :
  ∃(its:List Value)(n:Nat),Vals xs its/\s.heap.get? p=some {cls:=.type "list", data:=.seq its.toArray n }/\xs.length<=sizeLine:=by
 obtain⟨z,its,n,r,e⟩:=I.hok p _ h
 exact⟨its,n,r,e,z⟩
theorem Inv.lstUpd{pins:List (Addr×Obj)}{σ:St}{H:Hp}{s:Shared}{p:Addr}{xs ys:List V}{its its':List Value}{n n':Nat}{f:Obj->Obj}(I:Inv X pins σ H s)(h:H p=some (.lst xs))(ho:s.heap.get? p=some {cls:=.type "list", data:=.seq its.toArray n })(hf:f {cls:=.type "list", data:=.seq its.toArray n }={cls:=.type "list", data:=.seq its'.toArray n' })(r:Vals ys its')(hz:ys.length<=sizeLine)(t:Nat) :
  Inv X pins σ (upd H p (.lst ys)) {s with heap:=s.heap.update p f,toks:=t }:=by
 have e:(s.heap.update p f).get? p=some {cls:=.type "list", data:=.seq its'.toArray n' }:=by
  rw[Heap.get?_update_self f ho (by rw[hf]<;>rfl),hf]
 refine I.write (x:=p) (e:=p) (by rw[h];trivial) (.inl rfl) (fun b u hb q=>(zX _ _ (Ne.symm hb)).trans q) ⟨_,e⟩ ?_
 exact⟨hz,its',n',r,e⟩
inductive rSetL (o:V) (i:V) (v:V) (H:Hp) (Q:Hp->Prop):Prop
 | mk (p xs k j) (h0:o = .ref p) (h1:i = .int k) (h2:H p=some (.lst xs)) (h3:ixN xs.length k=some j) (h4:Q (upd H p (.lst (xs.set j v))))
theorem Zsm:Zh9 X rSetL:=by
 intro pins s σ H o i v ov iv u Q I ro ri rv h
 obtain⟨p,xs,k,j,rfl,rfl,hp,hj,q⟩:=h
 cases ro
 obtain⟨t,rfl⟩:=ri
 obtain⟨its,n,r,ho,hz⟩:=I.lst hp
 obtain⟨h1,h2,h3,h4⟩:=Zkc hj
 have hl:=r.length
 have hn:=Za7
 have I':Inv X pins σ (upd H p (.lst (xs.set j v))) {s with heap:=s.heap.update p (Obj.mapSeq (·.setIfInBounds j u)) } :=
  I.lstUpd hp ho (Zpd its n j u) (r.set rv j) (by rw[List.length_set];exact hz) s.toks
 by_cases h0 : 0<=k
 ·have hk:k.toNat=j:=by
   rw[seqIndex_of h0 h4] at h1
   exact Option.some.inj h1
  exact PySem.W.ki_setAt ho h0 (by lia) (by rw[xL,← hl];exact h4) (by rw[hk];exact⟨_,I',q⟩)
 ·have hk:(k+(its.toArray.size:Int)).toNat=j:=by
   rw[seqIndex_neg (by lia) h3] at h1
   rw[xL,← hl]
   exact Option.some.inj h1
  exact PySem.W.ki_setBack ho (by lia) (by rw[xL,← hl];exact h3) (by lia) (by rw[hk];exact⟨_,I',q⟩)
theorem Zop(lo hi:Option Int)(n:Nat):(sliceBounds lo hi none n).1=((HT.sIx n 0 lo:Nat):Int)/\(sliceBounds lo hi none n).2.1=((HT.sIx n n hi:Nat):Int)/\(sliceBounds lo hi none n).2.2=1:=by
 refine⟨?_,?_,rfl⟩
 ·cases lo with
  | none=>simp[sliceBounds,HT.sIx]
  | some i =>
   simp only[sliceBounds,HT.sIx,Option.getD_none,show (1:Int) > 0 by decide,if_true]
   by_cases h:i < 0
   ·simp only[h,if_true]<;>lia
   ·simp only[h,if_false]<;>lia
 ·cases hi with
  | none=>simp[sliceBounds,HT.sIx]
  | some i =>
   simp only[sliceBounds,HT.sIx,Option.getD_none,show (1:Int) > 0 by decide,if_true]
   by_cases h:i < 0
   ·simp only[h,if_true]<;>lia
   ·simp only[h,if_false]<;>lia
theorem Zom(its:List Value)(lo hi:Option Int):slicePick its.toArray lo hi none=((its.drop (HT.sIx its.length 0 lo)).take (HT.sIx its.length its.length hi - HT.sIx its.length 0 lo)).toArray:=by
 obtain⟨h1,h2,h3⟩:=Zop lo hi its.toArray.size
 unfold slicePick
 rw[h1,h2,h3]
 simp only[sliceRange_one,pick_run,xL]<;>rfl
inductive rSlL (K:uFg) (x:V) (lo:Option Int) (hi:Option Int) (H:Hp) (Q:VK):Prop
 | mk (a xs) (h0:x = .ref a) (h1:SqL K H a xs) (h2:∀p,H p=none->Q (.ref p) (upd H p (.lst (V3 xs lo hi))))
theorem Zuu:SlR X (rSlL X.K):=by
 intro pins s σ H x v vl vu lo hi sl Q I rx hs pl pu h
 obtain⟨a,xs,rfl,hx,q⟩:=h
 cases rx
 obtain⟨its,r,ht,hz⟩:=I.list hx
 have hlen:=r.length
 refine⟨"list", _,slot_list_getitem.lookup,ht.isList.typeIs,?_⟩
 refine wpAny_getItem_list_slice ht.isList hs pl pu .none (by simp) ?_ (by rw[xL]<;>lia)
 rw[Zom,← hlen]
 refine⟨.ref s.heap.objs.size,_,I.laid (t':=s.toks) (o:=.lst (V3 xs lo hi)) (fun b ob q=>xF _ q) (xE _) ?_,rfl,q _ (I.hok.fresh (xE _))⟩
 exact⟨xS (Zo3 xs lo hi) hz,_,0,(r.drop (HT.sIx xs.length 0 lo)).take (HT.sIx xs.length xs.length hi - HT.sIx xs.length 0 lo),xW _ rfl⟩
def Us:V->Bool
 | .non=>true
 | .bl _=>true
 | .int _=>true
 | .str _=>true
 | _=>false
def eqV:V->V->Bool
 | .non,.non=>true
 | .bl a,.bl b=>a == b
 | .bl a,.int b=>(if a then 1 else 0)== b
 | .int a,.bl b=>a == (if b then 1 else 0)
 | .int a,.int b=>a == b
 | .str a,.str b=>a == b
 | _,_=>false
theorem Zw7{A:Around}{s:Shared}{y x:V}{u v:Value}(ry:RelV y u)(rx:RelV x v)(fy:Us y=true)(fx:Us x=true):SeqAt.EqAt A s u v (eqV y x):=by
 cases y with
 | non =>
  cases ry
  cases x with
  | non=>cases rx;exact SeqAt.EqAt.same _
  | bl b=>cases rx;exact SeqAt.EqAt.none_bool b
  | int b=>obtain⟨t,rfl⟩:=rx;exact SeqAt.EqAt.none_int b t
  | str b=>obtain⟨t,rfl⟩:=rx;exact SeqAt.EqAt.none_str b t
  | _=>exact absurd (show false=true from fx) xM
 | bl a =>
  cases ry
  cases x with
  | non=>cases rx;exact SeqAt.EqAt.bool_none a
  | bl b=>cases rx;exact SeqAt.EqAt.bool_bool a b
  | int b=>obtain⟨t,rfl⟩:=rx;exact SeqAt.EqAt.bool_int a b t
  | str b=>obtain⟨t,rfl⟩:=rx;exact SeqAt.EqAt.bool_str a b t
  | _=>exact absurd (show false=true from fx) xM
 | int a =>
  obtain⟨t',rfl⟩:=ry
  cases x with
  | non=>cases rx;exact SeqAt.EqAt.int_none a t'
  | bl b=>cases rx;exact SeqAt.EqAt.int_bool a t' b
  | int b=>obtain⟨t,rfl⟩:=rx;exact SeqAt.EqAt.int_int a t' b t
  | str b=>obtain⟨t,rfl⟩:=rx;exact SeqAt.EqAt.int_str a t' b t
  | _=>exact absurd (show false=true from fx) xM
 | str a =>
  obtain⟨t',rfl⟩:=ry
  cases x with
  | non=>cases rx;exact SeqAt.EqAt.str_none a t'
  | bl b=>cases rx;exact SeqAt.EqAt.str_bool a t' b
  | int b=>obtain⟨t,rfl⟩:=rx;exact SeqAt.EqAt.str_int a t' b t
  | str b=>obtain⟨t,rfl⟩:=rx;exact SeqAt.EqAt.str_str a t' b t
  | _=>exact absurd (show false=true from fx) xM
 | _=>exact absurd (show false=true from fy) xM
def eqU(x:V)(u:Value):Bool:=match u with
 | .none=>eqV .non x
 | .bool b=>eqV (.bl b) x
 | .int i _=>eqV (.int i) x
 | .str z _=>eqV (.str z) x
 | _=>false
theorem Zkx{x y:V}{u:Value}(r:RelV y u)(f:Us y=true):eqU x u=eqV y x:=by
 cases y with
 | non=>cases r;rfl
 | bl b=>cases r;rfl
 | int i=>obtain⟨t,rfl⟩:=r;rfl
 | str z=>obtain⟨t,rfl⟩:=r;rfl
 | _=>exact absurd (show false=true from f) xM
theorem Zfn{x:V}:∀{xs:List V}{us:List Value},Vals xs us->xs.all Us=true->us.any (eqU x)=xs.any fun y=>eqV y x
 | _,_,.nil,_=>rfl
 | y::xs,u::us,.cons r t,f=>by
  rw[List.all_cons,yJ] at f
  rw[List.any_cons,List.any_cons,Zkx r f.1,Zfn t f.2]
theorem Zfg{A:Around}{s:Shared}{x:V}{v:Value}(rx:RelV x v)(fx:Us x=true):∀{xs:List V}{us:List Value},Vals xs us->xs.all Us=true->∀u∈us,SeqAt.EqAt A s u v (eqU x u)
 | _,_,.nil,_=>fun u hu=>by cases hu
 | y::xs,u::us,.cons r t,f=>fun u' hu=>by
  rw[List.all_cons,yJ] at f
  rcases xC.mp hu with rfl | hu
  ·rw[Zkx r f.1];exact Zw7 r rx f.1 fx
  ·exact Zfg rx fx t f.2 u' hu
def inV(x:V)(xs:List V):Bool:=xs.any fun y=>eqV y x
inductive rIn (K:uFg) (neg:Bool) (x:V) (y:V) (H:Hp) (Q:VK):Prop
 | mk (p xs) (h0:y = .ref p) (h1:(SqL K H p xs\/SqT K H p xs)) (h2:Us x=true) (h3:xs.all Us=true) (h4:Q (.bl (if neg then !inV x xs else inV x xs)) H)
theorem Zoq:OpR X (compareOp .NotIn) (rIn X.K true):=by
 intro pins s σ H x y v u Q I rx ry h
 obtain⟨p,xs,rfl,hq,fx,fs,q⟩:=h
 cases ry
 rcases hq with hq | hq
 ·obtain⟨its,r,pl,hz⟩:=I.list hq
  refine SeqAt.notIn_listAt (eqU x) pl.isList (fun w hw=>Zfg rx fx r fs w (by simpa using hw)) ⟨.bl _,H,I,rfl,?_⟩
  rw[show its.toArray.any (eqU x)=its.any (eqU x) by simp,Zfn r fs]
  exact q
 ·obtain⟨its,r,pl,hz⟩:=I.tuple hq
  refine SeqAt.notIn_tupleAt (eqU x) pl (fun w hw=>Zfg rx fx r fs w (by simpa using hw)) ⟨.bl _,H,I,rfl,?_⟩
  rw[show its.toArray.any (eqU x)=its.any (eqU x) by simp,Zfn r fs]
  exact q
theorem Zor:Vj X (.builtin "len") (fun xs H Q=>∃p ys,xs = [.ref p]/\(SqL X.K H p ys\/SqT X.K H p ys)/\Q (.int ys.length) H):=by
 intro pins s σ H xs us Q I r h
 obtain⟨p,ys,rfl,hq,q⟩:=h
 obtain⟨u,rfl,rx⟩:=Uh r
 cases rx
 have hn:=Za7
 rcases hq with hq | hq
 ·obtain⟨its,r',pl,hz⟩:=I.list hq
  have hlen:=r'.length
  exact Calls.call_len_list pl.isList (by simp only[xL]<;>lia) ⟨.int ys.length,H,I.tok _,⟨s.toks+1,by rw[xL,hlen]⟩,q⟩
 ·obtain⟨its,r',pl,hz⟩:=I.tuple hq
  have hlen:=r'.length
  exact len_tuple pl (by simp only[xL]<;>lia) ⟨.int ys.length,H,I.tok _,⟨s.toks+1,by rw[xL,hlen]⟩,q⟩
theorem Zos:Vj X (.builtin "len") (fun xs H Q=>∃z,xs = [.str z]/\z.length<=sizeLine/\Q (.int z.length) H):=by
 intro pins s σ H xs us Q I r h
 obtain⟨z,rfl,hz,q⟩:=h
 obtain⟨u,rfl,t,rfl⟩:=Uh r
 have hn:=Za7
 exact len_str (by lia) ⟨.int z.length,H,I.tok _,⟨_,rfl⟩,q⟩
theorem Zot:Vj X (.type "list") (fun xs H Q=>∃p ys,xs = [.ref p]/\(SqL X.K H p ys\/SqT X.K H p ys)/\∀l,H l=none->Q (.ref l) (upd H l (.lst ys))):=by
 intro pins s σ H xs us Q I r h
 obtain⟨p,ys,rfl,hq,q⟩:=h
 obtain⟨u,rfl,rx⟩:=Uh r
 cases rx
 have fin:∀(its:List Value),Vals ys its->ys.length<=sizeLine->∀(h':Heap)(c':Nat),(∀b o',s.heap.get? b=some o'->h'.get? b=some o')->
   h'.get? s.heap.objs.size=some {cls:=.type "list", dict:=none,data:=.seq its.toArray c',slots:=#[] }->EP X pins σ Q (.ref s.heap.objs.size) {s with heap:=h' }:=fun its r' hz h' c' kp e =>
  ⟨.ref s.heap.objs.size,_,I.laid (t':=s.toks) kp (xE _) (show ObjOk X.prog X.w _ h' _ (.lst ys) from⟨hz,its,c',r',e⟩),rfl,q _ (I.hok.fresh (xE _))⟩
 rcases hq with hq | hq
 ·obtain⟨its,r',pl,hz⟩:=I.list hq
  have hlen:=r'.length
  obtain⟨o,ho,hc,n,hd⟩:=pl.isList
  exact call_list_seq p (.inl rfl) ho hc hd (fun h' c' kp e=>fin its r' hz h' c' kp e) (by simp only[xL]<;>lia)
 ·obtain⟨its,r',pl,hz⟩:=I.tuple hq
  have hlen:=r'.length
  obtain⟨o,ho,hc,n,hd⟩:=pl
  exact call_list_seq p (.inr rfl) ho hc hd (fun h' c' kp e=>fin its r' hz h' c' kp e) (by simp only[xL]<;>lia)
def tyV(K:uFg)(T:String)(x:V)(H:Hp):Prop:=match x with
 | .str _=>T = "str"
 | .int _=>T = "int"
 | .ref p=>(T = "list" /\ ∃xs,SqL K H p xs)\/(T = "tuple" /\ ∃o,K.lookup p=some o/\o.cls = .type "tuple" /\ o.dict=none)\/
   (T = "dict" /\ ((∃kvs,H p=some (.dK kvs))\/∃kvs,H p=some (.dT kvs)))\/(T = "set" /\ ∃S n,H p=some (.set S n))
 | _=>False
theorem Zky{pins:List (Addr×Obj)}{σ:St}{H:Hp}{s:Shared}{T:String}{x:V}{v:Value}(I:Inv X pins σ H s)(r:RelV x v)(ty:tyV X.K T x H) :
  s.TypeIs v T/\∀a,v = .ref a->∃ob,s.heap.get? a=some ob/\ob.dict=none:=by
 cases x with
 | str z =>
  obtain⟨t,rfl⟩:=r
  cases (show T = "str" from ty)
  exact⟨typeIs_str s z t,fun _ e=>nomatch e⟩
 | int i =>
  obtain⟨t,rfl⟩:=r
  cases (show T = "int" from ty)
  exact⟨typeIs_int s i t,fun _ e=>nomatch e⟩
 | ref p =>
  cases r
  rcases ty with⟨rfl,xs,hq⟩ | ⟨rfl,o,hk,hc,hd⟩ | ⟨rfl,hk⟩ | ⟨rfl,S,n,hk⟩
  ·obtain⟨its,_,pl,_⟩:=I.list hq
   refine⟨pl.isList.typeIs,fun a e=>?_⟩
   cases e
   obtain⟨o,n,e,c,hd,_⟩:=pl
   exact⟨o,e,hd⟩
  ·refine⟨⟨o,I.kIn p o hk,hc⟩,fun a e=>?_⟩
   cases e
   exact⟨o,I.kIn _ o hk,hd⟩
  ·have z:∃o,s.heap.get? p=some o/\o.ExactDict:=by
    rcases hk with⟨kvs,hk⟩ | ⟨kvs,hk⟩
    ·obtain⟨_,_,_,_,o,_,_,e,ex,_⟩:=I.hok p _ hk
     exact⟨o,e,ex⟩
    ·obtain⟨_,_,_,_,o,_,_,e,ex,_⟩:=I.hok p _ hk
     exact⟨o,e,ex⟩
   obtain⟨o,e,ex⟩:=z
   refine⟨⟨o,e,ex.1⟩,fun a e2=>?_⟩
   cases e2
   exact⟨o,e,ex.2.1⟩
  ·obtain⟨o,_,_,_,e,ex,_⟩:=I.hok p _ hk
   refine⟨⟨o,e,ex.1⟩,fun a e2=>?_⟩
   cases e2
   exact⟨o,e,ex.2.1⟩
 | _=>exact False.elim ty
def Zn0(K:uFg)(T:String)(r:V->List V->Hp->VK->Prop)(to:TE):TE:=fun σ H Q=>to σ H fun x H1=>tyV K T x H1/\r x [] H1 Q
def tBM(K:uFg)(T:String)(r:V->List V->Hp->VK->Prop)(to:TE)(t:TA):TE:=fun σ H Q=>to σ H fun x H1=>tyV K T x H1/\t σ H1 fun xs H2=>r x xs H2 Q
variable{o e:Expr}{es:List Expr}{to:TE}{t:TA}{name:Str}{apos cpos:Pos}{T id:String}{r:V->List V->Hp->VK->Prop}
theorem Zw8(pa:PlainAttrs T)(slot:Slot T name id)(hty:typeOf (.builtin id)=pure (.type "method_descriptor"))(hm:MtR X id r)(ho:PE X o to)(hbase:attributeBase o name X.env (eval o X.env)=eval o X.env:=by rfl)(hline:(apos.endLine == cpos.line)=true:=by rfl):PE X (.Call (.Attribute o name apos) [] [] cpos) (Zn0 X.K T r to):=by
 intro pins s σ H Q I h
 refine wpAny_Call_method0_late hbase hline (thn (ho pins s σ H _ I h) fun v s1 ⟨x,H1,I1,r1,ty,q1⟩=>?_)
 obtain⟨h1,h2⟩:=Zky I1 r1 ty
 exact⟨T,id,pa,slot,hty,h1,h2,Calls.callWith_builtin rfl (PySem.evalArgs_none (hm pins s1 σ H1 x [] v [] Q I1 r1 .nil q1))⟩
theorem Zyd(pa:PlainAttrs T)(slot:Slot T name id)(hty:typeOf (.builtin id)=pure (.type "method_descriptor"))(hm:MtR X id r)(ho:PE X o to)(ha:PA X (e::es) t)(hbase:attributeBase o name X.env (eval o X.env)=eval o X.env:=by rfl)(hfew:((backTo cpos (starEach (e::es) X.env)).all (fun x=>!x.1) && (backToKw cpos (keywordEach [] X.env)).all (fun x=>x.1.isSome)
   && decide ((e::es).length+([]:List Keyword).length+(if ([]:List Keyword).isEmpty then 0 else 1) < 30))=true:=by rfl)(hline:(apos.endLine == cpos.line)=true:=by rfl)(hs:starEach (e::es) X.env=(false,eval e X.env)::starEach es X.env:=by rfl)(hplain:(backTo cpos (starEach es X.env)).any (·.1)=false:=by rfl) :
  PE X (.Call (.Attribute o name apos) (e::es) [] cpos) (tBM X.K T r to t):=by
 intro pins s σ H Q I h
 refine wpAny_Call_method_late hbase hfew hline rfl (thn (ho pins s σ H _ I h) fun v s1 ⟨x,H1,I1,r1,ty,q1⟩=>?_)
 obtain⟨h1,h2⟩:=Zky I1 r1 ty
 refine⟨T,id,pa,slot,hty,h1,h2,?_⟩
 have hA:=ha cpos pins s1 σ H1 _ I1 q1
 rw[hs] at hA ⊢
 refine Calls.callWith_builtin (by show (false || (backTo cpos (starEach es X.env)).any (·.1))=false;rw[hplain]<;>rfl) (Calls.evalArgs_plain ?_)
 exact thn hA fun us s2 ⟨vs,H2,I2,r2,q2⟩=>hm pins s2 σ H2 x vs v us Q I2 r1 r2 q2
/- xs.append(e),list.index on a module's tuple .. are MtR facts of 06m -/
end
end L2
namespace L2
open PySem PySem.Spec PyProof.Rows
def MtM(X:Cx)(id:String)(r:V->List V->Hp->VK->Prop):Prop :=
 ∀(pins:List (Addr×Obj))(s:Shared)(σ:St)(H:Hp)(x:V)(xs:List V)(v:Value)(us:List Value)(Q:VK),Inv X pins σ H s->RelV x v->Vals xs us->r x xs H Q ->
  wpAny (model X.prog X.w) X.A (call (.builtin id) (v::us)) (EP X pins σ Q) X.xe s
theorem Vals.one:∀{x:V}{us:List Value},Vals [x] us->∃u,us = [u]/\RelV x u
 | _,_,.cons r .nil=>⟨_,rfl,r⟩
theorem Vals.zero:∀{us:List Value},Vals [] us->us = []
 | _,.nil=>rfl
theorem Vals.dropLast{xs:List V}{us:List Value}(h:Vals xs us):Vals xs.dropLast us.dropLast:=by
 induction h with
 | nil=>exact .nil
 | cons r t ih =>
  cases t with
  | nil=>exact .nil
  | cons q t'=>exact .cons r ih
theorem Vals.eraseIdx:∀{xs:List V}{us:List Value}(i:Nat),Vals xs us->Vals (xs.eraseIdx i) (us.eraseIdx i)
 | _,_,_,.nil=>.nil
 | _,_,0,.cons _ t=>t
 | _,_,i+1,.cons r t=>.cons r (Vals.eraseIdx i t)
theorem Vals.rep{xs:List V}{us:List Value}(h:Vals xs us):∀k:Nat,Vals (List.replicate k xs).flatten (List.replicate k us).flatten
 | 0=>.nil
 | k+1=>by
  rw[yQ,yQ,zQ,zQ]
  exact Vals.append h (Vals.rep h k)
theorem Zpe{α:Type}(l:List α):l.eraseIdx (l.length - 1)=l.dropLast:=by
 induction l with
 | nil=>rfl
 | cons a r ih =>
  cases r with
  | nil=>rfl
  | cons b r =>
   have e:(a::b::r).length - 1=((b::r).length - 1)+1:=by
    have h1:(a::b::r).length=r.length+2:=rfl
    have h2:(b::r).length=r.length+1:=rfl
    lia
   rw[e,List.eraseIdx_cons_succ,ih]
   all_goals rfl
theorem Zjh{α:Type}:∀(l:List α)(i:Nat),(l.eraseIdx i).length<=l.length
 | [],_=>xE _
 | _::_,0=>Nat.le_succ _
 | _::r,i+1=>Nat.succ_le_succ (Zjh r i)
theorem Zji(its:List Value):∀(k:Nat)(acc:List Value),
  List.foldl (fun x1 x2=>x1++x2) acc.toArray (List.replicate k its.toArray)=(acc++(List.replicate k its).flatten).toArray
 | 0,acc=>by simp
 | k+1,acc=>by
  have e:acc.toArray++its.toArray=(acc++its).toArray:=by simp
  have e2:(acc++its)++(List.replicate k its).flatten=acc++(List.replicate (k+1) its).flatten:=by
   rw[yQ,zQ,yW]
  rw[← e2,← Zji its k (acc++its),← e,yQ,List.foldl_cons]
section
variable{X:Cx}{pins:List (Addr×Obj)}{σ:St}{H:Hp}{s:Shared}{l b:Addr}{xs ys zs:List V}
theorem Inv.lset{its its':List Value}{n:Nat}{f:Array Value->Array Value}{t':Nat}(I:Inv X pins σ H s)(hH:H l=some (.lst xs))(e:s.heap.get? l=some {cls:=.type "list", data:=.seq its.toArray n })(hf:f its.toArray=its'.toArray)(hv:Vals ys its')(hz:ys.length<=sizeLine) :
  Inv X pins σ (upd H l (.lst ys)) {s with heap:=s.heap.update l (Obj.mapSeq f),toks:=t' }:=by
 have q:=PySem.IsL.update e f
 rw[hf] at q
 refine I.write (x:=l) (e:=l) (by rw[hH];exact trivial) (.inl rfl) (fun b' u hb hu=>(zX s.heap (Obj.mapSeq f) (Ne.symm hb)).trans hu) ⟨_,q⟩ ?_
 exact⟨hz,its',_,hv,q⟩
theorem Inv.lnew{its:List Value}{t':Nat}(I:Inv X pins σ H s)(hv:Vals ys its)(hz:ys.length<=sizeLine) :
  Inv X pins σ (upd H s.heap.objs.size (.lst ys)) {s with heap:=s.heap.push {cls:=.type "list", data:=.seq its.toArray },toks:=t' } :=
 I.laid (fun _ _ q=>xF _ q) (xE _) ⟨hz,its,0,hv,xW _ rfl⟩
theorem Inv.fresh(I:Inv X pins σ H s):H s.heap.objs.size=none:=I.hok.fresh (xE _)
theorem Inv.lstM(I:Inv X pins σ H s)(hH:H l=some (.lst xs)):xs.length<=sizeLine/\∃(its:List Value)(n:Nat),Vals xs its/\xs.length=its.length/\s.heap.get? l=some {cls:=.type "list", data:=.seq its.toArray n }:=by
 obtain⟨z,its,n,r,e⟩:=I.hok l _ hH
 exact⟨z,its,n,r,r.length,e⟩
theorem Zsn{n:Nat}(h:n<=sizeLine):Builtin.List.listTooLong n=false:=by
 unfold Builtin.List.listTooLong
 exact yH (by lia)
end
section
variable{X:Cx}
inductive rAppend (x:V) (vs:List V) (H:Hp) (Q:VK):Prop
 | mk (l xs y) (h0:x = .ref l) (h1:vs = [y]) (h2:H l=some (.lst xs)) (h3:xs.length < sizeLine) (h4:Q .non (upd H l (.lst (xs ++ [y]))))
theorem Zqu:MtM X "list.append" rAppend:=by
 intro pins s σ H x vs v us Q I rx rv h
 obtain⟨l,xs,y,rfl,rfl,hH,hz,q⟩:=h
 cases rx
 obtain⟨u,rfl,ru⟩:=rv.one
 obtain⟨z,its,n,r,hl,e⟩:=I.lstM hH
 refine call_meets F.slot_list_append ⟨_,e,rfl⟩ F.entry_list_append (F.args_list_append_2 _ _) (PySem.list_append l its.toArray n u (by rw[xL];lia)) ⟨e,?_⟩
 refine⟨.non,_,I.lset (its':=its ++ [u]) hH e (by simp) (r.append (.cons ru .nil)) ?_,rfl,q⟩
 rw[xJ,zK]
 lia
inductive rPop (x:V) (vs:List V) (H:Hp) (Q:VK):Prop
 | mk (l xs y) (h0:x = .ref l) (h1:vs = []) (h2:H l=some (.lst xs)) (h3:xs[xs.length - 1]? = some y) (h4:Q y (upd H l (.lst xs.dropLast)))
theorem Zw9:MtM X "list.pop" rPop:=by
 intro pins s σ H x vs v us Q I rx rv h
 obtain⟨l,xs,y,rfl,rfl,hH,hy,q⟩:=h
 cases rx
 have hus:=rv.zero
 subst hus
 obtain⟨z,its,n,r,hl,e⟩:=I.lstM hH
 obtain⟨u,hu,ru⟩:=r.get hy
 have hy':its.toArray[its.toArray.size - 1]? = some u:=by
  show its.toArray[its.length - 1]? = some u
  rw[← zL,← hl]
  exact hu
 refine call_meets F.slot_list_pop ⟨_,e,rfl⟩ F.entry_list_pop (F.args_list_pop_1 _) (MeetsSeq.list_pop_last l its.toArray n u hy' (by rw[xL];lia)) ⟨e,?_⟩
 refine⟨y,_,I.lset (its':=its.dropLast) hH e ?_ r.dropLast ?_,ru,q⟩
 ·show its.toArray.eraseIdxIfInBounds (its.toArray.size - 1)=its.dropLast.toArray
  rw[xL,List.eraseIdxIfInBounds_toArray,Zpe]
 ·rw[List.length_dropLast]
  lia
inductive rPopAt (x:V) (vs:List V) (H:Hp) (Q:VK):Prop
 | mk (l xs i k y) (h0:x = .ref l) (h1:vs = [.int i]) (h2:H l=some (.lst xs)) (h3 : -(2 ^ 63)<=i) (h4:i < 2 ^ 63) (h5:seqIndex? i xs.length=some k) (h6:xs[k]? = some y) (h7:Q y (upd H l (.lst (xs.eraseIdx k))))
theorem Zso:MtM X "list.pop" rPopAt:=by
 intro pins s σ H x vs v us Q I rx rv h
 obtain⟨l,xs,i,k,y,rfl,rfl,hH,h1,h2,hk,hy,q⟩:=h
 cases rx
 obtain⟨u,rfl,ru⟩:=rv.one
 obtain⟨t,rfl⟩:=ru
 obtain⟨z,its,n,r,hl,e⟩:=I.lstM hH
 obtain⟨w,hw,rw'⟩:=r.get hy
 refine call_meets F.slot_list_pop ⟨_,e,rfl⟩ F.entry_list_pop (F.args_list_pop_2 _ _)
  (MeetsSeq.list_pop_at l its.toArray n i t k w (fitsIndex_both h1 h2) (by rw[xL,← hl];exact hk) (by rw[← zL];exact hw) (by rw[xL];lia)) ⟨e,?_⟩
 refine⟨y,_,I.lset (its':=its.eraseIdx k) hH e ?_ (r.eraseIdx k) ?_,rw',q⟩
 ·show its.toArray.eraseIdxIfInBounds k=(its.eraseIdx k).toArray
  rw[List.eraseIdxIfInBounds_toArray]
 ·have:=Zjh xs k
  lia
inductive rCat (x:V) (y:V) (H:Hp) (Q:VK):Prop
 | mk (l b xs zs) (h0:x = .ref l) (h1:y = .ref b) (h2:H l=some (.lst xs)) (h3:H b=some (.lst zs)) (h4:xs.length+zs.length<=sizeLine) (h5:∀p,H p=none->Q (.ref p) (upd H p (.lst (xs++zs))))
theorem Zxa:OpR X (binaryOp .Add) rCat:=by
 intro pins s σ H x y v u Q I rx ry h
 obtain⟨l,b,xs,zs,rfl,rfl,hH,hB,hz,q⟩:=h
 cases rx
 cases ry
 obtain⟨z,its,n,r,hl,e⟩:=I.lstM hH
 obtain⟨z2,its2,n2,r2,hl2,e2⟩:=I.lstM hB
 refine PySem.P.add_list e e2 ?_ (by rw[xL,xL];lia)
 have ea:its.toArray++its2.toArray=(its++its2).toArray:=by simp
 rw[ea]
 exact⟨.ref _,_,I.lnew (t':=s.toks) (r.append r2) (by rw[xJ];lia),rfl,q _ I.fresh⟩
inductive rRep (x:V) (y:V) (H:Hp) (Q:VK):Prop
 | mk (l k xs) (h0:x = .ref l) (h1:y = .int k) (h2:H l=some (.lst xs)) (h3 : -(2 ^ 63)<=k) (h4:k < 2 ^ 63) (h5:xs.length * k.toNat<=sizeLine) (h6:∀p,H p=none->Q (.ref p) (upd H p (.lst (List.replicate k.toNat xs).flatten)))
theorem Zuv{α:Type}(xs:List α)(k:Nat):(List.replicate k xs).flatten.length=k * xs.length:=by
 induction k with
 | zero=>simp
 | succ k ih=>rw[yQ,zQ,xJ,ih,Nat.succ_mul,Nat.add_comm]
theorem Zxb:OpR X (binaryOp .Mult) rRep:=by
 intro pins s σ H x y v u Q I rx ry h
 obtain⟨l,k,xs,rfl,rfl,hH,h1,h2,hz,q⟩:=h
 cases rx
 obtain⟨t,rfl⟩:=ry
 obtain⟨z,its,n,r,hl,e⟩:=I.lstM hH
 have hlen:its.toArray.size * k.toNat<=sizeLine:=by rw[xL,← hl];exact hz
 have hcap:¬its.toArray.size * k.toNat > (2 ^ 63 - 1) / 8:=by
  have:(sizeLine:Nat)<=(2 ^ 63 - 1) / 8:=by decide
  lia
 have hfit:¬(!Builtin.List.listFitsIndex k)=true:=by
  rw[fitsIndex_both h1 h2]
  exact xM
 have hlong:¬Builtin.List.listTooLong (its.toArray.size * k.toNat)=true:=by
  rw[Zsn hlen]
  exact xM
 have hnew:List.foldl (fun x1 x2=>x1++x2) #[] (List.replicate (if its.toArray.isEmpty=true then 0 else k.toNat) its.toArray)=(List.replicate k.toNat its).flatten.toArray:=by
  have f0:∀m:Nat,List.foldl (fun x1 x2=>x1++x2) #[] (List.replicate m its.toArray)=(List.replicate m its).flatten.toArray:=fun m=>by
   have:=Zji its m []
   rw[zC] at this
   exact this
  rw[f0]
  cases its with
  | nil=>simp
  | cons a r'=>rw[if_neg (by simp)]
 refine wpAny_binaryOp_repeat_ref (T:="list") (U:="int") (by decide) ⟨_,e,rfl⟩ (fun s'=>typeIs_int s' k t) noFill_list_mul F.fills_int_mul F.slot_int_rmul repeat_list F.slot_int_index.lookup
  (call_meets F.slot_int_rmul (typeIs_int s k t) F.entry_int_rmul (F.args_int_rmul_2 _ _) (int___rmul___int_list k t l its.toArray n)
   ⟨e,rfl,⟨_,e,rfl⟩,call_meets F.slot_list_mul ⟨_,e,rfl⟩ F.entry_list_mul (F.args_list_mul_2 _ _) (AutoListH.list___mul___list_int_3 l its.toArray n k t hfit hcap hlong) ⟨e,?_⟩⟩)
 rw[hnew]
 exact⟨.ref _,_,I.lnew (t':=s.toks) (r.rep k.toNat) (by rw[Zuv,Nat.mul_comm];exact hz),rfl,q _ I.fresh⟩
end
section
variable{prog:Program}{w:World}{A:Around}{E:Value->Shared->Prop}{s:Shared}
set_option maxRecDepth 100000 in
end
section
variable{X:Cx}
end
end L2
namespace L2
open PySem PySem.Spec PyProof.Rows
section
variable{κ:Type} [DecidableEq κ]
def Zt(kvs:List (κ×V))(k : κ):Option V:=(kvs.find? fun kv=>decide (kv.1=k)).map (·.2)
def Zw(kvs:List (κ×V))(k : κ)(v:V):List (κ×V) :=
 if (kvs.any fun kv=>decide (kv.1=k))=true then kvs.map (fun kv=>if kv.1=k then (kv.1,v) else kv) else kvs ++ [(k,v)]
theorem V4{p : κ×V}{r:List (κ×V)}{k : κ}(e:p.1=k):Zt (p::r) k=some p.2:=by simp[Zt,zD,e]
theorem Ub{p : κ×V}{r:List (κ×V)}{k : κ}(e:¬p.1=k):Zt (p::r) k=Zt r k:=by simp[Zt,zD,e]
theorem Zck(k : κ):∀kvs:List (κ×V),(kvs.any fun kv=>decide (kv.1=k))=(Zt kvs k).isSome
 | []=>rfl
 | p::r=>by
  rw[List.any_cons]
  by_cases e:p.1=k
  ·simp only[V4 e,yI e,Bool.true_or,Option.isSome_some]
  ·rw[Ub e,yH e,Bool.false_or];exact Zck k r
theorem Zjw(k j : κ)(y:V):∀kvs:List (κ×V),Zt (kvs.map fun kv=>if kv.1=k then (kv.1,y) else kv) j=(Zt kvs j).map fun x=>if j=k then y else x
 | []=>rfl
 | p::r=>by
  have ih:=Zjw k j y r
  rw[xV]
  by_cases h:p.1=k
  ·rw[if_pos h]
   by_cases e:p.1=j
   ·rw[V4 (p:=(p.1,y)) e,V4 e,zV,if_pos (e.symm.trans h)]
   ·rw[Ub (p:=(p.1,y)) e,Ub e,ih]
  ·rw[if_neg h]
   by_cases e:p.1=j
   ·rw[V4 (p:=p) e,V4 e,zV,if_neg (fun z=>h (e.trans z))]
   ·rw[Ub (p:=p) e,Ub e,ih]
theorem Zjj(k j : κ)(y:V):∀kvs:List (κ×V),Zt kvs k=none->Zt (kvs ++ [(k,y)]) j=if j=k then some y else Zt kvs j
 | [],_=>by
  by_cases e:k=j
  ·rw[if_pos e.symm];exact V4 (p:=(k,y)) e
  ·rw[if_neg (fun z=>e z.symm)];exact Ub (p:=(k,y)) e
 | p::r,hn=>by
  rw[xT]
  have hk:¬p.1=k:=fun z=>by rw[V4 z] at hn;cases hn
  rw[Ub hk] at hn
  have ih:=Zjj k j y r hn
  by_cases e:p.1=j
  ·rw[V4 e,V4 e,if_neg (fun z=>hk (e.trans z))]
  ·rw[Ub e,Ub e,ih]
theorem Uc(kvs:List (κ×V))(k j : κ)(y:V):Zt (Zw kvs k y) j=if j=k then some y else Zt kvs j:=by
 unfold Zw
 by_cases a:(kvs.any fun kv=>decide (kv.1=k))=true
 ·rw[if_pos a,Zjw]
  rw[Zck] at a
  by_cases e:j=k
  ·obtain⟨x,hx⟩:=zG.mp a
   rw[if_pos e,e,hx,zV,if_pos rfl]
  ·rw[if_neg e]
   cases Zt kvs j with
   | none=>rfl
   | some x=>rw[zV,if_neg e]
 ·rw[if_neg a]
  refine Zjj k j y kvs ?_
  rw[Zck] at a
  cases q:Zt kvs k with
  | none=>rfl
  | some x=>rw[q] at a;exact(a rfl).elim
theorem Vm(kvs:List (κ×V))(k : κ)(v:V):(Zw kvs k v).length<=kvs.length+1:=by
 unfold Zw
 split
 ·rw[xA];lia
 ·rw[xJ,xU,List.length_nil];lia
theorem Zsp{kvs:List (κ×V)}{k : κ}(v:V)(h:Zt kvs k=none):Zw kvs k v=kvs ++ [(k,v)]:=by
 unfold Zw
 rw[Zck,h]
 exact if_neg (by decide)
theorem RelO.isSome_eq{o:Option V}{u:Option Value}(r:RelO o u):o.isSome=u.isSome:=by
 cases o with
 | none=>cases u with
  | none=>rfl
  | some _=>exact(show False from r).elim
 | some _=>cases u with
  | none=>exact(show False from r).elim
  | some _=>rfl
theorem RelO.getD{o:Option V}{u:Option Value}{d:V}{d':Value}(r:RelO o u)(rd:RelV d d'):RelV (o.getD d) (u.getD d'):=by
 cases o with
 | none=>cases u with
  | none=>exact rd
  | some _=>exact(show False from r).elim
 | some _=>cases u with
  | none=>exact(show False from r).elim
  | some _=>exact r
theorem KV.val{kvs:List (κ×V)}{vs:List (κ×Value)}(r:KV kvs vs)(k : κ):RelO (Zt kvs k) (valueAt vs k):=by
 unfold KV at r
 induction r with
 | nil=>exact True.intro
 | @cons p q ps qs h t ih =>
  obtain⟨h1,h2⟩:=h
  by_cases e:p.1=k
  ·have e':q.1=k:=h1.symm.trans e
   have b:valueAt (q::qs) k=some q.2:=by simp[valueAt,zD,e']
   rw[V4 e,b];exact h2
  ·have e':¬q.1=k:=fun z=>e (h1.trans z)
   have b:valueAt (q::qs) k=valueAt qs k:=by simp[valueAt,zD,e']
   rw[Ub e,b];exact ih
theorem KV.any{kvs:List (κ×V)}{vs:List (κ×Value)}(r:KV kvs vs)(k : κ):(kvs.any fun kv=>decide (kv.1=k))=vs.any fun kv=>decide (kv.1=k):=by
 unfold KV at r
 induction r with
 | nil=>rfl
 | cons h t ih=>rw[List.any_cons,List.any_cons,ih,h.1]
theorem KV.repl{kvs:List (κ×V)}{vs:List (κ×Value)}(r:KV kvs vs)(k : κ){y:V}{u:Value}(ry:RelV y u) :
  KV (kvs.map fun kv=>if kv.1=k then (kv.1,y) else kv) (vs.map fun kv=>if kv.1=k then (kv.1,u) else kv):=by
 unfold KV at r ⊢
 induction r with
 | nil=>exact .nil
 | @cons p q ps qs h t ih =>
  rw[xV,xV]
  refine .cons ?_ ih
  obtain⟨h1,h2⟩:=h
  by_cases e:p.1=k
  ·rw[if_pos e,if_pos (h1.symm.trans e)];exact⟨h1,ry⟩
  ·rw[if_neg e,if_neg (fun z=>e (h1.trans z))];exact⟨h1,h2⟩
theorem KV.put{kvs:List (κ×V)}{vs:List (κ×Value)}(r:KV kvs vs)(k : κ){y:V}{u:Value}(ry:RelV y u):KV (Zw kvs k y) (stored vs k u):=by
 unfold Zw stored
 rw[r.any k]
 by_cases e:(vs.any fun kv=>decide (kv.1=k))=true
 ·rw[if_pos e,if_pos e];exact r.repl k ry
 ·rw[if_neg e,if_neg e];exact Paired.snoc r ⟨rfl,ry⟩
theorem KV.length{kvs:List (κ×V)}{vs:List (κ×Value)}(r:KV kvs vs):kvs.length=vs.length:=Paired.length r
end
theorem Zai{P:Program}{w:World}{k:Key}{u:Value}(r:RelV (kV k) u):(Y0 P w).is k u=true:=by
 cases k with
 | inl i=>obtain⟨t,e⟩:=(show ∃t,u=Value.int i t from r);subst e;exact Zo1 P w i t
 | inr x=>obtain⟨t,e⟩:=(show ∃t,u=Value.str x t from r);subst e;exact Zo2 P w x t
theorem Zjk{P:Program}{w:World}:∀{ks:List Key}{us:List Value},Vals (ks.map kV) us->ItemsAre (Y0 P w) ks us
 | [],_,r=>by rw[List.map_nil] at r;cases r;exact .nil
 | k::ks,_,r=>by
  rw[xV] at r
  cases r with
  | cons h t=>exact .cons (Zai h) (Zjk t)
abbrev KT(H:Hp):List (List Key×V)->List (List Key×Addr×Value)->Prop:=Paired fun p q=>p.1=q.1/\H q.2.1=some (.tup (p.1.map kV))/\RelV p.2 q.2.2
theorem KT.val{H:Hp}{kvs:List (List Key×V)}{xs:List (List Key×Addr×Value)}(r:KT H kvs xs)(k:List Key):RelO (Zt kvs k) ((atKey xs k).map (·.2)):=by
 induction r with
 | nil=>exact True.intro
 | @cons p q ps qs h t ih =>
  obtain⟨h1,_,h2⟩:=h
  by_cases e:p.1=k
  ·have e':q.1=k:=h1.symm.trans e
   have b:atKey (q::qs) k=some q.2:=by simp[atKey,zD,e']
   rw[V4 e,b];exact h2
  ·have e':¬q.1=k:=fun z=>e (h1.trans z)
   have b:atKey (q::qs) k=atKey qs k:=by simp[atKey,zD,e']
   rw[Ub e,b];exact ih
theorem KT.repl{H:Hp}{kvs:List (List Key×V)}{xs:List (List Key×Addr×Value)}(r:KT H kvs xs)(k:List Key){y:V}{u:Value}(ry:RelV y u) :
  KT H (kvs.map fun kv=>if kv.1=k then (kv.1,y) else kv) (xs.map (putAt k u)):=by
 induction r with
 | nil=>exact .nil
 | @cons p q ps qs h t ih =>
  rw[xV,xV]
  refine .cons ?_ ih
  obtain⟨h1,h2,h3⟩:=h
  unfold putAt
  by_cases e:p.1=k
  ·rw[if_pos e,if_pos (h1.symm.trans e)];exact⟨h1,h2,ry⟩
  ·rw[if_neg e,if_neg (fun z=>e (h1.trans z))];exact⟨h1,h2,h3⟩
theorem KT.put{H:Hp}{kvs:List (List Key×V)}{xs:List (List Key×Addr×Value)}(r:KT H kvs xs)(k:List Key){b:Addr}{y:V}{u:Value}(hb:H b=some (.tup (k.map kV)))(ry:RelV y u) :
  KT H (Zw kvs k y) (storedH xs k b u):=by
 have e:(kvs.any fun kv=>decide (kv.1=k))=(atKey xs k).isSome:=by
  rw[Zck,(r.val k).isSome_eq,Option.isSome_map]
 unfold Zw storedH
 rw[e]
 by_cases q:(atKey xs k).isSome=true
 ·rw[if_pos q,if_pos q];exact r.repl k ry
 ·rw[if_neg q,if_neg q];exact Paired.snoc r ⟨rfl,hb,ry⟩
theorem KT.keeps{H H':Hp}{kvs:List (List Key×V)}{xs:List (List Key×Addr×Value)}(r:KT H kvs xs)(ht:∀b ys,H b=some (.tup ys)->H' b=some (.tup ys)):KT H' kvs xs :=
 Paired.mapP r fun _ _ z=>⟨z.1,ht _ _ z.2.1,z.2.2⟩
section
variable{P:Program}{w:World}{H:Hp}{h:Heap}{a:Addr}
theorem Zlu{u:HO}(ok:HOk P w H h)(e:Rd H a u):ObjOk P w H h a u:=e.ok ok
theorem Zaj{kvs:List (Key×V)}(ok:HOk P w H h)(e:Rd H a (.dK kvs)):kvs.length<=sizeLine/\(a == sysModules)=false/\∃vs,KV kvs vs/\h.DictOf (Y0 P w) a vs :=
 show ObjOk P w H h a (.dK kvs) from Zlu ok e
theorem Zlv{kvs:List (Key×V)}(ok:HOk P w H h)(e:H a=some (.dK kvs)):kvs.length<=sizeLine/\(a == sysModules)=false/\∃vs,KV kvs vs/\h.DictOf (Y0 P w) a vs:=Zaj ok (.inl e)
theorem Zba{ks:List Key}(ok:HOk P w H h)(e:H a=some (.tup (ks.map kV))):(tupleKind (Y0 P w)).is h ks a:=by
 obtain⟨_,its,r,o,h1,h2,n,h3⟩:=(show ObjOk P w H h a (.tup (ks.map kV)) from ok a _ e)
 exact⟨o,its.toArray,n,h1,h2,h3,by simpa using Zjk r⟩
theorem Zbb{kvs:List (List Key×V)}(ok:HOk P w H h)(e:Rd H a (.dT kvs)):kvs.length<=sizeLine/\(a == sysModules)=false /\
  ∃xs,KT H kvs xs/\h.DictOfH (tupleKind (Y0 P w)) a xs:=by
 obtain⟨z,y,xs,r,o,es,ep,h1,h2,h3,h4,h5⟩:=(show ObjOk P w H h a (.dT kvs) from Zlu ok e)
 refine⟨z,y,xs,r,o,es,ep,h1,h2,h3,h4,fun x hx=>?_,h5⟩
 have all:∀{l:List (List Key×V)}{m:List (List Key×Addr×Value)},KT H l m->∀x∈m,(tupleKind (Y0 P w)).is h x.1 x.2.1:=by
  intro l m q
  induction q with
  | nil=>intro x hx;exact nomatch hx
  | @cons p q ps qs hq t ih =>
   intro x hx
   rcases xC.mp hx with e | hx
   ·subst e
    exact Zba ok (by rw[← hq.1];exact hq.2.1)
   ·exact ih x hx
 exact all r x hx
theorem Zlw{kvs:List (List Key×V)}(ok:HOk P w H h)(e:H a=some (.dT kvs)):kvs.length<=sizeLine/\(a == sysModules)=false /\
  ∃xs,KT H kvs xs/\h.DictOfH (tupleKind (Y0 P w)) a xs:=Zbb ok (.inl e)
end
def DGet(H:Hp)(a:Addr)(y:V)(r:Option V):Prop :=
 (∃kvs k,Rd H a (.dK kvs)/\y=kV k/\r=Zt kvs k)\/∃kvs k b,Rd H a (.dT kvs)/\y = .ref b/\H b=some (.tup (k.map kV))/\r=Zt kvs k
def DPut(H:Hp)(a:Addr)(y v:V)(H':Hp):Prop :=
 (∃kvs k,H a=some (.dK kvs)/\y=kV k/\kvs.length < sizeLine/\H'=upd H a (.dK (Zw kvs k v)))\/
 ∃kvs k b,H a=some (.dT kvs)/\y = .ref b/\H b=some (.tup (k.map kV))/\kvs.length < sizeLine/\H'=upd H a (.dT (Zw kvs k v))
theorem DGet.k{H:Hp}{a:Addr}{kvs:List (Key×V)}{k:Key}(e:H a=some (.dK kvs)):DGet H a (kV k) (Zt kvs k):=.inl ⟨kvs,k,.inl e,rfl,rfl⟩
theorem DGet.t{H:Hp}{a b:Addr}{kvs:List (List Key×V)}{k:List Key}(e:H a=some (.dT kvs))(eb:H b=some (.tup (k.map kV))):DGet H a (.ref b) (Zt kvs k):=.inr ⟨kvs,k,b,.inl e,rfl,eb,rfl⟩
theorem DPut.k{H:Hp}{a:Addr}{kvs:List (Key×V)}{k:Key}{v:V}(e:H a=some (.dK kvs))(hl:kvs.length < sizeLine):DPut H a (kV k) v (upd H a (.dK (Zw kvs k v))):=.inl ⟨kvs,k,e,rfl,hl,rfl⟩
theorem DPut.t{H:Hp}{a b:Addr}{kvs:List (List Key×V)}{k:List Key}{v:V}(e:H a=some (.dT kvs))(eb:H b=some (.tup (k.map kV)))(hl:kvs.length < sizeLine) :
  DPut H a (.ref b) v (upd H a (.dT (Zw kvs k v))):=.inr ⟨kvs,k,b,e,rfl,eb,hl,rfl⟩
section
variable{X:Cx}{pins:List (Addr×Obj)}{σ:St}{H:Hp}{s:Shared}{a:Addr}{y v:V}{u r:Value}{o:Option V}{A:Around}{E:Value->Shared->Prop}
theorem Inv.big(I:Inv X pins σ H s):sysModules < s.heap.objs.size:=by
 have h:mainGlobals < s.heap.objs.size:=(I.mod.glob.keeps I.bk).lt
 exact Nat.lt_trans (by decide) h
theorem Zqv{Q:Value->Shared->Prop}(hu:A.units+1 < cLine)(I:Inv X pins σ H s)(g:DGet H a y (some v))(ry:RelV y u)(h:∀w' s',Inv X pins σ H s'->RelV v w'->Q w' s') :
  wpAny (model X.prog X.w) A (getItem (.ref a) u) Q E s:=by
 rcases g with⟨kvs,k,e,ey,l⟩ | ⟨kvs,k,b,e,ey,eb,l⟩
 ·subst ey
  obtain⟨z,hd,vs,rel,dd⟩:=Zaj I.hok e
  obtain⟨w',hw,rw'⟩:=RelO.some_of (v:=v) (o:=valueAt vs k) (by rw[l];exact rel.val k)
  exact wpAny_getItem_of (Zai ry) dd.mapOf hw (h w' _ (I.tok _) rw')
 ·subst ey
  cases (show u=Value.ref b from ry)
  obtain⟨z,hd,xs,rel,dd⟩:=Zbb I.hok e
  obtain⟨w',hw,rw'⟩:=RelO.some_of (v:=v) (o:=(atKey xs k).map (·.2)) (by rw[l];exact rel.val k)
  obtain⟨p,hp,hp2⟩:=yE.mp hw
  refine wpAny_getItem_heap (tupleKind_room_in1 hu) (Zba I.hok eb) dd hp ?_
  rw[hp2]
  exact h w' _ (I.tok _) rw'
theorem Z02{Q:Value->Shared->Prop}(hu:A.units+1 < cLine)(I:Inv X pins σ H s)(g:DGet H a y o)(ry:RelV y u)(h:∀s',Inv X pins σ H s'->Q (.bool o.isSome) s') :
  wpAny (model X.prog X.w) A (compareOp .In u (.ref a)) Q E s:=by
 rcases g with⟨kvs,k,e,ey,l⟩ | ⟨kvs,k,b,e,ey,eb,l⟩
 ·subst ey
  obtain⟨z,hd,vs,rel,dd⟩:=Zaj I.hok e
  refine wpAny_in_of (Zai ry) hd dd.mapOf ?_
  rw[← (rel.val k).isSome_eq,← l]
  exact h _ (I.tok _)
 ·subst ey
  cases (show u=Value.ref b from ry)
  obtain⟨z,hd,xs,rel,dd⟩:=Zbb I.hok e
  refine wpAny_in_heap (tupleKind_room_in1 hu) (Zba I.hok eb) hd dd ?_
  have q:=(rel.val k).isSome_eq
  rw[Option.isSome_map] at q
  rw[← q,← l]
  exact h _ (I.tok _)
theorem Zuw{Q:Value->Shared->Prop}(hu:A.units+1 < cLine)(I:Inv X pins σ H s)(g:DGet H a y o)(ry:RelV y u)(h:∀s',Inv X pins σ H s'->Q (.bool (!o.isSome)) s') :
  wpAny (model X.prog X.w) A (compareOp .NotIn u (.ref a)) Q E s:=by
 rcases g with⟨kvs,k,e,ey,l⟩ | ⟨kvs,k,b,e,ey,eb,l⟩
 ·subst ey
  obtain⟨z,hd,vs,rel,dd⟩:=Zaj I.hok e
  refine wpAny_notIn_of (Zai ry) hd dd.mapOf ?_
  rw[← (rel.val k).isSome_eq,← l]
  exact h _ (I.tok _)
 ·subst ey
  cases (show u=Value.ref b from ry)
  obtain⟨z,hd,xs,rel,dd⟩:=Zbb I.hok e
  refine wpAny_notIn_heap (tupleKind_room_in1 hu) (Zba I.hok eb) hd dd ?_
  have q:=(rel.val k).isSome_eq
  rw[Option.isSome_map] at q
  rw[← q,← l]
  exact h _ (I.tok _)
theorem Zdi{h':Heap}{t':Nat}{ob:HO}(I:Inv X pins σ H s)(mu:Mut (H a))(hs:Heap.SameBut a s.heap h')(he:∃q,h'.get? a=some q)(new:ObjOk X.prog X.w (upd H a ob) h' a ob) :
  Inv X pins σ (upd H a ob) {s with heap:=h',toks:=t' } :=
 I.write (x:=a) (e:=a) mu (.inl rfl) (fun b q hb z=>(hs.2 b hb).trans z) he new
theorem Zkz{P:Program}{w:World}{H':Hp}{h':Heap}{kvs:List (Key×V)}{vs:List (Key×Value)}(z:kvs.length<=sizeLine)(hd:(a == sysModules)=false)(rel:KV kvs vs)(dd:h'.DictOf (Y0 P w) a vs) :
  ObjOk P w H' h' a (.dK kvs):=⟨z,hd,vs,rel,dd⟩
theorem Zqw{H':Hp}{Q:Unit->Shared->Prop}(hu:A.units+1 < cLine)(I:Inv X pins σ H s)(g:DPut H a y v H')(ry:RelV y u)(rv:RelV v r)(h:∀s',Inv X pins σ H' s'->Q () s') :
  wpAny (model X.prog X.w) A (setItem (.ref a) u r) Q E s:=by
 rcases g with⟨kvs,k,e,ey,l,eH⟩ | ⟨kvs,k,b,e,ey,eb,l,eH⟩
 ·subst ey eH
  obtain⟨z,hd,vs,rel,dd⟩:=Zlv I.hok e
  have hz:vs.length<=sizeLine:=by rw[← rel.length];exact z
  have hl:(Zw kvs k v).length<=sizeLine:=by have:=Vm kvs k v;lia
  refine wpAny_setItem_pairs (hsz:=hz) (Zai ry) dd fun h' dd' hs=>h _ ?_
  have he:∃q,h'.get? a=some q:=let ⟨q,_,_,hq,_⟩:=dd';⟨q,hq⟩
  exact Zdi I (by rw[e];exact True.intro) hs he (Zkz hl hd (rel.put k rv) dd')
 ·subst ey eH
  cases (show u=Value.ref b from ry)
  obtain⟨z,hd,xs,rel,dd⟩:=Zlw I.hok e
  have hz:xs.length<=sizeLine:=by rw[← Paired.length rel];exact z
  have hl:(Zw kvs k v).length<=sizeLine:=by have:=Vm kvs k v;lia
  refine wpAny_setItem_heap (hsz:=hz) (tupleKind_room_in1 hu) (Zba I.hok eb) dd fun h' dd' hs=>h _ ?_
  obtain⟨q,es,ep,hq,h2,h3,h4,_,h5⟩:=dd'
  refine Zdi I (by rw[e];exact True.intro) hs ⟨q,hq⟩ ⟨hl,hd,_,(rel.put k eb rv).keeps fun c ys ec=>?_,q,es,ep,hq,h2,h3,h4,h5⟩
  rw[Zc (Zlm ec e (fun z=>nomatch z))]
  exact ec
end
section
variable{X:Cx}{pins:List (Addr×Obj)}{σ:St}{H:Hp}{s:Shared}{a:Addr}{kvs:List (Key×V)}{k:Key}{u:Value}{A:Around}{E:Value->Shared->Prop}
theorem Zye{Q:Value->Shared->Prop}(I:Inv X pins σ H s)(e:Rd H a (.dK kvs))(h:∀t s',Inv X pins σ H s'->Q (.int kvs.length t) s'):wpAny (model X.prog X.w) A (call (.builtin "len") [.ref a]) Q E s:=by
 obtain⟨z,hd,vs,rel,dd⟩:=Zaj I.hok e
 refine call_len_dict hd dd (by rw[← rel.length];rw[sizeLine_eq] at z;lia) ?_
 rw[← rel.length]
 exact h _ _ (I.tok _)
end
def Zif(i:Expr):Prop:=∀ov iv,subscripted i false ov iv=operate [ov,iv] (getItem ov iv)
theorem Zux{prog:Program}{w:World}{A:Around}{E:Value->Shared->Prop}{s:Shared}{env:Env}{value slice:Expr}{pos:Pos}{T id:String}{Q:Value->Shared->Prop}(hl:typeLookup (.type T) "__getitem__" = pure (some (.builtin id)))(hs:Zif slice)(h:wpAny (model prog w) A (eval value env) (fun o s₁=>wpAny (model prog w) A (eval slice env) (fun i s₂=>s₂.TypeIs o T/\wpAny (model prog w) A (getItem o i) Q E s₂) E s₁) E s) :
  wpAny (model prog w) A (eval (.Subscript value slice pos) env) Q E s:=by
 refine Subscript_ (wpAny_mono h (fun o s₁ h₁=>wpAny_mono h₁ (fun i s₂ h₂=>?_) fun _ _ x=>x) fun _ _ x=>x)
 obtain⟨hT,h₂⟩:=h₂
 unfold subscriptTail
 refine wpAny_bind ?_
 rw[getitemInPython_of_ne hT.not_modules]
 refine wpAny_bind (wpAny_specialOf hT hl ?_)
 have fin:wpAny (model prog w) A (subscripted slice false o i) (fun r s₃=>wpAny (model prog w) A (letTemporaryGo value o r >>= fun _=>pure r) Q E s₃) E s₂:=by
  rw[hs o i]
  exact wpAny_operating (wpAny_mono h₂ (fun r s₃ h₃=>wpAny_bind (wpAny_letTemporaryGo (wpAny_pure h₃))) fun _ _ x=>x)
 first
  | exact wpAny_pure (wpAny_bind fin)
  | exact wpAny_bind (wpAny_pure (wpAny_bind fin))
  | exact wpAny_bind fin
theorem Zo4{X:Cx}{pins:List (Addr×Obj)}{σ:St}{H:Hp}{s:Shared}{a:Addr}{y:V}{o:Option V}(I:Inv X pins σ H s)(g:DGet H a y o):s.TypeIs (.ref a) "dict" := by
 rcases g with⟨kvs,k,e,_,_⟩ | ⟨kvs,k,b,e,_,_,_⟩
 ·obtain⟨_,_,vs,_,dd⟩:=Zaj I.hok e
  exact dd.typeIs
 ·obtain⟨_,_,xs,_,dd⟩:=Zbb I.hok e
  exact dd.typeIs
inductive tDGet_ (Q:VK) (x:V) (y:V) (H2:Hp):Prop
 | mk (a v) (h0:x = .ref a) (h1:DGet H2 a y (some v)) (h2:Q v H2)
def Zlx(td ty:TE):TE:=fun σ H Q=>td σ H fun x H1=>ty σ H1 fun y H2=>tDGet_ Q x y H2
inductive sDPut_ (D:Ends) (σ:St) (v:V) (x:V) (y:V) (H3:Hp):Prop
 | mk (a H4) (h0:x = .ref a) (h1:DPut H3 a y v H4) (h2:D.nx σ H4)
def Zly(td ty tv:TE):TS:=fun D σ H=>tv σ H fun v H1=>td σ H1 fun x H2=>ty σ H2 fun y H3=>sDPut_ D σ v x y H3
section
variable{X:Cx}{o i e value:Expr}{pos pos' tpos:Pos}{td ty tv:TE}
theorem Zuy(hu:X.A.units+1 < cLine)(ho:PE X o td)(hi:PE X i ty)(hs:Zif i):PE X (.Subscript o i pos) (Zlx td ty):=by
 intro pins s σ H Q I h
 refine Zux PySem.F.slot_dict_getitem.lookup hs (thn (ho pins s σ H _ I h) fun u s1 ⟨x,H1,I1,rx,q1⟩=>thn (hi pins s1 σ H1 _ I1 q1) fun iv s2 ⟨y,H2,I2,ry,a,v,ex,g,q2⟩=>?_)
 subst ex
 obtain rfl:u=Value.ref a:=rx
 exact⟨Zo4 I2 g,Zqv hu I2 g ry fun w' s3 I3 rw'=>⟨v,H2,I3,rw',q2⟩⟩
theorem Zuz(hu:X.A.units+1 < cLine)(ho:PE X o td)(hi:PE X i ty)(hv:PE X value tv)(hs:swapsWith value (some (.Subscript o i pos')) pos.line X.env=pure false) :
  PS X (.Assign [.Subscript o i pos'] value pos) (Zly td ty tv):=by
 intro pins s σ H D I h
 refine wpAny_Assign_Subscript (thn (hv pins s σ H _ I h) fun r s1 ⟨v,H1,I1,rv,q1⟩=>thn (ho pins s1 σ H1 _ I1 q1) fun u s2 ⟨x,H2,I2,rx,q2⟩=>thn (hi pins s2 σ H2 _ I2 q2) fun iv s3 ⟨y,H3,I3,ry,a,H4,ex,g,q3⟩=>?_) hs
 subst ex
 obtain rfl:u=Value.ref a:=rx
 exact Zqw hu I3 g ry rv fun s4 I4=>⟨σ,H4,I4,q3⟩
end
theorem Zjx{P:Program}{w:World}{H:Hp}(h:Heap)(hb:sysModules < h.objs.size):ObjOk P w H (h.push {cls:=.type "dict", data:=.dict #[] }) h.objs.size (.dK []) :=
 ⟨yL _,beq_eq_false_iff_ne.mpr (Ne.symm (yC hb)),[],.nil,Heap.DictOf.new h⟩
theorem Zsq{P:Program}{w:World}{H:Hp}(h:Heap)(hb:sysModules < h.objs.size):ObjOk P w H (h.push {cls:=.type "dict", data:=.dict #[] }) h.objs.size (.dT []) :=
 ⟨yL _,beq_eq_false_iff_ne.mpr (Ne.symm (yC hb)),[],.nil,_,#[],0,xW _ rfl,⟨rfl,rfl,rfl⟩,rfl,rfl,List.nodup_nil⟩
def Zk0:TE:=fun _ H Q=>∀p,H p=none->Q (.ref p) (upd H p (.dK []))
def Zk1:TE:=fun _ H Q=>∀p,H p=none->Q (.ref p) (upd H p (.dT []))
section
variable{X:Cx}{pos:Pos}
theorem Zsr:PE X (.Dict [] [] pos) Zk0:=fun pins s σ H Q I h =>
 wpAny_Dict_empty ⟨.ref s.heap.objs.size,_,I.laid (a:=s.heap.objs.size) (o:=.dK []) (t':=s.toks) (fun _ _ q=>xF _ q) (xE _) (Zjx s.heap I.big),rfl,h _ (I.hok.fresh (xE _))⟩
theorem Zss:PE X (.Dict [] [] pos) Zk1:=fun pins s σ H Q I h =>
 wpAny_Dict_empty ⟨.ref s.heap.objs.size,_,I.laid (a:=s.heap.objs.size) (o:=.dT []) (t':=s.toks) (fun _ _ q=>xF _ q) (xE _) (Zsq s.heap I.big),rfl,h _ (I.hok.fresh (xE _))⟩
end
def Zf0:List (TE×TE)->St->Hp->(List (V×V)->Hp->Prop)->Prop
 | [],_,H,Q=>Q [] H
 | (tk,tv)::r,σ,H,Q=>tk σ H fun x H1=>tv σ H1 fun y H2=>Zf0 r σ H2 fun ps H3=>Q ((x,y)::ps) H3
abbrev VV:List (V×V)->List (Value×Value)->Prop:=Paired fun p q=>RelV p.1 q.1/\RelV p.2 q.2
def PPs(X:Cx)(pos:Pos)(keys:List (Option Expr))(values:List Expr)(trs:List (TE×TE)):Prop :=
 ∀(pins:List (Addr×Obj))(s:Shared)(σ:St)(H:Hp)(Q:List (V×V)->Hp->Prop),Inv X pins σ H s->Zf0 trs σ H Q ->
  wpAny (model X.prog X.w) X.A (evalPairs (pairTrees keys values X.env pos)) (fun vs s'=>∃ps H',Inv X pins σ H' s'/\VV ps vs/\Q ps H') X.xe s
theorem Zu0{X:Cx}{pos:Pos}:PPs X pos [] [] []:=fun pins s σ H Q I h=>pairTrees_nil_walk ⟨[],H,I,.nil,h⟩
theorem Zst{X:Cx}{pos:Pos}{k v:Expr}{ks:List (Option Expr)}{vs:List Expr}{tk tv:TE}{trs:List (TE×TE)}(hk:PE X k tk)(hv:PE X v tv)(hr:PPs X pos ks vs trs) :
  PPs X pos (some k::ks) (v::vs) ((tk,tv)::trs):=fun pins s σ H Q I h =>
 pairTrees_cons_walk (thn (hk pins s σ H _ I h) fun u s1 ⟨x,H1,I1,rx,q1⟩=>thn (hv pins s1 σ H1 _ I1 q1) fun w2 s2 ⟨y,H2,I2,ry,q2⟩=>
  thn (hr pins s2 σ H2 _ I2 q2) fun ws s3 ⟨ps,H3,I3,rel,q3⟩=>⟨(x,y)::ps,H3,I3,.cons ⟨rx,ry⟩ rel,q3⟩)
def Zak(kvs more:List (Key×V)):List (Key×V):=more.foldl (fun acc kv=>Zw acc kv.1 kv.2) kvs
theorem KV.merge:∀{more:List (Key×V)}{rs:List (Key×Value)}{kvs:List (Key×V)}{vs:List (Key×Value)},KV more rs->KV kvs vs->KV (Zak kvs more) (merged vs rs):=by
 intro more rs kvs vs r
 unfold KV at r
 induction r generalizing kvs vs with
 | nil=>intro q;exact q
 | @cons p q ps qs h t ih =>
  intro r0
  have e:KV (Zw kvs p.1 p.2) (stored vs q.1 q.2):=by
   have:=r0.put p.1 h.2
   rw[← h.1];exact this
  exact ih e
theorem Ziu:∀(more kvs:List (Key×V)),(Zak kvs more).length<=kvs.length+more.length
 | [],kvs=>by show kvs.length<=kvs.length+0;lia
 | p::r,kvs=>by
  have h1:=Ziu r (Zw kvs p.1 p.2)
  have h2:=Vm kvs p.1 p.2
  show (Zak (Zw kvs p.1 p.2) r).length<=_
  rw[xU];lia
theorem Zi0{P:Program}{w:World}:∀{kvs:List (Key×V)}{ws:List (Value×Value)},VV (kvs.map fun kv=>(kV kv.1,kv.2)) ws->∃rs,Carries (Y0 P w) ws rs/\KV kvs rs
 | [],_,r=>by rw[List.map_nil] at r;cases r;exact⟨[],True.intro,.nil⟩
 | p::kvs,_,r=>by
  rw[xV] at r
  cases r with
  | @cons a b as bs h t =>
   obtain⟨rs,c,q⟩:=Zi0 (P:=P) (w:=w) t
   obtain⟨b1,b2⟩:=b
   exact⟨(p.1,b2)::rs,⟨Zai h.1,rfl,c⟩,.cons ⟨rfl,h.2⟩ q⟩
def Zlz(trs:List (TE×TE)):TE:=fun σ H Q=>∀p,H p=none->Zf0 trs σ (upd H p (.dK [])) fun ps H2=>H2 p=some (.dK [])/\∃kvs:List (Key×V),ps=kvs.map (fun kv=>(kV kv.1,kv.2))/\kvs.length<=15/\Q (.ref p) (upd H2 p (.dK (Zak [] kvs)))
theorem Zu1{X:Cx}{pos:Pos}{keys:List (Option Expr)}{values:List Expr}{trs:List (TE×TE)}(h:PPs X pos keys values trs)(hall:keys.all (·.isSome)=true)(hl:keys.length=values.length)(h0:keys ≠ [])(h15:keys.length<=15):PE X (.Dict keys values pos) (Zlz trs):=by
 intro pins s σ H Q I q
 have hn:=I.hok.fresh (xE s.heap.objs.size)
 have I1:=I.laid (a:=s.heap.objs.size) (o:=.dK []) (h':=s.heap.push {cls:=.type "dict", data:=.dict #[] }) (t':=s.toks) (fun _ _ q=>xF _ q) (xE _) (Zjx s.heap I.big)
 refine wpAny_Dict_walk (knd:=Y0 X.prog X.w) hall hl h0 h15 (thn (h pins _ σ _ _ I1 (q _ hn)) fun ws s2 ⟨ps,H2,I2,rel,e,kvs,ep,lk,q2⟩=>?_)
 subst ep
 obtain⟨rs,c,rk⟩:=Zi0 (P:=X.prog) (w:=X.w) rel
 obtain⟨z,hd,vs0,r0,dd⟩:=Zlv I2.hok e
 cases r0
 refine⟨rs,c,dd,fun h' dd' hs=>⟨.ref s.heap.objs.size,_,?_,rfl,q2⟩⟩
 have hz:(Zak [] kvs).length<=sizeLine:=by
  have h1:=Ziu kvs []
  rw[List.length_nil] at h1
  rw[sizeLine_eq];lia
 have he:∃q,h'.get? s.heap.objs.size=some q:=let ⟨q,_,_,hq,_⟩:=dd';⟨q,hq⟩
 exact Zdi I2 (by rw[e];exact True.intro) hs he (Zkz hz hd (rk.merge .nil) dd')
structure M1 (X:Cx) (o:Expr) (m:Str) (apos:Pos) (e:Expr) (cpos:Pos):Prop where
 base:attributeBase o m X.env (eval o X.env)=eval o X.env
 few:((backTo cpos (starEach [e] X.env)).all (fun x=>!x.1) && (backToKw cpos (keywordEach [] X.env)).all (fun x=>x.1.isSome)
  && decide (([e]:List Expr).length+([]:List Keyword).length+(if ([]:List Keyword).isEmpty then 0 else 1) < 30))=true
 line:(apos.endLine == cpos.line)=true
 trees:backTo cpos (starEach [e] X.env)= [(false,eval e X.env)]
structure M2 (X:Cx) (o:Expr) (m:Str) (apos:Pos) (e f:Expr) (cpos:Pos):Prop where
 base:attributeBase o m X.env (eval o X.env)=eval o X.env
 few:((backTo cpos (starEach [e,f] X.env)).all (fun x=>!x.1) && (backToKw cpos (keywordEach [] X.env)).all (fun x=>x.1.isSome)
  && decide (([e,f]:List Expr).length+([]:List Keyword).length+(if ([]:List Keyword).isEmpty then 0 else 1) < 30))=true
 line:(apos.endLine == cpos.line)=true
 trees:backTo cpos (starEach [e,f] X.env)= [(false,eval e X.env),(false,eval f X.env)]
def IsD(H:Hp)(a:Addr):Prop:=(∃kvs,Rd H a (.dK kvs))\/∃kvs,Rd H a (.dT kvs)
theorem Zk2{X:Cx}{pins:List (Addr×Obj)}{σ:St}{H:Hp}{s:Shared}{a:Addr}(I:Inv X pins σ H s)(d:IsD H a) :
  s.TypeIs (.ref a) "dict" /\ (∀b,Value.ref a = .ref b->∃ob,s.heap.get? b=some ob/\ob.dict=none)/\(a == sysModules)=false:=by
 rcases d with⟨kvs,e⟩ | ⟨kvs,e⟩
 ·obtain⟨_,hd,vs,_,dd⟩:=Zaj I.hok e
  refine⟨dd.typeIs,fun b q=>?_,hd⟩
  cases q
  obtain⟨ob,_,_,h1,h2,_⟩:=dd
  exact⟨ob,h1,h2.2.1⟩
 ·obtain⟨_,hd,xs,_,dd⟩:=Zbb I.hok e
  refine⟨dd.typeIs,fun b q=>?_,hd⟩
  cases q
  obtain⟨ob,_,_,h1,h2,_⟩:=dd
  exact⟨ob,h1,h2.2.1⟩
section
variable{X:Cx}{pins:List (Addr×Obj)}{σ:St}{H:Hp}{s:Shared}{a:Addr}{y d:V}{u r:Value}{o:Option V}{A:Around}{E:Value->Shared->Prop}
theorem Zxc{Q:Value->Shared->Prop}(hu:A.units+1 < cLine)(I:Inv X pins σ H s)(g:DGet H a y o)(ry:RelV y u)(rd:RelV d r)(h:∀w' s',Inv X pins σ H s'->RelV (o.getD d) w'->Q w' s') :
  wpAny (model X.prog X.w) A (call (.builtin "dict.get") [.ref a,u,r]) Q E s:=by
 rcases g with⟨kvs,k,e,ey,l⟩ | ⟨kvs,k,b,e,ey,eb,l⟩
 ·subst ey
  obtain⟨z,hd,vs,rel,dd⟩:=Zaj I.hok e
  refine call_meetsIn PySem.F.slot_dict_get dd.typeIs PySem.F.entry_dict_get (PySem.F.args_dict_get_3 _ _ _) (meets_dict_get_default (Y0 X.prog X.w) a (Zai ry) hd r) ⟨_,dd.mapOf,h _ _ (I.tok _) ?_⟩
  rw[l]
  exact(rel.val k).getD rd
 ·subst ey
  cases (show u=Value.ref b from ry)
  obtain⟨z,hd,xs,rel,dd⟩:=Zbb I.hok e
  refine call_meetsIn PySem.F.slot_dict_get dd.typeIs PySem.F.entry_dict_get (PySem.F.args_dict_get_3 _ _ _) (meetsH_dict_get_default (tupleKind (Y0 X.prog X.w)) a b hd r) ⟨tupleKind_room_in1 hu,k,xs,Zba I.hok eb,dd,h _ _ (I.tok _) ?_⟩
  rw[l]
  exact(rel.val k).getD rd
end
inductive tDGet2_ (ty:TE) (tx:TE) (σ:St) (Q:VK) (x:V) (H1:Hp):Prop
 | mk (a) (h0:x = .ref a) (h1:IsD H1 a) (h2:ty σ H1 fun y H2=>tx σ H2 fun z H3=>∃o,DGet H3 a y o/\Q (o.getD z) H3)
def Zk3(td ty tx:TE):TE:=fun σ H Q=>td σ H fun x H1=>tDGet2_ ty tx σ Q x H1
section
variable{X:Cx}{o e f:Expr}{apos cpos:Pos}{td ty tx:TE}
theorem Zsu(hu:X.A.units+1 < cLine)(ho:PE X o td)(he:PE X e ty)(hf:PE X f tx)(m:M2 X o "get" apos e f cpos):PE X (.Call (.Attribute o "get" apos) [e,f] [] cpos) (Zk3 td ty tx):=by
 intro pins s σ H Q I h
 refine wpAny_Call_method m.base m.few m.line PySem.F.plainAttrs_dict PySem.F.slot_dict_get PySem.F.type_dict_get (thn (ho pins s σ H _ I h) fun u s1 ⟨x,H1,I1,rx,a,ex,d,q1⟩=>?_)
 subst ex
 obtain rfl:u=Value.ref a:=rx
 obtain⟨t1,t2,_⟩:=Zk2 I1 d
 refine⟨t1,t2,?_⟩
 rw[m.trees]
 refine Calls.callWith_builtin rfl (Calls.evalArgs_plain (Calls.spliced_cons (thn (he pins s1 σ H1 _ I1 q1) fun iv s2 ⟨y,H2,I2,ry,q2⟩=>
  Calls.spliced_cons (thn (hf pins s2 σ H2 _ I2 q2) fun fv s3 ⟨z,H3,I3,rz,ov,g,q3⟩=>Calls.spliced_nil ?_))))
 exact Zxc hu I3 g ry rz fun w' s4 I4 rw'=>⟨_,H3,I4,rw',q3⟩
end
section
variable{X:Cx}{pins:List (Addr×Obj)}{σ:St}{H:Hp}{s:Shared}{a:Addr}{kvs:List (Key×V)}{A:Around}{E:Value->Shared->Prop}
end
section
variable{X:Cx}{pins:List (Addr×Obj)}{σ:St}{H:Hp}{s:Shared}{a:Addr}{y:V}{u:Value}{A:Around}{E:Value->Shared->Prop}
end
end L2
namespace Att
open PySem PySem.W PySem.Calls PyProof.Rows
theorem Zof{P:Params}{h:Heap}:∀(ns:List Int)(vs:List Value),WellAll P h vs (ns.map WData.int)->IntsAre vs ns:=by
 intro ns
 induction ns with
 | nil =>
  intro vs w
  rw[List.map_nil] at w
  cases w
  exact .nil
 | cons n ns ih =>
  intro vs w
  rw[xV] at w
  cases w with
  | cons a b =>
   cases a
   exact .cons _ _ (ih _ b)
theorem Zqx{l:OpenLaw}{n:Nat}(hn:l.most=some n){P:Params}{h:Heap}{args:List WData}{vals:List Value}(hpre:l.row.toRowW.claim.pre args=true)(hwl:WellAll P h vals args) :
  ∃a vs ns,vals = [Value.ref a]/\args = [WData.list (ns.map WData.int)]/\h.get? a=some {cls:=.type "list", data:=.seq vs.toArray }/\IntsAre vs ns/\ns.length<=n:=by
 have hsh:WShape.hasAll [] args [.list .int]=true:=(pre_splitW hpre).1
 have hc:l.pre.holds [] {args:=args }=true:=(pre_splitW hpre).2
 obtain⟨d,r,rfl,h1,h2⟩:=hasAllW_cons hsh
 obtain rfl:=hasAllW_nil h2
 obtain⟨xs,rfl,h3⟩:=hasW_list h1
 obtain⟨ns,rfl⟩:=items_int h3
 have hlen:ns.length<=n:=by
  unfold OpenLaw.pre at hc
  have h4:(WTm.not (.lt (.lit (.int (n:Int))) (.len (.arg 0)))).holds [] {args:=[.list (ns.map .int)] }=true:=by
   have h4:=(holds_andW hc).1
   rw[hn] at h4
   exact h4
  have h5:=condW_of h4 (w_not (w_lt w_lit (w_len_list (w_arg rfl))))
  rw[xA] at h5
  refine Nat.le_of_not_lt fun q=>?_
  have q':(n:Int) < ((ns.length:Nat):Int):=by lia
  first
   | (rw[yI q'] at h5;exact absurd h5 (by decide))
   | (simp at h5;lia)
 cases hwl with
 | cons w1 w2 =>
  cases w2
  cases w1 with
  | list ho hall=>exact⟨_,_,ns,rfl,rfl,ho,Zof ns _ hall,hlen⟩
theorem Zqy(l:OpenLaw)(args:List WData):l.row.toRowW.claim.post args (.bool true) args=true :=
 postW_of (r:=l.row.toRowW) (X:=(true == true))
  (show WShape.has [] (.bool true) .bool=true by first | rfl | decide | simp[WShape.has,WShape.arms,WShape.armsAll])
  (show (WTm.eq .res (.lit (.bool true))).value [] {args:=args,res:=some (.bool true),after:=args }=some (.bool (true == true)) from w_eq_bool (w_res rfl) w_lit) rfl
theorem attach_call{l:OpenLaw}{n:Nat}{q:Program}{loose:List Str}{XP:(Str->Option Value)->Heap->Prop}{YP:World->Heap->Prop}{d:DefRec}(hn:l.most=some n)(hdf:d.params.defaults = [])(call:∀ (w:World) (s₀ s₁:Shared) (mg mb:Str->Option Value) (fa:Addr) (o:Obj) (pm cd doc:Value) (a:Addr) (vs:List Value) (ns:List Int),
   Ground q loose [] XP w s₀ mg mb s₁.heap->YP w s₁.heap ->
   s₁.heap.get? fa=some o->o.data = .func (docDef d.name d.params d.body d.scope pm cd doc)->s₁.heap.CodeRec cd d.name->mg d.name=some (.ref fa)->
   s₁.heap.get? a=some {cls:=.type "list", data:=.seq vs.toArray }->IntsAre vs ns->ns.length<=n->s₁.gens = #[]->
   codeAny (model l.prog w) callerA (.call (.ref fa) ⟨[.ref a],[]⟩) (fun r s'=>r = .ok (.ret (.bool true))/\OldK s₁.heap s'.heap/\s'.os=s₁.os/\AllBare s'.gens) s₁) :
  WalkO q loose XP YP l.row.toRowW d [] (fun f vs=>PySem.call f vs):=by
 intro w s₀ s₁ mg mb G Y fa o pm cd doc dV kV ho hd hcd hD hmg hg args vals as hpre hlay hrd hwl hlo
 obtain rfl:dV = .none:=Dflts.none hD hdf
 obtain rfl:kV = .none:=Dflts.noKw hD
 obtain⟨a,vs,ns,rfl,rfl,hobj,hints,hlen⟩:=Zqx hn hpre hwl
 refine enter_call (codeAny_mono (call w s₀ s₁ mg mb fa o pm cd doc a vs ns G Y ho (fd_plain hd) hcd hmg hobj hints hlen hg) fun r s' hq=>?_)
 obtain⟨rfl,h2,h3,h4⟩:=hq
 exact⟨.inl ⟨.bool true,.bool true,[],rfl,fun _=>rfl,.bool true,Zqy l _,fun _=>⟨List.Pairwise.nil,fun _ hm=>(nomatch hm)⟩⟩,h2,h3,h4⟩
section
variable{prog:Program}{w:World}{A:Around}{E:Value->Shared->Prop}{s:Shared}{K:Frag}
end
end Att
namespace L2
open PySem PySem.Spec PyProof.Rows
theorem Zjl:∀{vs:List Value}{ns:List Int},IntsAre vs ns->Vals (ns.map V.int) vs
 | _,_,.nil=>.nil
 | _,_,.cons n t h=>.cons ⟨t,rfl⟩ (Zjl h)
def Zig(H:Hp):Prop:=∀b,H b=none\/∃o xs,H b=some (.frz o (.lst xs))
theorem Zsv{P:Program}{w:World}{K:uFg}{mg mb:Str->Option Value}{CX:CXT}{k:Nat}{fa a:Addr}{fd:FuncData}{x:Str}{sp:Sp}{s₁:Shared}{vs:List Value}{ns:List Int}(KX:K.In s₁.heap)(hns:s₁.heap.Ns mainGlobals mg)(hb:s₁.heap.Ns builtinsNs mb)(hbb:∀x:Str,x ≠ "__name__" -> mb x=bootBuiltins x)(hlim:s₁.heap.NoLimit)(hg:s₁.gens = #[])(ha:s₁.heap.get? a=some {cls:=.type "list", data:=.seq vs.toArray })(hi:IntsAre vs ns)(hl:ns.length<=sizeLine)(hr:Room k callerA)(F:∀base:Heap,K.In base->base.Ns mainGlobals mg->FnOk P w K mg base CX k fa fd [x] sp)(hbind:∀ (s:Shared) (u:Value),BindsTo s fd ⟨[u],[]⟩ [(x,u)])(hsp:∀H:Hp,Zig H->SqL K H a (ns.map V.int)->sp [.ref a] H (fun v _=>v = .bl true) fun _ _ _=>False)(hCX:∀H e s',CX [] H s₁ (fun _ _ _=>False) e s'->False) :
  codeAny (model P w) callerA (.call (.ref fa) ⟨[.ref a],[]⟩) (fun r s'=>r = .ok (.ret (.bool true))/\OldK s₁.heap s'.heap/\s'.os=s₁.os/\AllBare s'.gens) s₁:=by
 have rv:=Zjl hi
 have lenV:=hi.length
 have core:∀H:Hp,Zig H->SqL K H a (ns.map V.int)->HOk P w H s₁.heap->(∀b,H b≠none->b=a)->(H a≠none->K.lookup a=none)->
   codeAny (model P w) callerA (.call (.ref fa) ⟨[.ref a],[]⟩) (fun r s'=>r = .ok (.ret (.bool true))/\OldK s₁.heap s'.heap/\s'.os=s₁.os/\AllBare s'.gens) s₁:=by
  intro H hO hS hok hA hK
  have base_of:∀{b:Addr}{o:Obj},s₁.heap.get? b=some o->H b=none->(Zab s₁.heap H).get? b=some o:=fun e n=>Zr7 e n
  have noA:∀{b:Addr}{o:Obj}{es:Array DictEntry}{ep:Nat},s₁.heap.get? b=some o->o.data = .dict es ep->H b=none:=fun {b o es ep} e d=>by
   cases q:H b with
   | none=>rfl
   | some u =>
    have e':b=a:=hA b (by rw[q];simp)
    subst e'
    rw[ha] at e;cases e
    have d':Data.seq vs.toArray _=Data.dict es ep:=d
    cases d'
  have nsK:∀{b:Addr}{m:Str->Option Value},s₁.heap.Ns b m->(Zab s₁.heap H).Ns b m:=fun {b m} ⟨o,es,ep,e,d,r⟩=>⟨o,es,ep,base_of e (noA e d),d,r⟩
  have hKb:K.In (Zab s₁.heap H):=fun b o e=>base_of (KX b o e) (by
   cases q:H b with
   | none=>rfl
   | some u =>
    have e':b=a:=hA b (by rw[q];simp)
    subst e'
    rw[hK (by rw[q];simp)] at e;cases e)
  have hM:Mod K mg (Zab s₁.heap H):=⟨hKb,nsK hns,⟨mb,nsK hb,hbb⟩,let ⟨mc,h1,h2⟩:=hlim;⟨mc,nsK h1,h2⟩⟩
  have e0:Env0 P w K mg (Zab s₁.heap H) callerA [] s₁ H:=⟨rfl,hM,fun b o e=>Zt5 e,Nat.le_of_eq (Zqk _ _),trivial,fun b hb=>absurd (show b∈([]:List Addr) from hb) (by simp),hok,.of_eq hg⟩
  refine codeAny_mono ((F _ hKb (nsK hns)).run callerA [] s₁ H ⟨[.ref a],[]⟩ [.ref a] [.ref a] _ _ hr e0 (hbind s₁ (.ref a)) (.cons rfl .nil) (hsp H hO hS)) fun r s' h=>?_
  cases r with
  | error e=>exact(hCX H e s' h).elim
  | ok fl =>
   cases fl with
   | next=>exact False.elim h
   | brk=>exact False.elim h
   | cont=>exact False.elim h
   | ret u =>
    obtain⟨v,H',os,bare,un,hok',r',q⟩:=h
    have q':v = .bl true:=q
    subst q'
    obtain rfl:u=Value.bool true:=r'
    refine⟨rfl,OldK.of_keep fun b o e=>?_,os,bare⟩
    cases q:H b with
    | none=>exact un.keep b o e q (by intro z;exact absurd (show b∈([]:List Addr) from z) (by simp)) (by simp)
    | some u =>
     rcases hO b with z | ⟨ob,xs,z⟩
     ·rw[q] at z;cases z
     ·have z2:=un.frzs b ob _ z
      obtain⟨e1,_⟩:=hok b _ z
      obtain⟨e2,_⟩:=hok' b _ z2
      rw[e] at e1;cases e1
      exact e2
 cases hk:K.lookup a with
 | some o =>
  have e:=KX a o hk
  rw[ha] at e
  cases e
  refine core (fun _=>none) (fun _=>.inl rfl) (.inr ⟨_,vs.toArray,_,hk,rfl,rfl,rfl,by rw[xL,lenV];exact hl,by simpa using rv⟩) (fun b u z=>by have z':(none:Option HO)=some u:=z;cases z') (fun b z=>absurd rfl z) fun z=>absurd rfl z
 | none =>
  refine core (fun b=>if b=a then some (.frz {cls:=.type "list", data:=.seq vs.toArray } (.lst (ns.map V.int))) else none) (fun b=>?_) (.inl (.inr ⟨{cls:=.type "list", data:=.seq vs.toArray },if_pos rfl⟩)) (fun b u z=>?_) (fun b z=>?_) fun _=>hk
  ·by_cases hb:b=a
   ·exact .inr ⟨_,_,if_pos hb⟩
   ·exact .inl (if_neg hb)
  ·by_cases hb:b=a
   ·have z':=(if_pos hb).symm.trans z
    cases z'
    subst hb
    exact⟨ha,by rw[xA];exact hl,vs,_,rv,ha⟩
   ·have z':=(if_neg hb).symm.trans z
    cases z'
  ·by_cases hb:b=a
   ·exact hb
   ·exact absurd (if_neg hb) z
end L2
namespace L2
open PySem PySem.Spec PyProof.Rows
theorem walk_of{l:PySem.W.OpenLaw}{n k:Nat}{q:Program}{loose:List Str}{XP:(Str->Option Value)->Heap->Prop}{YP:World->Heap->Prop}{d:DefRec}{K:Params->uFg}{CX:World->CXT}{sp:World->Sp}{x:Str}(hn:l.most=some n)(hn2:n<=sizeLine)(hdf:d.params.defaults = [])(hr:Room k callerA)(hY:∀ (w:World) (h:Heap),YP w h->(K w.params).In h)(F:∀ (w:World) (mg:Str->Option Value) (fa:Addr) (h:Heap),(K w.params).In h->h.Ns mainGlobals mg->mg d.name=some (.ref fa)->
   ∃fd:FuncData,(∀ (s:Shared) (u:Value),BindsTo s fd ⟨[u],[]⟩ [(x,u)])/\
    ∀base:Heap,(K w.params).In base->base.Ns mainGlobals mg->FnOk l.prog w (K w.params) mg base (CX w) k fa fd [x] (sp w))(hsp:∀ (w:World) (H:Hp) (a:Addr) (ns:List Int),ns.length<=n->Zig H->SqL (K w.params) H a (ns.map V.int)->sp w [.ref a] H (fun v _=>v = .bl true) fun _ _ _=>False)(hCX:∀ (w:World) (H:Hp) (s:Shared) (e:Value) (s':Shared),CX w [] H s (fun _ _ _=>False) e s'->False) :
  PySem.W.WalkO q loose XP YP l.row.toRowW d [] (fun f vs=>PySem.call f vs):=by
 refine Att.attach_call hn hdf fun w s₀ s₁ mg mb fa o pm cd doc a vs ns G Y ho hd hcd hmg hobj hints hlen hg=>?_
 have KX:=hY w _ Y
 obtain⟨fd,hb,hF⟩:=F w mg fa _ KX G.T.g hmg
 exact Zsv KX G.T.g G.T.b G.T.builtins G.T.nolimit hg hobj hints (xS hlen hn2) hr hF hb (fun H hO hS=>hsp w H a ns hlen hO hS) fun H e s'=>hCX w H s₁ e s'
end L2
/- THE LAST THEOREM (shape;LID,My.* are yours):
   My.Adr: a structure of the addresses that your layer names (classes,functions);My.Txt K t: a structure (Prop) of the equations over K;
   My.txt_mk:{K} {implicit addresses ..} (e1:nsIn K mainGlobals "law" = some (some (.ref f))) (e2:K.lookup f=some ⟨oc,od,.func (fnOf "law" "law" params body scope dV kV doc pm an cdv ct),sl⟩) (e3:codeIn K cdv "law" = true) .. : ∃t,My.Txt K t
set_option maxRecDepth 100000 in
set_option maxHeartbeats 0 in
theorem PySem.Challenge.cw_LID_holds : PySem.Challenge.rw_LID.Holds := by
 w_on;o_law;k_head;(case hw=>w_witness2)
 k_fill
 refine L2.walk_of (l:=PySem.Challenge.rw_LID) (n:=63) (k:=40) (x:="script") (CX:=fun w=>..) (sp:=fun _=>My.sp_law) rfl (by decide) rfl ⟨rfl,by decide,by decide⟩ (fun w h Y=>PySem.W.kIn_of Y) ?F ?S ?C
 case F =>
  intro w mg fa h KX G hmg
  have T:∃t,My.Txt (L2.KOf KX) t:=by
   dsimp only [L2.KOf]                          -- K must stand as «<heap const> w.params» for k_is
   refine' My.txt_mk ?e1 ?e2 ?e3 ..
   (case e1=>PySem.W.k_is)                    -- in the order: a name->its address->its object->its parts
   (case e2=>PySem.W.k_is)
   ..
  obtain⟨t,T⟩:=T
  have e0:=hmg.symm.trans (PySem.W.mg_of KX G T.law)
  cases e0                                       -- fa is the law's own address
  exact⟨_,fun s u=>.of_eq rfl,fun base kb nb=>My.law_fn T kb nb⟩     -- if «.of_eq rfl» comes too early: refine' ⟨_,?b,fun base kb nb=>My.law_fn T kb nb⟩;exact fun s u=>.of_eq rfl
 case S=>exact fun w H a ns hl hO hS=>..
 case C=>exact ..
(the tactic k_is has no namespace: write k_is) -/
namespace L2
open PySem PySem.Spec PyProof.Rows
def Ye(s:Stmt)(j:Nat):Stmt:=match s with
 | .ClassDef _ _ _ body _ _ _ _ _ _ _=>body.getD j (.Pass ⟨0,0,0,0⟩)
 | _=>.Pass ⟨0,0,0,0⟩
def Wh(s:Stmt):Arguments:=match s with
 | .FunctionDef _ a _ _ _ _ _ _ _ _=>a
 | _=>{posonlyargs:=[],args:=[],vararg:=none,kwonlyargs:=[],kw_defaults:=[],kwarg:=none,defaults:=[] }
def Yi(s:Stmt):List Stmt:=match s with
 | .FunctionDef _ _ b _ _ _ _ _ _ _=>b
 | _=>[]
def Zm(s:Stmt):Scope:=match s with
 | .FunctionDef _ _ _ _ _ _ sc _ _ _=>sc
 | _=>{kind:=.function,names:=[],isGenerator:=false,isCoroutine:=false }
abbrev CX0:CXT:=fun _ _ _ _ _ _=>False
abbrev E0:XK:=fun _ _ _=>False
theorem Zdy{X:Cx}:Za9 CX0 X E0:=fun _ _ _ _ _ _ _ h=>h.elim
structure Fun (K:uFg) (x qual:Str) (st:Stmt) (f:Addr) (fd:FuncData):Prop where
 ex:∃(oc:Value)(od:Option Addr)(kV doc pm:Value)(an:Option Addr)(cdv ct:Value)(osl:Array (Option Value)),
  fd=PySem.W.fnOf x qual (Wh st) (Yi st) (Zm st) .none kV doc pm an cdv ct/\K.lookup f=some ⟨oc,od,.func fd,osl⟩/\PySem.W.codeIn K cdv qual=true
 kp:PySem.W.keepIn K (.ref f)=true
section
variable{P:Program}{w:World}{K:uFg}{mg:Str->Option Value}{base:Heap}
theorem Fun.ok{x qual:Str}{st:Stmt}{f:Addr}{fd:FuncData}{N ps:List Str}{k:Nat}{sp:Sp}(F:Fun K x qual st f fd)(S:FnScope N ps (Zm st))(len:∀vs H Q E,sp vs H Q E->vs.length=ps.length)(hbody:∀ (cdv:Value) (A:Around) (outer:List Env) (s:Shared) (H:Hp) (vs:List V) (Q:VK) (E:XK),Room k (A.deeper (envOfC qual (Zm st) s.heap.objs.size f cdv))->sp vs H Q E ->
   ∃t,PSs (Yu CX0 P w K mg base N qual (Zm st) f cdv A outer s H E).nox (Yi st) t/\t {nx:=fun _ H'=>Q .non H',rt:=Q } (start N vs) H):FnOk P w K mg base CX0 (k+1) f fd ps sp:=by
 obtain⟨oc,od,kV,doc,pm,an,cdv,ct,osl,rfl,lk,hcd⟩:=F.ex
 refine Zls lk hcd S len fun A outer s H vs Q E hr hsp=>?_
 obtain⟨t,h,q⟩:=hbody cdv A outer s H vs Q E hr hsp
 exact⟨t,h.nox,q⟩
theorem Fun.binds{x qual:Str}{st:Stmt}{f:Addr}{fd:FuncData}{ps:List Str}(F:Fun K x qual st f fd)(h:∀ (kV doc pm:Value) (an:Option Addr) (cdv ct:Value) (us:List Value),us.length=ps.length->bindArgs (PySem.W.fnOf x qual (Wh st) (Yi st) (Zm st) .none kV doc pm an cdv ct) ⟨us,[]⟩=pure (ps.zip us)):Binds K fd ps []:=by
 obtain⟨oc,od,kV,doc,pm,an,cdv,ct,osl,rfl,lk,hcd⟩:=F.ex
 exact .all (h kV doc pm an cdv ct)
theorem Zf1{x qual:Str}{st:Stmt}{f:Addr}{oc:Value}{od an:Option Addr}{osl:Array (Option Value)}{kV doc pm cdv ct:Value}(l:K.lookup f=some ⟨oc,od,.func (PySem.W.fnOf x qual (Wh st) (Yi st) (Zm st) .none kV doc pm an cdv ct),osl⟩)(c:PySem.W.codeIn K cdv qual=true)(k:PySem.W.keepIn K (.ref f)=true):Fun K x qual st f (PySem.W.fnOf x qual (Wh st) (Yi st) (Zm st) .none kV doc pm an cdv ct):=⟨⟨oc,od,kV,doc,pm,an,cdv,ct,osl,rfl,l,c⟩,k⟩
end
section
variable{X:Cx}
end
theorem Yj{A B:Prop}(h:B):if false=true then A else B:=by
 rw[if_neg xM]
 exact h
theorem Ym{A B:Prop}(h:A):if true=true then A else B:=by
 rw[if_pos rfl]
 exact h
def Same(H H':Hp):Prop:=∀b o,H b=some o->H' b=some o
theorem Same.refl(H:Hp):Same H H:=fun _ _ h=>h
theorem Same.trans{H H1 H2:Hp}(a:Same H H1)(b:Same H1 H2):Same H H2:=fun c o h=>b c o (a c o h)
theorem Same.free{H H':Hp}(e:Same H H'){l:Addr}(h:H' l=Option.none):H l=Option.none:=by
 cases q:H l with
 | none=>rfl
 | some o =>
  rw[e l o q] at h
  cases h
end L2
namespace L2
open PySem PySem.Spec PyProof.Rows
section
variable{X:Cx}
theorem Zqz:Vj X (.builtin "len") (fun xs H Q=>∃a kvs,xs = [V.ref a]/\H a=some (.dK kvs)/\Q (.int kvs.length) H):=by
 intro pins s σ H xs us Q I r h
 obtain⟨a,kvs,rfl,ha,q⟩:=h
 obtain⟨u,rfl,ru⟩:=Uh r
 cases ru
 exact Zye I (.inl ha) fun t s' I'=>⟨.int kvs.length,H,I',⟨t,rfl⟩,q⟩
end
section
variable{κ:Type} [DecidableEq κ]
theorem Zke:∀{l:List κ}{k : κ},l.Nodup->¬k∈l->(l ++ [k]).Nodup
 | [],k,_,_=>by simp
 | a::r,k,h,hk=>by
  obtain⟨h1,h2⟩:=yF.mp h
  show (a::(r ++ [k])).Nodup
  refine yF.mpr ⟨fun m=>?_,Zke h2 fun m=>hk (xC.mpr (Or.inr m))⟩
  rcases xH.mp m with q | q
  ·exact h1 q
  ·exact hk (xC.mpr (Or.inl (xI.mp q).symm))
end
end L2
end
section
namespace L2
open PySem PySem.Spec PyProof.Rows
section
abbrev ccx(X:Cx)(scope:Scope)(cl:List (Str×Addr))(C:Addr)(N':List Str)(s2:Shared)(H2:Hp)(ex:List Addr)(pn:List (Addr×Obj)):Cx where
 prog:=X.prog
 w:=X.w
 K:=X.K
 mg:=X.mg
 base:=X.base
 A:=X.A
 N:=N'
 s₀:=s2
 H₀:=H2
 env:=compEnvC scope cl C X.env
 outer:=X.stack
 stack:=X.stack
 ex:=ex
 fn:=fun _=>false
 calm:=X.calm
 pn:=pn
 xe:=fun _ _=>False
theorem Zep(env:Env):∀(l:List (Str×NameKind))(cs:List (Str×Addr)),(∀p∈l,p.2 = .free->∃c,env.cells.lookup p.1=some c)->
  ∃cl,(forIn l cs (fun(x:Str×NameKind) (r:List (Str×Addr))=>if (x.2 == NameKind.free)=true then (do let a ← cellOf env x.1;pure (ForInStep.yield ((x.1,a)::r)):Sem (ForInStep (List (Str×Addr)))) else pure (ForInStep.yield r)):Sem _)=pure cl /\
   (∀x c,cl.lookup x=some c->env.cells.lookup x=some c\/cs.lookup x=some c)/\(∀x,((x,NameKind.free)∈l\/∃c,cs.lookup x=some c)->∃c,cl.lookup x=some c)
 | [],cs,_=>⟨cs,rfl,fun x c h=>.inr h,fun x h=>h.elim (fun z=>nomatch z) id⟩
 | (n,k)::r,cs,h=>by
  have hr:∀p∈r,p.2 = .free->∃c,env.cells.lookup p.1=some c:=fun p hp=>h p (xX _ hp)
  by_cases hk:k = .free
  ·subst hk
   obtain⟨c,hc⟩:=h (n,.free) yD rfl
   obtain⟨cl,e,h1,h2⟩:=Zep env r ((n,c)::cs) hr
   refine⟨cl,?_,fun x d hx=>?_,fun x hx=>?_⟩
   ·rw[List.forIn_cons]
    have e2:cellOf env n=pure c:=by unfold cellOf;rw[hc]
    simp only[beq_self_eq_true,if_true,e2,pure_bind]
    exact e
   ·rcases h1 x d hx with z | z
    ·exact .inl z
    ·rw[yK] at z
     cases q:x == n with
     | true =>
      rw[q] at z
      cases z
      have:x=n:=by simpa using q
      subst this
      exact .inl hc
     | false =>
      rw[q] at z
      exact .inr z
   ·apply h2
    rcases hx with hx | ⟨d,hx⟩
    ·rcases xC.mp hx with z | z
     ·cases z
      exact .inr ⟨c,by rw[yK];simp⟩
     ·exact .inl z
    ·right
     rw[yK]
     cases q:x == n with
     | true=>exact⟨c,rfl⟩
     | false=>exact⟨d,hx⟩
  ·obtain⟨cl,e,h1,h2⟩:=Zep env r cs hr
   refine⟨cl,?_,h1,fun x hx=>h2 x ?_⟩
   ·rw[List.forIn_cons]
    have e2:(k == NameKind.free)=false:=by simpa using hk
    simp only[e2,zJ,if_false,pure_bind]
    exact e
   ·rcases hx with hx | hx
    ·rcases xC.mp hx with z | z
     ·cases z
      exact absurd rfl hk
     ·exact .inl z
    ·exact .inr hx
theorem Zpf{scope:Scope}{env:Env}(h:∀p∈scope.names,p.2 = .free->∃c,env.cells.lookup p.1=some c) :
  ∃cl,closureFor scope env=pure cl/\(∀x c,cl.lookup x=some c->env.cells.lookup x=some c)/\(∀x,(x,NameKind.free)∈scope.names->∃c,cl.lookup x=some c):=by
 obtain⟨cl,e,h1,h2⟩:=Zep env scope.names [] h
 refine⟨cl,?_,fun x c hx=>(h1 x c hx).elim id (fun z=>nomatch z),fun x hx=>h2 x (.inl hx)⟩
 unfold closureFor
 have e':=congrArg (fun m:Sem (List (Str×Addr))=>m >>= fun r=>pure r) e
 simp only[pure_bind] at e'
 exact e'
theorem Zit{env:Env}{kk:NameKind}(hkk:kk ≠ .free):∀{names:List (Str×NameKind)}{x:Str},names.lookup x=some kk ->
  (names.map fun(n,k)=>if (k == NameKind.free && env.scope.kind == .function && env.kindOf n == some .cell) then (n,NameKind.cell) else (n,k)).lookup x=some kk
 | [],_,h=>by simp at h
 | (n,k)::r,x,h=>by
  have ih:=@Zit env kk hkk r x
  show List.lookup x ((if (k == NameKind.free && env.scope.kind == .function && env.kindOf n == some .cell)=true then (n,NameKind.cell) else (n,k))::_)=_
  cases hx:x == n with
  | true =>
   simp only[yK,hx] at h
   have h:some k=some kk:=h
   have h':k=kk:=Option.some.inj h
   subst h'
   have e:(k == NameKind.free)=false:=by simpa using hkk
   rw[e,zH,zH,if_neg xM,yK,hx]
  | false =>
   simp only[yK,hx] at h
   by_cases hc:(k == NameKind.free && env.scope.kind == .function && env.kindOf n == some .cell)=true
   ·rw[if_pos hc];simp only[yK,hx];exact ih h
   ·rw[if_neg hc];simp only[yK,hx];exact ih h
theorem Zem{env:Env}:∀{names:List (Str×NameKind)}{x:Str},names.lookup x=some .free ->
  ((names.map fun(n,k)=>if (k == NameKind.free && env.scope.kind == .function && env.kindOf n == some .cell) then (n,NameKind.cell) else (n,k)).lookup x=some .cell)\/
  ((names.map fun(n,k)=>if (k == NameKind.free && env.scope.kind == .function && env.kindOf n == some .cell) then (n,NameKind.cell) else (n,k)).lookup x=some .free)
 | [],_,h=>by simp at h
 | (n,k)::r,x,h=>by
  have ih:=@Zem env r x
  show (List.lookup x ((if (k == NameKind.free && env.scope.kind == .function && env.kindOf n == some .cell)=true then (n,NameKind.cell) else (n,k))::_)=_)\/(List.lookup x ((if (k == NameKind.free && env.scope.kind == .function && env.kindOf n == some .cell)=true then (n,NameKind.cell) else (n,k))::_)=_)
  cases hx:x == n with
  | true =>
   simp only[yK,hx] at h
   cases h
   by_cases hc:(NameKind.free == NameKind.free && env.scope.kind == .function && env.kindOf n == some .cell)=true
   ·rw[if_pos hc];simp[yK,hx]
   ·rw[if_neg hc];simp[yK,hx]
  | false =>
   simp only[yK,hx] at h
   by_cases hc:(k == NameKind.free && env.scope.kind == .function && env.kindOf n == some .cell)=true
   ·rw[if_pos hc];simp only[yK,hx];exact ih h
   ·rw[if_neg hc];simp only[yK,hx];exact ih h
theorem Ziy{env:Env}{scope:Scope}{x:Str}(hcell:∀y∈scope.names,y.2 ≠ .cell)(h:(relabel scope env).names.lookup x=some .cell\/(relabel scope env).names.lookup x=some .free):(x,NameKind.free)∈scope.names:=by
 have m:∃k',(k'=NameKind.cell\/k'=NameKind.free)/\(x,k')∈(relabel scope env).names:=by
  rcases h with h | h
  ·exact⟨_,.inl rfl,PySem.mem_of_lookup h⟩
  ·exact⟨_,.inr rfl,PySem.mem_of_lookup h⟩
 obtain⟨k',hk,m⟩:=m
 obtain⟨⟨n,k⟩,hm,e⟩:=yS.mp m
 have e:(if (k == NameKind.free && env.scope.kind == .function && env.kindOf n == some .cell)=true then (n,NameKind.cell) else (n,k))=(x,k'):=e
 by_cases hc:(k == NameKind.free && env.scope.kind == .function && env.kindOf n == some .cell)=true
 ·rw[if_pos hc] at e
  cases e
  have:k = .free:=by
   cases k<;>simp at hc ⊢
  rw[← this];exact hm
 ·rw[if_neg hc] at e
  cases e
  rcases hk with z | z
  ·exact absurd z (hcell _ hm)
  ·rw[← z];exact hm
section
variable{prog:Program}{w:World}{A:Around}{E:Value->Shared->Prop}{R:Result->Shared->Prop}{s:Shared}
theorem Zoa{elt target iter:Expr}{ifs:List Expr}{scope:Scope}{pos:Pos}{it acc:Value}{env:Env}(I:Nat->Shared->Prop){EX:Value->Shared->Prop}(hEX:∀e s,EX e s->notedBy (model prog w) A env (fun x s'=>R (.error x) s') e s)(turn:∀n s,I n s->wpAny (model prog w) A (pyNext it) (fun r s₁=>match r with
   | none=>R (.ok .next) s₁
   | some v=>wpAny (model prog w) A (letOwnedTupleGo target it v) (fun _ s1=>wpAny (model prog w) A (assign target env v) (fun _ s₂ =>
     wpAny (model prog w) A (forIn ifs true fun c r=>if r=true then do let ok ← isTrue c env (eval c env);pure (ForInStep.yield ok) else pure (ForInStep.yield r)) (fun ok s₃ =>
      if ok=true then wpAny (model prog w) A (eval elt env) (fun x s₄ =>
       wpAny (model prog w) A (call (.builtin "list.append") [acc,x]) (fun _ s₅=>∃m,m < n/\I m s₅) (fun _ _=>False) s₄) EX s₃
      else ∃m,m < n/\I m s₃) (fun _ _=>False) s₂) (fun _ _=>False) s1) (fun _ _=>False) s₁) (fun _ _=>False) s)(n:Nat)(h:I n s) :
  codeAny (model prog w) A (.compLoop (.ListComp elt [⟨target,iter,ifs,0⟩] scope pos) 0 it acc env) R s:=by
 refine codeAny_loop rfl I (fun n s hI=>?_) n h
 show wpAny _ A ((compTurn (.ListComp elt [⟨target,iter,ifs,0⟩] scope pos) 0 it acc env).onRaise (fun x=>do noteFrame x env;theTreesLotGoes x)) _ _ s
 refine wpAny_noted ?_
 rw[compTurn_list]
 refine wpAny_bind (wpAny_standAt (wpAny_bind (wpAny_mono (turn n s hI) (fun r s₁ h₁=>?_) fun _ _ h'=>h'.elim)))
 cases r with
 | none=>exact wpAny_pure h₁
 | some v =>
  refine wpAny_bind (wpAny_mono h₁ (fun _ s1 h1=>?_) fun _ _ h'=>h'.elim)
  refine wpAny_bind (wpAny_mono h1 (fun _ s₂ h₂=>wpAny_bind (wpAny_mono h₂ (fun ok s₃ h₃=>?_) fun _ _ h'=>h'.elim)) fun _ _ h'=>h'.elim)
  cases ok with
  | false=>exact wpAny_pure ⟨rfl,h₃⟩
  | true =>
   exact wpAny_bind (wpAny_bind (wpAny_mono h₃ (fun x s₄ h₄=>wpAny_bind (wpAny_mono h₄ (fun _ s₅ h₅=>wpAny_pure (wpAny_pure ⟨rfl,h₅⟩)) fun _ _ h'=>h'.elim)) fun e s h'=>hEX e s h'))
end
abbrev TTs:=St->Hp->(Bool->Hp->Prop)->Prop
def PTs(X:Cx)(ifs:List Expr)(t:TTs):Prop :=
 ∀(pins:List (Addr×Obj))(s:Shared)(σ:St)(H:Hp)(Q:Bool->Hp->Prop),Inv X pins σ H s->t σ H Q ->
  wpAny (model X.prog X.w) X.A (forIn ifs true fun c r=>if r=true then do let ok ← isTrue c X.env (eval c X.env);pure (ForInStep.yield ok) else pure (ForInStep.yield r)) (TP X pins σ Q) X.xe s
theorem Zu2{X:Cx}:PTs X [] (fun _ H Q=>Q true H):=fun _ _ _ H _ I h=>wpAny_tests_nil ⟨H,I,h⟩
theorem Zu3{X:Cx}{c:Expr}{t:TT}(h:PT X c t):PTs X [c] t:=fun pins s σ H Q I hw=>wpAny_tests_one (h pins s σ H Q I hw)
structure FrOk (X:Cx) (scope:Scope) (fr:List (Str×Nat)):Prop where
 slots:∀p∈fr,X.N[p.2]? = some p.1/\(X.env.kindOf p.1=some .cell\/X.env.kindOf p.1=some .free)
 kind:∀p∈fr,scope.names.lookup p.1=some .free
def inN(locs:List Str)(fr:List (Str×Nat)):List Str:=locs++fr.map (·.1)
def inS(locs:List Str)(fr:List (Str×Nat))(σ:St):St:=List.replicate locs.length none++fr.map fun p=>(σ[p.2]?).join
def inF(fr:List (Str×Nat))(σ:St):St:=fr.map fun p=>(σ[p.2]?).join
def Vn(n:Nat)(fv:St)(g:TG)(tt:TTs)(te:TE)(x:V)(H:Hp)(Y:V->Hp->Prop)(N:Hp->Prop):Prop :=
 ∀ls:St,ls.length=n->g x (ls++fv) H fun σ2 H2=>(∃l2:St,l2.length=n /\ σ2=l2++fv)/\tt σ2 H2 fun b H3=>if b=true then te σ2 H3 Y else N H3
def Ui(J:It)(n:Nat)(fv:St)(g:TG)(tt:TTs)(te:TE)(Q:VK)(H1:Hp):Prop:=∃W:Nat->Nat->List V->Hp->Prop,(∃m,W 0 m [] H1)/\∀i m ys H,W i m ys H ->
 (J.stop i H/\ys.length<=sizeLine/\∀l,H l=none->Q (.ref l) (upd H l (.lst ys)))\/
 (J.go i H/\ys.length < sizeLine/\∃m',m' < m/\∀x H',J.yld i H x H'->Vn n fv g tt te x H' (fun y H4=>W (i+1) m' (ys ++ [y]) H4) fun H3=>W (i+1) m' ys H3)
def Zl0(n:Nat)(fr:List (Str×Nat))(wi:TI)(g:TG)(tt:TTs)(te:TE):TE:=fun σ H Q=>wi σ H fun J H1=>Ui J n (inF fr σ) g tt te Q H1
theorem Zu4{P:Program}{w:World}{H:Hp}{h:Heap}{D:Addr}{o:HO}(ok:HOk P w H h)(hn:H D=none)(new:ObjOk P w (upd H D o) h D o):HOk P w (upd H D o) h:=fun b u e=>by
 by_cases hb:b=D
 ·subst hb;rw[Zg] at e;cases e;exact new
 ·rw[Zc hb] at e
  exact(ok b u e).stay (fun _ _ _ q=>q) (fun c q=>by rw[Zc (Zl q hn)];exact q) fun c xs q=>by rw[Zc (Zl q hn)];exact q
section
variable{X:Cx}{tg elt iter:Expr}{ifs:List Expr}{scope:Scope}{pos:Pos}{locs:List Str}{fr:List (Str×Nat)}{g:TG}{tt:TTs}{te:TE}
theorem Zra{pins:List (Addr×Obj)}{σ:St}{H1:Hp}{s2:Shared}{it:Addr}{fp:List Addr}{tn:Nat->Heap->Prop}{J:It}{cl:List (Str×Addr)}{E:Value->Shared->Prop}{RR:Value->Addr->Result->Shared->Prop}{QQ:List V->Hp->Prop}{EE:Hp->Value->Shared->Prop}(hc:X.calm=true)(hkind:scope.kind = .function)(hcell:∀y∈scope.names,y.2 ≠ .cell)(hlo:∀x∈locs,scope.names.lookup x=some .local)(F:FrOk X scope fr)(hnd:(inN locs fr).Nodup)(cl1:∀x c,cl.lookup x=some c->X.env.cells.lookup x=some c)(cl2:∀x,(x,NameKind.free)∈scope.names->∃c,cl.lookup x=some c)(inner:∀ (C:Addr) (s0:Shared) (H0:Hp) (ex:List Addr) (pn:List (Addr×Obj)),PG (ccx X scope cl C (inN locs fr) s0 H0 ex pn) tg g/\PTs (ccx X scope cl C (inN locs fr) s0 H0 ex pn) ifs tt)(hel:∀ (C:Addr) (pE:List (Addr×Obj)) (s:Shared) (σ':St) (H:Hp) (Y:VK),(∀b∈fp,∃o,(b,o)∈pE)->Inv (ccx X scope cl C (inN locs fr) s2 H1 fp (X.pn++pins)) pE σ' H s->te σ' H Y ->
   wpAny (model X.prog X.w) X.A (eval elt (compEnvC scope cl C X.env)) (EP (ccx X scope cl C (inN locs fr) s2 H1 fp (X.pn++pins)) pE σ' Y) (fun e s'=>∃pE' σ2 H',Inv (ccx X scope cl C (inN locs fr) s2 H1 fp (X.pn++pins)) pE' σ2 H' s'/\EE H' e s') s)(hER:∀ (D C:Addr) (H':Hp) (e:Value) (s':Shared) (m:Str->Option Value),Inv X pins σ H' s'->Vt X pins H' C->s'.heap.Ns C m->EE H' e s'->notedBy (model X.prog X.w) X.A (compEnvC scope cl C X.env) (fun x s''=>RR (.ref D) C (.error x) s'') e s')(I:Inv X pins σ H1 s2)(T:Turn X.prog X.w X.K tg J fp it tn)(st0:tn 0 s2.heap)(hf:∀b∈fp,Vt X pins H1 b){W:Nat->Nat->List V->Hp->Prop}(w0:∃m,W 0 m [] H1)(turn:∀i m ys H,W i m ys H ->
   (J.stop i H/\ys.length<=sizeLine/\QQ ys H)\/
   (J.go i H/\ys.length < sizeLine/\∃m',m' < m/\∀x H',J.yld i H x H'->Vn locs.length (inF fr σ) g tt te x H' (fun y H4=>W (i+1) m' (ys ++ [y]) H4) fun H3=>W (i+1) m' ys H3))(hRR:∀ (D C:Addr) (ys:List V) (H':Hp) (s':Shared) (m:Str->Option Value),H' D=none->D≠C->Inv X pins σ (upd H' D (.lst ys)) s'->Vt X pins (upd H' D (.lst ys)) C->s'.heap.Ns C m->QQ ys H'->RR (.ref D) C (.ok .next) s') :
  wpAny (model X.prog X.w) X.A (newList []) (fun acc s₃=>wpAny (model X.prog X.w) X.A (newFunctionEnv scope X.env.globals cl [] X.env.qual none .none (some X.env)) (fun cenv s₄ =>
   codeAny (model X.prog X.w) X.A (.compStart (.ListComp elt [⟨tg,iter,ifs,0⟩] scope pos) 0 (.ref it) acc {cenv with scope:=relabel scope X.env }) (RR acc cenv.locals) s₄) E s₃) E s2:=by
 refine wpAny_newObj_type (wpAny_newFunctionEnv hcell (by intro y hy;simp at hy) (fun h₁ hns₁ hsb₁=>?_) hkind)
 dsimp only at hns₁ hsb₁ ⊢
 generalize hH2:s2.heap.push {cls:=.type "list", dict:=none,data:=.seq ([]:List Value).toArray }=Hq at hns₁ hsb₁ ⊢
 have hC:Hq.objs.size=s2.heap.objs.size+1:=by rw[← hH2,zS]
 generalize hDe:s2.heap.objs.size=D at hC ⊢
 generalize hCe:Hq.objs.size=C at hC hns₁ hsb₁ ⊢
 have hDC:D≠C:=by lia
 have below:∀b,b < D->b≠C/\b≠D:=fun b hb=>⟨by lia,by lia⟩
 have ltD:∀{b:Addr}{o:Obj},s2.heap.get? b=some o->b < D:=fun e=>hDe▸xN e
 have old:∀b o,s2.heap.get? b=some o->h₁.get? b=some o:=fun b o e=>hsb₁.extBut b o (below b (ltD e)).1 (xF _ (hH2▸xF _ e))
 have hacc:h₁.PlainList D #[]:=⟨_,hsb₁.extBut _ _ hDC (xF _ (by subst hDe;exact hH2▸xW _ rfl))⟩
 let X':Cx:=ccx X scope cl C (inN locs fr) s2 H1 fp (X.pn++pins)
 have ltC:s2.heap.objs.size<=C:=by rw[hDe,hC];exact Nat.le_succ _
 have fpC:Vt X pins H1 C:=I.fpOk ltC (I.hok.fresh ltC)
 have fpD:Vt X pins H1 D:=I.fpOk (Nat.le_of_eq hDe) (I.hok.fresh (Nat.le_of_eq hDe))
 have stkN:∀b,b≠X.env.locals->b∉X.fs->b∉frs X.stack:=fun b h1 h2 z=>(xC.mp (I.stkSub b z)).elim h1 h2
 have ok':X'.Ok:=by
  refine⟨I.ok.mod,hkind,I.ok.glob,I.ok.blt,ltC,fun x y c h1 h2=>I.ok.inj x y c (cl1 x c h1) (cl1 y c h2),fun x hx=>?_,fun x c h=>?_,I.ok.hd,I.ok.frames,.inl rfl,fun b hb=>?_,fun b o e=>I.bs b o e,xS I.ok.bsz I.sz,fun b o e hb=>?_,fun b hb=>?_,I.stack,I.stkFree⟩
  ·obtain⟨c,hcc⟩:=cl2 x (Ziy hcell hx)
   exact⟨c,hcc⟩
  ·cases h
  ·refine⟨fun z=>?_,fun x c e=>(hf b hb).2.2.2.2.1 x c (cl1 x c e)⟩
   obtain⟨o,ho,_⟩:=T.obj _ _ st0 b hb
   have z':b=C:=z
   exact(below b (ltD ho)).1 z'
  ·have hb':=hf b hb
   rcases hb'.2.2.2.1 with z | z
   ·exact I.ok.noex b o e z
   ·exact absurd (xZ (xN e) (xS I.ok.bsz z)) (zN _)
  ·exact stkN b (hf b hb).2.1 (hf b hb).2.2.1
 have I1:Inv X' [] (inS locs fr σ) H1 {s2 with heap:=h₁,toks:=s2.toks+([]:List (Str×Value)).length }:=by
  refine⟨ok',I.os.symm▸rfl,I.bare,Un.kept old,⟨_,hns₁,fun i x v h1 h2 h3=>?_⟩,fun x c e=>?_,I.hok.fresh ltC,fun x c e=>I.freeC x c (cl1 x c e),fun p hp=>?_,I.hok.kept old,?_⟩
  ·-- a slot of the block that has a value is a free name's
   have hge:locs.length<=i:=by
    by_cases hi:i < locs.length
    ·unfold inS at h2
     rw[List.getElem?_append_left (by simpa using hi),List.getElem?_replicate,if_pos hi] at h2
     cases h2
    ·lia
   have h1':(fr.map (·.1))[i - locs.length]? = some x:=by
    have h1:(inN locs fr)[i]? = some x:=h1
    unfold inN at h1
    rw[zO hge] at h1
    exact h1
   have h2':(fr.map fun p=>(σ[p.2]?).join)[i - locs.length]? = some (some v):=by
    unfold inS at h2
    rw[zO (by simpa using hge),List.length_replicate] at h2
    exact h2
   rw[xP] at h1' h2'
   cases e:fr[i - locs.length]? with
   | none=>rw[e] at h1';cases h1'
   | some p =>
    rw[e] at h1' h2'
    have ex:p.1=x:=Option.some.inj h1'
    have ev:(σ[p.2]?).join=some v:=Option.some.inj h2'
    obtain⟨f1,f2⟩:=F.slots p (xO e)
    have ev' : σ[p.2]? = some (some v):=by
     cases q : σ[p.2]? with
     | none=>rw[q] at ev;cases ev
     | some o=>rw[q] at ev;cases o with
      | none=>cases ev
      | some v'=>cases ev;rfl
    obtain⟨m0,hn0,hl0⟩:=I.loc
    have vis0:Vis X.env.scope p.1:=by
     rcases f2 with z | z
     ·exact .inr (.inl z)
     ·exact .inr (.inr z)
    obtain⟨u,ru,lk⟩:=hl0 p.2 p.1 v f1 ev' vis0
    have hxm:x∉locs:=fun z=>by
     have hnd':=hnd
     unfold inN at hnd'
     exact(zR.mp hnd').2.2 x z x (yS.mpr ⟨p,xO e,ex⟩) rfl
    refine⟨u,ru,?_⟩
    rcases lk with⟨hk,_⟩ | ⟨hk,c,hcc,hce⟩
    ·rcases f2 with z | z
     ·rw[z] at hk;cases hk
     ·rw[z] at hk;cases hk
    ·-- in the block it is a cell or free name
     have h3:Vis (relabel scope X.env) x:=h3
     have hk':(compEnvC scope cl C X.env).kindOf x=some .cell\/(compEnvC scope cl C X.env).kindOf x=some .free:=by
      rcases h3 with z | z | z
      ·exfalso
       have q:=Zem (env:=X.env) (F.kind p (xO e))
       rw[ex] at q
       rcases q with q | q
       ·have z':some NameKind.local=some NameKind.cell:=z.symm.trans q
        cases z'
       ·have z':some NameKind.local=some NameKind.free:=z.symm.trans q
        cases z'
      ·exact .inl z
      ·exact .inr z
     obtain⟨c',hc'⟩:=cl2 x (Ziy hcell hk')
     have:=cl1 x c' hc'
     rw[← ex,hcc] at this
     cases this
     refine .inr ⟨hk',c,hc',?_⟩
     obtain⟨o,ho,hd⟩:=hce
     exact⟨o,old _ _ ho,hd⟩
  ·obtain⟨v,o,ho,hd⟩:=I.cell x c (cl1 x c e)
   exact⟨v,o,old _ _ ho,hd⟩
  ·have hp':p∈X.pn++pins:=(xH.mp hp).elim id fun z=>nomatch z
   obtain⟨e,n,ne,nf,d⟩:=I.pin p hp'
   exact⟨old _ _ e,n,(below _ (ltD e)).1,stkN _ ne nf,d⟩
  ·show (inS locs fr σ).length=(inN locs fr).length
   unfold inS inN
   simp
 have fpLt:∀b∈fp,b < D:=fun b hb=>by
  obtain⟨o,ho,_⟩:=T.obj _ _ st0 b hb
  exact ltD ho
 obtain⟨m0,w0⟩:=w0
 let oD:List Value->Nat->Obj:=fun its k=>{cls:=.type "list", data:=.seq its.toArray k }
 have stat:∀{H':Hp}{ob:Obj},(∀b∈fp,H' b=none)->∀b∈fp,Vt X' [(D,ob)] H' b:=fun {H' ob} hn b hb=>by
  obtain⟨f0,f1,f2,f3,f4,f5⟩:=hf b hb
  refine⟨hn b hb,(below b (fpLt b hb)).1,stkN b f1 f2,.inl hb,fun x c e=>f4 x c (cl1 x c e),fun p hp z=>?_⟩
  rcases xH.mp hp with q | q
  ·exact f5 p q z
  ·have e:p=(D,ob):=by simpa using q
   subst e
   exact(below b (fpLt b hb)).2 z.symm
 have loop:∀s₃:Shared,s₃={s2 with heap:=h₁,toks:=s2.toks+([]:List (Str×Value)).length }->
   codeAny (model X.prog X.w) X.A (.compLoop (.ListComp elt [⟨tg,iter,ifs,0⟩] scope pos) 0 (.ref it) (.ref D) (compEnvC scope cl C X.env)) (RR (.ref D) C) s₃:=by
  rintro s₃ rfl
  refine Zoa (fun n s'=>∃(i:Nat)(ls:St)(H':Hp)(ys:List V)(its:List Value)(k:Nat),ls.length=locs.length/\Inv X' [(D,oD its k)] (ls++inF fr σ) H' s'/\tn i s'.heap/\(∀b∈fp,H' b=none)/\Vals ys its/\W i n ys H') (EX:=fun e s'=>∃pE' σ2 H',Inv X' pE' σ2 H' s'/\EE H' e s') ?_ ?_ m0 ?_
  ·rintro e s4 ⟨pE',σ2,H3,I4,q⟩
   obtain⟨mC,hnC,_⟩:=I4.loc
   have hnC:s4.heap.Ns C mC:=hnC
   have nC:H3 C=none:=I4.free
   have I5:Inv X pins σ H3 s4:=I.call' (ch:=fp) (show s4.os=s2.os from I4.os) I4.base I4.hok I4.bare fun b hb=>by
    obtain⟨f0,f1,f2,f3,f4,f5⟩:=hf b hb
    exact⟨f3,f1,f4,f5⟩
   exact hER D C H3 e s4 mC I5 (I.fpOk ltC nC) hnC q
  ·rintro n s3 ⟨i,ls,H3,ys,its,k,hls,I3,st3,fr3,rv,w3⟩
   rcases turn i n ys H3 w3 with⟨stop,hz,q⟩ | ⟨go,hz,m',hm,step⟩
   ·refine thn (T.done X' rfl rfl rfl hc i _ s3 _ H3 (fun _ _=>False) I3 (stat fr3) st3 stop) fun r s4 ⟨hr,I4⟩=>?_
    subst hr
    obtain⟨pD,nD,_,_,_⟩:=I4.pin (D,oD its k) (xK _ yD)
    have nD:H3 D=none:=nD
    obtain⟨mC,hnC,_⟩:=I4.loc
    have hnC:s4.heap.Ns C mC:=hnC
    have nC:H3 C=none:=I4.free
    have new:ObjOk X.prog X.w (upd H3 D (.lst ys)) s4.heap D (.lst ys):=⟨hz,its,k,rv,pD⟩
    have hok4:HOk X.prog X.w (upd H3 D (.lst ys)) s4.heap:=Zu4 I4.hok nD new
    have u4:Un (frs X.stack) fp H1 H3 s2.heap s4.heap:=I4.base
    have u5:Un (frs X.stack) fp H1 (upd H3 D (.lst ys)) s2.heap s4.heap:=by
     refine⟨u4.keep,u4.slot,fun b o e n hx=>?_,u4.there,fun b xs e=>?_,fun b o u e=>?_,fun b ps e=>?_⟩
     ·rw[Zc (below b (ltD e)).2];exact u4.free b o e n hx
     ·rw[Zc (Zl e fpD.1)];exact u4.tups b xs e
     ·rw[Zc (Zl e fpD.1)];exact u4.frzs b o u e
     ·rw[Zc (Zl e fpD.1)];exact u4.tbls b ps e
    have I5:Inv X pins σ (upd H3 D (.lst ys)) s4:=by
     refine I.call' (ch:=fp) ?_ u5 hok4 I4.bare fun b hb=>?_
     ·have:s4.os=s2.os:=I4.os
      exact this
     ·obtain⟨f0,f1,f2,f3,f4,f5⟩:=hf b hb
      exact⟨f3,f1,f4,f5⟩
    have fpC':Vt X pins (upd H3 D (.lst ys)) C:=I.fpOk ltC (by rw[Zc hDC.symm];exact nC)
    exact hRR D C ys H3 s4 mC nD hDC I5 fpC' hnC q
   ·refine thn (T.item X' rfl rfl rfl hc i _ s3 _ H3 (fun _ _=>False) I3 (stat fr3) st3 go) fun r s4 ⟨u,hr,h4⟩=>?_
    subst hr
    refine thn h4 fun _ s5 ⟨x,H5,I5,r5,y5,st5,fr5⟩=>?_
    obtain⟨hg,htt⟩:=inner C s2 H1 fp (X.pn++pins)
    have I5':=I5.pinned (stat fr5) (T.obj _ _ st5)
    refine thn (hg _ s5 _ H5 x u _ I5' r5 (step x H5 y5 ls hls)) fun _ s6 ⟨σ6,H6,I6,⟨l6,hl6,e6⟩,q6⟩=>?_
    subst e6
    refine thn (htt _ s6 _ H6 _ I6 q6) fun ok s7 ⟨H7,I7,q7⟩=>?_
    have again:∀{H8:Hp}{s8:Shared},Inv X' ([(D,oD its k)]++Za5 fp s5.heap) (l6++inF fr σ) H8 s8->tn (i+1) s8.heap/\∀b∈fp,H8 b=none:=fun {H8 s8} I8=>by
     refine⟨T.keep _ _ _ st5 fun b hb o e=>(I8.pin (b,o) (xK _ (xK _ (Zcg hb e)))).1,fun b hb=>?_⟩
     obtain⟨o,e,d⟩:=T.obj _ _ st5 b hb
     exact(I8.pin (b,o) (xK _ (xK _ (Zcg hb e)))).2.1
    cases ok with
    | false =>
     rw[if_neg xM] at q7 ⊢
     obtain⟨a1,a2⟩:=again I7
     exact⟨m',hm,i+1,l6,H7,ys,its,k,hl6,I7.unpinned,a1,a2,rv,q7⟩
    | true =>
     rw[if_pos rfl] at q7 ⊢
     refine thn (hel C _ s7 _ H7 _ (fun b hb=>let ⟨o,ho,_⟩:=T.obj _ _ st5 b hb;⟨o,xK _ (Zcg hb ho)⟩) I7 q7) fun yv s8 ⟨y,H8,I8,r8,q8⟩=>?_
     obtain⟨a1,a2⟩:=again I8
     obtain⟨pD,nD,_,nfD,_⟩:=I8.pin (D,oD its k) (xK _ (yM _ yD))
     have nD:H8 D=none:=nD
     have hl8:s8.heap.PlainList D its.toArray:=⟨k,pD⟩
     have hlen:its.toArray.size<=sizeLine:=by
      rw[xL,← rv.length];lia
     refine wpAny_list_append_plain (hsz:=hlen) hl8 fun h9 hl9 hs9=>?_
     obtain⟨k9,e9⟩:=hl9
     have I9:Inv X' (Za5 fp s5.heap) (l6++inF fr σ) H8 s8:=I8.pins_of fun p hp=>I8.pin p (xK _ (xK _ hp))
     have I10:Inv X' (Za5 fp s5.heap) (l6++inF fr σ) H8 {s8 with heap:=h9 }:=by
      refine I9.turned (it:=D) (t':=s8.toks) (fun b o hb e=>(hs9.2 b hb).trans e) nD ?_ ?_ ?_ ?_
      ·exact hDC
      ·exact .inr (Nat.le_of_eq hDe)
      ·exact fun x c e=>fpD.2.2.2.2.1 x c (cl1 x c e)
      ·intro p hp z
       rcases xH.mp hp with q | q
       ·exact fpD.2.2.2.2.2 p q z
       ·have:=fpLt p.1 (Zjb q).1
        exact(below p.1 this).2 z
     have e9':h9.get? D=some (oD (its ++ [yv]) k9):=by
      rw[e9];simp[oD]
     have I11:Inv X' [(D,oD (its ++ [yv]) k9)] (l6++inF fr σ) H8 {s8 with heap:=h9 }:=I10.pins_of fun p hp=>by
      have e:p=(D,oD (its ++ [yv]) k9):=by simpa using hp
      subst e
      exact⟨e9',nD,hDC,nfD,fun v z=>by cases z⟩
     refine⟨m',hm,i+1,l6,H8,ys ++ [y],its ++ [yv],k9,hl6,I11,?_,a2,Vals.append rv (.cons r8 .nil),q8⟩
     exact T.keep _ _ _ a1 fun b hb o e=>(hs9.2 b (below b (fpLt b hb)).2).trans e
  ·have e0:List.replicate locs.length none++inF fr σ=inS locs fr σ:=rfl
   obtain⟨k0,eD⟩:=hacc
   refine⟨0,List.replicate locs.length none,H1,[],[],k0,by simp,?_,T.keep _ _ _ st0 fun b _ o e=>old b o e,fun b hb=>(hf b hb).1,.nil,w0⟩
   rw[e0]
   refine I1.pins_of fun p hp=>?_
   have e:p=(D,oD [] k0):=by simpa using hp
   subst e
   exact⟨eD,fpD.1,hDC,stkN D fpD.2.1 fpD.2.2.1,fun v z=>by cases z⟩
 exact codeAny_compStart_list (loop _ rfl) (T.self _ 0 _ _ _ (T.keep _ _ _ st0 fun b _ o e=>old b o e) (loop _ rfl))
structure CompOk (X:Cx) (scope:Scope) (locs:List Str) (fr:List (Str×Nat)):Prop where
 kind:scope.kind = .function
 nocell:∀y∈scope.names,y.2 ≠ .cell
 names:∀y∈scope.names,y.2 = .local->scope.names.lookup y.1=some .local
 own:∀x∈locs,scope.names.lookup x=some .local
 free:∀y∈scope.names,y.2 = .free->y.1∈fr.map (·.1)
 nd:(inN locs fr).Nodup
theorem FrOk.nil:FrOk X scope []:=⟨(fun _ h=>nomatch h),(fun _ h=>nomatch h)⟩
theorem FrOk.cons{x:Str}{j:Nat}{fr:List (Str×Nat)}(h1:X.N[j]? = some x)(h2:X.env.kindOf x=some .cell\/X.env.kindOf x=some .free)(h3:scope.names.lookup x=some .free)(t:FrOk X scope fr):FrOk X scope ((x,j)::fr) :=
 ⟨fun p hp=>(xC.mp hp).elim (fun e=>by subst e;exact⟨h1,h2⟩) (t.slots p),fun p hp=>(xC.mp hp).elim (fun e=>by subst e;exact h3) (t.kind p)⟩
theorem CompOk.clos{pins:List (Addr×Obj)}{σ:St}{H:Hp}{s:Shared}(S:CompOk X scope locs fr)(F:FrOk X scope fr)(I:Inv X pins σ H s) :
  ∃cl,closureFor scope X.env=pure cl/\(∀x c,cl.lookup x=some c->X.env.cells.lookup x=some c)/\(∀x,(x,NameKind.free)∈scope.names->∃c,cl.lookup x=some c):=by
 refine Zpf fun p hp hk=>?_
 obtain⟨q,hq,e⟩:=yS.mp (S.free p hp hk)
 obtain⟨c,hc⟩:=I.ok.has q.1 (F.slots q hq).2
 exact⟨c,e▸hc⟩
theorem Zsw{wi:TI}(S:CompOk X scope locs fr)(F:FrOk X scope fr)(hc:X.calm=true)(hi:PI X tg iter wi)(inner:∀ (cl:List (Str×Addr)) (C:Addr) (s0:Shared) (H0:Hp) (ex:List Addr) (pn:List (Addr×Obj)),PG (ccx X scope cl C (inN locs fr) s0 H0 ex pn) tg g/\PTs (ccx X scope cl C (inN locs fr) s0 H0 ex pn) ifs tt/\PE (ccx X scope cl C (inN locs fr) s0 H0 ex pn) elt te)(hs:∀x,foldedSetIterable iter X.env x=pure x:=by intro _;rfl):PE X (.ListComp elt [⟨tg,iter,ifs,0⟩] scope pos) (Zl0 locs.length fr wi g tt te):=by
 intro pins s σ H Q I h
 obtain⟨cl,hcl,cl1,cl2⟩:=S.clos F I
 rw[eval_ListComp]
 refine wpAny_comprehension_free (use:=none) rfl hs hcl S.kind S.names (thn (hi pins s σ H _ I h) fun v s1 h1=>thn h1 fun itv s2 h2=>?_)
 obtain⟨it,fp,tn,J,H1,e,I2,T,st2,f2,W,w0,turn⟩:=h2
 subst e
 refine Zra (QQ:=fun ys H'=>∀l,H' l=none->Q (.ref l) (upd H' l (.lst ys))) (EE:=fun _ _ _=>False) hc S.kind S.nocell S.own F S.nd cl1 cl2 (fun C s0 H0 ex pn=>let ⟨a,b,_⟩:=inner cl C s0 H0 ex pn;⟨a,b⟩) (fun C pE s σ' H Y _ I h=>wpAny_mono ((inner cl C s2 H1 fp (X.pn++pins)).2.2 pE s σ' H Y I h) (fun _ _ q=>q) fun _ _ z=>z.elim) (fun _ _ _ _ _ _ _ _ _ z=>z.elim) I2 T st2 f2 w0 turn fun D C ys H' s' m nD hDC I' fC hn q=>?_
 refine⟨m,hn,fun h' hs'=>?_⟩
 obtain⟨f0,f1,f2,f3,f4,f5⟩:=fC
 exact⟨.ref D,_,I'.turned (it:=C) (t':=s'.toks) (fun b o hb e=>(hs'.2 b hb).trans e) f0 f1 f3 f4 f5,rfl,q D nD⟩
end
section
variable{X:Cx}{scope:Scope}{cl:List (Str×Addr)}{C:Addr}{N':List Str}{s0:Shared}{H0:Hp}{ex:List Addr}{pn:List (Addr×Obj)}
theorem pvL(i:Nat){x:Str}{pos:Pos}(hN:N'[i]? = some x:=by rfl)(h:scope.names.lookup x=some .local:=by rfl)(hd:(x == ("__debug__" : Str))=false:=by decide)(hcd:(x == ("__classdict__" : Str))=false:=by decide) :
  PE (ccx X scope cl C N' s0 H0 ex pn) (.Name x pos) (tVar i):=Zds hN (.inl (lookup_relabel_local h)) hd hcd
theorem pvF(i:Nat){x:Str}{pos:Pos}(hN:N'[i]? = some x:=by rfl)(h:scope.names.lookup x=some .free:=by rfl)(hd:(x == ("__debug__" : Str))=false:=by decide)(hcd:(x == ("__classdict__" : Str))=false:=by decide) :
  PE (ccx X scope cl C N' s0 H0 ex pn) (.Name x pos) (tVar i):=Zds hN ((Zem h).elim (fun z=>.inr (.inl z)) fun z=>.inr (.inr z)) hd hcd
theorem pgL(i:Nat){x:Str}{pos:Pos}(hnd:N'.Nodup)(hN:N'[i]? = some x:=by rfl)(h:scope.names.lookup x=some .local:=by rfl):PG (ccx X scope cl C N' s0 H0 ex pn) (.Name x pos) (Wp i) :=
 Zfk (X:=ccx X scope cl C N' s0 H0 ex pn) hnd hN (.inl (lookup_relabel_local h)) (.inr (lookup_relabel_local h))
end
end
section
def sgn(x:Str)(i:Nat):V:=.str ⟨#[x.cps.getD i 0]⟩
def Its(x:Str):It:=⟨fun i _=>i < x.length,fun i H v H'=>H'=H/\v=sgn x i,fun i _=>i=x.length⟩
theorem Zix{P:Program}{w:World}{A:Around}(hh:A.handled=none)(I:Addr)(x:Str)(t:Tok) :
  Walks P w A I [I] [I] x.cps.size (SignAt x) (fun i h=>h.IsStrIter I (strIterType x) x t i):=by
 unfold strIterType
 cases ha:x.cps.all (· < 128)
 ·exact Walks.strWide hh I x t
 ·exact Walks.strAscii hh I x t
theorem Zsx{P:Program}{w:World}{K:uFg}{tg:Expr}(it:Addr)(x:Str)(t:Tok):Turn P w K tg (Its x) [it] it (fun i h=>h.IsStrIter it (strIterType x) x t i) where
 mem:=by simp
 obj:=fun i h st b hb=>by
  have e:b=it:=by simpa using hb
  subst e
  obtain⟨o,e,c,d⟩:=st
  exact⟨o,e,fun v z=>by rw[d] at z;cases z⟩
 keep:=fun i h h' st k=>let ⟨o,ho,r⟩:=st;⟨o,k it (by simp) o ho,r⟩
 item:=by
  intro X hP hw hK hc i pins s σ H E I hf st hg
  subst hP hw hK
  obtain⟨f0,f1,f2,f3,f4,f5⟩:=hf it (by simp)
  refine(Zix (I.ok.hd hc) it x t).item i s _ _ hg st fun v h' tk hv st' kk=>?_
  obtain⟨c,u,hcx,rfl⟩:=hv
  have I1:Inv X pins σ H {s with heap:=h',toks:=tk }:=I.turned (fun b o hb e=>kk b o (by simpa using hb) e) f0 f1 f3 f4 f5
  obtain⟨o,e,cc,d⟩:=id st'
  have hn : ["enumerate", "zip", "dict_itemiterator", "dict_reverseitemiterator", "odict_iterator", "itertools.zip_longest", "itertools.pairwise"].contains (strIterType x)=false:=by
   unfold strIterType
   split<;>decide
  refine⟨_,rfl,Zcu (s:={s with heap:=h',toks:=tk }) e cc d hn ⟨sgn x i,H,I1,⟨u,?_⟩,⟨rfl,rfl⟩,st',fun b hb=>(hf b hb).1⟩⟩
  rw[Array.getD_eq_getD_getElem?,hcx]
  all_goals rfl
 done:=by
  intro X hP hw hK hc i pins s σ H E I hf st hg
  subst hP hw hK
  obtain⟨f0,f1,f2,f3,f4,f5⟩:=hf it (by simp)
  have e:i=x.cps.size:=hg
  subst e
  exact(Zix (I.ok.hd hc) it x t).done s _ _ st fun h' tk kk=>⟨rfl,I.turned (fun b o hb e=>kk b o (by simpa using hb) e) f0 f1 f3 f4 f5⟩
 self:=fun A i s Q E st h=>by
  have st:s.heap.IsStrIter it (strIterType x) x t i:=st
  unfold strIterType at st
  split at st
  ·exact wpAny_pyIter_striter_ascii st h
  ·exact wpAny_pyIter_striter_wide st h
inductive iStr_ (R:It->Hp->Prop) (v:V) (H1:Hp):Prop
 | mk (x) (h0:v = .str x) (h1:R (Its x) H1)
def Zn1(te:TE):TI:=fun σ H R=>te σ H fun v H1=>iStr_ R v H1
theorem Zxd{X:Cx}{tg l:Expr}{tl:TE}(hl:PE X l tl):PI X tg l (Zn1 tl):=by
 intro pins s σ H R I h
 refine thn (hl pins s σ H _ I h) fun v s1 ⟨y,H1,I1,r1,q1⟩=>?_
 obtain⟨x,e,q⟩:=q1
 subst e
 obtain⟨t,rfl⟩:=r1
 refine wpAny_pyIter_strU ?_
 refine⟨s1.heap.objs.size,[s1.heap.objs.size],_,_,H1,rfl,I1.kept (t':=s1.toks) fun b o e=>xF _ e,Zsx _ x t,⟨_,xW _ rfl,rfl,rfl⟩,fun b hb=>?_,q⟩
 have e:b=s1.heap.objs.size:=by simpa using hb
 subst e
 exact I1.fpOk (xE _) (I1.hok.fresh (xE _))
section
variable{X:Cx}
theorem Zrb:OpR X (compareOp .LtE) (fun x y H Q=>∃i j,x = .str i/\y = .str j/\Q (.bl (!decide (j.cps.toList < i.cps.toList))) H):=by
 intro pins s σ H x y v u Q I rx ry h
 obtain⟨i,j,rfl,rfl,q⟩:=h
 obtain⟨t,rfl⟩:=rx
 obtain⟨t',rfl⟩:=ry
 exact P.le_str ⟨.bl _,H,I,rfl,q⟩
end
theorem Zi1{v:Value}{o:Option Int}(h:IsPart v o):∃l:Option (Int×Tok),v=partValue l/\l.map (·.1)=o:=by
 cases h with
 | none=>exact⟨none,rfl,rfl⟩
 | int i t=>exact⟨some (i,t),rfl,rfl⟩
section
variable{X:Cx}
theorem Zxe:SlR X (fun x lo hi H Q=>∃z,x = .str z/\z.length<=sizeLine/\Q (.str (Txt.slice z lo hi)) H):=by
 intro pins s σ H x v vl vu lo hi sl Q I rx hs pl pu h
 obtain⟨z,rfl,hz,q⟩:=h
 obtain⟨t,rfl⟩:=rx
 obtain⟨l,rfl,rfl⟩:=Zi1 pl
 obtain⟨u,rfl,rfl⟩:=Zi1 pu
 refine⟨"str", _,F.slot_str_getitem.lookup,typeIs_str _ _ _,?_⟩
 refine wpAny_getItem_str_slice (l:=l) (u:=u) (st:=none) hs rfl (post_val_or_str ⟨xS (Txt.slice_le z _ _) hz,fun t' k=>?_⟩)
 exact⟨.str _,H,I.tok _,⟨t',rfl⟩,q⟩
end
theorem Zpg{ys:List Str}:∀{us:List Value},Vals (ys.map V.str) us->StrsAre us ys:=by
 induction ys with
 | nil=>intro us r;rw[List.map_nil] at r;cases r;exact .nil
 | cons n ns ih =>
  intro us r
  rw[xV] at r
  cases r with
  | cons r1 r2 =>
   obtain⟨t,e⟩:=r1
   subst e
   exact .cons n t (ih r2)
section
variable{X:Cx}
theorem Zu5:MtR X "str.join" (fun x xs H Q=>∃sep a ys,x = .str sep/\xs = [.ref a]/\SqL X.K H a (ys.map V.str)/\(ys.map (·.length)).sum+ys.length * sep.length<=16777216/\Q (.str (Txt.join sep ys)) H):=by
 intro pins s σ H x xs v us Q I rx rs h
 obtain⟨sep,a,ys,rfl,rfl,ha,hz,q⟩:=h
 obtain⟨t,rfl⟩:=rx
 obtain⟨u,rfl,ru⟩:=Uh rs
 cases ru
 obtain⟨its,r,p,_⟩:=I.list ha
 exact join_list p.isList (Zpg r) hz fun t' k=>⟨.str _,H,I.tok _,⟨t',rfl⟩,q⟩
theorem Zsy(hc:X.calm=true):Vj X (.builtin "all") (fun xs H Q=>∃(a:Addr)(bs:List Bool),xs = [.ref a]/\SqL X.K H a (bs.map V.bl)/\Q (.bl (bs.all id)) H):=by
 intro pins s σ H xs us Q I r h
 obtain⟨a,bs,rfl,ha,q⟩:=h
 obtain⟨u,rfl,ru⟩:=Uh r
 cases ru
 obtain⟨its,rv,p,_⟩:=I.list ha
 have hlt:a < s.heap.objs.size:=by obtain⟨o,n,e,_⟩:=p;exact xN e
 refine call_all_walk (wpAny_pyIter_list p.isList ?_)
 refine⟨s.heap.objs.size,_,_,_,_,_,fun i=>bs.getD i true,rfl,Walks.list (A:=X.A.in1) (I.ok.hd hc) _ a (yC hlt) its.toArray,⟨⟨_,xW _ rfl,rfl,rfl⟩,p.isList.push _⟩,?_,fun h' tk hk=>?_⟩
 ·intro i v s' Q' E' hv hq
  have hv:its.toArray[i]? = some v:=hv
  have hv':its[i]? = some v:=by simpa using hv
  have hlen:bs.length=its.length:=by have:=rv.length;simpa using this
  have hi:i < its.length:=(xG.mp hv').1
  have hb:(bs.map V.bl)[i]? = some (V.bl (bs.getD i true)):=by
   rw[xP,xR,xB (by lia)]
   rfl
  obtain⟨u,hu,ru⟩:=rv.get hb
  rw[hv'] at hu
  cases hu
  cases ru
  exact wpAny_truthy_bool hq
 ·have hlen:its.toArray.size=bs.length:=by have:=rv.length;simp at this ⊢;lia
  have e:(List.range its.toArray.size).all (fun i=>bs.getD i true)=bs.all id:=by
   rw[hlen,zB,zE,zE]
   constructor
   ·intro h b hb
    obtain⟨i,hi,e⟩:=List.mem_iff_getElem.mp hb
    have:=h i (wA.mpr hi)
    rw[xR,xB hi,e] at this
    exact this
   ·intro h i hi
    have hi:=wA.mp hi
    rw[xR,xB hi]
    exact h _ (zT hi)
  refine⟨.bl (bs.all id),H,I.kept (h':=h') (t':=tk) (fun b o eb=>hk b o ?_ (xF _ eb)),by rw[e];rfl,q⟩
  intro z
  have:b=s.heap.objs.size:=by simpa using z
  exact absurd (xN eb) (by rw[this];exact zN _)
theorem Zsz(hc:X.calm=true):Vj X (.builtin "sum") (fun xs H Q=>∃(a:Addr)(ns:List Int),xs = [.ref a]/\SqL X.K H a (ns.map V.int)/\(∀n∈ns,-1000000000<=n/\n<=1000000000)/\ns.length<=1000000/\Q (.int ns.sum) H):=by
 intro pins s σ H xs us Q I r h
 obtain⟨a,ns,rfl,ha,hb,hl,q⟩:=h
 obtain⟨u,rfl,ru⟩:=Uh r
 cases ru
 obtain⟨its,rv,p,_⟩:=I.list ha
 have hlt:a < s.heap.objs.size:=by obtain⟨o,n,e,_⟩:=p;exact xN e
 have hlen:ns.length=its.length:=by have:=rv.length;simpa using this
 have hpre:∀k,k<=ns.length->preSum (fun i=>ns.getD i 0) k=(ns.take k).sum:=by
  intro k
  induction k with
  | zero=>intro _;simp[preSum]
  | succ k ih =>
   intro hk
   have hk':k < ns.length:=hk
   rw[preSum,ih (zI hk'),yP,List.sum_append,xR,xB hk']
   simp
 have bnd:∀l:List Int,(∀n∈l,-1000000000<=n/\n<=1000000000)->-1000000000 * (l.length:Int)<=l.sum/\l.sum<=1000000000 * (l.length:Int):=by
  intro l
  induction l with
  | nil=>intro _;simp
  | cons x l ih =>
   intro h
   have h1:=h x yD
   have h2:=ih fun n hn=>h n (xX _ hn)
   rw[List.sum_cons,xU]
   lia
 refine call_sum_walk (wpAny_pyIter_list p.isList ?_)
 refine⟨s.heap.objs.size,_,_,_,_,_,fun i=>ns.getD i 0,rfl,Walks.list (A:=X.A.in1) (I.ok.hd hc) _ a (yC hlt) its.toArray,⟨⟨_,xW _ rfl,rfl,rfl⟩,p.isList.push _⟩,?_,?_,?_,fun h' tk t' hk=>?_⟩
 ·intro b hb
  show b < (s.heap.push _).objs.size
  rw[zS]
  rcases xC.mp hb with rfl | hb
  ·exact Nat.lt_succ_self _
  ·have:b=a:=by simpa using hb
   subst this
   exact Nat.lt_succ_of_lt hlt
 ·intro i v hv
  have hv:its.toArray[i]? = some v:=hv
  have hv':its[i]? = some v:=by simpa using hv
  have hi:i < its.length:=(xG.mp hv').1
  have hb:(ns.map V.int)[i]? = some (V.int (ns.getD i 0)):=by
   rw[xP,xR,xB (by lia)]
   rfl
  obtain⟨u,hu,ru⟩:=rv.get hb
  rw[hv'] at hu
  cases hu
  exact ru
 ·intro j hj
  have hj:j < its.toArray.size:=hj
  rw[xL] at hj
  have hj':j < ns.length:=by lia
  refine⟨?_,?_⟩
  ·show InLong (ns.getD j 0)
   rw[xR,xB hj']
   have:=hb _ (zT hj')
   show -(2 ^ 63)<=ns[j]/\ns[j] < 2 ^ 63
   lia
  ·rw[hpre (j+1) hj']
   have:=bnd (ns.take (j+1)) fun n hn=>hb n (zF hn)
   have hl2:(ns.take (j+1)).length<=1000000:=by rw[xY];lia
   show -(2 ^ 63)<=_/\_ < 2 ^ 63
   lia
 ·have e:preSum (fun i=>ns.getD i 0) its.toArray.size=ns.sum:=by
   rw[xL,← hlen,hpre _ (xE _),yZ]
  refine⟨.int ns.sum,H,I.kept (h':=h') (t':=tk) (fun b o eb=>hk b o ?_ (xF _ eb)),⟨t',by rw[e]⟩,q⟩
  intro z
  have:b=s.heap.objs.size:=by simpa using z
  exact absurd (xN eb) (by rw[this];exact zN _)
def Zyf(X:Cx)(f:Value)(kw:Str)(r:List V->V->Hp->VK->Prop):Prop :=
 ∀(pins:List (Addr×Obj))(s:Shared)(σ:St)(H:Hp)(xs:List V)(us:List Value)(k:V)(ku:Value)(Q:VK),Inv X pins σ H s->Vals xs us->RelV k ku->r xs k H Q ->
  wpAny (model X.prog X.w) X.A (call f us [(kw,ku)]) (EP X pins σ Q) X.xe s
end
section
variable{K:uFg}
end
end
end L2
end
section
namespace L2
open PySem PySem.Spec PyProof.Rows
def Has(K:uFg)(mg:Str->Option Value)(x:Str)(st:Stmt):Prop:=∃f fd,Fun K x x st f fd/\mg x=some (.ref f)
def Fn(P:Program)(w:World)(K:uFg)(mg:Str->Option Value)(base:Heap)(x:Str)(ps:List Str)(k:Nat)(sp:Sp):Prop :=
 ∃f fd,mg x=some (.ref f)/\PySem.W.keepIn K (.ref f)=true/\Binds K fd ps []/\FnOk P w K mg base CX0 k f fd ps sp
section
variable{P:Program}{w:World}{K:uFg}{mg:Str->Option Value}{base:Heap}
theorem Has.fn{x:Str}{st:Stmt}{N ps:List Str}{k:Nat}{sp:Sp}(h:Has K mg x st)(S:FnScope N ps (Zm st))(hb:∀ (kV doc pm:Value) (an:Option Addr) (cdv ct:Value) (us:List Value),us.length=ps.length->bindArgs (PySem.W.fnOf x x (Wh st) (Yi st) (Zm st) .none kV doc pm an cdv ct) ⟨us,[]⟩=pure (ps.zip us))(len:∀vs H Q E,sp vs H Q E->vs.length=ps.length)(hbody:∀ (f:Addr) (cdv:Value) (A:Around) (outer:List Env) (s:Shared) (H:Hp) (vs:List V) (Q:VK) (E:XK),Room k (A.deeper (envOfC x (Zm st) s.heap.objs.size f cdv))->sp vs H Q E ->
   ∃t,PSs (Yu CX0 P w K mg base N x (Zm st) f cdv A outer s H E).nox (Yi st) t/\t {nx:=fun _ H'=>Q .non H',rt:=Q } (start N vs) H):Fn P w K mg base x ps (k+1) sp:=by
 obtain⟨f,fd,F,hm⟩:=h
 exact⟨f,fd,hm,F.kp,F.binds hb,F.ok S len fun cdv A outer s H vs Q E hr q=>hbody f cdv A outer s H vs Q E hr q⟩
theorem Zxf{h:Heap}{x:Str}{st:Stmt}{f:Addr}{oc:Value}{od an:Option Addr}{osl:Array (Option Value)}{kV doc pm cdv ct:Value}(KX:K.In h)(G:h.Ns mainGlobals mg)(a:PySem.W.nsIn K mainGlobals x=some (some (.ref f)))(l:K.lookup f=some ⟨oc,od,.func (PySem.W.fnOf x x (Wh st) (Yi st) (Zm st) .none kV doc pm an cdv ct),osl⟩)(c:PySem.W.codeIn K cdv x=true)(k:PySem.W.keepIn K (.ref f)=true):Has K mg x st:=⟨f,_,Zf1 l c k,PySem.W.mg_of KX G a⟩
theorem hQ{h:Heap}(x:Str)(st:Stmt)(f c:Addr)(pm:Value)(KX:K.In h)(G:h.Ns mainGlobals mg)(e:PySem.W.nsIn K mainGlobals x=some (some (.ref f))/\K.lookup f=some ⟨.type "function", none,.func (PySem.W.fnOf x x (Wh st) (Yi st) (Zm st) .none .none .none pm none (.ref c) .none),#[]⟩/\PySem.W.codeIn K (.ref c) x=true/\PySem.W.keepIn K (.ref f)=true):Has K mg x st:=Zxf KX G e.1 e.2.1 e.2.2.1 e.2.2.2
end
def tFn(sp:Sp)(t:TA):TE:=fun σ H Q=>t σ H fun vs H1=>sp vs H1 Q E0
section
variable{X:Cx}
theorem Zyg{k:Nat}{ps:List Str}{sp:Sp}{x:Str}{p pos:Pos}{e:Expr}{es:List Expr}{t:TA}(F:Fn X.prog X.w X.K X.mg X.base x ps k sp)(hr:Room k X.A)(hg:Gl X x)(ha:PA X (e::es) t)(hdb:(x == ("__debug__" : Str))=false:=by decide)(he:starEach (e::es) X.env=(false,eval e X.env)::starEach es X.env:=by rfl)(hpl:(backTo pos (starEach es X.env)).any (·.1)=false:=by rfl) :
  PE X (.Call (.Name x p) (e::es) [] pos) (tFn sp t):=by
 obtain⟨f,fd,hm,hk,hb,G⟩:=F
 intro pins s σ H Q I h
 refine Zup G hr hg hm hk hb .nil Zdy ha hdb he hpl pins s σ H Q I ?_
 have e:Zf6 sp [] E0 t=tFn sp t:=by
  unfold Zf6 tFn
  simp only[yN]
 rw[e]
 exact h
theorem Zxg:UnR X (unaryOp .USub) (rU fun i=>.int (-i)):=by
 intro pins s σ H x v Q I rx h
 obtain⟨i,rfl,q⟩:=h
 obtain⟨t,rfl⟩:=rx
 exact neg_int ⟨.int (-i),H,I.tok _,⟨_,rfl⟩,q⟩
end
theorem Y1:bootBuiltins "len" = some (.builtin "len"):=by decide +kernel
theorem Zl1:bootBuiltins "max" = some (.builtin "max"):=by decide +kernel
theorem Zyh:bootBuiltins "min" = some (.builtin "min"):=by decide +kernel
theorem Zl2:bootBuiltins "sum" = some (.builtin "sum"):=by decide +kernel
theorem Zyi:bootBuiltins "all" = some (.builtin "all"):=by decide +kernel
theorem Wi:bootBuiltins "isinstance" = some (.builtin "isinstance"):=by decide +kernel
theorem Zal:bootBuiltins "list" = some (.type "list"):=by decide +kernel
def SameX(s:Addr)(H H':Hp):Prop:=∀b o,b≠s->H b=some o->H' b=some o
theorem SameX.refl{s:Addr}{H:Hp}:SameX s H H:=fun _ _ _ e=>e
theorem SameX.trans{s:Addr}{H H1 H2:Hp}(a:SameX s H H1)(b:SameX s H1 H2):SameX s H H2:=fun c o n e=>b c o n (a c o n e)
theorem SameX.upd{s:Addr}{H:Hp}{o:HO}:SameX s H (upd H s o):=fun b _ n e=>by rw[Zc n];exact e
theorem SameX.new{s l:Addr}{H:Hp}{o:HO}(h:H l=none):SameX s H (L2.upd H l o):=fun b _ _ e=>by rw[Zc (Zl e h)];exact e
theorem Same.new{l:Addr}{H:Hp}{o:HO}(h:H l=none):Same H (L2.upd H l o):=fun b _ e=>by rw[Zc (Zl e h)];exact e
theorem Same.x{s:Addr}{H H':Hp}(h:Same H H'):SameX s H H':=fun b o _ e=>h b o e
def SrcAt(H:Hp)(s la:Addr):Prop:=∃(ns:List Int)(i big st cnt:Int),H s=some (.lst [.ref la,.int i,.int big,.int st,.int cnt])/\H la=some (.lst (ns.map V.int))/\0<=i/\la≠s
theorem SrcAt.keep{H H':Hp}{s la:Addr}(h:SrcAt H s la)(k:Same H H'):SrcAt H' s la:=by
 obtain⟨ns,i,big,st,cnt,h1,h2,h3,h4⟩:=h
 exact⟨ns,i,big,st,cnt,k _ _ h1,k _ _ h2,h3,h4⟩
theorem SrcAt.keepX{H H':Hp}{s la l:Addr}(h:SrcAt H s la)(k:SameX l H H')(n1:l≠s)(n2:l≠la):SrcAt H' s la:=by
 obtain⟨ns,i,big,st,cnt,h1,h2,h3,h4⟩:=h
 exact⟨ns,i,big,st,cnt,k _ _ n1.symm h1,k _ _ n2.symm h2,h3,h4⟩
theorem SrcAt.ne{H:Hp}{s la l:Addr}(h:SrcAt H s la)(hl:H l=none):l≠s/\l≠la:=by
 obtain⟨ns,i,big,st,cnt,h1,h2,h3,h4⟩:=h
 exact⟨(Zl h1 hl).symm,(Zl h2 hl).symm⟩
end L2
namespace L2
open PySem PySem.Spec PyProof.Rows
theorem Z6{c A B:Prop} [Decidable c] (h1:c->A) (h2:¬c->B):if decide c=true then A else B:=by
 by_cases h:c
 ·rw[if_pos (yI h)];exact h1 h
 ·rw[if_neg (by rw[yH h];exact xM)];exact h2 h
theorem Vk{c A B:Prop} [Decidable c] (h1:¬c->A) (h2:c->B):if (!decide c)=true then A else B:=by
 by_cases h:c
 ·rw[if_neg (by rw[yI h];exact xM)];exact h2 h
 ·rw[if_pos (by rw[yH h];rfl)];exact h1 h
theorem Zu6{ns:List Int}{i:Int}(h0 : 0<=i)(h1:i < (ns.map V.int).length):atI (ns.map V.int) i=some (.int (ns.getD i.toNat 0)):=by
 obtain⟨j,rfl⟩:=yO h0
 rw[xA] at h1
 refine Va ?_
 rw[xP,yR,xR,xB (by lia)]
 rfl
end L2
namespace L2
open PySem PySem.Spec PyProof.Rows
def Nm(sc:Scope)(x:Str)(k:NameKind):Prop:=sc.names.lookup x=some k/\(x == ("__debug__" : Str))=false/\(x == ("__classdict__" : Str))=false/\x ≠ "__name__"
instance (sc:Scope) (x:Str) (k:NameKind):Decidable (Nm sc x k):=by unfold Nm;exact inferInstance
section
variable{X:Cx}{x:Str}{pos:Pos}
theorem al1{α:Type _}{P:List α->Prop}(k:∀a,P [a]):∀l:List α,l.length=1->P l
 | [a],_=>k a
theorem al2{α:Type _}{P:List α->Prop}(k:∀a b,P [a,b]):∀l:List α,l.length=2->P l
 | [a,b],_=>k a b
theorem al3{α:Type _}{P:List α->Prop}(k:∀a b c,P [a,b,c]):∀l:List α,l.length=3->P l
 | [a,b,c],_=>k a b c
theorem al4{α:Type _}{P:List α->Prop}(k:∀a b c d,P [a,b,c,d]):∀l:List α,l.length=4->P l
 | [a,b,c,d],_=>k a b c d
theorem al5{α:Type _}{P:List α->Prop}(k:∀a b c d e,P [a,b,c,d,e]):∀l:List α,l.length=5->P l
 | [a,b,c,d,e],_=>k a b c d e
theorem al6{α:Type _}{P:List α->Prop}(k:∀a b c d e f,P [a,b,c,d,e,f]):∀l:List α,l.length=6->P l
 | [a,b,c,d,e,f],_=>k a b c d e f
theorem al7{α:Type _}{P:List α->Prop}(k:∀a b c d e f g,P [a,b,c,d,e,f,g]):∀l:List α,l.length=7->P l
 | [a,b,c,d,e,f,g],_=>k a b c d e f g
theorem al8{α:Type _}{P:List α->Prop}(k:∀a b c d e f g h,P [a,b,c,d,e,f,g,h]):∀l:List α,l.length=8->P l
 | [a,b,c,d,e,f,g,h],_=>k a b c d e f g h
def nmB(X:Cx)(x:Str)(k:NameKind):Bool:=decide (Nm X.env.scope x k)
def ndB(X:Cx):Bool:=decide X.N.Nodup
abbrev nB(X:Cx)(x:Str)(k:NameKind):Prop:=nmB X x k=true
abbrev nD(X:Cx):Prop:=ndB X=true
theorem od{p:Prop} [Decidable p] (h:decide p=true):p:=of_decide_eq_true h
theorem fsc{N P:List Str}{sc:Scope}(a:sc.kind = .function:=by rfl)(h:decide (sc.isCoroutine=false/\sc.isGenerator=false/\N.Nodup/\N.take P.length=P/\(∀x∈P,sc.names.lookup x=some .local\/sc.names.lookup x=some .cell)/\∀y∈sc.names,y.2 ≠ .free)=true:=by kernel_rfl):FnScope N P sc :=
 have ⟨b,c,d,e,f,g⟩:=od h;⟨a,b,c,d,e,f,g⟩
theorem pvN(i:Nat)(n:Nm X.env.scope x .local)(hN:X.N[i]? = some x:=by rfl):PE X (.Name x pos) (tVar i):=Zds hN (.inl n.1) n.2.1 n.2.2.1
theorem pvC(i:Nat)(n:Nm X.env.scope x .cell)(hN:X.N[i]? = some x:=by rfl):PE X (.Name x pos) (tVar i):=Zds hN (.inr (.inl n.1)) n.2.1 n.2.2.1
theorem Zs0{v:V}{u:Value}(n:Nm X.env.scope x .globalImplicit)(hm:X.mg x=some u)(r:RelV v u):PE X (.Name x pos) (tC v):=Zt6 n.1 hm r n.2.1
theorem Zs1{v:V}{u:Value}(n:Nm X.env.scope x .globalImplicit)(hm:X.mg x=none)(hv:bootBuiltins x=some u)(r:RelV v u):PE X (.Name x pos) (tC v):=Zt7 n.1 hm hv r n.2.2.2 n.2.1
theorem Zxh{k:Nat}{ps:List Str}{sp:Sp}{p:Pos}{e:Expr}{es:List Expr}{t:TA}(F:Fn X.prog X.w X.K X.mg X.base x ps k sp)(hr:Room k X.A)(n:Nm X.env.scope x .globalImplicit)(ha:PA X (e::es) t)(he:starEach (e::es) X.env=(false,eval e X.env)::starEach es X.env:=by rfl)(hpl:(backTo pos (starEach es X.env)).any (·.1)=false:=by rfl) :
  PE X (.Call (.Name x p) (e::es) [] pos) (tFn sp t):=Zyg F hr n.1 ha n.2.1 he hpl
theorem Zrc{p:Pos}{e:Expr}{es:List Expr}{t:TA}{id:String}{r:List V->Hp->VK->Prop}(hc:Vj X (.builtin id) r)(n:Nm X.env.scope x .globalImplicit)(hm:X.mg x=none)(hv:bootBuiltins x=some (.builtin id))(ha:PA X (e::es) t)(he:starEach (e::es) X.env=(false,eval e X.env)::starEach es X.env:=by rfl)(hpl:(backTo pos (starEach es X.env)).any (·.1)=false:=by rfl):PE X (.Call (.Name x p) (e::es) [] pos) (tCB r t):=Zsk hc n.1 hm hv ha n.2.2.2 n.2.1 he hpl
theorem Zph{p:Pos}{e:Expr}{es:List Expr}{t:TA}{T:String}{r:List V->Hp->VK->Prop}(hc:Vj X (.type T) r)(n:Nm X.env.scope x .globalImplicit)(hm:X.mg x=none)(hv:bootBuiltins x=some (.type T))(ha:PA X (e::es) t)(he:starEach (e::es) X.env=(false,eval e X.env)::starEach es X.env:=by rfl)(hpl:(backTo pos (starEach es X.env)).any (·.1)=false:=by rfl):PE X (.Call (.Name x p) (e::es) [] pos) (tCB r t):=Zqt hc n.1 hm hv ha n.2.2.2 n.2.1 he hpl
theorem Zu7{i:Nat}{e:Expr}{te:TE}{pos':Pos}(hN:X.N.Nodup)(n:Nm X.env.scope x .local)(he:PE X e te)(hi:X.N[i]? = some x:=by rfl)(hs:swapsWith e (some (.Name x pos')) pos.line X.env=pure false:=by rfl) :
  PS X (.Assign [.Name x pos'] e pos) (Zac te (Wp i)):=Zkv hN hi (.inl n.1) he hs (.inr n.1)
theorem Zs2{i:Nat}{e:Expr}{te:TE}{pos':Pos}(hN:X.N.Nodup)(n:Nm X.env.scope x .cell)(he:PE X e te)(hf:X.fn x=true:=by rfl)(hi:X.N[i]? = some x:=by rfl)(hs:swapsWith e (some (.Name x pos')) pos.line X.env=pure false:=by rfl) :
  PS X (.Assign [.Name x pos'] e pos) (Zac te (Wp i)):=Zkv hN hi (.inr n.1) he hs (.inl hf)
theorem Zs3{i:Nat}(hN:X.N.Nodup)(n:Nm X.env.scope x .local)(hi:X.N[i]? = some x:=by rfl):PG X (.Name x pos) (Wp i):=Zfk hN hi (.inl n.1) (.inr n.1)
theorem Zrd{i:Nat}(hN:X.N.Nodup)(n:Nm X.env.scope x .cell)(hf:X.fn x=true:=by rfl)(hi:X.N[i]? = some x:=by rfl):PG X (.Name x pos) (Wp i):=Zfk hN hi (.inr n.1) (.inl hf)
end
section
variable{X:Cx}{scope:Scope}{cl:List (Str×Addr)}{C:Addr}{N':List Str}{s0:Shared}{H0:Hp}{ex:List Addr}{pn:List (Addr×Obj)}{x:Str}{pos:Pos}
theorem Z03(i:Nat)(n:Nm scope x .local:=by decide +kernel)(hN:N'[i]? = some x:=by rfl):PE (ccx X scope cl C N' s0 H0 ex pn) (.Name x pos) (tVar i):=pvL i hN n.1 n.2.1 n.2.2.1
theorem Z04(i:Nat)(n:Nm scope x .free:=by decide +kernel)(hN:N'[i]? = some x:=by rfl):PE (ccx X scope cl C N' s0 H0 ex pn) (.Name x pos) (tVar i):=pvF i hN n.1 n.2.1 n.2.2.1
theorem Z05(i:Nat)(hnd:N'.Nodup)(n:Nm scope x .local:=by decide +kernel)(hN:N'[i]? = some x:=by rfl):PG (ccx X scope cl C N' s0 H0 ex pn) (.Name x pos) (Wp i):=pgL i hnd hN n.1
theorem Z06(n:Nm scope x .globalImplicit:=by decide +kernel):Nm (ccx X scope cl C N' s0 H0 ex pn).env.scope x .globalImplicit:=⟨Zit (by decide) n.1,n.2⟩
theorem nmC(n:Nm scope x .globalImplicit:=by decide +kernel):nB (ccx X scope cl C N' s0 H0 ex pn) x .globalImplicit:=yI (Z06 n)
theorem FrOk.consN{j:Nat}{fr:List (Str×Nat)}(n:Nm X.env.scope x .cell)(t:FrOk X scope fr)(m:Nm scope x .free:=by decide +kernel)(h1:X.N[j]? = some x:=by rfl):FrOk X scope ((x,j)::fr):=.cons h1 (.inl n.1) m.1 t
end
end L2
end
section
namespace L2
open PySem PySem.Spec PyProof.Rows
def cs(x:Str):List Nat:=x.cps.toList
theorem Wj(x:Str):(cs x).length=x.length:=by unfold cs;exact Array.length_toList
theorem Zbc(x y:Str):cs (x++y)=cs x++cs y:=by unfold cs;rw[PySem.Str.cps_append,Array.toList_append]
theorem Zl3(l:List Nat):cs ⟨l.toArray⟩=l:=by unfold cs;simp
theorem Zi2(xs:List Nat)(lo:Nat):∀m,lo+m<=xs.length->((List.range m).map (lo + ·)).filterMap (xs[·]?)=(xs.drop lo).take m:=by
 intro m
 induction m with
 | zero=>intro _;simp
 | succ m ih =>
  intro h
  rw[List.range_succ,xQ,List.filterMap_append,ih (by lia),yP,List.getElem?_drop]
  have:lo+m < xs.length:=by lia
  simp[xB this]
theorem Zfo(x:Str){i:Int}(h : 0<=i):cs (Txt.slice x none (some i))=(cs x).take i.toNat:=by
 have hl:=Wj x
 have e:Builtin.Str.strSliceIndices none (some i) 1 x.length=(List.range (min i.toNat x.length)).map (0 + ·):=by
  unfold Builtin.Str.strSliceIndices sliceRange
  simp only[show (1:Int) > 0 by decide,if_true]
  have e1:(if i < 0 then i+(x.length:Int) else i)=i:=if_neg (by lia)
  rw[e1]
  have e2:(if (0:Int) < max 0 (min i (x.length:Int)) then (max 0 (min i (x.length:Int)) - 0+1 - 1) / 1 else 0).toNat=min i.toNat x.length:=by
   split<;>(try simp only[Int.ediv_one])<;>lia
  rw[e2]
  apply List.map_congr_left
  intro k _
  lia
 unfold Txt.slice
 rw[e]
 split
 ·rename_i hc
  have hc:((List.range (min i.toNat x.length)).map (0 + ·)).length=x.length:=by simpa using hc
  rw[xA,zA] at hc
  rw[yV (by lia)]
 ·rw[Zl3]
  have:=Zi2 (cs x) 0 (min i.toNat x.length) (by lia)
  rw[List.drop_zero] at this
  have e3:(cs x).take (min i.toNat x.length)=(cs x).take i.toNat:=by
   rw[← hl]
   by_cases h1:i.toNat<=(cs x).length
   ·rw[Nat.min_eq_left h1]
   ·rw[Nat.min_eq_right (by lia),yV (by lia),yV (by lia)]
  rw[← e3,← this]
  congr 1
  funext k
  unfold cs
  simp
theorem Zu8(x:Str){i:Int}(h : 0<=i):cs (Txt.slice x (some i) none)=(cs x).drop i.toNat:=by
 have hl:=Wj x
 have e:Builtin.Str.strSliceIndices (some i) none 1 x.length=(List.range (x.length - min i.toNat x.length)).map (min i.toNat x.length + ·):=by
  unfold Builtin.Str.strSliceIndices sliceRange
  simp only[show (1:Int) > 0 by decide,if_true]
  have e1:(if i < 0 then i+(x.length:Int) else i)=i:=if_neg (by lia)
  rw[e1]
  have e2:(if max 0 (min i (x.length:Int)) < (x.length:Int) then ((x.length:Int) - max 0 (min i (x.length:Int))+1 - 1) / 1 else 0).toNat=x.length - min i.toNat x.length:=by
   split<;>(try simp only[Int.ediv_one])<;>lia
  rw[e2]
  apply List.map_congr_left
  intro k _
  lia
 unfold Txt.slice
 rw[e]
 split
 ·rename_i hc
  have hc:((List.range (x.length - min i.toNat x.length)).map (min i.toNat x.length + ·)).length=x.length:=by simpa using hc
  rw[xA,zA] at hc
  by_cases h0:i.toNat=0
  ·rw[h0,List.drop_zero]
  ·have:x.length=0:=by lia
   rw[List.drop_of_length_le (by lia)]
   exact List.length_eq_zero_iff.mp (by lia)
 ·rw[Zl3]
  have:=Zi2 (cs x) (min i.toNat x.length) (x.length - min i.toNat x.length) (by lia)
  have e3:((cs x).drop (min i.toNat x.length)).take (x.length - min i.toNat x.length)=(cs x).drop i.toNat:=by
   rw[yV (by rw[List.length_drop];lia)]
   by_cases h1:i.toNat<=x.length
   ·rw[Nat.min_eq_left h1]
   ·rw[Nat.min_eq_right (by lia),List.drop_of_length_le (by lia),List.drop_of_length_le (by lia)]
  rw[← e3,← this]
  congr 1
  funext k
  unfold cs
  simp
theorem Zs4:∀ys:List Str,cs (Txt.join "" ys)=(ys.map cs).flatten:=by
 have go:∀(ys:List Str)(a:Array Nat),(ys.foldl (fun acc p=>acc++(("" : Str)).cps++p.cps) a).toList=a.toList++(ys.map cs).flatten:=by
  intro ys
  induction ys with
  | nil=>intro a;simp
  | cons y r ih =>
   intro a
   rw[List.foldl_cons,ih]
   have:(("" : Str)).cps = #[]:=by decide +kernel
   rw[this]
   simp[cs]
 intro ys
 show (cs (Builtin.Str.glued "" ys))=_
 unfold Builtin.Str.glued
 cases ys with
 | nil=>decide +kernel
 | cons y r =>
  show (List.foldl _ y.cps r).toList=_
  rw[go]
  rfl
def Low(x:Str):Prop:=∀c∈cs x,97<=c/\c<=122
def letters:Str:="abcdefghijklmnopqrstuvwxyz"
theorem Zpi:cs letters=(List.range 26).map (97 + ·):=by decide +kernel
theorem Zeq{d:Int}(h0 : 0<=d)(h1:d < 26):atI letters.cps.toList d=some (97+d.toNat):=by
 obtain⟨j,rfl⟩:=yO h0
 refine Va ?_
 show (cs letters)[j]? = _
 rw[Zpi,xP,zU (by lia)]
 rfl
theorem Zdj{J:It}{nl:Nat}{fv:St}{g:TG}{tt:TTs}{te:TE}{Q:VK}{H:Hp}{xs:List V}(Pv:Nat->List V->Hp->Prop)(h0:Pv 0 [] H)(hn:xs.length<=1000000)(hgo:∀i H ys,i < xs.length->Pv i ys H->J.go i H)(hy:∀i H x H' ys,i < xs.length->Pv i ys H->J.yld i H x H'->H'=H/\xs[i]? = some x)(hst:∀H ys,Pv xs.length ys H->J.stop xs.length H)(hlen:∀i ys H,Pv i ys H->ys.length<=i)(step:∀i x ys H,xs[i]? = some x->Pv i ys H->Vn nl fv g tt te x H (fun y H'=>Pv (i+1) (ys ++ [y]) H') fun H'=>Pv (i+1) ys H')(hd:∀ys H,Pv xs.length ys H->∀l,H l=none->Q (.ref l) (upd H l (.lst ys))) :
  Ui J nl fv g tt te Q H:=by
 have mono:∀{x:V}{H:Hp}{Y Y':V->Hp->Prop}{N N':Hp->Prop},Vn nl fv g tt te x H Y N->Y=Y'->N=N'->Vn nl fv g tt te x H Y' N':=fun h e1 e2=>by subst e1;subst e2;exact h
 refine⟨fun i m ys H=>m=xs.length - i/\i<=xs.length/\Pv i ys H,⟨xs.length,by simp,yL _,h0⟩,?_⟩
 rintro i m ys H ⟨rfl,hi,p⟩
 have hl:=hlen i ys H p
 have hz:(1000000:Nat) < sizeLine:=by decide
 by_cases hlt:i < xs.length
 ·refine .inr ⟨hgo i H ys hlt p,by lia,xs.length - (i+1),by lia,fun x H' y=>?_⟩
  obtain⟨e,ex⟩:=hy i H x H' ys hlt p y
  subst e
  refine mono (step i x ys _ ex p) ?_ ?_
  ·funext y H4
   apply propext
   exact⟨fun q=>⟨rfl,hlt,q⟩,fun q=>q.2.2⟩
  ·funext H3
   apply propext
   exact⟨fun q=>⟨rfl,hlt,q⟩,fun q=>q.2.2⟩
 ·have e:i=xs.length:=by lia
  subst e
  exact .inl ⟨hst H ys p,by lia,hd ys H p⟩
def Zb5(lo:Int)(n:Nat):List V:=(List.range n).map fun k=>V.int (lo+(k:Nat))
theorem Zbr(lo:Int)(n:Nat):(Zb5 lo n).length=n:=by simp[Zb5]
theorem Zs5{lo:Int}{n i:Nat}{x:V}(h:(Zb5 lo n)[i]? = some x):i < n/\x = .int (lo+(i:Nat)):=by
 have hi:i < n:=by have:=(xG.mp h).1;rwa [Zbr] at this
 refine⟨hi,?_⟩
 unfold Zb5 at h
 rw[xP,zU hi] at h
 exact(Option.some.inj h).symm
theorem Zi3{lo:Int}{n:Nat}{nl:Nat}{fv:St}{g:TG}{tt:TTs}{te:TE}{Q:VK}{H:Hp}(Pv:Nat->List V->Hp->Prop)(h0:Pv 0 [] H)(hn:n<=1000000)(hlen:∀i ys H,Pv i ys H->ys.length<=i)(step:∀i ys H,i < n->Pv i ys H->Vn nl fv g tt te (.int (lo+(i:Nat))) H (fun y H'=>Pv (i+1) (ys ++ [y]) H') fun H'=>Pv (i+1) ys H')(hd:∀ys H,Pv n ys H->∀l,H l=none->Q (.ref l) (upd H l (.lst ys))) :
  Ui (Itr lo n) nl fv g tt te Q H:=by
 refine Zdj (xs:=Zb5 lo n) Pv h0 (by rw[Zbr];exact hn) ?_ ?_ ?_ hlen ?_ ?_
 ·intro i H ys hi _
  rw[Zbr] at hi
  exact hi
 ·rintro i H x H' ys hi _ ⟨rfl,rfl⟩
  rw[Zbr] at hi
  refine⟨rfl,?_⟩
  unfold Zb5
  rw[xP,zU hi]
  rfl
 ·intro H ys _
  rw[Zbr]
  exact xE _
 ·intro i x ys H hx p
  obtain⟨hi,rfl⟩:=Zs5 hx
  exact step i ys H hi p
 ·intro ys H p
  rw[Zbr] at p
  exact hd ys H p
theorem Zdf{K:uFg}{a:Addr}{xs:List V}{nl:Nat}{fv:St}{g:TG}{tt:TTs}{te:TE}{Q:VK}{H:Hp}(Pv:Nat->List V->Hp->Prop)(h0:Pv 0 [] H)(hn:xs.length<=1000000)(hl:∀i ys H,i<=xs.length->Pv i ys H->SqL K H a xs)(hlen:∀i ys H,Pv i ys H->ys.length<=i)(step:∀i x ys H,xs[i]? = some x->Pv i ys H->Vn nl fv g tt te x H (fun y H'=>Pv (i+1) (ys ++ [y]) H') fun H'=>Pv (i+1) ys H')(hd:∀ys H,Pv xs.length ys H->∀l,H l=none->Q (.ref l) (upd H l (.lst ys))) :
  Ui (Itl K a) nl fv g tt te Q H:=by
 refine Zdj (xs:=xs) Pv h0 hn ?_ ?_ ?_ hlen step hd
 ·intro i H ys hi p
  exact⟨xs,xs[i],hl i ys H (zI hi) p,by simp[hi]⟩
 ·rintro i H x H' ys hi p ⟨rfl,y⟩
  exact⟨rfl,y xs (hl i ys _ (zI hi) p)⟩
 ·intro H ys p
  exact⟨xs,hl _ ys H (xE _) p,xE _⟩
theorem Zs6{x:Str}{nl:Nat}{fv:St}{g:TG}{tt:TTs}{te:TE}{Q:VK}{H:Hp}(Pv:Nat->List V->Hp->Prop)(h0:Pv 0 [] H)(hn:x.length<=1000000)(hlen:∀i ys H,Pv i ys H->ys.length<=i)(step:∀i ys H,i < x.length->Pv i ys H->Vn nl fv g tt te (sgn x i) H (fun y H'=>Pv (i+1) (ys ++ [y]) H') fun H'=>Pv (i+1) ys H')(hd:∀ys H,Pv x.length ys H->∀l,H l=none->Q (.ref l) (upd H l (.lst ys))) :
  Ui (Its x) nl fv g tt te Q H:=by
 have ln:((List.range x.length).map fun i=>sgn x i).length=x.length:=by simp
 refine Zdj (xs:=(List.range x.length).map fun i=>sgn x i) Pv h0 (by rw[ln];exact hn) ?_ ?_ ?_ hlen ?_ ?_
 ·intro i H ys hi _
  rw[ln] at hi
  exact hi
 ·rintro i H v H' ys hi _ ⟨rfl,rfl⟩
  rw[ln] at hi
  refine⟨rfl,?_⟩
  rw[xP,zU hi]
  rfl
 ·intro H ys _
  rw[ln]
  exact rfl
 ·intro i v ys H hx p
  have hi:i < x.length:=by have:=(xG.mp hx).1;rwa [ln] at this
  rw[xP,zU hi] at hx
  cases hx
  exact step i ys H hi p
 ·intro ys H p
  rw[ln] at p
  exact hd ys H p
theorem Zc5{ls:St}(h:ls.length=1):∃a,ls = [a]:=by
 match ls,h with
 | [a],_=>exact⟨a,rfl⟩
theorem Zeb{ls:St}(h:ls.length=2):∃a b,ls = [a,b]:=by
 match ls,h with
 | [a,b],_=>exact⟨a,b,rfl⟩
end L2
end
section
namespace L2
open PySem PySem.Spec PyProof.Rows
structure QE (X:Cx) (e:Expr) (t:TE):Prop where
 h:PE X e t
structure QT (X:Cx) (e:Expr) (t:TT):Prop where
 h:PT X e t
structure QW (X:Cx) (e:Expr) (t:TT):Prop where
 h:PW X e t
structure QS (X:Cx) (s:Stmt) (t:TS):Prop where
 h:PS X s t
structure QSs (X:Cx) (s:List Stmt) (t:TS):Prop where
 h:PSs X s t
structure QA (X:Cx) (es:List Expr) (t:TA):Prop where
 h:PA X es t
structure QG (X:Cx) (e:Expr) (t:TG):Prop where
 h:PG X e t
structure QGs (X:Cx) (es:List Expr) (t:TGs):Prop where
 h:PGs X es t
structure QI (X:Cx) (tg iter:Expr) (t:TI):Prop where
 h:PI X tg iter t
structure QO (X:Cx) (e:Option Expr) (t:TO):Prop where
 h:PO X e t
structure QTs (X:Cx) (es:List Expr) (t:TTs):Prop where
 h:PTs X es t
structure QOp (X:Cx) (f:Value->Value->Sem Value) (r:R2):Prop where
 h:OpR X f r
structure QUn (X:Cx) (f:Value->Sem Value) (r:V->Hp->VK->Prop):Prop where
 h:UnR X f r
structure QC (X:Cx) (f:Value) (r:List V->Hp->VK->Prop):Prop where
 h:Vj X f r
theorem QC.imp{X:Cx}{f:Value}{r r':List V->Hp->VK->Prop}(h:QC X f r)(i:∀xs H Q,r' xs H Q->r xs H Q):QC X f r':=⟨fun p s σ H x u Q I v k=>h.h p s σ H x u Q I v (i x H Q k)⟩
structure QCk (X:Cx) (f:Value) (kw:Str) (r:List V->V->Hp->VK->Prop):Prop where
 h:Zyf X f kw r
structure QIx (X:Cx) (r:R2):Prop where
 h:IxR X r
structure QSl (X:Cx) (r:V->Option Int->Option Int->Hp->VK->Prop):Prop where
 h:SlR X r
structure QM (X:Cx) (id:String) (r:V->List V->Hp->VK->Prop):Prop where
 h:MtR X id r
structure QSet (X:Cx) (t:Zc3):Prop where
 h:Zh9 X t
structure QIp (X:Cx) (op:Operator) (t:TIp):Prop where
 h:PIp X op t
section
variable{X:Cx}{a b c:Expr}{ta tb tc te:TE}{tA tB':TT}{pos p p2 pos':Pos}{st:Stmt}{rest:List Stmt}{t u:TS}{x:Str}{es:List Expr}{e:Expr}
theorem Zo:QSs X [] Zah:=⟨Zt9⟩
theorem Zd(h1:QS X st t)(h2:QSs X rest u):QSs X (st::rest) (Vs t u):=⟨Zr8 h1.h h2.h⟩
theorem Zf(h1:QS X st t):QSs X [st] t:=⟨Zua h1.h⟩
theorem Z5(h:QE X e te):QS X (.Return (some e) pos) (Znw te):=⟨Zwq h.h⟩
theorem Zp{c:Expr}{a b:List Stmt}{tc:TT}(hc:QT X c tc)(ha:QSs X a t)(hb:QSs X b u):QS X (.If c a b pos) (Zc2 tc t u):=⟨Zx4 hc.h ha.h hb.h⟩
theorem Zh(he:QE X e te)(hs:swapsWith e none pos.line X.env=pure false:=by rfl):QS X (.Expr e pos) (Zdw te):=⟨Zub he.h hs⟩
theorem Zy(i:Nat)(he:QE X e te)(hN:nD X:=by kernel_rfl)(n:nB X x .local:=by kernel_rfl)(hi:X.N[i]? = some x:=by rfl)(hs:swapsWith e (some (.Name x pos')) pos.line X.env=pure false:=by rfl) :
  QS X (.Assign [.Name x pos'] e pos) (Zac te (Wp i)):=⟨Zu7 (od hN) (od n) he.h hi hs⟩
theorem Zs7{i:Nat}(hN:X.N.Nodup)(n:Nm X.env.scope x .cell)(he:QE X e te)(hf:X.fn x=true:=by rfl)(hi:X.N[i]? = some x:=by rfl)(hs:swapsWith e (some (.Name x pos')) pos.line X.env=pure false:=by rfl) :
  QS X (.Assign [.Name x pos'] e pos) (Zac te (Wp i)):=⟨Zs2 hN n he.h hf hi hs⟩
theorem Zbd{tg:Expr}{g:TG}(he:QE X e te)(hg:QG X tg g)(hs:swapsWithSole [tg] e pos.line X.env=pure false:=by rfl)(hw:swappedStores [tg] e X.env=pure none:=by rfl)(h1:(assignEach [tg] X.env).map (·.2)= [assign tg X.env]:=by rfl):QS X (.Assign [tg] e pos) (Zac te g):=⟨Zws he.h hg.h hs hw h1⟩
def Zb2(J:It)(g:TG)(tb:TS)(D:Ends)(σ:St)(H1:Hp):Prop:=∃W:Nat->Nat->St->Hp->Prop,(∃m,W 0 m σ H1)/\∀i m σ H,W i m σ H ->
 (J.stop i H/\D.nx σ H)\/(J.go i H/\∃N:St->Hp->Prop,(∀ σ' H',N σ' H'->∃m',m' < m/\W (i+1) m' σ' H')/\∀x H',J.yld i H x H'->g x σ H' fun σ2 H2=>tb {D with nx:=N,ct:=N,bk:=D.nx } σ2 H2)
def Zl4(wi:TI)(g:TG)(tb:TS):TS:=fun D σ H=>wi σ H fun J H1=>Zb2 J g tb D σ H1
theorem Uj{tg iter:Expr}{body:List Stmt}{wi:TI}{g:TG}(hp:PassesOwn (model X.prog X.w) X.A X.env X.xe)(hc:X.calm=true)(hi:QI X tg iter wi)(hg:QG X tg g)(hb:QSs X body t)(hs:∀x,foldedSetIterable iter X.env x=pure x:=by intro _;rfl):QS X (.For tg iter body [] pos) (Zl4 wi g t):=⟨Zwt hp hc hi.h hg.h hb.h hs⟩
theorem Wq(i:Nat)(hN:nD X:=by kernel_rfl)(n:nB X x .local:=by kernel_rfl)(hi:X.N[i]? = some x:=by rfl):QG X (.Name x pos) (Wp i):=⟨Zs3 (od hN) (od n) hi⟩
theorem Zre{i:Nat}(hN:X.N.Nodup)(n:Nm X.env.scope x .cell)(hf:X.fn x=true:=by rfl)(hi:X.N[i]? = some x:=by rfl):QG X (.Name x pos) (Wp i):=⟨Zrd hN n hf hi⟩
theorem Zbu:QGs X [] Zd8:=⟨Zuc⟩
theorem Vb{t:TG}{u:TGs}(h1:QG X e t)(h2:QGs X es u)(hs:(assignEach (e::es) X.env).map (·.2)=assign e X.env::(assignEach es X.env).map (·.2):=by rfl):QGs X (e::es) (gCons t u):=⟨Zr9 h1.h h2.h hs⟩
theorem Zxi{k:Nat}{t:TGs}{n:Nat}(hc:X.calm=true)(h:QGs X es t)(hn:(assignEach es X.env).length=n:=by rfl)(hst:(assignEach es X.env).findIdx? (·.1)=none:=by rfl):QG X (.Tuple es k pos) (gTup X.K n t):=⟨Zku hc h.h hn hst⟩
theorem Zby{o i:Expr}{to ti:TE}{t:Zc3}(ho:QE X o to)(hi:QE X i ti)(hs:QSet X t)(ha:∀v,assign (.Subscript o i pos) X.env v=(do
   let ov ← holding [v] (eval o X.env)
   let iv ← holding [v,ov] (eval i X.env)
   standAt pos
   holding [v,ov,iv] (setItem ov iv v)
   release [v,ov,iv] []):=by intro _;rfl):QG X (.Subscript o i pos) (Znx to ti t):=⟨Zwr ho.h hi.h hs.h ha⟩
theorem Zbp:QSet X rSetL:=⟨Zsm⟩
variable{tg:Expr}
theorem Vu{l:Expr}(hl:QE X l te):QI X tg l (Zlo X.K te):=⟨Zud hl.h⟩
theorem Zxj{l:Expr}(hl:QE X l te):QI X tg l (Zn1 te):=⟨Zxd hl.h⟩
theorem Zch{a:Expr}{ta:TA}(hm:X.mg "range" = none)(ha:QA X [a] ta)(hg:nB X "range" .globalImplicit:=by kernel_rfl)(hs:starEach [a] X.env = [(false,eval a X.env)]:=by rfl):QI X tg (.Call (.Name "range" p) [a] [] pos) (Zlp ta):=⟨Zqn (od hg).1 hm ha.h hs⟩
theorem Zb:QA X [] Vl:=⟨Zw2⟩
theorem Za{t:TA}(ha:QE X e te)(hr:QA X es t)(hs:starEach (e::es) X.env=(false,eval e X.env)::starEach es X.env:=by rfl):QA X (e::es) (Wy te t):=⟨Zuo ha.h hr.h hs⟩
theorem Z9 {x1} {t:TA}(h:QA X es t):QE X (.Tuple es x1 pos) (Zea t):=⟨Zw3 h.h⟩
theorem Zz{t:TA}(h:QA X es t):QE X (.List es pos) (Zc4 t):=⟨Zw4 h.h⟩
theorem V0(ha:QT X a tA):QT X (.UnaryOp .Not a pos) (Znv tA):=⟨Zwn ha.h⟩
theorem QW.pt(h:QW X e tA):QT X e tA:=⟨PW.pt h.h⟩
theorem Zdk(ha:QT X a tA):QW X (.BoolOp .And [a] pos) tA:=⟨Zt8 ha.h⟩
theorem Zk4(ha:QT X a tA):QW X (.BoolOp .Or [a] pos) tA:=⟨Zwl ha.h⟩
theorem Zcq{rest:List Expr}(ha:QT X a tA)(hb:QW X (.BoolOp .And (b::rest) pos) tB'):QW X (.BoolOp .And (a::b::rest) pos) (Znu tA tB'):=⟨Zwm ha.h hb.h⟩
theorem Zl5{rest:List Expr}(ha:QT X a tA)(hb:QW X (.BoolOp .Or (b::rest) pos) tB'):QW X (.BoolOp .Or (a::b::rest) pos) (tOr tA tB'):=⟨Zx3 ha.h hb.h⟩
theorem Zs{op:CmpOp}{r:R2}(ho:QOp X (compareOp op) r)(ha:QE X a ta)(hb:QE X b tb)(hm:behindInMarks op b=false):QT X (.Compare a [op] [b] pos) (Za6 (tOp r ta tb)):=⟨Zuk ho.h ha.h hb.h hm⟩
theorem Zcm{op:CmpOp}{r:R2}(ho:QOp X (compareOp op) r)(ha:QE X a ta)(hb:QE X b tb)(hm:behindInMarks op b=false):QE X (.Compare a [op] [b] pos) (tOp r ta tb):=⟨Zuj ho.h ha.h hb.h hm⟩
theorem Zjy{op op':CmpOp}{r r':R2}(ho:QOp X (compareOp op) r)(ho':QOp X (compareOp op') r')(ha:QE X a ta)(hb:QE X b tb)(hc:QE X c tc)(hm:lastMarks [op,op'] [b,c]=false:=by with_unfolding_all rfl):QE X (.Compare a [op,op'] [b,c] pos) (Zdt r r' ta tb tc):=⟨Zsc ho.h ho'.h ha.h hb.h hc.h hm⟩
theorem Ut{op op':CmpOp}{r r':R2}(ho:QOp X (compareOp op) r)(ho':QOp X (compareOp op') r')(ha:QE X a ta)(hb:QE X b tb)(hc:QE X c tc)(hm:lastMarks [op,op'] [b,c]=false:=by with_unfolding_all rfl):QT X (.Compare a [op,op'] [b,c] pos) (Za6 (Zdt r r' ta tb tc)):=⟨Zsd ho.h ho'.h ha.h hb.h hc.h hm⟩
theorem Zbe(h:QE X e te)(he:∀whole,isTrue e X.env whole=(do let v ← whole;standAt e.pos;holding [v] (truthy v)):=by intro _;rfl):QT X e (tB te):=⟨Zwk h.h he⟩
theorem Ze {i j pos}:QE X (.Constant (.int i) j pos) (tC (.int i)):=⟨Zwh⟩
theorem Zb3 {b j pos}:QE X (.Constant (.bool b) j pos) (tC (.bl b)):=⟨Zx2⟩
theorem We {j pos}:QE X (.Constant .none j pos) (tC .non):=⟨Zwi⟩
theorem Z3 {x j pos}:QE X (.Constant (.str x) j pos) (tC (.str x)):=⟨Zwj⟩
theorem qvN(i:Nat)(n:nB X x .local:=by kernel_rfl)(hN:X.N[i]? = some x:=by rfl):QE X (.Name x pos) (tVar i):=⟨pvN i (od n) hN⟩
theorem qvC(i:Nat)(n:Nm X.env.scope x .cell)(hN:X.N[i]? = some x:=by rfl):QE X (.Name x pos) (tVar i):=⟨pvC i n hN⟩
theorem Z4{v:V}{u:Value}(hm:X.mg x=some u)(r:RelV v u)(n:nB X x .globalImplicit:=by kernel_rfl):QE X (.Name x pos) (tC v):=⟨Zs0 (od n) hm r⟩
theorem Zs8{v:V}{u:Value}(hm:X.mg x=none)(hv:bootBuiltins x=some u)(r:RelV v u)(n:nB X x .globalImplicit:=by kernel_rfl):QE X (.Name x pos) (tC v):=⟨Zs1 (od n) hm hv r⟩
theorem Zu{op:Operator}{r:R2}(ho:QOp X (binaryOp op) r)(ha:QE X a ta)(hb:QE X b tb):QE X (.BinOp a op b pos) (tOp r ta tb):=⟨Zx5 ho.h ha.h hb.h⟩
theorem Zf7{op:UnaryOp}{r:V->Hp->VK->Prop}(ho:QUn X (unaryOp op) r)(ha:QE X a ta):QE X (.UnaryOp op a pos) (tUn r ta):=⟨Zx6 ho.h ha.h⟩
theorem Zk5 {op} (h:QE X a ta):QE X (.BoolOp op [a] pos) ta:=⟨Zwo h.h⟩
theorem Zk6{rest:List Expr}(ha:QE X a ta)(hb:QE X (.BoolOp .And (b::rest) pos) tb):QE X (.BoolOp .And (a::b::rest) pos) (Zln ta tb):=⟨Zwp ha.h hb.h⟩
theorem Zam:QO X none Zkb:=⟨Zur⟩
theorem Zan(h:QE X e te):QO X (some e) (Zlt te):=⟨Zus h.h⟩
theorem Zao{lo hi:Option Expr}{tl th:TO}{r:V->Option Int->Option Int->Hp->VK->Prop}(hr:QSl X r)(he:QE X e te)(hl:QO X lo tl)(hu:QO X hi th):QE X (.Subscript e (.Slice lo hi none p2) pos) (tSl r te tl th):=⟨Zsl hr.h he.h hl.h hu.h⟩
theorem Zk{r:R2}(hr:QIx X r)(ha:QE X a ta)(hb:QE X b tb)(hs:Zkd b):QE X (.Subscript a b pos) (tOp r ta tb):=⟨Zyc hr.h ha.h hb.h hs⟩
theorem Yg{k:Nat}{ps:List Str}{sp:Sp}{t:TA}(F:Fn X.prog X.w X.K X.mg X.base x ps k sp)(ha:QA X (e::es) t)(hr:Room k X.A:=by exact Room.mono (by assumption) (by first | decide | lia))(n:nB X x .globalImplicit:=by kernel_rfl)(he:starEach (e::es) X.env=(false,eval e X.env)::starEach es X.env:=by rfl)(hpl:(backTo pos (starEach es X.env)).any (·.1)=false:=by rfl) :
  QE X (.Call (.Name x p) (e::es) [] pos) (tFn sp t):=⟨Zxh F hr (od n) ha.h he hpl⟩
theorem Z1{t:TA}{id:String}{r:List V->Hp->VK->Prop}(hc:QC X (.builtin id) r)(hm:X.mg x=none)(hv:bootBuiltins x=some (.builtin id))(ha:QA X (e::es) t)(n:nB X x .globalImplicit:=by kernel_rfl)(he:starEach (e::es) X.env=(false,eval e X.env)::starEach es X.env:=by rfl)(hpl:(backTo pos (starEach es X.env)).any (·.1)=false:=by rfl):QE X (.Call (.Name x p) (e::es) [] pos) (tCB r t):=⟨Zrc hc.h (od n) hm hv ha.h he hpl⟩
theorem Zap{t:TA}{T:String}{r:List V->Hp->VK->Prop}(hc:QC X (.type T) r)(hm:X.mg x=none)(hv:bootBuiltins x=some (.type T))(ha:QA X (e::es) t)(n:nB X x .globalImplicit:=by kernel_rfl)(he:starEach (e::es) X.env=(false,eval e X.env)::starEach es X.env:=by rfl)(hpl:(backTo pos (starEach es X.env)).any (·.1)=false:=by rfl):QE X (.Call (.Name x p) (e::es) [] pos) (tCB r t):=⟨Zph hc.h (od n) hm hv ha.h he hpl⟩
theorem Y4{o:Expr}{to:TE}{t:TA}{name:Str}{apos cpos:Pos}{T id:String}{r:V->List V->Hp->VK->Prop}(pa:PlainAttrs T)(slot:Slot T name id)(hty:typeOf (.builtin id)=pure (.type "method_descriptor"))(hm:QM X id r)(ho:QE X o to)(ha:QA X (e::es) t)(hbase:attributeBase o name X.env (eval o X.env)=eval o X.env:=by rfl)(hfew:((backTo cpos (starEach (e::es) X.env)).all (fun x=>!x.1) && (backToKw cpos (keywordEach [] X.env)).all (fun x=>x.1.isSome)
   && decide ((e::es).length+([]:List Keyword).length+(if ([]:List Keyword).isEmpty then 0 else 1) < 30))=true:=by rfl)(hline:(apos.endLine == cpos.line)=true:=by rfl)(hs:starEach (e::es) X.env=(false,eval e X.env)::starEach es X.env:=by rfl)(hplain:(backTo cpos (starEach es X.env)).any (·.1)=false:=by rfl) :
  QE X (.Call (.Attribute o name apos) (e::es) [] cpos) (tBM X.K T r to t):=⟨Zyd pa slot hty hm.h ho.h ha.h hbase hfew hline hs hplain⟩
theorem Vc:QOp X (binaryOp .Add) (rI0 fun i j=>.int (i+j)):=⟨Zwu⟩
theorem Zcn:QOp X (binaryOp .Sub) (rI0 fun i j=>.int (i - j)):=⟨Zwv⟩
theorem Zkf:QOp X (binaryOp .Mult) (rI CMul fun i j=>.int (i * j)):=⟨Zww⟩
theorem Zfh:QOp X (binaryOp .FloorDiv) (rI Zib fun i j=>.int (i / j)):=⟨Zue⟩
theorem Zbv:QOp X (binaryOp .Mod) (rI (fun _ j=>0 < j) fun i j=>.int (i % j)):=⟨Zwx⟩
theorem Zu9:QOp X (binaryOp .Pow) (rI Zic fun i j=>.int (i ^ j.toNat)):=⟨Zwy⟩
theorem Zfp:QUn X (unaryOp .USub) (rU fun i=>.int (-i)):=⟨Zxg⟩
def Zyj(g:Str->Str->V):R2:=fun x y H Q=>∃i j,x = .str i/\y = .str j/\Q (g i j) H
theorem Zi4:QOp X (compareOp .LtE) (Zyj fun i j=>.bl (!decide (j.cps.toList < i.cps.toList))):=⟨Zrb⟩
def Zyk:R2:=fun x y H Q=>∃i j,x = .str i/\y = .str j/\i.length+j.length<=sizeLine/\Q (.str (i++j)) H
theorem Zcf:QOp X (binaryOp .Add) Zyk:=⟨Zo8⟩
theorem Wk:QOp X (binaryOp .Add) rCat:=⟨Zxa⟩
theorem Zva:QOp X (binaryOp .Mult) rRep:=⟨Zxb⟩
theorem Wl:QOp X (compareOp .Eq) rEq:=⟨Zx7⟩
theorem Uk:QOp X (compareOp .Lt) (rI0 fun i j=>.bl (decide (i < j))):=⟨Zx8⟩
theorem Wf:QOp X (compareOp .LtE) (rI0 fun i j=>.bl (decide (i<=j))):=⟨Zx9⟩
theorem Zk7:QOp X (compareOp .Gt) (rI0 fun i j=>.bl (decide (j < i))):=⟨Zya⟩
theorem Zaq:QOp X (compareOp .GtE) (rI0 fun i j=>.bl (decide (j<=i))):=⟨Zyb⟩
def Zyl:R2:=fun x y H Q=>y = .non/\Q (.bl (!decide (x = .non))) H
theorem Zbf:QOp X (compareOp .IsNot) Zyl:=⟨Zui⟩
theorem Ziv:QOp X (compareOp .NotIn) (rIn X.K true):=⟨Zoq⟩
theorem Yx:QIx X (rIxL X.K):=⟨Zut⟩
theorem Zx:QIx X (rIxT X.K):=⟨Zw5⟩
theorem Zfq:QIx X rIxS:=⟨Zw6⟩
theorem Zdg:QSl X (rSlL X.K):=⟨Zuu⟩
def Z07:V->Option Int->Option Int->Hp->VK->Prop:=fun x lo hi H Q=>∃z,x = .str z/\z.length<=sizeLine/\Q (.str (Txt.slice z lo hi)) H
theorem Zdl:QSl X Z07:=⟨Zxe⟩
inductive rLenSeq (K:uFg) (xs:List V) (H:Hp) (Q:VK):Prop
 | mk (p ys) (h0:xs = [.ref p]) (h1:(SqL K H p ys\/SqT K H p ys)) (h2:Q (.int ys.length) H)
theorem Wm:QC X (.builtin "len") (rLenSeq X.K):=.imp ⟨Zor⟩ fun _ _ _ ⟨p,y,a,b,k⟩=>⟨p,y,a,b,k⟩
def Zym:List V->Hp->VK->Prop:=fun xs H Q=>∃z,xs = [.str z]/\z.length<=sizeLine/\Q (.int z.length) H
theorem Zen:QC X (.builtin "len") Zym:=⟨Zos⟩
def Zyn:List V->Hp->VK->Prop:=fun xs H Q=>∃i j,xs = [.int i,.int j]/\Q (.int (if j > i then j else i)) H
def Zyo:List V->Hp->VK->Prop:=fun xs H Q=>∃i j,xs = [.int i,.int j]/\Q (.int (if j < i then j else i)) H
theorem Zpj(hc:X.calm=true):QC X (.builtin "max") Zyn:=⟨Zqp hc⟩
theorem Zpk(hc:X.calm=true):QC X (.builtin "min") Zyo:=⟨Zqq hc⟩
def Z08(K:uFg):List V->Hp->VK->Prop:=fun xs H Q=>∃(a:Addr)(bs:List Bool),xs = [.ref a]/\SqL K H a (bs.map V.bl)/\Q (.bl (bs.all id)) H
theorem Zrf(hc:X.calm=true):QC X (.builtin "all") (Z08 X.K):=⟨Zsy hc⟩
def Z09(K:uFg):List V->Hp->VK->Prop:=fun xs H Q=>∃(a:Addr)(ns:List Int),xs = [.ref a]/\SqL K H a (ns.map V.int)/\(∀n∈ns,-1000000000<=n/\n<=1000000000)/\ns.length<=1000000/\Q (.int ns.sum) H
theorem Zjm(hc:X.calm=true):QC X (.builtin "sum") (Z09 X.K):=⟨Zsz hc⟩
inductive rListOf (K:uFg) (xs:List V) (H:Hp) (Q:VK):Prop
 | mk (p ys) (h0:xs = [.ref p]) (h1:(SqL K H p ys\/SqT K H p ys)) (h2:∀l,H l=none->Q (.ref l) (upd H l (.lst ys)))
theorem Za2:QC X (.type "list") (rListOf X.K):=.imp ⟨Zot⟩ fun _ _ _ ⟨p,y,a,b,k⟩=>⟨p,y,a,b,k⟩
def Zyp(K:uFg):V->List V->Hp->VK->Prop:=fun x xs H Q=>∃sep a ys,x = .str sep/\xs = [.ref a]/\SqL K H a (ys.map V.str)/\(ys.map (·.length)).sum+ys.length * sep.length<=16777216/\Q (.str (Txt.join sep ys)) H
theorem Zs9:QM X "str.join" (Zyp X.K):=⟨Zu5⟩
theorem Wg:QM X "list.append" rAppend:=⟨Zqu⟩
theorem Zrg:QM X "list.pop" rPopAt:=⟨Zso⟩
end
section
variable{g:TG}{tb:TS}{D:Ends}{σ:St}{H:Hp}
theorem Zer{lo:Int}{n:Nat}(m:Nat)(hm:n=m)(Pv:Nat->St->Hp->Prop)(h0:Pv 0 σ H)(hs:∀i σ H,i < m->Pv i σ H->g (.int (lo+i)) σ H fun σ2 H2=>tb {D with nx:=Pv (i+1),ct:=Pv (i+1),bk:=D.nx } σ2 H2)(hd:∀ σ H,Pv m σ H->D.nx σ H):Zb2 (Itr lo n) g tb D σ H:=by
 subst hm
 exact Zqo Pv h0 hs hd
theorem Zar{K:uFg}{a:Addr}(xs:List V)(Pv:Nat->St->Hp->Prop)(h0:Pv 0 σ H)(hl:∀i σ H,i<=xs.length->Pv i σ H->SqL K H a xs)(hs:∀i x σ H,xs[i]? = some x->Pv i σ H->g x σ H fun σ2 H2=>tb {D with nx:=Pv (i+1),ct:=Pv (i+1),bk:=D.nx } σ2 H2)(hd:∀ σ H,Pv xs.length σ H->D.nx σ H):Zb2 (Itl K a) g tb D σ H:=Zsb Pv h0 hl hs hd
end
section
variable{X:Cx}{tg elt iter:Expr}{ifs:List Expr}{scope:Scope}{pos:Pos}{locs:List Str}{fr:List (Str×Nat)}{g:TG}{tt:TTs}{te:TE}
theorem Zbw:QTs X [] (fun _ H Q=>Q true H):=⟨Zu2⟩
theorem Zfr{c:Expr}{t:TT}(h:QT X c t):QTs X [c] t:=⟨Zu3 h.h⟩
structure Inn (X:Cx) (scope:Scope) (N':List Str) (tg:Expr) (ifs:List Expr) (elt:Expr) (g:TG) (tt:TTs) (te:TE):Prop where
 h:∀(cl:List (Str×Addr))(C:Addr)(s0:Shared)(H0:Hp)(ex:List Addr)(pn:List (Addr×Obj)),QG (ccx X scope cl C N' s0 H0 ex pn) tg g/\QTs (ccx X scope cl C N' s0 H0 ex pn) ifs tt/\QE (ccx X scope cl C N' s0 H0 ex pn) elt te
theorem Uu{wi:TI}(S:CompOk X scope locs fr)(F:FrOk X scope fr)(hc:X.calm=true)(hi:QI X tg iter wi)(inner:Inn X scope (inN locs fr) tg ifs elt g tt te)(hs:∀x,foldedSetIterable iter X.env x=pure x:=by intro _;rfl):QE X (.ListComp elt [⟨tg,iter,ifs,0⟩] scope pos) (Zl0 locs.length fr wi g tt te) :=
 ⟨Zsw S F hc hi.h (fun cl C s0 H0 ex pn=>let ⟨a,b,c⟩:=inner.h cl C s0 H0 ex pn;⟨a.h,b.h,c.h⟩) hs⟩
end
section
variable{X:Cx}{scope:Scope}{cl:List (Str×Addr)}{C:Addr}{N':List Str}{s0:Shared}{H0:Hp}{ex:List Addr}{pn:List (Addr×Obj)}{x:Str}{pos:Pos}
theorem V5(i:Nat)(n:Nm scope x .local:=by decide +kernel)(hN:N'[i]? = some x:=by rfl):QE (ccx X scope cl C N' s0 H0 ex pn) (.Name x pos) (tVar i):=⟨Z03 i n hN⟩
theorem Za3(i:Nat)(n:Nm scope x .free:=by decide +kernel)(hN:N'[i]? = some x:=by rfl):QE (ccx X scope cl C N' s0 H0 ex pn) (.Name x pos) (tVar i):=⟨Z04 i n hN⟩
theorem Vv(i:Nat)(hnd:N'.Nodup)(n:Nm scope x .local:=by decide +kernel)(hN:N'[i]? = some x:=by rfl):QG (ccx X scope cl C N' s0 H0 ex pn) (.Name x pos) (Wp i):=⟨Z05 i hnd n hN⟩
end
section
variable{P:Program}{w:World}{K:uFg}{mg:Str->Option Value}{base:Heap}
theorem Has.fnQ{x:Str}{st:Stmt}{N ps:List Str}{k:Nat}{sp:Sp}(h:Has K mg x st)(S:FnScope N ps (Zm st))(hb:∀ (kV doc pm:Value) (an:Option Addr) (cdv ct:Value) (us:List Value),us.length=ps.length->bindArgs (PySem.W.fnOf x x (Wh st) (Yi st) (Zm st) .none kV doc pm an cdv ct) ⟨us,[]⟩=pure (ps.zip us))(len:∀vs H Q E,sp vs H Q E->vs.length=ps.length)(hbody:∀ (f:Addr) (cdv:Value) (A:Around) (outer:List Env) (s:Shared) (H:Hp) (vs:List V) (Q:VK) (E:XK),Room k (A.deeper (envOfC x (Zm st) s.heap.objs.size f cdv))->sp vs H Q E ->
   ∃t,QSs (Yu CX0 P w K mg base N x (Zm st) f cdv A outer s H E).nox (Yi st) t/\t {nx:=fun _ H'=>Q .non H',rt:=Q } (start N vs) H):Fn P w K mg base x ps (k+1) sp :=
 h.fn S hb len fun f cdv A outer s H vs Q E hr q=>let ⟨t,a,b⟩:=hbody f cdv A outer s H vs Q E hr q;⟨t,a.h,b⟩
theorem Zcv{k:Nat}{e:Env}(h:k<=60):Room k (({}:Around).deeper e) :=
 Room.deeper (Room.mono (k:=61) ⟨rfl,by decide,by decide⟩ (by lia)) e
theorem Has.fq{x:Str}{st:Stmt}{ps:List Str}{k:Nat}{sp:Sp}(h:Has K mg x st)(N:List Str)(hbody:∀{f:Addr}{cdv:Value}{A:Around}{outer:List Env}{s:Shared}(H:Hp) (vs:List V) (Q:VK) (E:XK),Room k (A.deeper (envOfC x (Zm st) s.heap.objs.size f cdv))->sp vs H Q E->vs.length=ps.length/\∃t,QSs (Yu CX0 P w K mg base N x (Zm st) f cdv A outer s H E).nox (Yi st) t/\t {nx:=fun _ H'=>Q .non H',rt:=Q } (start N vs) H)(S:FnScope N ps (Zm st):=by exact fsc)(hk:k<=60:=by decide)(hb:∀ (kV doc pm:Value) (an:Option Addr) (cdv ct:Value) (us:List Value),us.length=ps.length->bindArgs (PySem.W.fnOf x x (Wh st) (Yi st) (Zm st) .none kV doc pm an cdv ct) ⟨us,[]⟩=pure (ps.zip us):=by exact fun _ _ _ _ _ _=>by first | exact al1 fun _=>rfl | exact al2 fun _ _=>rfl | exact al3 fun _ _ _=>rfl | exact al4 fun _ _ _ _=>rfl | exact al5 fun _ _ _ _ _=>rfl | exact al6 fun _ _ _ _ _ _=>rfl | exact al7 fun _ _ _ _ _ _ _=>rfl | exact al8 fun _ _ _ _ _ _ _ _=>rfl):Fn P w K mg base x ps (k+1) sp :=
 h.fnQ S hb (fun vs H Q E h=>(hbody (f:=0) (cdv:=.none) (A:={}) (outer:=[]) (s:={}) H vs Q E (Zcv hk) h).1) fun _ _ _ _ _ H vs Q E hr q=>(hbody H vs Q E hr q).2
end
end L2
namespace L2
open PySem PySem.Spec PyProof.Rows
theorem Zi5{a b:Nat}:(([a]:List Nat) < [b])↔a < b:=by
 constructor
 ·intro h
  rcases List.cons_lt_cons_iff.mp h with z | ⟨_,z⟩
  ·exact z
  ·exact absurd z (by simp)
 ·intro h
  exact List.cons_lt_cons_iff.mpr (.inl h)
end L2
namespace L2
theorem Y5{i:Nat}{v:V}{σ:St}{H:Hp}{Q:St->Hp->Prop}(h:Q (σ.set i (some v)) H):Wp i v σ H Q:=h
end L2
namespace L2
open PySem PySem.Spec PyProof.Rows
theorem Fun.okQ{P:Program}{w:World}{K:uFg}{mg:Str->Option Value}{base:Heap}{x qual:Str}{st:Stmt}{f:Addr}{fd:FuncData}{N ps:List Str}{k:Nat}{sp:Sp}(F:Fun K x qual st f fd)(S:FnScope N ps (Zm st))(len:∀vs H Q E,sp vs H Q E->vs.length=ps.length)(hbody:∀ (cdv:Value) (A:Around) (outer:List Env) (s:Shared) (H:Hp) (vs:List V) (Q:VK) (E:XK),Room k (A.deeper (envOfC qual (Zm st) s.heap.objs.size f cdv))->sp vs H Q E ->
   ∃t,QSs (Yu CX0 P w K mg base N qual (Zm st) f cdv A outer s H E).nox (Yi st) t/\t {nx:=fun _ H'=>Q .non H',rt:=Q } (start N vs) H):FnOk P w K mg base CX0 (k+1) f fd ps sp :=
 F.ok S len fun cdv A outer s H vs Q E hr q=>let ⟨t,a,b⟩:=hbody cdv A outer s H vs Q E hr q;⟨t,a.h,b⟩
def Zdz(K:uFg):Sp:=fun vs H Q _=>∃(a:Addr)(ns:List Int),vs = [.ref a]/\SqL K H a (ns.map V.int)/\ns.length<=63/\∀H',Q (.bl true) H'
theorem walkLaw{l:PySem.W.OpenLaw}{q:Program}{loose:List Str}{XP:(Str->Option Value)->Heap->Prop}{YP:World->Heap->Prop}{d:DefRec}{K:Params->uFg}(hn:l.most=some 63)(hdf:d.params.defaults = [])(hY:∀ (w:World) (h:Heap),YP w h->(K w.params).In h)(F:∀ (w:World) (mg:Str->Option Value) (fa:Addr) (h:Heap),(K w.params).In h->h.Ns mainGlobals mg->mg d.name=some (.ref fa)->
   ∃fd:FuncData,(∀ (s:Shared) (u:Value),BindsTo s fd ⟨[u],[]⟩ [("_law_script", u)])/\∀base:Heap,(K w.params).In base->base.Ns mainGlobals mg->FnOk l.prog w (K w.params) mg base CX0 40 fa fd ["_law_script"] (Zdz (K w.params))) :
  PySem.W.WalkO q loose XP YP l.row.toRowW d [] (fun f vs=>PySem.call f vs) :=
 L2.walk_of (n:=63) (k:=40) (x:="_law_script") (CX:=fun _=>CX0) (sp:=fun w=>Zdz (K w.params)) hn (by decide) hdf ⟨rfl,by decide,by decide⟩ hY F (fun _ _ a ns hl _ hS=>⟨a,ns,rfl,hS,hl,fun _=>rfl⟩) fun _ _ _ _ _ z=>z
end L2
namespace L2
open PySem PySem.Spec PyProof.Rows
section
variable{X:Cx}{scope:Scope}{cl:List (Str×Addr)}{C:Addr}{N':List Str}{s0:Shared}{H0:Hp}{ex:List Addr}{pn:List (Addr×Obj)}{x:Str}{pos:Pos}{es:List Expr}{k:Nat}{t:TGs}
theorem Zdm(n:Nat)(hc:X.calm=true)(h:QGs (ccx X scope cl C N' s0 H0 ex pn) es t)(hn:(assignEach es (ccx X scope cl C N' s0 H0 ex pn).env).length=n:=by rfl)(hst:(assignEach es (ccx X scope cl C N' s0 H0 ex pn).env).findIdx? (·.1)=none:=by rfl) :
  QG (ccx X scope cl C N' s0 H0 ex pn) (.Tuple es k pos) (gTup X.K n t):=⟨Zku (X:=ccx X scope cl C N' s0 H0 ex pn) hc h.h hn hst⟩
end
end L2
end
section
namespace L2
open PySem PySem.Spec PyProof.Rows
def Lik(a b:Value):Prop:=a=b\/∃c t u,a = .str c t/\b = .str c u
structure Drw (P:Program) (w:World) (it l:Addr) (St:Nat->Heap->Prop) (Hs:Heap->List Value->Prop):Prop where
 obj:∀k h,St k h->∃o,h.get? it=some o/\∀v,o.data ≠ .cell v
 keep:∀k h h',St k h->(∀o,h.get? it=some o->h'.get? it=some o)->St k h'
 src:∀h h' its,Hs h its->(∀o,h.get? l=some o->h'.get? l=some o)->Hs h' its
 item:∀(A:Around)(k:Nat)(s:Shared)(its:List Value)(x:Value)(Q:Value->Shared->Prop)(E:Value->Shared->Prop),St k s.heap->Hs s.heap its->its[k]? = some x ->
  (∀x' h' tk,Lik x x'->St (k+1) h'->Heap.SameBut it s.heap h'->Q x' {s with heap:=h',toks:=tk })->wpAny (model P w) A (Builtin.SmallTypes.nextOf (.ref it)) Q E s
 done:∀(A:Around)(k:Nat)(s:Shared)(its:List Value)(Q:Value->Shared->Prop)(E:Value->Shared->Prop),A.handled=none->St k s.heap->Hs s.heap its->its[k]? = none ->
  (∀h' e,Heap.ExtBut it s.heap h'->(∃o,h'.get? e=some o/\o.cls = .type "StopIteration")->E (.ref e) {s with heap:=h' })->wpAny (model P w) A (Builtin.SmallTypes.nextOf (.ref it)) Q E s
section
variable{P:Program}{w:World}{A:Around}{E:Value->Shared->Prop}{s:Shared}
end
structure ZA (z TI TO i1 i2 l1 l2:Addr):Prop where
 a1:TI≠z
 a2:TO≠z
 a3:i1≠z
 a4:i2≠z
 a5:TI≠TO
 a6:TI≠i1
 a7:TI≠i2
 a8:TO≠i1
 a9:TO≠i2
 a10:i1≠i2
 b1:l1≠z
 b2:l1≠TO
 b3:l1≠i1
 b4:l1≠i2
 b5:l2≠z
 b6:l2≠TO
 b7:l2≠i1
 b8:l2≠i2
section
variable{P:Program}{w:World}{A:Around}{E:Value->Shared->Prop}{s:Shared}{z TI TO i1 i2 l1 l2:Addr}{S1 S2:Nat->Heap->Prop}{H1 H2:Heap->List Value->Prop}{k:Nat}{xs ys:List Value}{x y a b:Value}
end
structure SqK (sq:uFg->Hp->Addr->List V->Prop) (Hs:Addr->Heap->List Value->Prop):Prop where
 get:∀{X:Cx}{pins:List (Addr×Obj)}{σ:St}{H:Hp}{s:Shared}{l:Addr}{xs:List V},Inv X pins σ H s->sq X.K H l xs->∃its,Vals xs its/\Hs l s.heap its
 inj:∀{X:Cx}{pins:List (Addr×Obj)}{σ:St}{H:Hp}{s:Shared}{l:Addr}{xs ys:List V},Inv X pins σ H s->sq X.K H l xs->sq X.K H l ys->xs=ys
section
variable{P:Program}{w:World}{A:Around}{E:Value->Shared->Prop}{s:Shared}
end
end L2
end
section
namespace L2
open PySem PySem.Spec PyProof.Rows
inductive D where
 | non | bl (b:Bool) | int (i:Int) | str (x:Str) | tup (xs:List D) | lst (xs:List D)
mutual
def Rep(H:Hp):D->V->Prop
 | .non,v=>v = .non
 | .bl b,v=>v = .bl b
 | .int i,v=>v = .int i
 | .str x,v=>v = .str x
 | .tup ds,v=>∃a vs,v = .ref a/\H a=some (.tup vs)/\RepL H ds vs
 | .lst ds,v=>∃a vs,v = .ref a/\H a=some (.lst vs)/\RepL H ds vs
def RepL(H:Hp):List D->List V->Prop
 | [],vs=>vs = []
 | d::ds,vs=>∃v r,vs=v::r/\Rep H d v/\RepL H ds r
end
mutual
theorem Rep.mono{H H':Hp}(k:Same H H'):∀(d:D)(v:V),Rep H d v->Rep H' d v
 | .non,v,h=>h
 | .bl b,v,h=>h
 | .int i,v,h=>h
 | .str x,v,h=>h
 | .tup ds,v,h=>by
  obtain⟨a,vs,e,h1,h2⟩:=h
  exact⟨a,vs,e,k _ _ h1,RepL.mono k ds vs h2⟩
 | .lst ds,v,h=>by
  obtain⟨a,vs,e,h1,h2⟩:=h
  exact⟨a,vs,e,k _ _ h1,RepL.mono k ds vs h2⟩
theorem RepL.mono{H H':Hp}(k:Same H H'):∀(ds:List D)(vs:List V),RepL H ds vs->RepL H' ds vs
 | [],vs,h=>h
 | d::ds,vs,h=>by
  obtain⟨v,r,e,h1,h2⟩:=h
  exact⟨v,r,e,Rep.mono k d v h1,RepL.mono k ds r h2⟩
end
theorem RepL.length{H:Hp}:∀{ds:List D}{vs:List V},RepL H ds vs->vs.length=ds.length
 | [],vs,h=>by cases h;rfl
 | d::ds,vs,h=>by
  obtain⟨v,r,rfl,h1,h2⟩:=h
  rw[xU,xU,RepL.length h2]
theorem RepL.get{H:Hp}:∀{ds:List D}{vs:List V}{i:Nat}{v:V},RepL H ds vs->vs[i]? = some v->∃d,ds[i]? = some d/\Rep H d v
 | [],vs,i,v,h,e=>by cases h;simp at e
 | d::ds,vs,i,v,h,e=>by
  obtain⟨w,r,rfl,h1,h2⟩:=h
  cases i with
  | zero=>simp at e;subst e;exact⟨d,rfl,h1⟩
  | succ i=>simp at e;exact RepL.get (i:=i) h2 e
theorem RepL.snoc{H:Hp}{d:D}{v:V}(hd:Rep H d v):∀{ds:List D}{vs:List V},RepL H ds vs->RepL H (ds ++ [d]) (vs ++ [v])
 | [],vs,h=>by cases h;exact⟨v,[],rfl,hd,rfl⟩
 | e::ds,vs,h=>by
  obtain⟨w,r,rfl,h1,h2⟩:=h
  exact⟨w,r ++ [v],rfl,h1,RepL.snoc hd h2⟩
mutual
def Zbg:D->D->Bool
 | .non,.non=>true
 | .bl a,.bl b=>a == b
 | .int a,.int b=>a == b
 | .str a,.str b=>a == b
 | .tup a,.tup b=>Zcw a b
 | .lst a,.lst b=>Zcw a b
 | _,_=>false
def Zcw:List D->List D->Bool
 | [],[]=>true
 | a::r,b::s=>Zbg a b && Zcw r s
 | _,_=>false
end
mutual
theorem Zpl:∀d:D,Zbg d d=true
 | .non=>rfl
 | .bl _=>by simp[Zbg]
 | .int _=>by simp[Zbg]
 | .str _=>by simp[Zbg]
 | .tup ds=>by rw[Zbg];exact Zes ds
 | .lst ds=>by rw[Zbg];exact Zes ds
theorem Zes:∀ds:List D,Zcw ds ds=true
 | []=>rfl
 | d::ds=>by rw[Zcw,Zpl d,Zes ds];rfl
end
mutual
def D.deep:D->Nat
 | .tup ds=>Zf8 ds+1
 | .lst ds=>Zf8 ds+1
 | _=>0
def Zf8:List D->Nat
 | []=>0
 | d::ds=>max d.deep (Zf8 ds)
end
end L2
namespace L2
theorem RepL.mono'{H H':Hp}{ds:List D}{vs:List V}(h:RepL H ds vs)(k:Same H H'):RepL H' ds vs:=RepL.mono k ds vs h
end L2
end
section
namespace L2
open PySem PySem.Spec PyProof.Rows
section
def Itd(lo:Int)(n:Nat):It:=⟨fun i _=>i < n,fun i H x H'=>H'=H/\x = .int (lo - i),fun i _=>n<=i⟩
theorem Zrh{P:Program}{w:World}{K:uFg}{tg:Expr}(it:Addr)(lo:Int)(n:Nat):Turn P w K tg (Itd lo n) [it] it (fun i h=>IsRangeIter h it (lo+(i:Nat) * (-1)) ((n:Int) - (i:Nat)) (-1)) where
 mem:=by simp
 obj:=fun i h st b hb=>by
  have e:b=it:=by simpa using hb
  subst e
  exact⟨_,st,fun v z=>by
   have z':Data.fields _=Data.cell v:=z
   cases z'⟩
 keep:=fun i h h' st k=>k it (by simp) _ st
 item:=by
  intro X hP hw hK hc i pins s σ H E I hf st hg
  subst hP hw hK
  obtain⟨f0,f1,f2,f3,f4,f5⟩:=hf it (by simp)
  have W:=Walks.range (prog:=X.prog) (w:=X.w) (I.ok.hd hc) it lo (-1) n
  refine W.item i s _ _ hg st fun v h' tk hv st' kk=>?_
  obtain⟨t,rfl⟩:=hv
  have I1:Inv X pins σ H {s with heap:=h',toks:=tk }:=I.turned (fun b o hb e=>kk b o (by simpa using hb) e) f0 f1 f3 f4 f5
  refine⟨_,rfl,Zcu (s:={s with heap:=h',toks:=tk }) (n:="range_iterator") st' rfl rfl (by decide) ⟨.int (lo - i),H,I1,⟨t,?_⟩,⟨rfl,rfl⟩,st',fun b hb=>(hf b hb).1⟩⟩
  have e:lo+(i:Int) * (-1)=lo - i:=by lia
  rw[e]
 done:=by
  intro X hP hw hK hc i pins s σ H E I hf st hg
  subst hP hw hK
  obtain⟨f0,f1,f2,f3,f4,f5⟩:=hf it (by simp)
  exact wpAny_pyNext_range_end (I.ok.hd hc) st (by have:n<=i:=hg;lia) fun h' eb=>⟨rfl,I.turned (t':=s.toks) (fun b o hb e=>eb b o hb e) f0 f1 f3 f4 f5⟩
 self:=fun _ _ _ _ _ st h=>wpAny_pyIter_rangeiter st h
section
variable{X:Cx}{tg:Expr}
theorem Zri{pins:List (Addr×Obj)}{σ:St}{H:Hp}{s:Shared}{R:It->Hp->Prop}{E:Value->Shared->Prop}{lo hi:Int}{t u v:Tok}{tk:Nat}(I:Inv X pins σ H s)(h1 : -(2 ^ 62)<=lo)(h2:lo < 2 ^ 62)(h3 : -(2 ^ 62)<=hi)(h4:hi < 2 ^ 62)(q:R (Itd lo (lo - hi).toNat) H):wpAny (model X.prog X.w) X.A (pyIter (.ref s.heap.objs.size)) (PIE X pins σ tg R) E {s with heap:=s.heap.push {cls:=.type "range", data:=.fields #[.int lo t,.int hi u,.int (-1) v] },toks:=tk }:=by
 refine wpAny_pyIter_range (IsRange.new ..) (PySem.W.small_down h1 h2 h3 h4) ?_
 have I1:Inv X pins σ H {s with heap:=s.heap.push {cls:=.type "range", data:=.fields #[.int lo t,.int hi u,.int (-1) v] },toks:=tk }:=I.kept fun b o e=>xF _ e
 refine⟨(s.heap.push {cls:=.type "range", data:=.fields #[.int lo t,.int hi u,.int (-1) v] }).objs.size,[(s.heap.push {cls:=.type "range", data:=.fields #[.int lo t,.int hi u,.int (-1) v] }).objs.size],_,_,H,rfl,
  I1.kept (t':=tk) fun b o e=>xF _ e,Zrh _ lo (lo - hi).toNat,?_,fun b hb=>?_,q⟩
 ·have e1:lo+((0:Nat):Int) * (-1)=lo:=by simp
  have e2:(((lo - hi).toNat:Nat):Int) - ((0:Nat):Int)=Builtin.Range.rangeSize lo hi (-1):=by rw[PySem.W.rangeSize_downNat];lia
  show IsRangeIter _ _ (lo+((0:Nat):Int) * (-1)) ((((lo - hi).toNat:Nat):Int) - ((0:Nat):Int)) (-1)
  rw[e1,e2]
  exact xW _ rfl
 ·have e:b=(s.heap.push {cls:=.type "range", data:=.fields #[.int lo t,.int hi u,.int (-1) v] }).objs.size:=by simpa using hb
  subst e
  exact I1.fpOk (xE _) (I1.hok.fresh (xE _))
inductive iRngD_ (R:It->Hp->Prop) (vs:List V) (H1:Hp):Prop
 | mk (i j:Int) (h0:vs = [.int i,.int j,.int (-1)]) (h1:(-(2 ^ 62)<=i/\i < 2 ^ 62 /\ -(2 ^ 62)<=j/\j < 2 ^ 62)) (h2:R (Itd i (i - j).toNat) H1)
def Zl6(ta:TA):TI:=fun σ H R=>ta σ H fun vs H1=>iRngD_ R vs H1
theorem Zou{a b c:Expr}{ta:TA}{p pos:Pos}(hg:Gl X "range")(hm:X.mg "range" = none)(ha:PA X [a,b,c] ta)(hs:starEach [a,b,c] X.env=(false,eval a X.env)::starEach [b,c] X.env:=by rfl)(hs2:(backTo pos (starEach [b,c] X.env)).any (·.1)=false:=by rfl) :
  PI X tg (.Call (.Name "range" p) [a,b,c] [] pos) (Zl6 ta):=by
 intro pins s σ H R I h
 refine Call_ (Ug I hg hm boot_range (PyProof.Rows.callWith_type1 (thn (ha pos pins s σ H _ I h) fun us s1 ⟨vs,H1,I1,r1,q1⟩=>?_) hs hs2))
 obtain⟨i,j,e,⟨q1,q2,q3,q4⟩,q⟩:=q1
 subst e
 cases r1 with
 | cons r rr =>
  cases rr with
  | cons r' rr =>
   cases rr with
   | cons r'' rr =>
    cases rr
    obtain⟨t,rfl⟩:=r
    obtain⟨t',rfl⟩:=r'
    obtain⟨t'',rfl⟩:=r''
    exact call_range_3 (by decide) (Zri I1 q1 q2 q3 q4 q) (.inl (PyProof.noPylong_small (by decide)))
theorem Zov{a b c:Expr}{ta:TA}{p pos:Pos}(hm:X.mg "range" = none)(ha:QA X [a,b,c] ta)(hg:nB X "range" .globalImplicit:=by kernel_rfl)(hs:starEach [a,b,c] X.env=(false,eval a X.env)::starEach [b,c] X.env:=by rfl)(hs2:(backTo pos (starEach [b,c] X.env)).any (·.1)=false:=by rfl) :
  QI X tg (.Call (.Name "range" p) [a,b,c] [] pos) (Zl6 ta):=⟨Zou (od hg).1 hm ha.h hs hs2⟩
end
section
variable{g:TG}{tb:TS}{D:Ends}{σ:St}{H:Hp}
theorem Zrj{lo:Int}{n:Nat}(m:Nat)(hm:n=m)(Pv:Nat->St->Hp->Prop)(h0:Pv 0 σ H)(hs:∀i σ H,i < m->Pv i σ H->g (.int (lo - i)) σ H fun σ2 H2=>tb {D with nx:=Pv (i+1),ct:=Pv (i+1),bk:=D.nx } σ2 H2)(hd:∀ σ H,Pv m σ H->D.nx σ H):Zb2 (Itd lo n) g tb D σ H:=by
 subst hm
 refine⟨fun i k σ H=>k=n - i/\i<=n/\Pv i σ H,⟨n,rfl,yL _,h0⟩,?_⟩
 rintro i k σ H ⟨rfl,hi,p⟩
 by_cases e:i < n
 ·refine .inr ⟨e,Pv (i+1),fun σ' H' p'=>⟨n - (i+1),by lia,rfl,by lia,p'⟩,?_⟩
  rintro x H' ⟨rfl,rfl⟩
  exact hs i σ H' e p
 ·have:i=n:=by lia
  subst this
  exact .inl ⟨xE _,hd σ H p⟩
end
section
variable{X:Cx}{o i value:Expr}{pos pos':Pos}{td ty tv:TE}
inductive rDNotIn (y:V) (x:V) (H:Hp) (Q:VK):Prop
 | mk (a o) (h0:x = .ref a) (h1:DGet H a y o) (h2:Q (.bl (!o.isSome)) H)
inductive rDIn (y:V) (x:V) (H:Hp) (Q:VK):Prop
 | mk (a o) (h0:x = .ref a) (h1:DGet H a y o) (h2:Q (.bl o.isSome) H)
theorem Zrk(hu:X.A.units+1 < cLine):OpR X (compareOp .NotIn) rDNotIn:=by
 intro pins s σ H y x iv u Q I ry rx ⟨a,ov,ex,g,q⟩
 subst ex
 obtain rfl:u=Value.ref a:=rx
 exact Zuw hu I g ry fun s3 I3=>⟨.bl (!ov.isSome),H,I3,rfl,q⟩
theorem Zxk(hu:X.A.units+1 < cLine):OpR X (compareOp .In) rDIn:=by
 intro pins s σ H y x iv u Q I ry rx ⟨a,ov,ex,g,q⟩
 subst ex
 obtain rfl:u=Value.ref a:=rx
 exact Z02 hu I g ry fun s3 I3=>⟨.bl ov.isSome,H,I3,rfl,q⟩
theorem Zet{k:Nat}(hr:Room k X.A):QOp X (compareOp .NotIn) rDNotIn:=⟨Zrk (by have:=hr.units;lia)⟩
theorem Zas{k:Nat}(hr:Room k X.A):QOp X (compareOp .In) rDIn:=⟨Zxk (by have:=hr.units;lia)⟩
theorem Zjz:QE X (.Dict [] [] pos) Zk1:=⟨Zss⟩
theorem Uv{k:Nat}(hr:Room k X.A)(ho:QE X o td)(hi:QE X i ty)(hv:QE X value tv)(hs:swapsWith value (some (.Subscript o i pos')) pos.line X.env=pure false:=by rfl) :
  QS X (.Assign [.Subscript o i pos'] value pos) (Zly td ty tv):=⟨Zuz (by have:=hr.units;lia) ho.h hi.h hv.h hs⟩
end
end
section
section
variable{X:Cx}
end
end
section
section
variable{X:Cx}
end
end
section
section
variable{prog:Program}{w:World}{K:Type} [DecidableEq K] {knd:HeapKind prog w K}{A:Around}{E:Value->Shared->Prop}{s:Shared}
theorem Zog{d a:Addr}{xs:List (K×Addr×Value)}{k:K}{v:Value}{Q:Value->Shared->Prop}(hu:knd.room A)(hkey:knd.is s.heap k a)(hm:s.heap.DictOfH knd d xs)(h1:∀p,atKey xs k=some p->Q p.2 {s with toks:=s.toks+knd.draws k })(h2:atKey xs k=none->∀h',h'.DictOfH knd d (storedH xs k a v)->Heap.SameBut d s.heap h'->Q v {s with heap:=h',toks:=s.toks+knd.draws k })(hsz:xs.length<=sizeLine):wpAny (model prog w) A (dictSetDefault d (.ref a) v) Q E s:=by
 obtain⟨o,es,ep,ho,hc,hd,he,his,hn⟩:=hm
 unfold dictSetDefault
 try with_reducible refine wpAny_holding ?_
 refine wpAny_bind (knd.pyHash hu hkey ?_)
 refine wpAny_bind (wpAny_dictFind_heap (s:={s with toks:=s.toks+knd.draws k }) hu hkey ho hd he his hn ?_ ?_)
 ·intro hno
  have hnot:k∉xs.map (·.1):=not_mem_keys_of_get hno
  refine wpAny_bind (wpAny_rule (wpAny_bind (wpAny_updateDictKeys (hz:=by have e:=size_of_entries he;lia) (s:={s with toks:=s.toks+knd.draws k }) ho hd (wpAny_pure (h2 (atKey_none_of_get hno) _ ⟨_,_,ep+1,Heap.get?_update_self _ ho (Obj.isFreed_of_dict (Obj.data_mapDictKeys hd _)),
   hc.mapDictKeys _,Obj.data_mapDictKeys hd _,?_,?_,?_⟩ (Heap.SameBut.update ..))))))
  ·rw[storedH_new (atKey_none_of_get hno)]
   simp[he,entryOfKey]
  ·rw[storedH_new (atKey_none_of_get hno)]
   intro x hx
   rcases xH.mp hx with hx | hx
   ·exact knd.keeps (his x hx) ho hd (Heap.SameBut.update ..)
   ·simp only[xI] at hx
    subst hx
    exact knd.keeps hkey ho hd (Heap.SameBut.update ..)
  ·rw[storedH_new (atKey_none_of_get hno)]
   rw[xQ,zR]
   refine⟨hn,by simp,?_⟩
   intro x hx y hy
   simp only[xV,List.map_nil,xI] at hy
   subst hy
   exact fun e=>hnot (e▸hx)
 ·intro j p hj
  refine wpAny_bind (wpAny_dictEntries (s:={s with toks:=s.toks+knd.draws k }) ho hd ?_)
  rw[entry_at he j,hj]
  exact wpAny_bind (wpAny_rule (wpAny_pure (h1 _ (atKey_of_get hn hj))))
theorem Zob(knd:HeapKind prog w K)(d a:Addr)(hd:(d == sysModules)=false)(dflt:Value) :
  MeetsIn prog w (Builtin.«dict.setdefault» ⟨[.ref d,.ref a,dflt],[]⟩) (fun A R s=>knd.room A.in1/\∃k xs,knd.is s.heap k a/\s.heap.DictOfH knd d xs/\xs.length<=sizeLine /\
   (∀p,atKey xs k=some p->R (.ok (.ret p.2)) {s with toks:=s.toks+knd.draws k })/\
   (atKey xs k=none->∀h',h'.DictOfH knd d (storedH xs k a dflt)->Heap.SameBut d s.heap h'->R (.ok (.ret dflt)) {s with heap:=h',toks:=s.toks+knd.draws k })) :=
 .of_wp fun A R s ⟨hu,k,xs,hkey,hm,hz,h1,h2⟩=>by
  unfold Builtin.«dict.setdefault»
  refine wpAny_bind ?_
  unfold Builtin.Dict.keyAndDefault
  refine wpAny_bind (wpAny_notOrdered_dict hm.typeIs ?_)
  show wpAny _ _ (pure (d,Value.ref a,some dflt)) _ _ s
  refine wpAny_pure ?_
  show wpAny _ _ (if (d == sysModules)=true then _ else (dictSetDefault d (.ref a) dflt >>= _)) _ _ s
  rw[if_neg (by rw[hd];exact xM)]
  exact wpAny_bind (Zog hu hkey hm (fun p hp=>wpAny_pure ⟨p.2,rfl,h1 p hp⟩) (fun hn h' hm' hs'=>wpAny_pure ⟨dflt,rfl,h2 hn h' hm' hs'⟩) hz)
end
section
variable{X:Cx}{pins:List (Addr×Obj)}{σ:St}{H:Hp}{s:Shared}{a b:Addr}{z:V}{r:Value}{kvs:List (List Key×V)}{k:List Key}{A:Around}{E:Value->Shared->Prop}
theorem Zta{Q:Value->Shared->Prop}(hu:A.units+1 < cLine)(I:Inv X pins σ H s)(e:H a=some (.dT kvs))(eb:H b=some (.tup (k.map kV)))(hl:kvs.length < sizeLine)(rz:RelV z r)(h1:∀v,Zt kvs k=some v->∀w' s',Inv X pins σ H s'->RelV v w'->Q w' s')(h2:Zt kvs k=none->∀s',Inv X pins σ (upd H a (.dT (Zw kvs k z))) s'->Q r s'):wpAny (model X.prog X.w) A (call (.builtin "dict.setdefault") [.ref a,.ref b,r]) Q E s:=by
 obtain⟨zl,hd,xs,rel,dd⟩:=Zlw I.hok e
 have hz:xs.length<=sizeLine:=by rw[← Paired.length rel];exact zl
 have hl':(Zw kvs k z).length<=sizeLine:=by have:=Vm kvs k z;lia
 refine call_meetsIn PySem.F.slot_dict_setdefault dd.typeIs PySem.F.entry_dict_setdefault (PySem.F.args_dict_setdefault_3 _ _ _) (Zob (tupleKind (Y0 X.prog X.w)) a b hd r) ⟨tupleKind_room_in1 hu,k,xs,Zba I.hok eb,dd,hz,fun p hp=>?_,fun hn h' dd' hs=>?_⟩
 ·have q:=rel.val k
  rw[hp,zV] at q
  cases hv:Zt kvs k with
  | none=>rw[hv] at q;cases q
  | some v=>rw[hv] at q;exact h1 v hv _ _ (I.tok _) q
 ·have q:=rel.val k
  rw[hn,Option.map_none] at q
  have hv:Zt kvs k=none:=by
   cases hv:Zt kvs k with
   | none=>rfl
   | some v=>rw[hv] at q;exact(show False from q).elim
  refine h2 hv _ ?_
  obtain⟨q,es,ep,hq,e2,e3,e4,_,e5⟩:=dd'
  refine Zdi I (by rw[e];exact True.intro) hs ⟨q,hq⟩ ⟨hl',hd,_,(rel.put k eb rz).keeps fun c ys ec=>?_,q,es,ep,hq,e2,e3,e4,e5⟩
  rw[Zc (Zlm ec e (fun z=>nomatch z))]
  exact ec
end
inductive tSetDef_ (ty:TE) (tx:TE) (σ:St) (Q:VK) (x:V) (H1:Hp):Prop
 | mk (a) (h0:x = .ref a) (h1:IsD H1 a) (h2:ty σ H1 fun y H2=>tx σ H2 fun z H3=>∃kvs k b,H3 a=some (.dT kvs)/\y = .ref b/\H3 b=some (.tup (k.map kV))/\kvs.length < sizeLine/\(∀v,Zt kvs k=some v->Q v H3)/\(Zt kvs k=none->Q z (upd H3 a (.dT (Zw kvs k z)))))
def Zkg(td ty tx:TE):TE:=fun σ H Q=>td σ H fun x H1=>tSetDef_ ty tx σ Q x H1
section
variable{X:Cx}{o e f:Expr}{apos cpos:Pos}{td ty tx:TE}{n:Nat}
theorem Zrl(hu:X.A.units+1 < cLine)(ho:PE X o td)(he:PE X e ty)(hf:PE X f tx)(m:M2 X o "setdefault" apos e f cpos):PE X (.Call (.Attribute o "setdefault" apos) [e,f] [] cpos) (Zkg td ty tx):=by
 intro pins s σ H Q I h
 refine wpAny_Call_method m.base m.few m.line PySem.F.plainAttrs_dict PySem.F.slot_dict_setdefault PySem.F.type_dict_setdefault (thn (ho pins s σ H _ I h) fun u s1 ⟨x,H1,I1,rx,a,ex,d,q1⟩=>?_)
 subst ex
 obtain rfl:u=Value.ref a:=rx
 obtain⟨t1,t2,_⟩:=Zk2 I1 d
 refine⟨t1,t2,?_⟩
 rw[m.trees]
 refine Calls.callWith_builtin rfl (Calls.evalArgs_plain (Calls.spliced_cons (thn (he pins s1 σ H1 _ I1 q1) fun iv s2 ⟨y,H2,I2,ry,q2⟩=>
  Calls.spliced_cons (thn (hf pins s2 σ H2 _ I2 q2) fun fv s3 ⟨z,H3,I3,rz,kvs,k,b,ea,ey,eb,hl,q3,q4⟩=>Calls.spliced_nil ?_))))
 subst ey
 obtain rfl:iv=Value.ref b:=ry
 exact Zta hu I3 ea eb hl rz (fun v hv w' s4 I4 rw'=>⟨_,_,I4,rw',q3 v hv⟩) fun hn s4 I4=>⟨_,_,I4,rz,q4 hn⟩
theorem Zrm(hr:Room n X.A)(ho:QE X o td)(he:QE X e ty)(hf:QE X f tx)(m:M2 X o "setdefault" apos e f cpos:=by exact⟨rfl,rfl,rfl,rfl⟩):QE X (.Call (.Attribute o "setdefault" apos) [e,f] [] cpos) (Zkg td ty tx):=⟨Zrl (by have:=hr.units;lia) ho.h he.h hf.h m⟩
theorem Zj0(hr:Room n X.A)(ho:QE X o td)(he:QE X e ty)(hf:QE X f tx)(m:M2 X o "get" apos e f cpos:=by exact⟨rfl,rfl,rfl,rfl⟩):QE X (.Call (.Attribute o "get" apos) [e,f] [] cpos) (Zk3 td ty tx):=⟨Zsu (by have:=hr.units;lia) ho.h he.h hf.h m⟩
theorem Zj1:∀(n:Nat)(acc:List Value)(k:Nat),acc.length=n->(∀j v,acc[j]? = some v->∃t,v=Value.int ((0:Int)+((k+j:Nat):Int) * 1) t)->Vals ((List.range' k n).map fun i:Nat=>V.int (i:Int)) acc
 | 0,[],_,_,_=>.nil
 | n+1,a::acc,k,hl,h=>by
  rw[List.range'_succ,xV]
  refine .cons ?_ (Zj1 n acc (k+1) (by simpa using hl) fun j v hj=>?_)
  ·obtain⟨t,rfl⟩:=h 0 a rfl
   exact⟨t,by rw[Int.mul_one,Int.zero_add];rfl⟩
  ·obtain⟨t,rfl⟩:=h (j+1) v (by simpa using hj)
   exact⟨t,by rw[show k+(j+1)=k+1+j by lia]⟩
inductive tLRng_ (Q:VK) (vs:List V) (H1:Hp):Prop
 | mk (n:Nat) (h0:vs = [.int n]) (h1:n<=1000000) (h2:∀l,H1 l=none->Q (.ref l) (upd H1 l (.lst ((List.range n).map fun i:Nat=>V.int (i:Int)))))
def Zl7(ta:TA):TE:=fun σ H Q=>ta σ H fun vs H1=>tLRng_ Q vs H1
theorem Zvb{a:Expr}{ta:TA}{p q pos pos':Pos}(hc:X.calm=true)(hgl:Nm X.env.scope "list" .globalImplicit)(hml:X.mg "list" = none)(hg:Gl X "range")(hm:X.mg "range" = none)(ha:PA X [a] ta)(hs:starEach [a] X.env = [(false,eval a X.env)]:=by rfl)(hs2:starEach [.Call (.Name "range" p) [a] [] pos] X.env = [(false,eval (.Call (.Name "range" p) [a] [] pos) X.env)]:=by rfl) :
  PE X (.Call (.Name "list" q) [.Call (.Name "range" p) [a] [] pos] [] pos') (Zl7 ta):=by
 intro pins s σ H Q I h
 refine wpAny_Call_Name_kw (Ug I hgl.1 hml boot_list ?_ hgl.2.2.2 hgl.2.1)
 refine PyProof.Rows.callWith_type1 ?_ hs2 rfl
 rw[hs2]
 refine Calls.spliced_cons ?_
 refine Call_ (Ug I hg hm boot_range (PyProof.Rows.callWith_type1 (thn (ha pos pins s σ H _ I h) fun us s1 ⟨vs,H1,I1,r1,n,e,hn,q1⟩=>?_) hs rfl))
 subst e
 cases r1 with
 | cons r rr =>
  cases rr
  obtain⟨t,rfl⟩:=r
  refine call_range_1 (Calls.spliced_nil ?_)
  have I2:Inv X pins σ H1 {s1 with heap:=s1.heap.push {cls:=.type "range", data:=.fields #[.int 0 s1.toks,.int (n:Int) t,.int 1 (s1.toks+1)] },toks:=s1.toks+1+1 }:=I1.kept fun b o e=>xF _ e
  refine call_list_range (n:=n) (I2.ok.hd hc) (IsRange.new ..) (small_one (by decide) (by decide) (by lia) (by lia)) (by rw[rangeSize_one];split<;>lia) (by lia) fun h' tk acc c' hk hS hacc=>?_
  refine⟨.ref _,_,I2.laid (t':=tk) (o:=.lst ((List.range n).map fun i:Nat=>V.int (i:Int))) hk (xE _) ⟨?_,acc.toList,c',?_,by rw[Array.toArray_toList];exact hS⟩,rfl,q1 _ (I2.hok.fresh (xE _))⟩
  ·rw[xA,zA]
   exact xS hn (by decide)
  ·rw[List.range_eq_range']
   exact Zj1 n acc.toList 0 (by rw[Array.length_toList];exact hacc.1) fun j v e=>by
    obtain⟨t,ht⟩:=hacc.2 j v (by rw[← zL];exact e)
    exact⟨t,by rw[ht,Nat.zero_add]⟩
theorem Zvc{a:Expr}{ta:TA}{p q pos pos':Pos}(hc:X.calm=true)(hgl:Nm X.env.scope "list" .globalImplicit)(hml:X.mg "list" = none)(hg:Gl X "range")(hm:X.mg "range" = none)(ha:QA X [a] ta)(hs:starEach [a] X.env = [(false,eval a X.env)]:=by rfl)(hs2:starEach [.Call (.Name "range" p) [a] [] pos] X.env = [(false,eval (.Call (.Name "range" p) [a] [] pos) X.env)]:=by rfl) :
  QE X (.Call (.Name "list" q) [.Call (.Name "range" p) [a] [] pos] [] pos') (Zl7 ta):=⟨Zvb hc hgl hml hg hm ha.h hs hs2⟩
end
end
section
theorem Vd{X:Cx}{st:Stmt}:QS X st (fun _ _ _=>False):=⟨fun _ _ _ _ _ _ h=>h.elim⟩
end
section
def Ite(K:uFg)(l:Addr):It :=
 ⟨fun i H=>∃xs,SqL K H l xs/\i < xs.length,fun i H v H'=>∃p a,v = .ref p/\H p=none/\H'=upd H p (.tup [.int i,a])/\∀xs,SqL K H l xs->xs[i]? = some a,
  fun i H=>∃xs,SqL K H l xs/\xs.length<=i⟩
theorem Zrn{P:Program}{w:World}{K:uFg}{elts:List Expr}{ek:Nat}{epos:Pos}{e it l:Addr}(hei:e≠it)(hle:l≠e)(hli:l≠it) :
  Turn P w K (.Tuple elts ek epos) (Ite K l) [e,it] e (fun i h=>(∃old,IsEnum h e it i old)/\h.IsListIter it l i) where
 mem:=by simp
 obj:=fun i h st b hb=>by
  obtain⟨⟨old,he⟩,⟨o,ho,hc,hd⟩⟩:=st
  simp only[xC,yG,or_false] at hb
  rcases hb with rfl | rfl
  ·exact⟨_,he,fun v q=>by cases q⟩
  ·exact⟨o,ho,fun v q=>by rw[hd] at q;cases q⟩
 keep:=fun i h h' st k=>by
  obtain⟨⟨old,he⟩,hit⟩:=st
  exact⟨⟨old,k e (by simp) _ he⟩,hit.at fun o x=>k it (by simp) o x⟩
 item:=by
  intro X hP hw hK hc i pins s σ H E I hf st hg
  subst hP hw hK
  obtain⟨⟨old,he⟩,hit⟩:=st
  obtain⟨xs,q1,hx⟩:=hg
  obtain⟨its,r1,w1,_⟩:=I.list q1
  have gx:xs[i]? = some xs[i]:=xB hx
  obtain⟨u1,hu1,ru1⟩:=r1.get gx
  refine wpAny_pyNext_enum_item he hit w1.isList (by simpa using hu1) hei fun h' ho hit' hT hsz kp=>?_
  refine⟨_,rfl,?_⟩
  have hp:H s.heap.objs.size=none:=I.hok.fresh (xE _)
  have ltp:∀c o,s.heap.get? c=some o->c≠s.heap.objs.size:=fun c o e=>yC (xN e)
  have kp':∀c o,c ∉ [e,it]->s.heap.get? c=some o->h'.get? c=some o:=fun c o hc e=>kp c o (fun q=>hc (by simp[q])) (fun q=>hc (by simp[q])) e
  have ntr:∀c u,H c=some u->c ∉ [e,it]:=fun c u e hc=>by
   have:=(hf c hc).1
   rw[this] at e;cases e
  have I1:Inv X pins σ (upd H s.heap.objs.size (.tup [.int i,xs[i]])) {s with heap:=h',toks:=s.toks+1 }:=by
   refine I.step (g':=s.gens) (d':=s.drawn) (t':=s.toks+1) (ch:=[e,it]) (fun c hc=>?_) (fun c o _ _ hc e _=>kp' c o hc e) (fun c o _ _ hc e _=>⟨o.slots,kp' c o hc e⟩) (fun c o hc e n=>by rw[Zc (ltp c o e)];exact n)
    (fun c o hc e=>⟨o,kp' c o hc e⟩) (fun c us e=>by rw[Zc (Zl e hp)];exact e) (fun c o u e=>by rw[Zc (Zl e hp)];exact e) (fun c ps e=>⟨#[],by rw[Zc (Zl e hp),e];simp⟩) (fun m hm=>?_) ?_ I.bare
   ·obtain⟨f0,f1,f2,f3,f4,f5⟩:=hf c hc
    exact⟨f3,f1,f4,f5⟩
   ·refine hm.at fun o e=>kp' _ o (fun hc=>?_) e
    exact(hf _ hc).2.1 rfl
   ·intro c u e
    by_cases hcp:c=s.heap.objs.size
    ·subst hcp
     rw[Zg] at e
     cases e
     exact⟨by show 2<=sizeLine;decide,[.int i s.toks,u1],.cons ⟨s.toks,rfl⟩ (.cons ru1 .nil),⟨_,hT,rfl,_,rfl⟩⟩
    ·rw[Zc hcp] at e
     refine(I.hok c u e).stay (fun d v hd q=>kp' d v ?_ q) (fun d q=>by rw[Zc (Zl q hp)];exact q) fun d us q=>by rw[Zc (Zl q hp)];exact q
     rcases hd with rfl | hd
     ·exact ntr _ u e
     ·exact ntr _ _ hd
  refine wpAny_letOwnedTupleGo_enum (s:={s with heap:=h',toks:=s.toks+1 }) ho fun h2 z2 e2=>?_
  obtain⟨f0,f1,f2,f3,f4,f5⟩:=hf e (by simp)
  have nz:e≠s.heap.objs.size:=ltp e _ he
  have I2:Inv X pins σ (upd H s.heap.objs.size (.tup [.int i,xs[i]])) {s with heap:=h2,toks:=s.toks+1 }:=I1.turned (s:={s with heap:=h',toks:=s.toks+1 }) (it:=e) (t':=s.toks+1) (fun c o hc e=>(e2.2 c hc).trans e) (by rw[Zc nz];exact f0) f1 f3 f4 f5
  have z2':IsEnum h2 e it ((i+1:Nat):Int) u1:=by
   have e0:((i+1:Nat):Int)=(i:Int)+1:=by push_cast;rfl
   rw[e0];exact z2
  refine⟨.ref s.heap.objs.size,_,I2,rfl,⟨s.heap.objs.size,xs[i],rfl,hp,rfl,fun xs' q1'=>?_⟩,⟨⟨_,z2'⟩,hit'.at fun o x=>(e2.2 it hei.symm).trans x⟩,fun c hc=>?_⟩
  ·rw[I.list_inj q1' q1]
   exact gx
  ·obtain⟨o,ho⟩:∃o,s.heap.get? c=some o:=by
    simp only[xC,yG,or_false] at hc
    rcases hc with rfl | rfl
    ·exact⟨_,he⟩
    ·obtain⟨o,x,_⟩:=hit;exact⟨o,x⟩
   rw[Zc (ltp c o ho)]
   exact(hf c hc).1
 done:=by
  intro X hP hw hK hc i pins s σ H E I hf st hg
  subst hP hw hK
  obtain⟨⟨old,he⟩,hit⟩:=st
  obtain⟨xs,q1,hend⟩:=hg
  obtain⟨its,r1,w1,_⟩:=I.list q1
  refine wpAny_pyNext_enum_end (I.ok.hd hc) he hit w1.isList (by have e1:=r1.length;simp;lia) fun h' kp=>⟨rfl,?_⟩
  obtain⟨f0,f1,f2,f3,f4,f5⟩:=hf it (by simp)
  exact I.turned (it:=it) (t':=s.toks) (fun c o hc e=>kp c o hc e) f0 f1 f3 f4 f5
 self:=fun A i s Q E st h=>by
  obtain⟨⟨old,he⟩,_⟩:=st
  exact wpAny_pyIter_enum he h
inductive iEnum_ (K:uFg) (R:It->Hp->Prop) (vs:List V) (H1:Hp):Prop
 | mk (l xs) (h0:vs = [.ref l]) (h1:SqL K H1 l xs) (h2:R (Ite K l) H1)
def Zl8(K:uFg)(ta:TA):TI:=fun σ H R=>ta σ H fun vs H1=>iEnum_ K R vs H1
theorem Zow:bootBuiltins "enumerate" = some (.type "enumerate"):=by decide +kernel
theorem Zvd{X:Cx}{a:Expr}{ta:TA}{p pos:Pos}{elts:List Expr}{ek:Nat}{epos:Pos}(hg:Gl X "enumerate")(hm:X.mg "enumerate" = none)(ha:PA X [a] ta)(hs:starEach [a] X.env = [(false,eval a X.env)]:=by rfl) :
  PI X (.Tuple elts ek epos) (.Call (.Name "enumerate" p) [a] [] pos) (Zl8 X.K ta):=by
 intro pins s σ H R I h
 refine Call_ (Ug I hg hm Zow (PyProof.Rows.callWith_type1 (thn (ha pos pins s σ H _ I h) fun us s1 ⟨vs,H1,I1,r1,q1⟩=>?_) hs rfl))
 obtain⟨l,xs,e,h1,q⟩:=q1
 subst e
 obtain⟨u1,rfl,ru1⟩:=Uh r1
 cases ru1
 obtain⟨its,r1,p1,_⟩:=I1.list h1
 have b1:l < s1.heap.objs.size:=by obtain⟨o,n,e,_⟩:=p1;exact xN e
 refine call_enumerate_list p1.isList fun h' z0 st1 _ kp=>?_
 refine wpAny_pyIter_enum z0 ?_
 have b1' : @LT.lt Nat _ l s1.heap.objs.size:=b1
 have key:∀(a b:Nat),(a < b\/b < a)->¬(@Eq Nat a b):=fun a b h q=>by lia
 refine⟨s1.heap.objs.size+1,_,_,_,H1,rfl,I1.kept (h':=h') (t':=s1.toks) kp,Zrn (it:=s1.heap.objs.size) (l:=l) (key _ _ (by lia)) (key _ _ (by lia)) (key _ _ (by lia)),⟨⟨_,z0⟩,st1⟩,fun c hc=>?_,q⟩
 have hle:s1.heap.objs.size<=c:=by
  simp only[xC,yG,or_false] at hc
  have:(s1.heap.objs.size:Nat)<=(c:Nat):=by rcases hc with rfl | rfl<;>lia
  exact this
 exact I1.fpOk hle (I1.hok.fresh hle)
theorem Zkh{X:Cx}{a:Expr}{ta:TA}{p pos:Pos}{elts:List Expr}{ek:Nat}{epos:Pos}(hm:X.mg "enumerate" = none)(ha:QA X [a] ta)(hg:nB X "enumerate" .globalImplicit:=by kernel_rfl)(hs:starEach [a] X.env = [(false,eval a X.env)]:=by rfl) :
  QI X (.Tuple elts ek epos) (.Call (.Name "enumerate" p) [a] [] pos) (Zl8 X.K ta):=⟨Zvd (od hg).1 hm ha.h hs⟩
theorem Zro{K:uFg}{l:Addr}{g:TG}{tb:TS}{D:Ends}{σ:St}{H:Hp}(xs:List V)(Pv:Nat->St->Hp->Prop)(h0:Pv 0 σ H)(hl:∀i σ H,i<=xs.length->Pv i σ H->SqL K H l xs)(hs:∀i x p σ H,xs[i]? = some x->Pv i σ H->H p=none->g (.ref p) σ (upd H p (.tup [.int i,x])) fun σ2 H2=>tb {D with nx:=Pv (i+1),ct:=Pv (i+1),bk:=D.nx } σ2 H2)(hd:∀ σ H,Pv xs.length σ H->D.nx σ H):Zb2 (Ite K l) g tb D σ H:=by
 refine⟨fun i m σ H=>m=xs.length - i/\i<=xs.length/\Pv i σ H,⟨xs.length,by simp,yL _,h0⟩,?_⟩
 rintro i m σ H ⟨rfl,hi,p⟩
 have q1:=hl i σ H hi p
 by_cases hlt:i < xs.length
 ·refine .inr ⟨⟨xs,q1,hlt⟩,Pv (i+1),fun σ' H' p'=>⟨xs.length - (i+1),by lia,rfl,hlt,p'⟩,fun v H' y=>?_⟩
  obtain⟨pp,a,rfl,hp,rfl,hv⟩:=y
  exact hs i a pp σ H (hv xs q1) p hp
 ·have e:i=xs.length:=by lia
  subst e
  exact .inl ⟨⟨xs,q1,xE _⟩,hd σ H p⟩
end
section
structure HasM (K:uFg) (C:Addr) (m qual:Str) (st:Stmt):Prop where
 ex:∃(f:Addr)(fd:FuncData),Fun K m qual st f fd/\Meth K C m f
structure Mt (P:Program) (w:World) (K:uFg) (mg:Str->Option Value) (base:Heap) (C:Addr) (m:Str) (ps:List Str) (k:Nat) (sp:Sp):Prop where
 ex:∃(f:Addr)(fd:FuncData),Meth K C m f/\FnOk P w K mg base CX0 k f fd ps sp/\Binds K fd ps []
section
variable{P:Program}{w:World}{K:uFg}{mg:Str->Option Value}{base:Heap}{C:Addr}{m qual:Str}{st:Stmt}{N ps:List Str}{k:Nat}{sp:Sp}
theorem HasM.mtQ(h:HasM K C m qual st)(S:FnScope N ps (Zm st))(hb:∀ (kV doc pm:Value) (an:Option Addr) (cdv ct:Value) (us:List Value),us.length=ps.length->bindArgs (PySem.W.fnOf m qual (Wh st) (Yi st) (Zm st) .none kV doc pm an cdv ct) ⟨us,[]⟩=pure (ps.zip us))(len:∀vs H Q E,sp vs H Q E->vs.length=ps.length)(hbody:∀ (f:Addr) (cdv:Value) (A:Around) (outer:List Env) (s:Shared) (H:Hp) (vs:List V) (Q:VK) (E:XK),Room k (A.deeper (envOfC qual (Zm st) s.heap.objs.size f cdv))->sp vs H Q E ->
   ∃t,QSs (Yu CX0 P w K mg base N qual (Zm st) f cdv A outer s H E).nox (Yi st) t/\t {nx:=fun _ H'=>Q .non H',rt:=Q } (start N vs) H):Mt P w K mg base C m ps (k+1) sp:=by
 obtain⟨f,fd,F,M⟩:=h.ex
 exact⟨f,fd,M,F.okQ S len (hbody f),F.binds hb⟩
theorem HasM.mq(h:HasM K C m qual st)(N:List Str)(hbody:∀{f:Addr}{cdv:Value}{A:Around}{outer:List Env}{s:Shared}(H:Hp) (vs:List V) (Q:VK) (E:XK),Room k (A.deeper (envOfC qual (Zm st) s.heap.objs.size f cdv))->sp vs H Q E->vs.length=ps.length/\∃t,QSs (Yu CX0 P w K mg base N qual (Zm st) f cdv A outer s H E).nox (Yi st) t/\t {nx:=fun _ H'=>Q .non H',rt:=Q } (start N vs) H)(S:FnScope N ps (Zm st):=by exact fsc)(hk:k<=60:=by decide)(hb:∀ (kV doc pm:Value) (an:Option Addr) (cdv ct:Value) (us:List Value),us.length=ps.length->bindArgs (PySem.W.fnOf m qual (Wh st) (Yi st) (Zm st) .none kV doc pm an cdv ct) ⟨us,[]⟩=pure (ps.zip us):=by exact fun _ _ _ _ _ _=>by first | exact al1 fun _=>rfl | exact al2 fun _ _=>rfl | exact al3 fun _ _ _=>rfl | exact al4 fun _ _ _ _=>rfl | exact al5 fun _ _ _ _ _=>rfl | exact al6 fun _ _ _ _ _ _=>rfl | exact al7 fun _ _ _ _ _ _ _=>rfl | exact al8 fun _ _ _ _ _ _ _ _=>rfl):Mt P w K mg base C m ps (k+1) sp :=
 h.mtQ S hb (fun vs H Q E h=>(hbody (f:=0) (cdv:=.none) (A:={}) (outer:=[]) (s:={}) H vs Q E (Zcv hk) h).1) fun _ _ _ _ _ H vs Q E hr q=>(hbody H vs Q E hr q).2
theorem Zve{f:Addr}{oc:Value}{od an:Option Addr}{osl:Array (Option Value)}{kV doc pm cdv ct:Value}(a:PySem.W.findIn K (.ref C) m=some (some (.ref f)))(i:PySem.W.isFn K (.ref f)=true)(l:K.lookup f=some ⟨oc,od,.func (PySem.W.fnOf m qual (Wh st) (Yi st) (Zm st) .none kV doc pm an cdv ct),osl⟩)(c:PySem.W.codeIn K cdv qual=true)(kp:PySem.W.keepIn K (.ref f)=true):HasM K C m qual st:=⟨f,_,Zf1 l c kp,⟨a,i,kp⟩⟩
theorem hMQ{K:uFg}(C:Addr)(m qual:Str)(st:Stmt)(f c:Addr)(pm:Value)(e:PySem.W.findIn K (.ref C) m=some (some (.ref f))/\PySem.W.isFn K (.ref f)=true/\K.lookup f=some ⟨.type "function", none,.func (PySem.W.fnOf m qual (Wh st) (Yi st) (Zm st) .none .none .none pm none (.ref c) .none),#[]⟩/\PySem.W.codeIn K (.ref c) qual=true/\PySem.W.keepIn K (.ref f)=true):HasM K C m qual st:=Zve e.1 e.2.1 e.2.2.1 e.2.2.2.1 e.2.2.2.2
structure Mks (P:Program) (w:World) (K:uFg) (mg:Str->Option Value) (base:Heap) (C:Addr) (x:Str) (k:Nat) (sp:Sp):Prop where
 ex:∃(f:Addr)(fd:FuncData),Mk K C f/\FnOk P w K mg base CX0 k f fd ["self"] sp/\Binds K fd ["self"] []/\mg x=some (.ref C)
theorem Mt.mks{x:Str}(h:Mt P w K mg base C "__init__" ["self"] k sp)(mk:PySem.W.makesIn K C=true)(kc:PySem.W.keepIn K (.ref C)=true)(g:mg x=some (.ref C)):Mks P w K mg base C x k sp:=by
 obtain⟨f,fd,M,F,B⟩:=h.ex
 exact⟨f,fd,⟨mk,M.at_,M.fn,kc⟩,F,B,g⟩
end
section
variable{X:Cx}{C:Addr}{m x f:Str}{ps:List Str}{k:Nat}{sp:Sp}{o e value i:Expr}{es:List Expr}{ta td ty tv:TE}{t:TA}{apos pos pos' p:Pos}
theorem Y2{pl:Sem Bool}(he:QE X o ta)(c:Cls X.K C)(M:Mt X.prog X.w X.K X.mg X.base C m ps k sp)(ha:QA X (e::es) t)(hr:Room k X.A:=by exact Room.mono (by assumption) (by first | decide | lia))(hst:starEach (e::es) X.env=(false,eval e X.env)::starEach es X.env:=by rfl)(hpl:(backTo pos (starEach es X.env)).any (·.1)=false:=by rfl)(ht:eval (.Call (.Attribute o m apos) (e::es) [] pos) X.env=(do
   let ov ← eval o X.env
   standAt apos.atName
   let (f,first) ← holding [ov] (getMethod ov m pl)
   callWith pos f first (backTo pos (starEach (e::es) X.env)) (backToKw pos (keywordEach [] X.env))):=by rfl) :
  QE X (.Call (.Attribute o m apos) (e::es) [] pos) (Zdx C m sp [] E0 ta t):=by
 obtain⟨f,fd,M,F,B⟩:=M.ex
 exact⟨Zuq he.h c M F hr B .nil Zdy ha.h hst hpl ht⟩
theorem Zf2{pl:Sem Bool}(he:QE X o ta)(c:Cls X.K C)(M:Mt X.prog X.w X.K X.mg X.base C m ps k sp)(hr:Room k X.A:=by exact Room.mono (by assumption) (by first | decide | lia))(ht:eval (.Call (.Attribute o m apos) [] [] pos) X.env=(do
   let ov ← eval o X.env
   standAt apos.atName
   let (f,first) ← holding [ov] (getMethod ov m pl)
   callWith pos f first (backTo pos (starEach [] X.env)) (backToKw pos (keywordEach [] X.env))):=by rfl) :
  QE X (.Call (.Attribute o m apos) [] [] pos) (Zdx C m sp [] E0 ta Vl):=by
 obtain⟨f,fd,M,F,B⟩:=M.ex
 exact⟨Zsh he.h c M F hr B .nil Zdy ht⟩
theorem Zbz(M:Mks X.prog X.w X.K X.mg X.base C x k sp)(hr:Room (k+1) X.A:=by exact Room.mono (by assumption) (by first | decide | lia))(n:nB X x .globalImplicit:=by kernel_rfl):QE X (.Call (.Name x p) [] [] pos) (Zlr C sp [] E0 Vl):=by
 obtain⟨f,fd,M,F,B,g⟩:=M.ex
 exact⟨Zsj M F hr (od n).1 g B .nil Zdy (od n).2.1⟩
theorem Zn(he:QE X e ta)(hb:attributeBase e f X.env (eval e X.env)=eval e X.env:=by rfl):QE X (.Attribute e f pos) (Zie X.K ta f):=⟨Zkw he.h hb⟩
theorem Ww(ha:QE X o ta)(hv:QE X value tv)(hs:swapsWith value (some (.Attribute o f pos')) pos.line X.env=pure false:=by rfl):QS X (.Assign [.Attribute o f pos'] value pos) (Znz X.K ta tv f):=⟨Zw1 ha.h hv.h hs⟩
theorem Zbs:QE X (.Dict [] [] pos) Zk0:=⟨Zsr⟩
theorem Zbx(hr:Room k X.A)(ho:QE X o td)(hi:QE X i ty)(hs:Zif i):QE X (.Subscript o i pos) (Zlx td ty):=⟨Zuy (by have:=hr.units;lia) ho.h hi.h hs⟩
theorem Ztb{ek ev:Expr}{tk tw:TE}(hk:QE X ek tk)(hv:QE X ev tw):QE X (.Dict [some ek] [ev] pos) (Zlz [(tk,tw)]):=⟨Zu1 (Zst hk.h hv.h Zu0) rfl rfl (by simp) (by show 1<=15;decide)⟩
inductive rLenD (xs:List V) (H:Hp) (Q:VK):Prop
 | mk (a kvs) (h0:xs = [V.ref a]) (h1:H a=some (.dK kvs)) (h2:Q (.int kvs.length) H)
theorem Zi6:QC X (.builtin "len") rLenD:=.imp ⟨Zqz⟩ fun _ _ _ ⟨p,y,a,b,k⟩=>⟨p,y,a,b,k⟩
end
end
section
section
variable{X:Cx}{scope:Scope}{cl:List (Str×Addr)}{C:Addr}{N':List Str}{s0:Shared}{H0:Hp}{ex:List Addr}{pn:List (Addr×Obj)}{f:Str}{pos:Pos}{e:Expr}{ta:TE}
theorem Zvf(he:QE (ccx X scope cl C N' s0 H0 ex pn) e ta)(hb:attributeBase e f (ccx X scope cl C N' s0 H0 ex pn).env (eval e (ccx X scope cl C N' s0 H0 ex pn).env)=eval e (ccx X scope cl C N' s0 H0 ex pn).env:=by rfl):QE (ccx X scope cl C N' s0 H0 ex pn) (.Attribute e f pos) (Zie X.K ta f):=⟨Zkw (X:=ccx X scope cl C N' s0 H0 ex pn) he.h hb⟩
end
end
section
section
variable{X:Cx}
end
section
variable{X:Cx}{scope:Scope}{cl:List (Str×Addr)}{C:Addr}{N':List Str}{s0:Shared}{H0:Hp}{ex:List Addr}{pn:List (Addr×Obj)}
end
end
section
def stS(r:List Str)(x:Str):List Str:=if r.any (· == x) then r else r ++ [x]
def fmS(val:Nat->Str):Nat->List Str
 | 0=>[]
 | i+1=>stS (fmS val i) (val i)
theorem Zf3(val:Nat->Str):∀i,(fmS val i).length<=i
 | 0=>xE _
 | i+1=>by
  have ih:=Zf3 val i
  unfold fmS stS
  split
  ·lia
  ·rw[xJ,zK];lia
theorem Zvg(r:List Str)(v k:Str):(stS r v).any (· == k)=(r.any (· == k) || decide (k=v)):=by
 unfold stS
 by_cases h:r.any (· == v)=true
 ·rw[if_pos h]
  by_cases e:k=v
  ·subst e;rw[h];simp
  ·simp[e]
 ·rw[if_neg h,List.any_append]
  by_cases e:k=v
  ·subst e;simp
  ·have hb:(v == k)=false:=by simpa [beq_iff_eq] using (fun h':v=k=>e h'.symm)
   simp[hb,e]
theorem Zpm(r:List Str)(v:Str):(stS r v).length=if r.any (· == v) then r.length else r.length+1:=by
 unfold stS;split<;>simp
section
variable{prog:Program}{w:World}{A:Around}{R:Result->Shared->Prop}{I:Addr}{fp wr:List Addr}{G:Array GenState->Array GenState->Prop}{n:Nat}{P:Nat->Value->Prop}{St:Nat->Shared->Prop}
theorem Zrp(W:WalksS prog w A.in1 I fp wr G n P St)(S:Addr)(hSf:S∉fp)(val:Nat->Str)(hval:∀i v,P i v->∃t,v = .str (val i) t)(hb:n+1 < scanBound) :
  ∀(k i:Nat)(s:Shared),n - i=k->i<=n->St i s->s.heap.SetOf (strKind prog w) S (fun k'=>(fmS val i).any (· == k')) (fmS val i).length ->
   (∀s',Moved (S::wr) G s s'->s'.heap.SetOf (strKind prog w) S (fun k'=>(fmS val n).any (· == k')) (fmS val n).length->R (.ok (.ret .none)) s')->
   codeAny (model prog w) A (.builtin "set.update.loop" ⟨[.ref S,.ref I],[]⟩) R s:=by
 have hSw:S∉wr:=fun h=>hSf (W.sub _ h)
 have hsub:∀b∈wr,b∈S::wr:=fun b hb=>xX _ hb
 intro k
 induction k with
 | zero =>
  intro i s hk hi hst hS hR
  have hin:i=n:=by lia
  subst hin
  refine codeAny_builtin F.entry_set_update_loop ?_
  rw[Around.under_plainId F.plain_set_update_loop _]
  show wpAny _ A.in1 (pyNext (.ref I) >>= _) _ _ s
  refine wpAny_bind (W.done s _ _ hst fun s' hm=>?_)
  show wpAny _ A.in1 (ret Value.none) _ _ s'
  exact wpAny_pure (hR s' (hm.mono hsub) (by
   obtain⟨o,es,ep,t,ho,rest⟩:=hS
   exact⟨o,es,ep,t,hm.heap S _ hSw ho,rest⟩))
 | succ k ih =>
  intro i s hk hi hst hS hR
  have hlt:i < n:=by lia
  refine codeAny_builtin F.entry_set_update_loop ?_
  rw[Around.under_plainId F.plain_set_update_loop _]
  show wpAny _ A.in1 (pyNext (.ref I) >>= _) _ _ s
  refine wpAny_bind (W.item i s _ _ hlt hst fun v s' hP hst' hm=>?_)
  obtain⟨t,rfl⟩:=hval i v hP
  have hS':s'.heap.SetOf (strKind prog w) S (fun k'=>(fmS val i).any (· == k')) (fmS val i).length:=by
   obtain⟨o,es,ep,tb,ho,rest⟩:=hS
   exact⟨o,es,ep,tb,hm.heap S _ hSw ho,rest⟩
  show wpAny _ A.in1 (holding [Value.str (val i) t] (setAdd S (.str (val i) t)) >>= _) _ _ s'
  refine wpAny_bind (wpAny_holding ?_)
  unfold setAdd
  refine wpAny_holding ?_
  refine wpAny_bind ((strKind prog w).pyHash (k:=val i) (strKind_is _ _ _ _) ?_)
  have hroom:(fmS val i).length+1 < scanBound:=by have:=Zf3 val i;lia
  refine wpAny_setAddHashed_of (knd:=strKind prog w) (s:={s' with toks:=s'.toks+1 }) (strKind_is _ _ _ _) rfl hS' hroom fun h' hsb hS2=>?_
  have hSi:h'.SetOf (strKind prog w) S (fun k'=>(fmS val (i+1)).any (· == k')) (fmS val (i+1)).length:=SetOf_congr hS2 (fun k'=>(Zvg _ _ _).symm) (Zpm _ _).symm
  refine wpAny_pure ⟨plainId_quiet F.plain_set_update_loop _,ih (i+1) _ (by lia) hlt (W.frame _ s' _ _ hst' (Nat.le_succ _) fun b hb o e=>?_) hSi fun s'' hm'' hS''=>?_⟩
  ·rw[hsb.2 b (fun h:b=S=>hSf (by rw[← h];exact hb))];exact e
  ·refine hR s'' (Moved.trans W.gtrans ((hm.mono hsub).then_heap (Nat.le_succ _) fun b o hb e=>?_) hm'') hS''
   rw[hsb.2 b (fun h:b=S=>hb (by rw[h];exact yD))];exact e
end
section
variable{prog:Program}{w:World}{A:Around}{E:Value->Shared->Prop}{s:Shared}
theorem Zrq{l:Addr}{items:Array Value}{val:Nat->Str}{Q:Value->Shared->Prop}(hh:A.handled=none)(hl:s.heap.IsList l items)(hval:∀ (i:Nat) (v:Value),items[i]? = some v->∃t,v = .str (val i) t)(hb:items.size+1 < scanBound)(h:∀ (h':Heap) (tk:Nat),h'.SetOf (strKind prog w) s.heap.objs.size (fun k'=>(fmS val items.size).any (· == k')) (fmS val items.size).length ->
   (∀b o,b < s.heap.objs.size->s.heap.get? b=some o->h'.get? b=some o)->Q (.ref s.heap.objs.size) {s with heap:=h',toks:=tk }) :
  wpAny (model prog w) A (call (.type "set") [.ref l]) Q E s:=by
 obtain⟨c,tl,hmro⟩:=F.called_set.mro
 have hmade:=F.called_set.made
 have hsub:=F.called_set.sub
 refine wpAny_call (codeAny_of_tree ?_)
 show wpAny _ _ (callAny (.type "set") _) _ _ _
 refine wpAny_pure ⟨Code.quiet_builtin _ (by decide +kernel),codeAny_builtin F.entry_type_call ?_⟩
 rw[Around.under_plain (weight_type_call_type "set" [.ref l] []) rfl]
 have h1:=F.called_set.notType
 have h2:=F.called_set.canCreate
 have hct:=F.typeCall_set_1 (.ref l)
 repeat (any_goals (first | assumption | wp_step))
 refine codeAny_mono (code_set_new_1 (.ref l) (E:=E) (Q₁:=fun obj s₁=>∃led:Bool,obj = .ref s.heap.objs.size/\s₁={s with heap:=s.heap.push {cls:=.type "set", dict:=none,data:=.set #[] 0 (.fresh 0 0 led) } }) fun led=>⟨led,rfl,rfl⟩) fun r s₁ hr=>?_
 cases r with
 | error e=>exact hr
 | ok fl =>
  cases fl with
  | ret obj =>
   obtain⟨led,rfl,rfl⟩:=hr
   have hS:(s.heap.push {cls:=.type "set", dict:=none,data:=.set #[] 0 (.fresh 0 0 led) }).get? s.heap.objs.size=some {cls:=.type "set", dict:=none,data:=.set #[] 0 (.fresh 0 0 led) }:=xW _ rfl
   have hT:Shared.TypeIs {s with heap:=s.heap.push {cls:=.type "set", dict:=none,data:=.set #[] 0 (.fresh 0 0 led) } } (.ref s.heap.objs.size) "set" := ⟨_,hS,rfl⟩
   have hli:=F.called_set.init.lookup
   have hbi:=F.called_set.init.bind (.ref s.heap.objs.size)
   repeat (any_goals (first | assumption | wp_step))
   refine codeAny_mono (codeAny_call_builtin (R:=wants (fun r s₂=>r = .none/\∃h' tk,s₂={s with heap:=h',toks:=tk }/\h'.SetOf (strKind prog w) s.heap.objs.size (fun k'=>(fmS val items.size).any (· == k')) (fmS val items.size).length /\
     (∀b o,b < s.heap.objs.size->s.heap.get? b=some o->h'.get? b=some o)) E) F.called_set.init.plain F.entry_set_init (check_set_init_1 hT ?_)) fun r₂ s₂ hr₂=>?_
   ·obtain⟨ol,hol,hcl,nl,hdl⟩:=hl
    obtain⟨ocls,odict,odata,oslots⟩:=ol
    simp only at hcl hdl
    subst hcl;subst hdl
    have hol':(s.heap.push {cls:=.type "set", dict:=none,data:=.set #[] 0 (.fresh 0 0 led) }).get? l=some {cls:=.type "list", dict:=odict,data:=.seq items nl,slots:=oslots }:=xF _ hol
    have hsls:=F.sub_list_set
    have hslf:=F.sub_list_frozenset
    have hne:(Value.type "list" == Value.type "dict")=false:=by decide
    have hl1:(s.heap.push {cls:=.type "set", dict:=none,data:=.set #[] 0 (.fresh 0 0 led) }).IsList l items:=⟨_,hol',rfl,nl,rfl⟩
    unfold Builtin.«set.__init__» noKeywords Builtin.Frozenset.updateFrom
    generalize hPI:pyIter=PI
    wp_walk
    subst hPI
    refine wpAny_pyIter_list hl1 ?_
    refine wpAny_bind (wpAny_runValue ?_)
    have hlS:l < s.heap.objs.size:=xN hol
    have hh3:A.in1.in1.in1.handled=none:=by simp[hh]
    have hneI:l≠(s.heap.push {cls:=.type "set", dict:=none,data:=.set #[] 0 (.fresh 0 0 led) }).objs.size:=by
     rw[zS];exact yC (Nat.lt_succ_of_lt hlS)
    have hSf:s.heap.objs.size ∉ [(s.heap.push {cls:=.type "set", dict:=none,data:=.set #[] 0 (.fresh 0 0 led) }).objs.size,l]:=by
     rw[zS];simp only[xC,xI,yG,or_false,not_or]
     exact⟨yC (Nat.lt_succ_self _),Nat.ne_of_gt hlS⟩
    refine Zrp ((Walks.list hh3 _ l hneI items).toS) s.heap.objs.size hSf val hval hb (items.size - 0) 0 _ (by lia) (yL _) ⟨⟨_,xW _ rfl,rfl,rfl⟩,(hl1.push _)⟩ ?hS0 ?hR
    case hS0 =>
     have hget:((s.heap.push {cls:=.type "set", dict:=none,data:=.set #[] 0 (.fresh 0 0 led) }).push {cls:=.type "list_iterator", data:=.fields #[.ref l,.int 0 0] }).get? s.heap.objs.size
       = some {cls:=.type "set", dict:=none,data:=.set #[] 0 (.fresh 0 0 led) }:=xF _ hS
     exact SetOf_congr ((setObjOf_fresh (knd:=strKind prog w) led).setOf hget (by unfold scanBound;lia)) (fun _=>rfl) rfl
    case hR =>
     intro s' hm hS'
     obtain⟨h',g',d',tk',os'⟩:=s'
     have eg:g'=s.gens:=hm.gens
     have ed:d'=s.drawn:=hm.drawn
     have eo:os'=s.os:=hm.os
     subst eg;subst ed;subst eo
     show wpAny _ _ _ _ _ _
     refine wpAny_pure ?_
     show wpAny _ _ (ret Value.none) _ _ _
     refine wpAny_pure ⟨rfl,h',tk',rfl,hS',fun b o hb e=>?_⟩
     have hb1:b≠s.heap.objs.size:=yC hb
     have hb2:b≠(s.heap.push {cls:=.type "set", dict:=none,data:=.set #[] 0 (.fresh 0 0 led) }).objs.size:=by
      rw[zS];exact yC (Nat.lt_succ_of_lt hb)
     exact hm.heap b o (by simp only[xC,xI,yG,or_false,not_or];exact⟨hb1,hb2⟩) (xF _ (xF _ e))
   ·cases r₂ with
    | error e=>exact hr₂
    | ok fl₂ =>
     cases fl₂ with
     | ret r =>
      obtain⟨rfl,h',tk,rfl,hS',hk'⟩:=hr₂
      repeat (any_goals (first | assumption | wp_step))
      exact h _ _ hS' hk'
     | _=>exact hr₂.elim
  | _=>exact hr.elim
end
def V6(xs:List Str):Nat:=(xs.foldl stS []).length
theorem Zk8(xs:List Str):∀n,n<=xs.length->fmS (fun i=>xs.getD i "") n=(xs.take n).foldl stS []
 | 0,_=>rfl
 | n+1,h=>by
  show stS (fmS _ n) _=_
  rw[Zk8 xs n (by lia),List.take_succ_eq_append_getElem (by lia),List.foldl_append]
  show stS _ (xs.getD n "")=stS _ (xs[n])
  rw[xR,xB (by lia)]
  rfl
section
variable{X:Cx}
inductive tLenSet_ (K:uFg) (Q:VK) (vs:List V) (H1:Hp):Prop
 | mk (l:Addr) (xs:List Str) (h0:vs = [.ref l]) (h1:SqL K H1 l (xs.map V.str)) (h2:xs.length<=1000) (h3:Q (.int (V6 xs)) H1)
def Zki(K:uFg)(ta:TA):TE:=fun σ H Q=>ta σ H fun vs H1=>tLenSet_ K Q vs H1
theorem Zrr{a:Expr}{ta:TA}{p q pos pos':Pos}(hc:X.calm=true)(hgl:Nm X.env.scope "len" .globalImplicit)(hml:X.mg "len" = none)(hg:Nm X.env.scope "set" .globalImplicit)(hm:X.mg "set" = none)(ha:PA X [a] ta)(hs:starEach [a] X.env = [(false,eval a X.env)]:=by rfl)(hs2:starEach [.Call (.Name "set" p) [a] [] pos] X.env = [(false,eval (.Call (.Name "set" p) [a] [] pos) X.env)]:=by rfl) :
  PE X (.Call (.Name "len" q) [.Call (.Name "set" p) [a] [] pos] [] pos') (Zki X.K ta):=by
 intro pins s σ H Q I h
 refine wpAny_Call_Name_kw (Ug I hgl.1 hml (show bootBuiltins "len" = some (.builtin "len") by decide +kernel) ?_ hgl.2.2.2 hgl.2.1)
 refine PyProof.Rows.callWith_builtin1 ?_ hs2 rfl
 rw[hs2]
 refine Calls.spliced_cons ?_
 refine wpAny_Call_Name_kw (Ug I hg.1 hm (show bootBuiltins "set" = some (.type "set") by decide +kernel) (PyProof.Rows.callWith_type1 (thn (ha pos pins s σ H _ I h) fun us s1 ⟨vs,H1,I1,r1,l,xs,e,hL,hn,q1⟩=>?_) hs rfl) hg.2.2.2 hg.2.1)
 subst e
 cases r1 with
 | cons r rr =>
  cases rr
  obtain rfl:=r
  obtain⟨its,r,pl,hz⟩:=I1.list hL
  have hlen:its.length=xs.length:=by rw[← r.length,xA]
  obtain⟨o,n,e1,e2,e3,e4⟩:=pl
  have hval:∀(i:Nat)(v:Value),its.toArray[i]? = some v->∃t,v = .str (xs.getD i "") t:=fun i v hv=>by
   rw[← zL] at hv
   have hi:i < its.length:=by have:=(xG.mp hv).1;simpa using this
   obtain⟨u,eu,t,ru⟩:=r.get (i:=i) (x:=.str (xs.getD i "")) (by rw[xP,xB (by lia),xR,xB (by lia)];rfl)
   have hv:its[i]? = some v:=hv
   rw[hv] at eu;cases eu
   exact⟨t,ru⟩
  have hsz:its.toArray.size=xs.length:=by rw[xL,hlen]
  refine Zrq (items:=its.toArray) (val:=fun i=>xs.getD i "") (I1.ok.hd hc) ⟨o,e1,e2,n,e4⟩ hval (by unfold scanBound;lia) fun h' tk hS hk=>?_
  rw[hsz] at hS
  have I2:Inv X pins σ H1 {s1 with heap:=h',toks:=tk }:=I1.kept fun b u e=>hk b u (xN e) e
  refine Calls.spliced_nil ?_
  obtain⟨o2,ho,hso⟩:=hS.objOf
  obtain⟨hex,es,ep,t,hd,_,_,hnn,hf⟩:=hso
  have hle:=Zf3 (fun i=>xs.getD i "") xs.length
  have hlt:(es.size:Int) < 2 ^ 63:=Int.lt_of_le_of_lt (show (es.size:Int)<=1000 by lia) (by decide)
  refine call_len_set (s:={s1 with heap:=h',toks:=tk }) ho hex hd hf hlt ?_
  refine⟨.int es.size,H1,I2.tok _,⟨_,rfl⟩,?_⟩
  have e:es.size=V6 xs:=by
   rw[hnn,Zk8 xs xs.length (xE _),yZ];rfl
  rw[e]
  exact q1
theorem Zrs{a:Expr}{ta:TA}{p q pos pos':Pos}(hc:X.calm=true)(hml:X.mg "len" = none)(hm:X.mg "set" = none)(ha:QA X [a] ta)(hgl:nB X "len" .globalImplicit:=by kernel_rfl)(hg:nB X "set" .globalImplicit:=by kernel_rfl)(hs:starEach [a] X.env = [(false,eval a X.env)]:=by rfl)(hs2:starEach [.Call (.Name "set" p) [a] [] pos] X.env = [(false,eval (.Call (.Name "set" p) [a] [] pos) X.env)]:=by rfl) :
  QE X (.Call (.Name "len" q) [.Call (.Name "set" p) [a] [] pos] [] pos') (Zki X.K ta):=⟨Zrr hc (od hgl) hml (od hg) hm ha.h hs hs2⟩
end
end
end L2
end
section
namespace L2
open PySem PySem.Spec PyProof.Rows
def XTr(h0:Heap)(H:Hp)(h:Heap)(a:Addr)(vs:Array Value):Prop:=∃T oT ts v3,vs[1]? = some (.ref T)/\T≠a/\h.get? T=some oT/\oT.data = .fields ts/\ts[3]? = some v3/\H T=none/\h0.get? T=none
def XAt(h0:Heap)(H:Hp)(h:Heap)(a C:Addr):Prop:=H a=none/\h0.get? a=none/\∃oe vs a0,h.get? a=some oe/\oe.cls = .ref C/\oe.data = .fields vs/\vs[0]? = some a0/\(vs[1]? = some .none\/XTr h0 H h a vs)
def XOn(h0:Heap)(H:Hp)(h:Heap)(a C:Addr):Prop:=H a=none/\h0.get? a=none/\∃oe vs a0,h.get? a=some oe/\oe.cls = .ref C/\oe.data = .fields vs/\vs[0]? = some a0/\XTr h0 H h a vs
theorem XOn.at_{h0:Heap}{H:Hp}{h:Heap}{a C:Addr}(x:XOn h0 H h a C):XAt h0 H h a C:=let ⟨p,q,oe,vs,a0,h1,h2,h3,h4,h5⟩:=x;⟨p,q,oe,vs,a0,h1,h2,h3,h4,.inr h5⟩
def CXE(P:Program)(w:World):CXT:=fun outer H s E e s'=>∃a C H',e = .ref a/\s'.os=s.os/\AllBare s'.gens/\Un (frs outer) [] H H' s.heap s'.heap/\HOk P w H' s'.heap/\XAt s.heap H' s'.heap a C/\E (.ref C) none H'
structure Xp (X:Cx) (E:St->XK):Prop where
 h:∀pins σ H s a C,Inv X pins σ H s->XAt X.s₀.heap H s.heap a C->E σ (.ref C) none H->X.xe (.ref a) s
theorem ObjOk.ex{P:Program}{w:World}{H:Hp}{h:Heap}{a:Addr}{o:HO}(x:ObjOk P w H h a o):∃u,h.get? a=some u:=by
 cases o with
 | lst xs=>obtain⟨_,_,_,_,e⟩:=x;exact⟨_,e⟩
 | tup xs=>obtain⟨_,_,_,_,e,_⟩:=x;exact⟨_,e⟩
 | dK kvs=>obtain⟨_,_,_,_,o,_,_,e,_⟩:=x;exact⟨_,e⟩
 | dT kvs=>obtain⟨_,_,_,_,o,_,_,e,_⟩:=x;exact⟨_,e⟩
 | set S n=>obtain⟨o,_,_,_,e,_⟩:=x;exact⟨_,e⟩
 | ins C dx fs=>obtain⟨_,_,_,e,_⟩:=x;exact⟨_,e⟩
 | own y=>exact x
 | xd fs=>obtain⟨_,⟨_,_,_,e,_⟩,_⟩:=x;exact⟨_,e⟩
 | rng lo hi=>obtain⟨_,_,_,e⟩:=x;exact⟨_,e⟩
 | frz ob u=>obtain⟨e,_⟩:=x;exact⟨_,e⟩
 | tbl ps=>obtain⟨_,_,_,e,_⟩:=x;exact⟨_,e⟩
 | met f y=>exact⟨_,x⟩
 | ext φ=>obtain⟨_,e,_⟩:=x;exact e
section
variable{X:Cx}{σ:List (Option V)}{H H':Hp}{s:Shared}{h':Heap}
theorem Inv.stepN{g':Array GenState}{t':Nat}{d':Drawn}{ch:List Addr}(I:Inv X [] σ H s)(hpn:X.pn = [])(hch:∀b∈ch,X.s₀.heap.get? b=none/\b≠X.env.locals/\∀x c,X.env.cells.lookup x=some c->c≠b)(keep:∀b o,b≠X.env.locals->b∉X.fs->b∉ch->s.heap.get? b=some o->H b=none->h'.get? b=some o)(slot:∀b o,b≠X.env.locals->b∈X.fs->b∉ch->s.heap.get? b=some o->H b=none->∃sl,h'.get? b=some {o with slots:=sl })(there:∀b o,b∉ch->s.heap.get? b=some o->∃o',h'.get? b=some o')(ns:∀m,s.heap.Ns X.env.locals m->h'.Ns X.env.locals m)(hok:HOk X.prog X.w H h')(hg:AllBare g') :
  Inv X [] σ H {s with heap:=h',gens:=g',drawn:=d',toks:=t' }:=by
 have neL:∀b o,X.s₀.heap.get? b=some o->b≠X.env.locals:=fun b o e=>yC (xZ (xN e) I.ok.above)
 have neC:∀b o,X.s₀.heap.get? b=some o->b∉ch:=fun b o e hb=>by
  have:=(hch b hb).1
  rw[e] at this;cases this
 have cellK:∀x c,X.env.cells.lookup x=some c->∀v,s.heap.IsCell c v->h'.IsCell c v:=fun x c e v ⟨o,ho,hd⟩=>by
  have nch:c∉ch:=fun z=>(hch c z).2.2 x c e rfl
  by_cases hc:c∈X.fs
  ·obtain⟨sl,q⟩:=slot c o (I.cne x c e) hc nch ho (I.freeC x c e)
   exact⟨_,q,hd⟩
  ·exact⟨o,keep c o (I.cne x c e) hc nch ho (I.freeC x c e),hd⟩
 refine⟨I.ok,I.os,hg,⟨fun b o e n hb hx=>?_,fun b o e n hb hx=>?_,fun b o e n hx=>I.base.free b o e n hx,fun b o e hx=>?_,I.base.tups,I.base.frzs,I.base.tbls⟩,?_,fun x c e=>?_,I.free,I.freeC,fun p hp=>?_,hok,I.len⟩
 ·exact keep b o (neL b o e) hb (neC b o e) (I.base.keep b o e n hb hx) (I.base.free b o e n hx)
 ·obtain⟨sl,e1⟩:=I.base.slot b o e n hb hx
  obtain⟨sl',e2⟩:=slot b _ (neL b o e) hb (neC b o e) e1 (I.base.free b o e n hx)
  exact⟨sl',e2⟩
 ·obtain⟨o',e1⟩:=I.base.there b o e hx
  exact there b o' (neC b o e) e1
 ·obtain⟨m,hn,hl⟩:=I.loc
  refine⟨m,ns m hn,fun i x v e1 e2 e3=>?_⟩
  obtain⟨u,r,l⟩:=hl i x v e1 e2 e3
  refine⟨u,r,?_⟩
  rcases l with l | ⟨k,c,e,z⟩
  ·exact .inl l
  ·exact .inr ⟨k,c,e,cellK x c e _ z⟩
 ·obtain⟨v,z⟩:=I.cell x c e
  exact⟨v,cellK x c e v z⟩
 ·rw[hpn] at hp;cases hp
theorem Inv.noted{hs:List Addr}(I:Inv X [] σ H s)(hpn:X.pn = [])(hh:∀b∈hs,X.s₀.heap.get? b=none/\H b=none/\∃o vs,s.heap.get? b=some o/\o.data = .fields vs)(st:(PySem.W.hideAll s.heap (hs++frs X.stack)).StaysIn h')(up:∀b o,s.heap.get? b=some o->(∀vs,o.data ≠ .fields vs)->∃sl,h'.get? b=some {o with slots:=sl }):Inv X [] σ H {s with heap:=h' }:=by
 obtain⟨m,⟨oL,esL,epL,hoL,hdL,rL⟩,_⟩:=id I.loc
 have kp:∀b o,b∉hs->b∉frs X.stack->s.heap.get? b=some o->h'.get? b=some o:=fun b o n1 n2 e=>st b o (PySem.W.hideAll_get _ e fun hm=>(xH.mp hm).elim n1 n2)
 have fr:∀b,b∈frs X.stack->∃o,s.heap.get? b=some o/\∀vs,o.data ≠ .fields vs:=fun b hb=>(I.stack.mem hb).2
 refine I.stepN (g':=s.gens) (d':=s.drawn) (t':=s.toks) (ch:=hs) hpn (fun b hb=>?_) (fun b o hL hf hc e _=>kp b o hc (fun z=>(xC.mp (I.stkSub b z)).elim hL hf) e) (fun b o hL hf _ e _=>?_) (fun b o hc e=>?_) (fun m' hm=>?_) (fun b u e=>?_) I.bare
 ·obtain⟨h1,h2,o,vs,e,d⟩:=hh b hb
  refine⟨h1,fun z=>?_,fun x c ec z=>?_⟩
  ·rw[z,hoL] at e;cases e;rw[hdL] at d;cases d
  ·obtain⟨v,oc,ho,hd⟩:=I.cell x c ec
   rw[z,e] at ho;cases ho;rw[d] at hd;cases hd
 ·obtain⟨o',e',d⟩:=(I.funs.mem (show b∈X.outer.filterMap (·.frame) from hf)).2
  rw[e] at e';cases e'
  exact up b o e d
 ·by_cases hb:b∈frs X.stack
  ·obtain⟨o',e',d⟩:=fr b hb
   rw[e] at e';cases e'
   obtain⟨sl,q⟩:=up b o e d
   exact⟨_,q⟩
  ·exact⟨o,kp b o hc hb e⟩
 ·obtain⟨o,es,ep,ho,d,r⟩:=hm
  obtain⟨sl,q⟩:=up _ o ho fun vs z=>by rw[d] at z;cases z
  exact⟨_,es,ep,q,d,r⟩
 ·have nh:∀c v,H c=some v->c∉hs/\c∉frs X.stack:=fun c v ec=>⟨(fun z=>by rw[(hh c z).2.1] at ec;cases ec),(fun z=>by rw[I.stkFree c z] at ec;cases ec)⟩
  refine(I.hok b u e).stay (fun c v hc q=>?_) (fun _ q=>q) fun _ _ q=>q
  rcases hc with rfl | hc
  ·exact kp c v (nh c _ e).1 (nh c _ e).2 q
  ·exact kp c v (nh c _ hc).1 (nh c _ hc).2 q
end
section
variable{X:Cx}{σ:List (Option V)}{H:Hp}{s:Shared}{a C:Addr}{M:Model}{E:Value->Shared->Prop}{Q:Unit->Shared->Prop}
theorem Zj2(I:Inv X [] σ H s)(hpn:X.pn = [])(hex:X.ex = [])(stk:X.stack=X.env::X.outer)(hf:X.env.frame=some X.env.locals)(x:XAt X.s₀.heap H s.heap a C)(k:∀h',Inv X [] σ H {s with heap:=h' }->XOn X.s₀.heap H h' a C->(∀b o,s.heap.get? b=some o->(∀vs,o.data ≠ .fields vs)->∃sl,h'.get? b=some {o with slots:=sl })->Q () {s with heap:=h' }) :
  wpAny M X.A (noteFrame (.ref a) X.env) Q E s:=by
 obtain⟨ha,h0a,oe,vs,a0,he,hc,hd,v0,tr⟩:=x
 have fin:∀(hs:List Addr),a∈hs->(∀b∈hs,X.s₀.heap.get? b=none/\H b=none/\∃o vs,s.heap.get? b=some o/\o.data = .fields vs)->
   ∀h1,Heap.NotedW (PySem.W.hideAll s.heap (hs++frs X.stack)) (X.env::X.outer) a (.ref C) a0 (rawInt X.env.locals) s.heap h1->Q () {s with heap:=h1 }:=by
  intro hs has hh h1 N
  refine k h1 (I.noted hpn hh N.1 N.2.2.2) ?_ N.2.2.2
  obtain⟨oe',vs',T,oT,ts,he',⟨hc',v0'⟩,hd',h1',hnT,hTe,hT,hdT,h3⟩:=N.2.2.1
  have no:∀o,s.heap.get? T=some o->T∉hs->T∉frs X.stack->False:=fun o e n1 n2=>by
   have:=PySem.W.hideAll_get (hs++frs X.stack) e fun hm=>(xH.mp hm).elim n1 n2
   rw[this] at hnT;cases hnT
  have nfr:T∉frs X.stack:=fun z=>by
   rw[stk] at z
   obtain⟨_,o,e,d⟩:=N.2.1.mem (show T∈(X.env::X.outer).filterMap (·.frame) from z)
   rw[hT] at e;cases e;exact d ts hdT
  refine⟨ha,h0a,oe',vs',a0,he',hc',hd',v0',T,oT,ts,_,h1',hTe,hT,hdT,h3,?_,?_⟩
  ·cases q:H T with
   | none=>rfl
   | some u =>
    obtain⟨o,e⟩:=(I.hok T u q).ex
    exact(no o e (fun z=>by rw[(hh T z).2.1] at q;cases q) nfr).elim
  ·cases q:X.s₀.heap.get? T with
   | none=>rfl
   | some o =>
    obtain⟨o',e⟩:=I.base.there T o q (by rw[hex];simp)
    exact(no o' e (fun z=>by rw[(hh T z).1] at q;cases q) nfr).elim
 have hfr:X.A.frames=some (X.env::X.outer):=by rw[← stk];exact I.ok.frames
 have hl:∀hs:List Addr,s.heap.FunFrames (PySem.W.hideAll s.heap (hs++frs X.stack)) (X.env::X.outer):=fun hs=>by
  rw[← stk]
  exact PySem.W.funFrames_hide I.stack fun env he b hb=>xK _ (List.mem_filterMap.mpr ⟨env,he,hb⟩)
 have hkb:∀hs:List Addr,(PySem.W.hideAll s.heap (hs++frs X.stack)).StaysIn s.heap:=fun hs b o q=>PySem.W.of_hideAll _ q
 rcases tr with v1 | ⟨T,oT,ts,v3,v1,hTe,hT,hdT,h3,hHT,h0T⟩
 ·have hh:∀b ∈ [a],X.s₀.heap.get? b=none/\H b=none/\∃o vs,s.heap.get? b=some o/\o.data = .fields vs:=fun b hb=>by
   rw[xI] at hb;subst hb;exact⟨h0a,ha,oe,vs,he,hd⟩
  unfold noteFrame
  simp only[hf]
  refine wpAny_bind (wpAny_field he hd v1 ?_)
  rw[if_neg (by decide)]
  refine wpAny_entryW (base:=PySem.W.hideAll s.heap ([a]++frs X.stack)) hfr (hl _) hf he (hkb _) (PySem.W.hideAll_none _ (by simp)) hd (zP.mp v1).1 v0 fun h1 N=>?_
  rw[hc] at N
  exact fin [a] (by simp) hh h1 N
 ·have hh:∀b ∈ [a,T],X.s₀.heap.get? b=none/\H b=none/\∃o vs,s.heap.get? b=some o/\o.data = .fields vs:=fun b hb=>by
   rcases xC.mp hb with rfl | hb
   ·exact⟨h0a,ha,oe,vs,he,hd⟩
   ·rw[xI] at hb;subst hb;exact⟨h0T,hHT,oT,ts,hT,hdT⟩
  unfold noteFrame
  simp only[hf]
  refine wpAny_bind (wpAny_field he hd v1 ?_)
  rw[if_pos (show (Value.ref T != Value.none)=true from by simp)]
  refine wpAny_bind (wpAny_field hT hdT h3 ?_)
  by_cases zz:(v3 == rawInt X.env.locals)=true
  ·rw[if_pos zz]
   exact wpAny_pure (k s.heap I ⟨ha,h0a,oe,vs,a0,he,hc,hd,v0,T,oT,ts,v3,v1,hTe,hT,hdT,h3,hHT,h0T⟩ fun b o e _=>⟨o.slots,e⟩)
  ·rw[if_neg zz]
   refine wpAny_bind (wpAny_setField hT hdT (zP.mp h3).1 ?_)
   have oth:∀b,b≠T->(s.heap.update T (Obj.mapFields (·.setIfInBounds 3 Value.none))).get? b=s.heap.get? b:=fun b hb=>zX _ _ (Ne.symm hb)
   have nr:∀b o,s.heap.get? b=some o->(∀vs,o.data ≠ .fields vs)->b≠T:=fun b o hb hn q=>by
    rw[q,hT] at hb;injection hb with hb;subst hb;exact hn ts hdT
   have hbT:(PySem.W.hideAll s.heap ([a,T]++frs X.stack)).get? T=none:=PySem.W.hideAll_none _ (by simp)
   refine wpAny_entryW (base:=PySem.W.hideAll s.heap ([a,T]++frs X.stack)) hfr ((hl _).of_keeps fun b o hb hn=>⟨o,(oth b (nr b o hb hn)).trans hb,rfl⟩) hf ((oth a (Ne.symm hTe)).trans he)
    (fun b o hbo=>(oth b fun q=>by rw[q,hbT] at hbo;cases hbo).trans (hkb _ b o hbo)) (PySem.W.hideAll_none _ (by simp)) hd (zP.mp v1).1 v0
    fun h1 ⟨x1,x2,x3,x4⟩=>?_
   rw[hc] at x3
   exact fin [a,T] (by simp) hh h1 ⟨x1,x2,x3,fun b o hb hn=>x4 b o ((oth b (nr b o hb hn)).trans hb) hn⟩
theorem Zfb{A:Around}{fr:Option Addr}(I:Inv X [] σ H s)(hpn:X.pn = [])(x:XOn X.s₀.heap H s.heap a C)(k:∀h',Inv X [] σ H {s with heap:=h' }->XOn X.s₀.heap H h' a C->Q () {s with heap:=h' }):wpAny M A (setFlight (.ref a) fr) Q E s:=by
 obtain⟨ha,h0a,oe,vs,a0,he,hc,hd,v0,T,oT,ts,v3,v1,hTe,hT,hdT,h3,hHT,h0T⟩:=x
 have sz3:=(zP.mp h3).1
 unfold setFlight
 refine wpAny_bind (wpAny_field he hd v1 ?_)
 rw[if_pos (show (Value.ref T != Value.none)=true from by simp)]
 refine wpAny_setField hT hdT sz3 ?_
 have oth:∀b,b≠T->(s.heap.update T (Obj.mapFields (·.setIfInBounds 3 (fr.elim Value.none fun f=>rawInt f)))).get? b=s.heap.get? b:=fun b hb=>zX _ _ (Ne.symm hb)
 refine k _ (I.noted (hs:=[T]) hpn (fun b hb=>by rw[xI] at hb;subst hb;exact⟨h0T,hHT,oT,ts,hT,hdT⟩) (fun b o q=>?_) fun b o hb hn=>⟨o.slots,(oth b fun q=>by rw[q,hT] at hb;cases hb;exact hn ts hdT).trans hb⟩)
  ⟨ha,h0a,oe,vs,a0,(oth a (Ne.symm hTe)).trans he,hc,hd,v0,T,_,_,(fr.elim Value.none fun f=>rawInt f),v1,hTe,Heap.get?_update_self _ hT (Obj.isFreed_of_fields (Obj.data_mapFields hdT _)),Obj.data_mapFields hdT _,by simp[sz3],hHT,h0T⟩
 refine(oth b fun z=>?_).trans (PySem.W.of_hideAll _ q)
 rw[z,PySem.W.hideAll_none _ (by simp)] at q
 cases q
theorem Zjn(I:Inv X [] σ H s)(hpn:X.pn = [])(hex:X.ex = [])(stk:X.stack=X.env::X.outer)(hf:X.env.frame=some X.env.locals)(x:XAt X.s₀.heap H s.heap a C)(k:∀h',Inv X [] σ H {s with heap:=h' }->XAt X.s₀.heap H h' a C->Q () {s with heap:=h' }) :
  wpAny M X.A (noteFrame (.ref a) X.env) (fun _ s₂=>wpAny M X.A (setFlight (.ref a) none) Q E s₂) E s :=
 Zj2 I hpn hex stk hf x fun h1 I1 x1 _=>Zfb (s:={s with heap:=h1 }) I1 hpn x1 fun h2 I2 x2=>k h2 I2 x2.at_
end
end L2
namespace L2
open PySem PySem.Spec PyProof.Rows
theorem XAt.mono{h0 h1 h:Heap}{H:Hp}{a C:Addr}(x:XAt h0 H h a C)(k:∀b,h0.get? b=none->h1.get? b=none):XAt h1 H h a C:=by
 obtain⟨ha,h0a,oe,vs,a0,he,hc,hd,v0,tr⟩:=x
 refine⟨ha,k a h0a,oe,vs,a0,he,hc,hd,v0,?_⟩
 rcases tr with v1 | ⟨T,oT,ts,v3,v1,hTe,hT,hdT,h3,hHT,h0T⟩
 ·exact .inl v1
 ·exact .inr ⟨T,oT,ts,v3,v1,hTe,hT,hdT,h3,hHT,k T h0T⟩
theorem Yk{P:Program}{w:World}{K:uFg}{mg:Str->Option Value}{base:Heap}{N:List Str}{qual:Str}{scope:Scope}{f:Addr}{cd:Value}{A:Around}{outer:List Env}{s:Shared}{H:Hp}{E:XK} :
  Xp (Yu (CXE P w) P w K mg base N qual scope f cd A outer s H E) fun _=>E:=⟨fun pins σ H1 s1 a C I x hE=>by
 have I':=I.pins_of (pins':=[]) (fun p hp=>nomatch hp)
 show wpAny _ _ (noteFrame _ _ >>= fun _=>setFlight _ none) _ _ _
 refine wpAny_bind (Zjn (X:=Yu (CXE P w) P w K mg base N qual scope f cd A outer s H E) I' rfl rfl rfl rfl x fun h' J y=>?_)
 exact⟨a,C,H1,rfl,J.os,J.bare,J.base,J.hok,y,hE⟩⟩
section
variable{X:Cx}{E:St->XK}
theorem Inv.newer{pins:List (Addr×Obj)}{σ:St}{H:Hp}{s:Shared}(I:Inv X pins σ H s)(hex:X.ex = []):∀b,s.heap.get? b=none->X.s₀.heap.get? b=none:=fun b e=>by
 cases q:X.s₀.heap.get? b with
 | none=>rfl
 | some o =>
  obtain⟨o',e'⟩:=I.base.there b o q (by rw[hex];simp)
  rw[e] at e';cases e'
structure Xq (X:Cx) (E:St->XK):Prop where
 h:(∀ σ c d H,¬E σ c d H)\/(X.ex = []/\Xp X E)
theorem Xq.never:Xq X fun _ _ _ _=>False:=⟨.inl fun _ _ _ _ h=>h⟩
theorem Xq.pass{pins:List (Addr×Obj)}{σ:St}{H:Hp}{s s':Shared}{e:Value}(hx:Xq X E)(I:Inv X pins σ H s)(h:CXE X.prog X.w X.stack H s (E σ) e s'):X.xe e s':=by
 obtain⟨a,C,H',rfl,os,bare,un,hok,x,hE⟩:=h
 rcases hx.h with z | ⟨hex,hx⟩
 ·exact(z _ _ _ _ hE).elim
 obtain⟨hh,g,d,t,os'⟩:=s'
 obtain rfl:os'=s.os:=os
 have J:=I.call (h':=hh) (g':=g) (d':=d) (t':=t) (ch:=[]) un hok bare (fun b z=>absurd z (by simp))
 exact hx.h pins σ H' _ a C J (x.mono (I.newer hex)) hE
theorem Zr{P:Program}{w:World}{K:uFg}{mg:Str->Option Value}{base:Heap}{N:List Str}{qual:Str}{scope:Scope}{f:Addr}{cd:Value}{A:Around}{outer:List Env}{s:Shared}{H:Hp}{E:XK} :
  Xq (Yu (CXE P w) P w K mg base N qual scope f cd A outer s H E) fun _=>E:=⟨.inr ⟨rfl,Yk⟩⟩
end
structure Run (P:Program) (w:World) (K:uFg) (mg:Str->Option Value) (base:Heap) (k:Nat) (f:Addr) (sp:Sp):Prop where
 run:∀(A:Around)(outer:List Env)(s:Shared)(H:Hp)(us:List Value)(vs:List V)(Q:VK)(E:XK),Room k A->Env0 P w K mg base A outer s H->Vals vs us->sp vs H Q E->codeAny (model P w) A (.call (.ref f) ⟨us,[]⟩) (CR (CXE P w) outer P w H s Q E) s
theorem FnOk.runX{P:Program}{w:World}{K:uFg}{mg:Str->Option Value}{base:Heap}{k:Nat}{f:Addr}{fd:FuncData}{ps:List Str}{sp:Sp}(F:FnOk P w K mg base (CXE P w) k f fd ps sp)(hb:Binds K fd ps []):Run P w K mg base k f sp :=
 ⟨fun A outer s H us vs Q E hr e0 r h=>by
  have KX:K.In s.heap:=e0.mod.kin.keeps fun b o e=>(e0.bs b o e).1
  have hl:us.length=ps.length:=by rw[← r.length];exact F.len _ _ _ _ h
  have hb':BindsTo s fd ⟨us,[]⟩ (ps.zip us):=by
   have:=hb s us KX (by rw[yN];exact hl)
   rw[yN] at this
   exact this
  exact F.run A outer s H ⟨us,[]⟩ us vs Q E hr e0 hb' r h⟩
def FnX(P:Program)(w:World)(K:uFg)(mg:Str->Option Value)(base:Heap)(x:Str)(k:Nat)(sp:Sp):Prop :=
 ∃f,mg x=some (.ref f)/\PySem.W.keepIn K (.ref f)=true/\Run P w K mg base k f sp
structure MtX (P:Program) (w:World) (K:uFg) (mg:Str->Option Value) (base:Heap) (C:Addr) (m:Str) (k:Nat) (sp:Sp):Prop where
 ex:∃(f:Addr),Meth K C m f/\Run P w K mg base k f sp
section
variable{P:Program}{w:World}{K:uFg}{mg:Str->Option Value}{base:Heap}{C:Addr}{x:Str}{ps:List Str}{k k':Nat}{sp sp':Sp}
def Sp.or(a b:Sp):Sp:=fun vs H Q E=>a vs H Q E\/b vs H Q E
end
def Z1a(sp:Sp)(E:St->XK)(t:TA):TE:=fun σ H Q=>t σ H fun vs H1=>sp vs H1 Q (E σ)
inductive tMtX_ (C:Addr) (m:Str) (sp:Sp) (E:St->XK) (t:TA) (σ:St) (Q:VK) (x:V) (H1:Hp):Prop
 | mk (a dx fs) (h0:x = .ref a) (h1:H1 a=some (.ins C dx fs)) (h2:fs.lookup m=none) (h3:t σ H1 fun vs H2=>sp (x::vs) H2 Q (E σ))
def Zn2(C:Addr)(m:Str)(sp:Sp)(E:St->XK)(ta:TE)(t:TA):TE:=fun σ H Q=>ta σ H fun x H1=>tMtX_ C m sp E t σ Q x H1
section
variable{X:Cx}{E:St->XK}{k:Nat}{f C:Addr}{sp:Sp}{x m:Str}{p pos apos:Pos}{e o:Expr}{es:List Expr}{ta:TE}{t:TA}
theorem Zfs{pins:List (Addr×Obj)}{σ:St}{H:Hp}{s:Shared}{Q:VK}{us:List Value}{vs:List V}(F:Run X.prog X.w X.K X.mg X.base k f sp)(hr:Room k X.A)(hx:Xq X E)(I:Inv X pins σ H s)(r:Vals vs us)(h:sp vs H Q (E σ)):wpAny (model X.prog X.w) X.A (call (.ref f) us) (EP X pins σ Q) X.xe s:=by
 refine wpAny_call (codeAny_mono (F.run X.A X.stack s H us vs Q (E σ) hr I.env0 r h) fun r s' hq=>?_)
 cases r with
 | error e=>exact hx.pass I hq
 | ok fl =>
  cases fl with
  | ret u=>exact I.after hq
  | next=>exact False.elim hq
  | brk=>exact False.elim hq
  | cont=>exact False.elim hq
theorem Y7(hx:Xq X E)(F:FnX X.prog X.w X.K X.mg X.base x k sp)(ha:QA X (e::es) t)(hr:Room k X.A:=by exact Room.mono (by assumption) (by first | decide | lia))(n:nB X x .globalImplicit:=by kernel_rfl)(he:starEach (e::es) X.env=(false,eval e X.env)::starEach es X.env:=by rfl)(hpl:(backTo pos (starEach es X.env)).any (·.1)=false:=by rfl) :
  QE X (.Call (.Name x p) (e::es) [] pos) (Z1a sp E t):=⟨by
 obtain⟨f,hm,hk,G⟩:=F
 intro pins s σ H Q I h
 have n:=od n
 refine wpAny_Call_Name_kw (Zbt I n.1 hm ?_ n.2.1)
 refine PySem.W.callWith_K (h₀:=X.base) I.ok.mod.kin hk (thn (ha.h pos pins s σ H _ I h) fun us s1 ⟨vs,H1,I1,r,q⟩=>⟨I1.kIn,?_⟩) he hpl
 exact Zfs G hr hx I1 r q⟩
theorem Z8{pl:Sem Bool}(hx:Xq X E)(he:QE X o ta)(c:Cls X.K C)(M:MtX X.prog X.w X.K X.mg X.base C m k sp)(ha:QA X (e::es) t)(hr:Room k X.A:=by exact Room.mono (by assumption) (by first | decide | lia))(hst:starEach (e::es) X.env=(false,eval e X.env)::starEach es X.env:=by rfl)(hpl:(backTo pos (starEach es X.env)).any (·.1)=false:=by rfl)(ht:eval (.Call (.Attribute o m apos) (e::es) [] pos) X.env=(do
   let ov ← eval o X.env
   standAt apos.atName
   let (f,first) ← holding [ov] (getMethod ov m pl)
   callWith pos f first (backTo pos (starEach (e::es) X.env)) (backToKw pos (keywordEach [] X.env))):=by rfl) :
  QE X (.Call (.Attribute o m apos) (e::es) [] pos) (Zn2 C m sp E ta t):=⟨by
 obtain⟨f,hm,F⟩:=M.ex
 intro pins s σ H Q I h
 refine PySem.W.methodCall_KW (pl:=pl) (thn (he.h pins s σ H _ I h) fun u s1 ⟨x,H1,I1,rx,a,dx,fs,ex,ea,l,q⟩=>?_) ht
 subst ex
 obtain rfl:u=Value.ref a:=rx
 refine Zdb I1 ea c hm l ?_
 refine PySem.W.callWith_K (first:=[.ref a]) (h₀:=X.base) I.ok.mod.kin hm.kp (thn (ha.h pos pins s1 σ H1 _ I1 q) fun us s2 ⟨vs,H2,I2,r,q2⟩=>⟨I2.kIn,?_⟩) hst hpl
 exact Zfs (us:=.ref a::us) (vs:=.ref a::vs) F hr hx I2 (.cons rfl r) q2⟩
theorem Ul{pl:Sem Bool}(hx:Xq X E)(he:QE X o ta)(c:Cls X.K C)(M:MtX X.prog X.w X.K X.mg X.base C m k sp)(hr:Room k X.A:=by exact Room.mono (by assumption) (by first | decide | lia))(ht:eval (.Call (.Attribute o m apos) [] [] pos) X.env=(do
   let ov ← eval o X.env
   standAt apos.atName
   let (f,first) ← holding [ov] (getMethod ov m pl)
   callWith pos f first (backTo pos (starEach [] X.env)) (backToKw pos (keywordEach [] X.env))):=by rfl) :
  QE X (.Call (.Attribute o m apos) [] [] pos) (Zn2 C m sp E ta Vl):=⟨by
 obtain⟨f,hm,F⟩:=M.ex
 intro pins s σ H Q I h
 refine PySem.W.methodCall_KW (pl:=pl) (thn (he.h pins s σ H _ I h) fun u s1 ⟨x,H1,I1,rx,a,dx,fs,ex,ea,l,q⟩=>?_) ht
 subst ex
 obtain rfl:u=Value.ref a:=rx
 refine Zdb I1 ea c hm l ?_
 exact PySem.W.callWith_K0 (first:=[.ref a]) I1.kIn hm.kp (Zfs (us:=[.ref a]) (vs:=[.ref a]) F hr hx I1 (.cons rfl .nil) q)⟩
end
section
variable{P:Program}{w:World}{K:uFg}{mg:Str->Option Value}{base:Heap}
theorem Fun.okX{x qual:Str}{st:Stmt}{f:Addr}{fd:FuncData}{N ps:List Str}{k:Nat}{sp:Sp}(F:Fun K x qual st f fd)(S:FnScope N ps (Zm st))(len:∀vs H Q E,sp vs H Q E->vs.length=ps.length)(hbody:∀ (cdv:Value) (A:Around) (outer:List Env) (s:Shared) (H:Hp) (vs:List V) (Q:VK) (E:XK),Room k (A.deeper (envOfC qual (Zm st) s.heap.objs.size f cdv))->sp vs H Q E ->
   ∃t,QSs (Yu (CXE P w) P w K mg base N qual (Zm st) f cdv A outer s H E) (Yi st) t/\t {nx:=fun _ H'=>Q .non H',rt:=Q } (start N vs) H):FnOk P w K mg base (CXE P w) (k+1) f fd ps sp:=by
 obtain⟨oc,od,kV,doc,pm,an,cdv,ct,osl,rfl,lk,hcd⟩:=F.ex
 refine Zls lk hcd S len fun A outer s H vs Q E hr hsp=>?_
 obtain⟨t,h,q⟩:=hbody cdv A outer s H vs Q E hr hsp
 exact⟨t,h.h,q⟩
theorem Has.fnX{x:Str}{st:Stmt}{N ps:List Str}{k:Nat}{sp:Sp}(h:Has K mg x st)(S:FnScope N ps (Zm st))(hb:∀ (kV doc pm:Value) (an:Option Addr) (cdv ct:Value) (us:List Value),us.length=ps.length->bindArgs (PySem.W.fnOf x x (Wh st) (Yi st) (Zm st) .none kV doc pm an cdv ct) ⟨us,[]⟩=pure (ps.zip us))(len:∀vs H Q E,sp vs H Q E->vs.length=ps.length)(hbody:∀ (f:Addr) (cdv:Value) (A:Around) (outer:List Env) (s:Shared) (H:Hp) (vs:List V) (Q:VK) (E:XK),Room k (A.deeper (envOfC x (Zm st) s.heap.objs.size f cdv))->sp vs H Q E ->
   ∃t,QSs (Yu (CXE P w) P w K mg base N x (Zm st) f cdv A outer s H E) (Yi st) t/\t {nx:=fun _ H'=>Q .non H',rt:=Q } (start N vs) H):FnX P w K mg base x (k+1) sp:=by
 obtain⟨f,fd,F,hm⟩:=h
 exact⟨f,hm,F.kp,(F.okX S len (hbody f)).runX (F.binds hb)⟩
theorem Has.fx{x:Str}{st:Stmt}{k:Nat}{sp:Sp}(h:Has K mg x st)(N ps:List Str)(hbody:∀{f:Addr}{cdv:Value}{A:Around}{outer:List Env}{s:Shared}(H:Hp) (vs:List V) (Q:VK) (E:XK),Room k (A.deeper (envOfC x (Zm st) s.heap.objs.size f cdv))->sp vs H Q E->vs.length=ps.length/\∃t,QSs (Yu (CXE P w) P w K mg base N x (Zm st) f cdv A outer s H E) (Yi st) t/\t {nx:=fun _ H'=>Q .non H',rt:=Q } (start N vs) H)(S:FnScope N ps (Zm st):=by exact fsc)(hk:k<=60:=by decide)(hb:∀ (kV doc pm:Value) (an:Option Addr) (cdv ct:Value) (us:List Value),us.length=ps.length->bindArgs (PySem.W.fnOf x x (Wh st) (Yi st) (Zm st) .none kV doc pm an cdv ct) ⟨us,[]⟩=pure (ps.zip us):=by exact fun _ _ _ _ _ _=>by first | exact al1 fun _=>rfl | exact al2 fun _ _=>rfl | exact al3 fun _ _ _=>rfl | exact al4 fun _ _ _ _=>rfl | exact al5 fun _ _ _ _ _=>rfl | exact al6 fun _ _ _ _ _ _=>rfl | exact al7 fun _ _ _ _ _ _ _=>rfl | exact al8 fun _ _ _ _ _ _ _ _=>rfl):FnX P w K mg base x (k+1) sp :=
 h.fnX S hb (fun vs H Q E h=>(hbody (f:=0) (cdv:=.none) (A:={}) (outer:=[]) (s:={}) H vs Q E (Zcv hk) h).1) fun _ _ _ _ _ H vs Q E hr q=>(hbody H vs Q E hr q).2
theorem HasM.mtX{C:Addr}{m qual:Str}{st:Stmt}{N ps:List Str}{k:Nat}{sp:Sp}(h:HasM K C m qual st)(S:FnScope N ps (Zm st))(hb:∀ (kV doc pm:Value) (an:Option Addr) (cdv ct:Value) (us:List Value),us.length=ps.length->bindArgs (PySem.W.fnOf m qual (Wh st) (Yi st) (Zm st) .none kV doc pm an cdv ct) ⟨us,[]⟩=pure (ps.zip us))(len:∀vs H Q E,sp vs H Q E->vs.length=ps.length)(hbody:∀ (f:Addr) (cdv:Value) (A:Around) (outer:List Env) (s:Shared) (H:Hp) (vs:List V) (Q:VK) (E:XK),Room k (A.deeper (envOfC qual (Zm st) s.heap.objs.size f cdv))->sp vs H Q E ->
   ∃t,QSs (Yu (CXE P w) P w K mg base N qual (Zm st) f cdv A outer s H E) (Yi st) t/\t {nx:=fun _ H'=>Q .non H',rt:=Q } (start N vs) H):MtX P w K mg base C m (k+1) sp:=by
 obtain⟨f,fd,F,M⟩:=h.ex
 exact⟨f,M,(F.okX S len (hbody f)).runX (F.binds hb)⟩
theorem HasM.mx{C:Addr}{m qual:Str}{st:Stmt}{k:Nat}{sp:Sp}(h:HasM K C m qual st)(N ps:List Str)(hbody:∀{f:Addr}{cdv:Value}{A:Around}{outer:List Env}{s:Shared}(H:Hp) (vs:List V) (Q:VK) (E:XK),Room k (A.deeper (envOfC qual (Zm st) s.heap.objs.size f cdv))->sp vs H Q E->vs.length=ps.length/\∃t,QSs (Yu (CXE P w) P w K mg base N qual (Zm st) f cdv A outer s H E) (Yi st) t/\t {nx:=fun _ H'=>Q .non H',rt:=Q } (start N vs) H)(S:FnScope N ps (Zm st):=by exact fsc)(hk:k<=60:=by decide)(hb:∀ (kV doc pm:Value) (an:Option Addr) (cdv ct:Value) (us:List Value),us.length=ps.length->bindArgs (PySem.W.fnOf m qual (Wh st) (Yi st) (Zm st) .none kV doc pm an cdv ct) ⟨us,[]⟩=pure (ps.zip us):=by exact fun _ _ _ _ _ _=>by first | exact al1 fun _=>rfl | exact al2 fun _ _=>rfl | exact al3 fun _ _ _=>rfl | exact al4 fun _ _ _ _=>rfl | exact al5 fun _ _ _ _ _=>rfl | exact al6 fun _ _ _ _ _ _=>rfl | exact al7 fun _ _ _ _ _ _ _=>rfl | exact al8 fun _ _ _ _ _ _ _ _=>rfl):MtX P w K mg base C m (k+1) sp :=
 h.mtX S hb (fun vs H Q E h=>(hbody (f:=0) (cdv:=.none) (A:={}) (outer:=[]) (s:={}) H vs Q E (Zcv hk) h).1) fun _ _ _ _ _ H vs Q E hr q=>(hbody H vs Q E hr q).2
end
end L2
namespace L2
open PySem PySem.Spec PyProof.Rows
def nsX(K:uFg)(N:Addr):Bool:=match K.lookup N with
 | some ⟨_,_,.dict es _,_⟩=>(es.toList.all fun e=>match e.key with | .str _ _=>true | _=>false) && (nsFind es "__init__").isNone
 | _=>false
def vE:List Value:=[.type "ValueError", .type "Exception", .type "BaseException", .type "object"]
def Zih:List (Option Value)->Bool
 | [_,_,_,_,some v,_]=>v == .builtin "ValueError.__new__"
 | _=>false
def Zn3(K:uFg):List Value->Bool
 | .ref M::r=>r == vE && (match K.lookup M with | some ⟨_,_,.cls cd,_⟩=>nsX K cd.ns | _=>false)
 | _=>false
def Za4(K:uFg)(C:Addr):Bool:=match K.lookup C with
 | some ⟨c,_,.cls cd,sl⟩=>(c == .type "type") && (cd.hasDel == false) && nsX K cd.ns && Zih sl.toList && (match cd.mro with | v::r=>(v == .ref C) && Zn3 K r | _=>false)
 | _=>false
theorem Zk9{K:uFg}{h:Heap}{N:Addr}(X:K.In h)(e:nsX K N=true):∃mN,h.Ns N mN/\mN "__init__" = none:=by
 unfold nsX at e
 split at e
 ·rename_i c d es n sl q
  rw[yJ] at e
  refine⟨nsFind es,⟨_,es,n,X _ _ q,rfl,fun en hen=>?_,fun _=>rfl⟩,Option.isNone_iff_eq_none.mp e.2⟩
  have z:=zE.mp e.1 en (Array.mem_toList_iff.mpr hen)
  cases k:en.key with
  | str x t=>exact⟨x,t,rfl⟩
  | _=>rw[k] at z;cases z
 ·cases e
theorem Zvh:∀{l:List (Option Value)},Zih l=true->∃k0 k1 k2 k3 k5,l = [k0,k1,k2,k3,some (.builtin "ValueError.__new__"),k5]:=by
 intro l e
 unfold Zih at e
 split at e
 ·exact⟨_,_,_,_,_,by rw[beq_iff_eq.mp e]⟩
 ·exact Bool.noConfusion e
theorem Zl9{K:uFg}{h:Heap}{C:Addr}(X:K.In h)(e:Za4 K C=true) :
  ∃nm q N bs bm hdct sn sub ab col dd k0 k1 k2 k3 k5 mN,h.get? C=some (excClassObj nm q C N bs bm hdct sn sub ab col dd k0 k1 k2 k3 k5 "ValueError.__new__")/\h.Ns N mN/\mN "__init__" = none/\OwnTail h vE bm:=by
 unfold Za4 at e
 split at e
 ·rename_i c d cd sl q
  simp only[yJ] at e
  obtain⟨⟨⟨⟨e1,e2⟩,e3⟩,e4⟩,e5⟩:=e
  have e1:=beq_iff_eq.mp e1
  subst e1
  obtain⟨mN,hn,hi⟩:=Zk9 X e3
  obtain⟨nm,bs,mro,N,qn,hdc,sn,sub,ab,col,hdl⟩:=cd
  have e2:hdl=false:=beq_iff_eq.mp e2
  subst e2
  cases mro with
  | nil=>cases e5
  | cons v r =>
   dsimp only at e5
   rw[yJ] at e5
   have e6:=beq_iff_eq.mp e5.1
   subst e6
   have e7:=e5.2
   unfold Zn3 at e7
   split at e7
   ·rename_i M r
    rw[yJ] at e7
    have e8:=beq_iff_eq.mp e7.1
    subst e8
    have e9:=e7.2
    split at e9
    ·rename_i c2 d2 cd2 sl2 q2
     obtain⟨mM,hM,hMi⟩:=Zk9 X e9
     obtain⟨sl⟩:=sl
     obtain⟨k0,k1,k2,k3,k5,rfl⟩:=Zvh (l:=sl) e4
     ·exact⟨nm,qn,N,bs,.ref M::vE,hdc,sn,sub,ab,col,d,k0,k1,k2,k3,k5,mN,X _ _ q,hn,hi,.own (X _ _ q2) hM hMi .base⟩
    ·cases e9
   ·cases e7
 ·cases e
def Zla(E:St->XK)(C:Addr)(te:TE):TS:=fun _ σ H=>te σ H fun _ H1=>E σ (.ref C) none H1
section
variable{X:Cx}{E:St->XK}{C:Addr}{x:Str}{np cpos pos:Pos}{e:Expr}{te:TE}
theorem Ztc(hx:Xp X E)(hcl:X.calm=true)(hex:X.ex = [])(xc:Za4 X.K C=true)(n:Nm X.env.scope x .globalImplicit)(hm:X.mg x=some (.ref C))(he:QE X e te)(hs:starEach [e] X.env = [(false,eval e X.env)]:=by rfl):QS X (.Raise (some (.Call (.Name x np) [e] [] cpos)) none pos) (Zla E C te):=⟨by
 intro pins s σ H D I h
 obtain⟨nm,q,N,bs,bm,hdct,sn,sub,ab,col,dd,k0,k1,k2,k3,k5,mN,hC,hn,hi,T⟩:=Zl9 I.kIn xc
 refine wpAny_Raise_call_subU (C:=C) (N:=N) (nm:=nm) (q:=q) (bs:=bs) (bm:=bm) (bmB:=vE) (hdct:=hdct) (sn:=sn) (sub:=sub) (ab:=ab) (col:=col) (dd:=dd) (k0:=k0) (k1:=k1) (k2:=k2) (k3:=k3) (k5:=k5) (mN:=mN)
  F.excBase_ValueError (by decide) F.excBase_ValueError (T.hasType (by decide)) (I.ok.hd hcl) (by rw[hs];rfl) hi (Zbt I n.1 hm ⟨rfl,?_⟩ n.2.1)
 rw[hs]
 refine Calls.evalArgs_plain (Calls.spliced_cons (thn (he.h pins s σ H _ I h) fun u s1 ⟨v,H1,I1,r1,q1⟩=>Calls.spliced_nil ?_))
 have K1:∀b o,X.base.get? b=some o->s1.heap.get? b=some o:=I1.bk
 obtain⟨nm',q',N',bs',bm',hdct',sn',sub',ab',col',dd',k0',k1',k2',k3',k5',mN',hC',hn',hi',T'⟩:=Zl9 I1.kIn xc
 have lk:∃o,X.K.lookup C=some o:=by
  unfold Za4 at xc
  split at xc
  ·rename_i z;exact⟨_,z⟩
  ·cases xc
 obtain⟨oC,hoC⟩:=lk
 have z1:=(I.kIn _ _ hoC).symm.trans hC
 have z2:=(I1.kIn _ _ hoC).symm.trans hC'
 have hC1:s1.heap.get? C=some (excClassObj nm q C N bs bm hdct sn sub ab col dd k0 k1 k2 k3 k5 "ValueError.__new__"):=by rw[hC',← z2,z1]
 have zz:=hC1.symm.trans hC'
 have eN:N=N':=by
  have:=congrArg (fun o:Option Obj=>match o with | some ⟨_,_,.cls cd,_⟩=>cd.ns | _=>0) zz
  exact this
 have ebm:bm=bm':=by
  have:=congrArg (fun o:Option Obj=>match o with | some ⟨_,_,.cls cd,_⟩=>cd.mro | _=>[]) zz
  exact(List.cons.inj this).2
 subst eN ebm
 refine⟨rfl,by show 1<=sizeLine;decide,hC1,?_,T',fun h' a hx'=>?_⟩
 ·-- the namespace is the same object
  have lkN:∃o,X.K.lookup N=some o:=by
   unfold Za4 at xc
   rw[hoC] at xc
   obtain⟨c,d,dt,sl⟩:=oC
   cases dt with
   | cls cd =>
    simp only[yJ] at xc
    have e3:=xc.1.1.2
    have eN:cd.ns=N:=by
     have:=congrArg (fun o:Option Obj=>match o with | some ⟨_,_,.cls cd,_⟩=>cd.ns | _=>0) z1
     exact this
    rw[eN] at e3
    unfold nsX at e3
    split at e3
    ·rename_i z;exact⟨_,z⟩
    ·cases e3
   | _=>cases xc
  obtain⟨oN,hoN⟩:=lkN
  obtain⟨o1,es1,ep1,ho1,r1⟩:=hn
  have:=(I.kIn _ _ hoN).symm.trans ho1
  cases this
  exact⟨_,es1,ep1,I1.kIn _ _ hoN,r1⟩
 ·obtain⟨t,e1,e2,e3⟩:=hx'.there
  have I2:Inv X pins σ H1 {s1 with heap:=h' }:=I1.kept (t':=s1.toks) hx'.keeps
  have fr:∀b,s1.heap.get? b=none->H1 b=none:=fun b z=>by
   cases q:H1 b with
   | none=>rfl
   | some u=>obtain⟨o,e⟩:=(I1.hok b u q).ex;rw[z] at e;cases e
  refine hx.h pins σ H1 {s1 with heap:=h' } a C I2 ⟨fr a hx'.new,?_,_,_,_,e1,rfl,rfl,rfl,.inl rfl⟩ q1
  cases q:X.s₀.heap.get? a with
  | none=>rfl
  | some o =>
   obtain⟨o',e'⟩:=I1.base.there a o q (by rw[hex];simp)
   rw[hx'.new] at e';cases e'⟩
end
end L2
end
section
namespace L2
open PySem PySem.Spec PyProof.Rows
abbrev TJ:=St->Hp->(Hp->Prop)->Prop
def PJ(X:Cx)(es:List Expr)(t:TJ):Prop:=∀(pins:List (Addr×Obj))(s:Shared)(σ:St)(H:Hp)(Q:Hp->Prop)(acc:Str),Inv X pins σ H s->acc.length+es.length * 1000000<=sizeLine->t σ H Q ->
 Joins (model X.prog X.w) X.A X.xe (evalEach es X.env) acc (fun out s₁=>out.length<=sizeLine/\∃H',Inv X pins σ H' s₁/\Q H') s
structure QJ (X:Cx) (es:List Expr) (t:TJ):Prop where
 h:PJ X es t
def tJt(n:Nat)(t:TJ):TJ:=fun σ H Q=>n<=1000000/\t σ H Q
def tJf(te:TE)(t:TJ):TJ:=fun σ H Q=>te σ H fun v H1=>((∃x,v = .str x/\x.length<=1000000)\/(∃i,v = .int i/\i.natAbs.log2 < 1920))/\t σ H1 Q
def tJr(te:TE)(t:TJ):TJ:=fun σ H Q=>te σ H fun v H1=>(∃x,v = .str x/\x.length<=10000/\∀c∈x.cps.toList,c < 16 ^ 8)/\t σ H1 Q
def tJ0:TJ:=fun _ H Q=>Q H
def Zyq(t:TJ):TE:=fun σ H Q=>t σ H fun H1=>∀x:Str,Q (.str x) H1
section
variable{X:Cx}{es:List Expr}{e:Expr}{te:TE}{t:TJ}{pos:Pos}
theorem Yy:QJ X [] tJ0:=⟨fun pins s σ H Q acc I hl h=>⟨by simpa using hl,H,I,h⟩⟩
theorem Zat(a b:Str):(a++b).length=a.length+b.length:=strLen_append a b
theorem Yc{x:Str}{j:Nat}(h:QJ X es t)(he:evalEach (.Constant (.str x) j pos::es) X.env=eval (.Constant (.str x) j pos) X.env::evalEach es X.env:=by rfl):QJ X (.Constant (.str x) j pos::es) (tJt x.length t):=⟨by
 intro pins s σ H Q acc I hl hq
 obtain⟨hx,hq⟩:=hq
 rw[xU] at hl
 rw[he]
 refine Calls.Constant_str ⟨x,_,rfl,?_,h.h pins _ σ H Q (acc++x) (I.tok _) ?_ hq⟩
 ·rw[Zat];lia
 ·rw[Zat];lia⟩
theorem Yq(h1:QE X e te)(h:QJ X es t)(he:evalEach (.FormattedValue e (-1) none pos::es) X.env=eval (.FormattedValue e (-1) none pos) X.env::evalEach es X.env:=by rfl):QJ X (.FormattedValue e (-1) none pos::es) (tJf te t):=⟨by
 intro pins s σ H Q acc I hl hq
 rw[xU] at hl
 rw[he]
 refine wpAny_FormattedValue_plain (thn (h1.h pins s σ H _ I hq) fun u s1 ⟨v,H1,I1,rv,hv,q⟩=>?_)
 rcases hv with⟨x,rfl,hx⟩ | ⟨i,rfl,hi⟩
 ·obtain⟨tk,rfl⟩:=rv
  refine formatField_str (fun t' tk'=>⟨x,t',rfl,?_,h.h pins _ σ H1 Q (acc++x) (I1.tok _) ?_ q⟩) (by rw[sizeLine_eq];lia)
  ·rw[Zat];lia
  ·rw[Zat];lia
 ·obtain⟨tk,rfl⟩:=rv
  have hn:(Str.ofString (toString i)).length<=1921:=by rw[PySem.ofString_length];exact int_text_length_le (by decide) hi
  refine wpAny_formatField_int hi ⟨_,_,rfl,?_,h.h pins _ σ H1 Q _ (I1.tok _) ?_ q⟩
  ·rw[Zat];lia
  ·rw[Zat];lia⟩
theorem Zlb(h1:QE X e te)(h:QJ X es t)(he:evalEach (.FormattedValue e 114 none pos::es) X.env=eval (.FormattedValue e 114 none pos) X.env::evalEach es X.env:=by rfl):QJ X (.FormattedValue e 114 none pos::es) (tJr te t):=⟨by
 intro pins s σ H Q acc I hl hq
 rw[xU] at hl
 rw[he]
 refine wpAny_FormattedValue_repr (thn (h1.h pins s σ H _ I hq) fun u s1 ⟨v,H1,I1,rv,hv,q⟩=>?_)
 obtain⟨x,rfl,hx,hc⟩:=hv
 obtain⟨tk,rfl⟩:=rv
 have hn:=StrLaws.reprText_len x hc
 have hz:(reprText x).length<=sizeLine:=by rw[sizeLine_eq];lia
 refine wpAny_pyReprObj_gives (x:=reprText x) (typeIs_str _ _ _) F.slot_str_repr F.entry_str_repr (F.args_str_repr_1 _) (gives_str_repr x tk) ?_ rfl hz
 refine formatField_str (fun t' tk'=>⟨_,t',rfl,?_,h.h pins _ σ H1 Q _ ((I1.tok _).tok _) ?_ q⟩) hz
 ·rw[Zat];lia
 ·rw[Zat];lia⟩
theorem Zi7{M:Model}{A:Around}{E:Value->Shared->Prop}{Q Q':Str->Shared->Prop}(hQ:∀o s,Q o s->Q' o s):∀{l:List (Sem Value)}{acc:Str}{s:Shared},Joins M A E l acc Q s->Joins M A E l acc Q' s
 | [],_,_,h=>hQ _ _ h
 | _::_,_,_,h=>wpAny_mono h (fun _ _ ⟨y,t,a,b,c⟩=>⟨y,t,a,b,Zi7 hQ c⟩) fun _ _ z=>z
theorem Yz{e1 e2:Expr}(h:QJ X (e1::e2::es) t)(hn:es.length<=8:=by decide):QE X (.JoinedStr (e1::e2::es) pos) (Zyq t):=⟨by
 intro pins s σ H Q I hq
 have hs:(Str.empty).length+(e1::e2::es).length * 1000000<=sizeLine:=by
  have:Str.empty.length=0:=rfl
  rw[this,xU,xU,sizeLine_eq];lia
 refine wpAny_JoinedStr ?_
 have key:=h.h pins s σ H _ Str.empty I hs hq
 refine Zi7 (fun out s1 ⟨h1,H1,I1,q⟩=>⟨h1,.str out,H1,I1.tok _,⟨_,rfl⟩,q out⟩) key⟩
end
end L2
end
section
namespace L2
open PySem PySem.Spec PyProof.Rows PySem.W PySem.Calls PySem.Builtin PySem.Builtin.ObjectAttr PySem.Builtin.Getset_descriptor
def Ur(K:Frag)(C:Addr):Bool:=(clsIn K C).isSome && (findIn K (.ref C) "__getattribute__" == some (some (.builtin "BaseException.__getattribute__"))) && (findIn K (.ref C) "__getattr__" == some none) && (findIn K (.ref C) "__class__" == some (some (.builtin "object.__class__"))) &&
 (mroIn K C (.type "object")== some true) && (mroIn K C (.type "BaseException")== some true)
section
variable{prog:Program}{w:World}{A:Around}{E:Value->Shared->Prop}{h:Heap}{g:Array GenState}{d:Drawn}{t:Nat}{os:OsState}{a C:Addr}{o:Obj}{K:Frag}
theorem Zpn{tp:Value}{R:Result->Shared->Prop}{s:Shared}(X:K.In s.heap)(L0:Looks (model prog w) s.heap (typeOf (.ref a)) (.ref C))(hm:mroIn K C (.type "object")=some true)(h:R (.ok (.ret (.ref C))) s):codeAny (model prog w) A (.call (.builtin "getset_descriptor.__get__") ⟨[.builtin "object.__class__", .ref a,tp],[]⟩) R s:=by
 obtain⟨hh,g,dr,t,os⟩:=s
 have L1:=looks_mroIn (M:=model prog w) X hm
 refine codeAny_call_builtin KF.slot_gs.plain KF.entry_gs (KF.slot_gs.check _ _ _ _ _ _ _ _ KF.type_class (KF.args_gs _ _ _) ?_)
 unfold Builtin.«getset_descriptor.__get__» descrGet
 rw[dga_obj]
 refine wpAny_bind (wpAny_pure ?_)
 unfold descrGetter descrCheckInstance descrNameAndClass isInstance
 simp only[KF.owner_class]
 repeat lk
 refine⟨Code.quiet_builtin _ (by decide +kernel),codeAny_builtin KF.entry_class ?_⟩
 unfold Builtin.«object.__class__» shownTypeOf
 repeat lk
 exact h
structure ExA (h:Heap) (a:Addr) (o:Obj) (C:Addr):Prop where
 at_:h.get? a=some o
 cls:o.cls = .ref C
theorem ExA.type{M:Model}(I:ExA h a o C):Looks M h (typeOf (.ref a)) (.ref C):=I.cls▸(Looks.ld I.at_).andThen .now
theorem Zoh{tk:Tok}{Q:Fin->Shared->Prop}(X:K.In h)(I:ExA h a o C)(k1:findIn K (.ref C) "__class__" = some (some (.builtin "object.__class__")))(k2:mroIn K C (.type "object")=some true)(hq:Q (.done (.ret (.ref C))) ⟨h,g,d,t,os⟩):wpAny (model prog w) A (Builtin.«object.__getattribute__» ⟨[.ref a,.str "__class__" tk],[]⟩) Q E ⟨h,g,d,t,os⟩:=by
 have hT5:(⟨h,g,d,t,os⟩:Shared).TypeIs (.builtin "object.__class__") "getset_descriptor" := F.typeOf_object_class
 have f5:=F.typeOf_object_class
 have f6:=F.slot_gs_get.lookup
 have f7:=F.slot_gs_set.lookup
 have hx:=I.at_
 have hc:=I.cls
 have L1:=looks_findIn (M:=model prog w) X k1
 repeat (any_goals (first | assumption | (with_reducible refine wpAny_loadPart_at hx ?_;rw[hc]) | with_reducible refine L1.at ?_ | wp_step))
 refine Zpn (s:=⟨h,g,d,t,os⟩) X I.type k2 ?_
 repeat (any_goals (first | assumption | wp_step))
theorem Zox{M:Model}{nameV:Value}{Q:Unit->Shared->Prop}(X:K.In h)(I:ExA h a o C)(k3:mroIn K C (.type "BaseException")=some true)(hq:Q () ⟨h,g,d,t,os⟩) :
  wpAny M A (checkBuiltinCall "BaseException.__getattribute__" ⟨[.ref a,nameV],[]⟩) Q E ⟨h,g,d,t,os⟩:=by
 have hk:builtinKind "BaseException.__getattribute__" = some .slot:=by decide +kernel
 have hsplit:splitId "BaseException.__getattribute__" = some ("BaseException", "__getattribute__"):=by decide +kernel
 have ha:=F.args_bexc_ga (.ref a) nameV
 have hx:=I.at_
 have hc:=I.cls
 have L1:=looks_mroIn (M:=M) X k3
 simp only[checkBuiltinCall,hk,hsplit]
 refine wpAny_bind ?_
 ·unfold isInstance
  repeat (first | (with_reducible refine wpAny_loadPart_at hx ?_;rw[hc]) | with_reducible refine L1.at ?_ | wp_step)
  exact hq
theorem Zoy{tk:Tok}{fill expr:Bool}{Q:Value->Shared->Prop}(X:K.In h)(I:ExA h a o C)(kc:Ur K C=true)(hq:Q (.ref C) ⟨h,g,d,t,os⟩) :
  wpAny (model prog w) A (getAttrBy (.ref a) (.str "__class__" tk) fill expr) Q E ⟨h,g,d,t,os⟩:=by
 unfold Ur at kc
 simp only[yJ] at kc
 obtain⟨⟨⟨⟨⟨_,k1⟩,k2⟩,k3⟩,k4⟩,k5⟩:=kc
 have k1:=beq_iff_eq.mp k1
 have k2:=beq_iff_eq.mp k2
 have k3:=beq_iff_eq.mp k3
 have k4:=beq_iff_eq.mp k4
 have k5:=beq_iff_eq.mp k5
 have f3:=F.attr_ValueError.ga.bind (.ref a)
 have hx:=I.at_
 have hc:=I.cls
 have hx0:(expr && onTheHeap (Value.builtin "BaseException.__getattribute__"))=false:=by cases expr<;>rfl
 have hx2:(Value.builtin "BaseException.__getattribute__" == Value.builtin "object.__getattribute__")=false:=by decide +kernel
 have hx1:(onTheHeap (Value.ref C) && Value.builtin "BaseException.__getattribute__" == Value.builtin "object.__getattribute__")=false:=by rw[hx2];rfl
 have L1:=looks_findIn (M:=model prog w) X k1
 have L2':=looks_findIn (M:=model prog w) X k2
 repeat (any_goals (first | assumption | (with_reducible refine wpAny_loadPart_at hx ?_;rw[hc]) | with_reducible refine L1.at ?_ | with_reducible refine L2'.at ?_ | wp_step))
 refine codeAny_call_builtin F.attr_ValueError.ga.plain F.entry_bexc_ga (Zox X I k5 (Zoh X I k3 k4 ?_))
 repeat (any_goals (first | assumption | wp_step))
theorem Zoi{Q:Option Value->Shared->Prop}(X:K.In h)(I:ExA h a o C)(kc:Ur K C=true)(hq:Q (some (.ref C)) ⟨h,g,d,t+1,os⟩) :
  wpAny (model prog w) A (getAttr? (.ref a) "__class__") Q E ⟨h,g,d,t,os⟩:=by
 unfold getAttr? getAttrBy?
 refine wpAny_bind (wpAny_mkText (wpAny_bind (wpAny_attempt (Zoy X I kc ?_))))
 exact wpAny_pure hq
end
section
variable{K:Frag}{a C:Addr}{o:Obj}
theorem Zj3(kc:Ur K C=true):KitX K (.ref a) (.ref C) (fun h=>ExA h a o C) where
 ty:=fun _ _ _ I=>I.type
 it:=fun _ _ X _=>by
  unfold Ur at kc
  simp only[yJ] at kc
  obtain⟨cdD,hcD⟩:=zG.mp kc.1.1.1.1.1
  unfold clsIn at hcD
  split at hcD
  ·rename_i c' d' cd' sl' ho
   intro A' Q' E' s' k q
   unfold isType loadHead
   exact wpAny_bind (wpAny_loadPart (k _ _ (X _ _ ho)) (wpAny_pure q))
  ·cases hcD
 ne:=fun h tp dd its n sl X htp=>by
  unfold Ur at kc
  simp only[yJ] at kc
  obtain⟨cdD,hcD⟩:=zG.mp kc.1.1.1.1.1
  refine Bool.eq_false_iff.mpr fun q=>?_
  have e:C=tp:=Value.ref.inj (beq_iff_eq.mp q)
  subst e
  unfold clsIn at hcD
  split at hcD
  ·rename_i c' d' cd' sl' ho
   have z:=(X _ _ ho).symm.trans htp
   cases z
  ·cases hcD
 ca:=fun {_ _ _ _ _ s} X I k=>by
  obtain⟨h,g,d,t,os⟩:=s
  exact Zoi X I kc k
end
end L2
end
section
namespace L2
open PySem PySem.Spec PyProof.Rows
abbrev Cx.hnd(X:Cx)(a:Addr)(o:Obj):Cx:={X with A:=X.A.mark (some (.ref a)),calm:=false,pn:=[(a,o)],xe:=fun _ _=>False }
section
variable{X:Cx}{σ:St}{H:Hp}{s:Shared}{a C:Addr}{o:Obj}
theorem Inv.hnd(I:Inv X [] σ H s)(ho:s.heap.get? a=some o)(hH:H a=none)(hd:∃vs,o.data = .fields vs):Inv (X.hnd a o) [] σ H s:=by
 obtain⟨vs,hd⟩:=hd
 obtain⟨m,⟨oL,esL,epL,hoL,hdL,rL⟩,_⟩:=id I.loc
 refine⟨⟨I.ok.mod,I.ok.kind,I.ok.glob,I.ok.blt,I.ok.above,I.ok.inj,I.ok.has,I.ok.cab,fun z=>Bool.noConfusion z,I.ok.frames,I.ok.stk,I.ok.exf,I.ok.bs,I.ok.bsz,I.ok.noex,I.ok.exfs,I.ok.funs,I.ok.frf⟩,I.os,I.bare,I.base,I.loc,I.cell,I.free,I.freeC,fun p hp=>?_,I.hok,I.len⟩
 have e:p=(a,o):=by simpa using hp
 subst e
 refine⟨ho,hH,fun z=>?_,fun z=>?_,fun v z=>?_⟩
 ·have z:a=X.env.locals:=z
  rw[z,hoL] at ho;cases ho;rw[hdL] at hd;cases hd
 ·obtain⟨_,o',e',d⟩:=I.funs.mem (show a∈X.outer.filterMap (·.frame) from z)
  rw[ho] at e';cases e';exact d vs hd
 ·have z:o.data = .cell v:=z
  rw[hd] at z;cases z
theorem Inv.unhnd(I:Inv (X.hnd a o) [] σ H s)(ok:X.Ok)(hpn:X.pn = []):Inv X [] σ H s :=
 ⟨ok,I.os,I.bare,I.base,I.loc,I.cell,I.free,I.freeC,(fun p hp=>by rw[hpn] at hp;cases hp),I.hok,I.len⟩
theorem Ztd{M:Model}{A:Around}{E:Value->Shared->Prop}{Q:Unit->Shared->Prop}(I:Inv X [] σ H s)(hpn:X.pn = [])(hex:X.ex = [])(stk:X.stack=X.env::X.outer)(x:XAt X.s₀.heap H s.heap a C)(k:∀h',Inv X [] σ H {s with heap:=h' }->XAt X.s₀.heap H h' a C->Q () {s with heap:=h' }):wpAny M A (setFlight (.ref a) none) Q E s:=by
 obtain⟨ha,h0a,oe,vs,a0,he,hc,hd,v0,tr⟩:=id x
 rcases tr with v1 | tr
 ·unfold setFlight
  refine wpAny_bind (wpAny_field he hd v1 ?_)
  rw[if_neg (by decide)]
  exact wpAny_pure (k s.heap I x)
 ·exact Zfb I hpn ⟨ha,h0a,oe,vs,a0,he,hc,hd,v0,tr⟩ fun h' I' x'=>k h' I' x'.at_
end
def Zad(K:uFg)(C D:Addr):Option Bool:=if ((PySem.W.clsIn K D).isSome && (PySem.W.typeIn K (.ref D)== some (.type "type")) && (PySem.W.subIn K (.ref D) (.type "BaseException")== some true))=true then PySem.W.subIn K (.ref C) (.ref D) else none
theorem Zon{M:Model}{A:Around}{E:Value->Shared->Prop}{s:Shared}{K:uFg}{a C D:Addr}{oe:Obj}{b:Bool}{Q:Bool->Shared->Prop}(X:K.In s.heap)(he:s.heap.get? a=some oe)(hc:oe.cls = .ref C)(e:Zad K C D=some b)(q:Q b s):wpAny M A (excMatches (.ref a) (.ref D)) Q E s:=by
 unfold Zad at e
 split at e
 ·rename_i z
  simp only[yJ] at z
  obtain⟨⟨z0,z1⟩,z2⟩:=z
  have L0:=PySem.W.looks_typeIn (M:=M) X (beq_iff_eq.mp z1)
  have L1:=PySem.W.looks_subIn (M:=M) X (beq_iff_eq.mp z2)
  have L2:=PySem.W.looks_subIn (M:=M) X e
  have LI:PySem.W.Looks M s.heap (isInstance (.ref D) (.type "tuple")) false:=L0.andThen (PySem.W.Looks.of_pure tc_notTuple)
  obtain⟨cdD,hcD⟩:=zG.mp z0
  have LT:PySem.W.Looks M s.heap (isType (.ref D)) true:=by
   unfold PySem.W.clsIn at hcD
   split at hcD
   ·rename_i c' d' cd' sl' ho
    intro A' Q' E' s' k q
    unfold isType loadHead
    exact wpAny_bind (wpAny_loadPart (k _ _ (X _ _ ho)) (wpAny_pure q))
   ·cases hcD
  have LE:PySem.W.Looks M s.heap (isExcClass (.ref D)) true:=LT.andThen L1
  have Lt:PySem.W.Looks M s.heap (typeOf (.ref a)) (.ref C):=hc▸(PySem.W.Looks.ld he).andThen .now
  obtain⟨h0,g,d,t,os⟩:=s
  unfold excMatches
  refine wpAny_bind (LI.at ?_)
  simp only[zJ,if_false]
  refine wpAny_bind (wpAny_pure ?_)
  simp only[List.forIn_cons,List.forIn_nil]
  refine wpAny_bind (wpAny_bind (wpAny_bind (LE.at ?_)))
  simp only[Bool.not_true,zJ,if_false]
  refine wpAny_pure (wpAny_pure ?_)
  refine wpAny_bind (Lt.at (wpAny_bind (wpAny_bind (wpAny_bind (L2.at ?_)))))
  cases b with
  | true=>simp only[if_true];exact wpAny_pure (wpAny_pure (wpAny_pure q))
  | false=>simp only[zJ,if_false];exact wpAny_pure (wpAny_pure (wpAny_pure q))
 ·cases e
def PH(X:Cx)(hs:List ExceptHandler)(t:Addr->TS):Prop:=∀(a C:Addr)(s:Shared)(σ:St)(H:Hp)(D:Ends),Inv X [] σ H s->XAt X.s₀.heap H s.heap a C->t C D σ H->wpAny (model X.prog X.w) X.A (handleBy (.ref a) X.env hs) (SP X [] D) X.xe s
structure QH (X:Cx) (hs:List ExceptHandler) (t:Addr->TS):Prop where
 h:PH X hs t
def tH0:Addr->TS:=fun _ _ _ _=>False
def Ends.off(D:Ends)(i:Nat):Ends:={nx:=fun σ H=>D.nx (σ.set i none) H,rt:=D.rt,bk:=fun σ H=>D.bk (σ.set i none) H,ct:=fun σ H=>D.ct (σ.set i none) H }
def Z1b(K:uFg)(Dc:Addr)(i:Nat)(ts:Addr->Addr->TS)(tr:Addr->TS):Addr->TS:=fun C D σ H=>∃b,Zad K C Dc=some b/\if b=true then ∀a,ts a C (D.off i) (σ.set i (some (.ref a))) H else tr C D σ H
structure Pl (X:Cx):Prop where
 pn:X.pn = []
 ex:X.ex = []
 stk:X.stack=X.env::X.outer
 fr:X.env.frame=some X.env.locals
section
variable{X:Cx}{x n:Str}{np pos:Pos}{b₀:Stmt}{suite:List Stmt}{rest:List ExceptHandler}{Dc:Addr}{tr:Addr->TS}
theorem Zxl:QH X [] tH0:=⟨fun _ _ _ _ _ _ _ _ h=>h.elim⟩
theorem Zte{a:Addr}{o:Obj}{D:Ends}{f:Flow}{s:Shared}(ok:X.Ok)(hpn:X.pn = [])(h:SP (X.hnd a o) [] D f s):SP X [] D f s:=by
 cases f with
 | next=>obtain⟨σ,H,I,q⟩:=h;exact⟨σ,H,I.unhnd ok hpn,q⟩
 | brk=>obtain⟨σ,H,I,q⟩:=h;exact⟨σ,H,I.unhnd ok hpn,q⟩
 | cont=>obtain⟨σ,H,I,q⟩:=h;exact⟨σ,H,I.unhnd ok hpn,q⟩
 | ret u=>obtain⟨v,σ,H,I,r,q⟩:=h;exact⟨v,σ,H,I.unhnd ok hpn,r,q⟩
theorem Inv.unset{i:Nat}{σ:St}{H:Hp}{s:Shared}{h':Heap}{tk:Nat}{m:Str->Option Value}{v:Option Value}(I:Inv X [] σ H s)(hpn:X.pn = [])(hN:X.N.Nodup)(hi:X.N[i]? = some n)(hn:s.heap.Ns X.env.locals m)(hn':h'.Ns X.env.locals (fun y=>if y=n then v else m y))(hs:Heap.SameBut X.env.locals s.heap h'):Inv X [] (σ.set i none) H {s with heap:=h',toks:=tk }:=by
 obtain⟨m0,hn0,hl⟩:=id I.loc
 have em:∀y,m0 y=m y:=by
  obtain⟨o1,e1,p1,g1,d1,_,f1⟩:=hn0
  obtain⟨o2,e2,p2,g2,d2,_,f2⟩:=hn
  rw[g1] at g2;cases g2
  rw[d1] at d2;cases d2
  intro y;rw[← f1,← f2]
 have cne:=I.cne
 have tracked:HOk X.prog X.w H h':=fun b ob e=>by
  refine(I.hok b ob e).stay (fun c w' hc q=>(hs.2 c ?_).trans q) (fun _ q=>q) fun _ _ q=>q
  rintro rfl
  rcases hc with rfl | hc
  ·rw[I.free] at e;cases e
  ·rw[I.free] at hc;cases hc
 have neL:∀b o,X.s₀.heap.get? b=some o->b≠X.env.locals:=fun b o e=>yC (xZ (xN e) I.ok.above)
 refine⟨I.ok,I.os,I.bare,⟨fun b o e nn hb hx=>(hs.2 b (neL b o e)).trans (I.base.keep b o e nn hb hx),fun b o e nn hb hx=>?_,I.base.free,fun b o e hx=>?_,I.base.tups,I.base.frzs,I.base.tbls⟩,⟨_,hn',fun j y v' e1 e2 e3=>?_⟩,fun y c e=>?_,I.free,I.freeC,(fun q hq=>by rw[hpn] at hq;cases hq),tracked,by rw[List.length_set];exact I.len⟩
 ·obtain⟨sl,e1⟩:=I.base.slot b o e nn hb hx
  exact⟨sl,(hs.2 b (neL b o e)).trans e1⟩
 ·obtain⟨o',e1⟩:=I.base.there b o e hx
  exact⟨o',(hs.2 b (neL b o e)).trans e1⟩
 ·by_cases hj:j=i
  ·subst hj
   rw[List.getElem?_set] at e2
   split at e2
   ·split at e2<;>cases e2
   ·rename_i z;exact absurd rfl z
  ·rw[List.getElem?_set_ne (Ne.symm hj)] at e2
   obtain⟨u',r',q⟩:=hl j y v' e1 e2 e3
   refine⟨u',r',?_⟩
   rcases q with⟨k,e⟩ | ⟨k,c,e,z⟩
   ·refine .inl ⟨k,?_⟩
    have ne:y≠n:=fun e=>hj (Zfe hN e1 (e▸hi))
    show (if y=n then v else m y)=some u'
    rw[if_neg ne,← em];exact e
   ·exact .inr ⟨k,c,e,z.sameBut hs (cne y c e)⟩
 ·obtain⟨w',z⟩:=I.cell y c e
  exact⟨w',z.sameBut hs (cne y c e)⟩
theorem Zyr(i:Nat){ts:Addr->Addr->TS}(p:Pl X)(hm:X.mg x=some (.ref Dc))(hb:∀a C o,o.cls = .ref C->QSs (X.hnd a o) (b₀::suite) (ts a C))(hr:QH X rest tr)(nm:nB X x .globalImplicit:=by kernel_rfl)(hN:nD X:=by kernel_rfl)(ne:nB X n .local:=by kernel_rfl)(hi:X.N[i]? = some n:=by rfl):QH X (.ExceptHandler (some (.Name x np)) (some n) (b₀::suite) pos::rest) (Z1b X.K Dc i ts tr):=⟨by
 have nm:=od nm
 have hN:=od hN
 have ne:=od ne
 intro a C s σ H D I xa h
 obtain⟨b,eb,h⟩:=h
 obtain⟨ha,h0a,oe,vs,a0,he,hc,hd,v0,_⟩:=id xa
 have J:=I.hnd he ha ⟨vs,hd⟩
 refine wpAny_handleBy_cons (codeAny_handlers_test (Zbt (X:=X.hnd a oe) J nm.1 hm ?_ nm.2.1)) (by intro q;cases q)
 refine Zon J.kIn he hc eb ?_
 cases b with
 | false=>exact hr.h a C s σ H D I xa h
 | true =>
  refine codeAny_handlers_suite_as (Ztd I p.pn p.ex p.stk xa fun h' I' xa'=>?_)
  obtain⟨ha',_,oe',vs',_,he',hc',hd',_⟩:=xa'
  refine Zff (X:=X.hnd a oe') (I'.hnd he' ha' ⟨vs',hd'⟩) hN hi (.inl ne.1) (v:=.ref a) rfl (fun s1 I1=>?_) (.inr ne.1)
  refine wpAny_mono ((hb a C oe' hc').h [] _ _ H (D.off i) I1 (h a)) (fun f s2 q=>?_) fun _ _ z=>z.elim
  have q:=Zte I.ok p.pn q
  have hp:(X.env.scope.kind == .class || (X.env.scope.kind == .module && X.env.locals != X.env.globals))=false:=by rw[I.ok.kind];rfl
  cases f with
  | next =>
   obtain⟨σ2,H2,I2,q⟩:=q
   obtain⟨m,hn,_⟩:=id I2.loc
   exact wpAny_nameGoes_keeps ne.1 hn hp fun h3 v hn3 hs3=>⟨_,H2,I2.unset p.pn hN hi hn hn3 hs3,q⟩
  | brk =>
   obtain⟨σ2,H2,I2,q⟩:=q
   obtain⟨m,hn,_⟩:=id I2.loc
   exact wpAny_nameGoes_keeps ne.1 hn hp fun h3 v hn3 hs3=>⟨_,H2,I2.unset p.pn hN hi hn hn3 hs3,q⟩
  | cont =>
   obtain⟨σ2,H2,I2,q⟩:=q
   obtain⟨m,hn,_⟩:=id I2.loc
   exact wpAny_nameGoes_keeps ne.1 hn hp fun h3 v hn3 hs3=>⟨_,H2,I2.unset p.pn hN hi hn hn3 hs3,q⟩
  | ret u =>
   obtain⟨v,σ2,H2,I2,r,q⟩:=q
   obtain⟨m,hn,_⟩:=id I2.loc
   exact wpAny_nameGoes_keeps ne.1 hn hp fun h3 v' hn3 hs3=>⟨v,_,H2,I2.unset p.pn hN hi hn hn3 hs3,r,q⟩⟩
end
end L2
namespace L2
open PySem PySem.Spec PyProof.Rows
def PS0(X:Cx)(st:Stmt)(t:TS):Prop:=∀(s:Shared)(σ:St)(H:Hp)(D:Ends),Inv X [] σ H s->t D σ H->wpAny (model X.prog X.w) X.A (exec st X.env) (SP X [] D) X.xe s
def Z1c(X:Cx)(st:List Stmt)(t:TS):Prop:=∀(s:Shared)(σ:St)(H:Hp)(D:Ends),Inv X [] σ H s->t D σ H->wpAny (model X.prog X.w) X.A (execs st X.env) (SP X [] D) X.xe s
structure QS0 (X:Cx) (st:Stmt) (t:TS):Prop where
 h:PS0 X st t
structure QSs0 (X:Cx) (st:List Stmt) (t:TS):Prop where
 h:Z1c X st t
def Z1d(tb:(St->XK)->TS)(th:Addr->TS):TS:=fun D σ H=>tb (fun σ' c _ H'=>∃C,c = .ref C/\th C D σ' H') D σ H
section
variable{X:Cx}{st:Stmt}{rest body:List Stmt}{t u:TS}{h₀:ExceptHandler}{hs:List ExceptHandler}{tb:(St->XK)->TS}{th:Addr->TS}{pos:Pos}
theorem QS.q0(h:QS X st t):QS0 X st t:=⟨fun s σ H D I q=>h.h [] s σ H D I q⟩
theorem QSs.q0(h:QSs X rest t):QSs0 X rest t:=⟨fun s σ H D I q=>h.h [] s σ H D I q⟩
theorem Zfc(h1:QS0 X st t)(h2:QSs0 X rest u):QSs0 X (st::rest) (Vs t u):=⟨by
 intro s σ H D I h
 rw[execs]
 refine wpAny_bind (thn (h1.h s σ H _ I h) fun f s1 q=>?_)
 cases f with
 | next =>
  obtain⟨σ1,H1,I1,q⟩:=q
  exact h2.h s1 σ1 H1 D I1 q
 | brk=>exact wpAny_pure q
 | cont=>exact wpAny_pure q
 | ret u=>exact wpAny_pure q⟩
theorem Zxm(p:Pl X)(hb:∀ (E':Value->Shared->Prop) (EH:St->XK),Xq (X.wish E') EH->QSs (X.wish E') body (tb EH))(hh:QH X (h₀::hs) th):QS0 X (.Try body (h₀::hs) [] [] pos) (Z1d tb th):=⟨by
 intro s σ H D I h
 refine wpAny_Try_except ?_
 have wish:∀{E'} {σ:St}{H:Hp}{s:Shared},Inv X [] σ H s->Inv (X.wish E') [] σ H s:=fun I=>⟨⟨I.ok.mod,I.ok.kind,I.ok.glob,I.ok.blt,I.ok.above,I.ok.inj,I.ok.has,I.ok.cab,I.ok.hd,I.ok.frames,I.ok.stk,I.ok.exf,I.ok.bs,I.ok.bsz,I.ok.noex,I.ok.exfs,I.ok.funs,I.ok.frf⟩,I.os,I.bare,I.base,I.loc,I.cell,I.free,I.freeC,I.pin,I.hok,I.len⟩
 have unw:∀{E'} {σ:St}{H:Hp}{s:Shared}{pins:List (Addr×Obj)},Inv (X.wish E') pins σ H s->Inv X pins σ H s:=fun I=>⟨⟨I.ok.mod,I.ok.kind,I.ok.glob,I.ok.blt,I.ok.above,I.ok.inj,I.ok.has,I.ok.cab,I.ok.hd,I.ok.frames,I.ok.stk,I.ok.exf,I.ok.bs,I.ok.bsz,I.ok.noex,I.ok.exfs,I.ok.funs,I.ok.frf⟩,I.os,I.bare,I.base,I.loc,I.cell,I.free,I.freeC,I.pin,I.hok,I.len⟩
 have hx:Xq (X.wish fun e s₁=>wpAny (model X.prog X.w) X.A (noteFrame e X.env) (fun _ s₂=>wpAny (model X.prog X.w) X.A (setFlight e none) (fun _ s₃=>wpAny (model X.prog X.w) X.A (handleBy e X.env (h₀::hs)) (SP X [] D) X.xe s₃) X.xe s₂) X.xe s₁)
   fun σ' c _ H'=>∃C,c = .ref C/\th C D σ' H':=⟨.inr ⟨p.ex,⟨fun pins σ1 H1 s1 a C I1 x q=>by
  obtain⟨C',eC,q⟩:=q
  cases eC
  have I2:=(unw I1).pins_of (pins':=[]) (fun p hp=>nomatch hp)
  exact Zjn I2 p.pn p.ex p.stk p.fr x fun h' J y=>hh.h a C _ σ1 H1 D J y q⟩⟩⟩
 refine wpAny_mono ((hb _ _ hx).h [] s σ H D (wish I) h) (fun f s1 q=>?_) fun _ _ z=>z
 have q':SP X [] D f s1:=by
  cases f with
  | next=>obtain⟨σ,H,I,q⟩:=q;exact⟨σ,H,unw I,q⟩
  | brk=>obtain⟨σ,H,I,q⟩:=q;exact⟨σ,H,unw I,q⟩
  | cont=>obtain⟨σ,H,I,q⟩:=q;exact⟨σ,H,unw I,q⟩
  | ret u=>obtain⟨v,σ,H,I,r,q⟩:=q;exact⟨v,σ,H,unw I,r,q⟩
 cases f with
 | next=>exact wpAny_pure q'
 | brk=>exact q'
 | cont=>exact q'
 | ret u=>exact q'⟩
end
def Z1e(K:uFg)(a C:Addr):List V->Hp->VK->Prop:=fun xs H Q=>Ur K C=true/\∃b,((∃D,xs = [.ref a,.ref D]/\PySem.W.kitOne K (.ref C) (.ref D)=some b)\/(∃n,xs = [.ref a,.ty n]/\PySem.W.kitOne K (.ref C) (.type n)=some b))/\Q (.bl b) H
theorem Wn{X:Cx}{a C:Addr}{o:Obj}(hc:o.cls = .ref C):QC (X.hnd a o) (.builtin "isinstance") (Z1e X.K a C):=⟨by
 intro pins s σ H xs us Q I r h
 obtain⟨kc,b,hv,q⟩:=h
 have hp:=I.pin (a,o) (yM _ (by simp))
 have hA:ExA s.heap a o C:=⟨hp.1,hc⟩
 have fin:∀tk,EP (X.hnd a o) pins σ Q (.bool b) {s with toks:=tk }:=fun tk=>⟨.bl b,H,I.tok tk,rfl,q⟩
 rcases hv with⟨D,rfl,e⟩ | ⟨n,rfl,e⟩
 ·cases r with
  | cons r1 r=>cases r with
   | cons r2 r =>
    cases r
    obtain rfl:=r1
    obtain rfl:=r2
    exact PySem.W.kia_one (Zj3 kc) I.kIn hA e (by intro z;cases z) fin
 ·cases r with
  | cons r1 r=>cases r with
   | cons r2 r =>
    cases r
    obtain rfl:=r1
    obtain rfl:=r2
    exact PySem.W.kia_one (Zj3 kc) I.kIn hA e (by intro z;cases z) fin⟩
section
variable{P:Program}{w:World}{K:uFg}{mg:Str->Option Value}{base:Heap}
theorem Fun.ok0{x qual:Str}{st:Stmt}{f:Addr}{fd:FuncData}{N ps:List Str}{k:Nat}{sp:Sp}(F:Fun K x qual st f fd)(S:FnScope N ps (Zm st))(len:∀vs H Q E,sp vs H Q E->vs.length=ps.length)(hbody:∀ (cdv:Value) (A:Around) (outer:List Env) (s:Shared) (H:Hp) (vs:List V) (Q:VK) (E:XK),Room k (A.deeper (envOfC qual (Zm st) s.heap.objs.size f cdv))->sp vs H Q E ->
   ∃t,QSs0 (Yu CX0 P w K mg base N qual (Zm st) f cdv A outer s H E).nox (Yi st) t/\t {nx:=fun _ H'=>Q .non H',rt:=Q } (start N vs) H):FnOk P w K mg base CX0 (k+1) f fd ps sp:=by
 obtain⟨oc,od,kV,doc,pm,an,cdv,ct,osl,rfl,lk,hcd⟩:=F.ex
 refine⟨len,fun A outer s H args us vs Q E hr e0 hb r hsp=>?_⟩
 have hl:=len _ _ _ _ hsp
 have KX:K.In s.heap:=e0.mod.kin.keeps fun b o e=>(e0.bs b o e).1
 have lim:s.heap.NoLimit:=e0.mod.nolimit.keeps fun b o e=>(e0.bs b o e).1
 have hkind:∀y∈ps.zip us,(Zm st).names.lookup y.1=some .local\/((Zm st).names.lookup y.1=some .cell/\((cellsFrom (s.heap.objs.size+1) (Zm st).names []).lookup y.1).isSome=true):=fun⟨n,v⟩ hy=>by
  rcases S.par n (yX hy).1 with q | q
  ·exact .inl q
  ·exact .inr ⟨q,PySem.W.cellsFrom_some _ _ _ (.inl q)⟩
 refine codeAny_call_function hr.depth (KX _ _ lk) rfl S.co S.gen rfl (PySem.W.codeRec_of KX hcd) (hb _ _ _ _ ?_)
 refine wpAny_newFunctionEnv_cells S.kind hkind fun env he s1 x=>?_
 subst he
 refine⟨lim.keeps x.toInCall.keep,codeAny_func ?_⟩
 obtain⟨t,ht,hq⟩:=hbody cdv A outer s H vs Q E (hr.deeper _) hsp
 have I0:Inv (Yu CX0 P w K mg base N qual (Zm st) f cdv A outer s H E) [] (start N vs) H s1:=Zjg S hr.hd e0 hl r x
 have I:Inv (Yu CX0 P w K mg base N qual (Zm st) f cdv A outer s H E).nox [] (start N vs) H s1:=⟨⟨I0.ok.mod,I0.ok.kind,I0.ok.glob,I0.ok.blt,I0.ok.above,I0.ok.inj,I0.ok.has,I0.ok.cab,I0.ok.hd,I0.ok.frames,I0.ok.stk,I0.ok.exf,I0.ok.bs,I0.ok.bsz,I0.ok.noex,I0.ok.exfs,I0.ok.funs,I0.ok.frf⟩,I0.os,I0.bare,I0.base,I0.loc,I0.cell,I0.free,I0.freeC,I0.pin,I0.hok,I0.len⟩
 refine wpAny_mono (ht.h s1 (start N vs) H _ I hq) (fun fl s' hs=>?_) fun e s' hs=>hs.elim
 have fin:∀{σ':St}{H':Hp}{v:V}{u:Value},Inv (Yu CX0 P w K mg base N qual (Zm st) f cdv A outer s H E).nox [] σ' H' s'->RelV v u->Q v H'->CE outer P w H s Q u s' :=
  fun {σ' H' v u} J rv q=>⟨v,H',J.os,J.bare,J.base,J.hok,rv,q⟩
 cases fl with
 | ret u =>
  obtain⟨v,σ',H',J,rv,q⟩:=hs
  exact fin J rv q
 | next =>
  obtain⟨σ',H',J,q⟩:=hs
  exact fin (v:=V.non) (u:=Value.none) J rfl q
 | brk=>obtain⟨_,_,_,z⟩:=hs;exact z.elim
 | cont=>obtain⟨_,_,_,z⟩:=hs;exact z.elim
theorem Has.fn0{x:Str}{st:Stmt}{N ps:List Str}{k:Nat}{sp:Sp}(h:Has K mg x st)(S:FnScope N ps (Zm st))(hb:∀ (kV doc pm:Value) (an:Option Addr) (cdv ct:Value) (us:List Value),us.length=ps.length->bindArgs (PySem.W.fnOf x x (Wh st) (Yi st) (Zm st) .none kV doc pm an cdv ct) ⟨us,[]⟩=pure (ps.zip us))(len:∀vs H Q E,sp vs H Q E->vs.length=ps.length)(hbody:∀ (f:Addr) (cdv:Value) (A:Around) (outer:List Env) (s:Shared) (H:Hp) (vs:List V) (Q:VK) (E:XK),Room k (A.deeper (envOfC x (Zm st) s.heap.objs.size f cdv))->sp vs H Q E ->
   ∃t,QSs0 (Yu CX0 P w K mg base N x (Zm st) f cdv A outer s H E).nox (Yi st) t/\t {nx:=fun _ H'=>Q .non H',rt:=Q } (start N vs) H):Fn P w K mg base x ps (k+1) sp:=by
 obtain⟨f,fd,F,hm⟩:=h
 exact⟨f,fd,hm,F.kp,F.binds hb,F.ok0 S len (hbody f)⟩
theorem Has.f0{x:Str}{st:Stmt}{ps:List Str}{k:Nat}{sp:Sp}(h:Has K mg x st)(N:List Str)(hbody:∀{f:Addr}{cdv:Value}{A:Around}{outer:List Env}{s:Shared}(H:Hp) (vs:List V) (Q:VK) (E:XK),Room k (A.deeper (envOfC x (Zm st) s.heap.objs.size f cdv))->sp vs H Q E->vs.length=ps.length/\∃t,QSs0 (Yu CX0 P w K mg base N x (Zm st) f cdv A outer s H E).nox (Yi st) t/\t {nx:=fun _ H'=>Q .non H',rt:=Q } (start N vs) H)(S:FnScope N ps (Zm st):=by exact fsc)(hk:k<=60:=by decide)(hb:∀ (kV doc pm:Value) (an:Option Addr) (cdv ct:Value) (us:List Value),us.length=ps.length->bindArgs (PySem.W.fnOf x x (Wh st) (Yi st) (Zm st) .none kV doc pm an cdv ct) ⟨us,[]⟩=pure (ps.zip us):=by exact fun _ _ _ _ _ _=>by first | exact al1 fun _=>rfl | exact al2 fun _ _=>rfl | exact al3 fun _ _ _=>rfl | exact al4 fun _ _ _ _=>rfl | exact al5 fun _ _ _ _ _=>rfl | exact al6 fun _ _ _ _ _ _=>rfl | exact al7 fun _ _ _ _ _ _ _=>rfl | exact al8 fun _ _ _ _ _ _ _ _=>rfl):Fn P w K mg base x ps (k+1) sp :=
 h.fn0 S hb (fun vs H Q E h=>(hbody (f:=0) (cdv:=.none) (A:={}) (outer:=[]) (s:={}) H vs Q E (Zcv hk) h).1) fun _ _ _ _ _ H vs Q E hr q=>(hbody H vs Q E hr q).2
end
theorem Zlc{CX:CXT}{P:Program}{w:World}{K:uFg}{mg:Str->Option Value}{base:Heap}{N:List Str}{qual:Str}{scope:Scope}{f:Addr}{cd:Value}{A:Around}{outer:List Env}{s:Shared}{H:Hp}{E:XK} :
  Pl (Yu CX P w K mg base N qual scope f cd A outer s H E).nox:=⟨rfl,rfl,rfl,rfl⟩
structure Er (K:uFg) (mg:Str->Option Value) (c:Str->Addr) (errs:List Str):Prop where
 g:∀x,x∈errs->mg x=some (.ref (c x))
 x:∀x,x∈errs->Za4 K (c x)=true
 k:∀x,x∈errs->Ur K (c x)=true
 m:mg "MootError" = some (.ref (c "MootError"))
 e:∀x,x∈errs->Zad K (c x) (c "MootError")=some true
 s:∀x,x∈errs->∀y,y∈errs->Zad K (c x) (c y)=some (decide (x=y))
 i:∀x,x∈errs->∀y,y∈errs->PySem.W.kitOne K (.ref (c x)) (.ref (c y))=some (decide (x=y))
 v:∀x,x∈errs->PySem.W.kitOne K (.ref (c x)) (.type "ValueError")=some true
theorem Ys{X:Cx}{E:St->XK}{x:Str}{np cpos pos:Pos}{e:Expr}{te:TE}{c:Str->Addr}{es:List Str}(hx:Xp X E)(er:Er X.K X.mg c es)(he:QE X e te)(hm:decide (x∈es)=true:=by kernel_rfl)(n:nB X x .globalImplicit:=by kernel_rfl)(hcl:X.calm=true:=by rfl)(hex:X.ex = []:=by rfl)(hs:starEach [e] X.env = [(false,eval e X.env)]:=by rfl):QS X (.Raise (some (.Call (.Name x np) [e] [] cpos)) none pos) (Zla E (c x) te):=Ztc hx hcl hex (er.x x (od hm)) (od n) (er.g x (od hm)) he hs
end L2
end
section
namespace L2
open PySem PySem.Spec PyProof.Rows
section
section
variable{X:Cx}
inductive rNeBls (K:uFg) (x:V) (y:V) (H:Hp) (Q:VK):Prop
 | mk (a b:Addr) (is:List Bool) (h0:x = .ref a) (h1:y = .ref b) (h2:SqL K H a (is.map V.bl)) (h3:SqL K H b (is.map V.bl)) (h4:Q (.bl false) H)
theorem Zf4:∀{is:List Bool}{its:List Value},Vals (is.map V.bl) its->its=is.map Value.bool
 | [],_,.nil=>rfl
 | i::is,_,.cons r rr=>by
  have h:=Zf4 rr
  obtain rfl:=r
  rw[h];rfl
theorem Ztf(hu:X.A.units < cLine):OpR X (compareOp .NotEq) (rNeBls X.K):=by
 intro pins s σ H x y v u Q I rx ry ⟨a,b,is,ex,ey,ha,hb,q⟩
 subst ex ey
 obtain rfl:v=Value.ref a:=rx
 obtain rfl:u=Value.ref b:=ry
 obtain⟨i1,r1,p1,_⟩:=I.list ha
 obtain⟨i2,r2,p2,_⟩:=I.list hb
 obtain rfl:=Zf4 r1
 obtain rfl:=Zf4 r2
 have h:=SeqAt.RcNeAt.lists (A:=X.A) (e:=fun _=>true) p1.isList p2.isList rfl hu (fun j h1 h2=>by
  show SeqAt.EqAt _ _ _ _ true
  have hj:j < is.length:=by simpa using h1
  have f1:(is.map Value.bool).toArray[j]= .bool is[j]:=by simp
  rw[f1]
  rw[← beq_self_eq_true is[j]]
  exact SeqAt.EqAt.bool_bool _ _)
 rw[show (!(List.range (is.map Value.bool).toArray.size).all fun _=>true)=false by simp] at h
 exact h X.prog X.w _ _ ⟨.bl false,H,I,rfl,q⟩
theorem Zrt{k:Nat}(hr:Room k X.A):QOp X (compareOp .NotEq) (rNeBls X.K):=⟨Ztf hr.units0⟩
end
end
section
abbrev lxE(X:Cx)(E:St->XK):Value->Shared->Prop:=fun(e:Value) (s':Shared)=>∃ σ H a C,e = .ref a/\Inv X [] σ H s'/\XAt X.s₀.heap H s'.heap a C/\E σ (.ref C) none H
abbrev Cx.lx(X:Cx)(E:St->XK):Cx:=X.wish (lxE X E)
theorem Ztg{X:Cx}{st:Stmt}{t:TS}{E:St->XK}(p:Pl X)(hx:Xp X E)(h:Xq (X.lx E) E->Xp (X.lx E) E->PassesOwn (model X.prog X.w) X.A X.env (lxE X E)->QS (X.lx E) st t):QS X st t:=⟨by
 intro pins s σ H D I q
 have wish:∀{E'} {σ:St}{H:Hp}{s:Shared}{pins:List (Addr×Obj)},Inv X pins σ H s->Inv (X.wish E') pins σ H s:=fun I=>⟨⟨I.ok.mod,I.ok.kind,I.ok.glob,I.ok.blt,I.ok.above,I.ok.inj,I.ok.has,I.ok.cab,I.ok.hd,I.ok.frames,I.ok.stk,I.ok.exf,I.ok.bs,I.ok.bsz,I.ok.noex,I.ok.exfs,I.ok.funs,I.ok.frf⟩,I.os,I.bare,I.base,I.loc,I.cell,I.free,I.freeC,I.pin,I.hok,I.len⟩
 have unw:∀{E'} {σ:St}{H:Hp}{s:Shared}{pins:List (Addr×Obj)},Inv (X.wish E') pins σ H s->Inv X pins σ H s:=fun I=>⟨⟨I.ok.mod,I.ok.kind,I.ok.glob,I.ok.blt,I.ok.above,I.ok.inj,I.ok.has,I.ok.cab,I.ok.hd,I.ok.frames,I.ok.stk,I.ok.exf,I.ok.bs,I.ok.bsz,I.ok.noex,I.ok.exfs,I.ok.funs,I.ok.frf⟩,I.os,I.bare,I.base,I.loc,I.cell,I.free,I.freeC,I.pin,I.hok,I.len⟩
 have hp:PassesOwn (model X.prog X.w) X.A X.env (lxE X E):=by
  rintro e s' ⟨σ1,H1,a,C,rfl,I1,x1,q1⟩
  refine Zj2 I1 p.pn p.ex p.stk p.fr x1 fun h2 I2 x2 _=>?_
  obtain⟨ha,h0a,oe,vs,a0,he,hc,hd,v0,T,oT,ts,v3,v1,tr⟩:=id x2
  show wpAny _ _ (field (.ref a) 1 >>= _) _ _ _
  refine wpAny_bind (wpAny_field he hd v1 ?_)
  rw[if_neg (show ¬((Value.ref T == Value.none)=true) from by simp)]
  exact Zfb (s:={s' with heap:=h2 }) I2 p.pn x2 fun h3 I3 x3=>⟨σ1,H1,a,C,rfl,I3,x3.at_,q1⟩
 have hx':Xp (X.lx E) E:=⟨fun pins σ1 H1 s1 a C I1 x1 q1=>by exact⟨σ1,H1,a,C,rfl,(unw I1).pins_of (fun p hp=>nomatch hp),x1,q1⟩⟩
 refine wpAny_mono ((h ⟨.inr ⟨p.ex,hx'⟩⟩ hx' hp).h pins s σ H D (wish I) q) (fun f s1 q=>?_) fun e s1 z=>?_
 ·cases f with
  | next=>obtain⟨σ,H,I,q⟩:=q;exact⟨σ,H,unw I,q⟩
  | brk=>obtain⟨σ,H,I,q⟩:=q;exact⟨σ,H,unw I,q⟩
  | cont=>obtain⟨σ,H,I,q⟩:=q;exact⟨σ,H,unw I,q⟩
  | ret u=>obtain⟨v,σ,H,I,r,q⟩:=q;exact⟨v,σ,H,unw I,r,q⟩
 ·obtain⟨σ1,H1,a,C,rfl,I1,x1,q1⟩:=z
  exact hx.h [] σ1 H1 s1 a C I1 x1 q1⟩
theorem Zco{X:Cx}{tg iter:Expr}{body:List Stmt}{wi:TI}{g:TG}{t:TS}{pos:Pos}{E:St->XK}(p:Pl X)(hx:Xp X E)(hc:X.calm=true)(hi:QI (X.lx E) tg iter wi)(hg:QG (X.lx E) tg g)(hb:Xq (X.lx E) E->Xp (X.lx E) E->QSs (X.lx E) body t)(hs:∀x,foldedSetIterable iter X.env x=pure x:=by intro _;rfl):QS X (.For tg iter body [] pos) (Zl4 wi g t):=Ztg p hx fun hq hp po=>Uj (X:=X.lx E) po hc hi hg (hb hq hp) hs
end
section
end
section
section
variable{X:Cx}
inductive rSplit (x:V) (xs:List V) (H:Hp) (Q:VK):Prop
 | mk (a b:Str) (h0:x = .str a) (h1:xs = [.str b]) (h2:b.length≠0) (h3:a.length+2<=sizeLine) (h4:∀l,H l=none->Q (.ref l) (upd H l (.lst ((Txt.split a b).map V.str))))
theorem Zjo:∀l:List (Str×Tok),Vals ((l.map (·.1)).map V.str) (strValues l)
 | []=>.nil
 | (x,t)::l=>.cons ⟨t,rfl⟩ (Zjo l)
theorem Zth:MtR X "str.split" rSplit:=by
 intro pins s σ H x xs v us Q I rx rs ⟨a,b,ex,exs,hb,hz,q⟩
 subst ex exs
 obtain⟨t,rfl⟩:=rx
 obtain⟨u,rfl,tu,rfl⟩:=Uh rs
 have hn:(PySem.Builtin.Str.partsBetween a (PySem.Builtin.Str.occurrences a b 0 a.length (a.length+1)) b.length).length<=sizeLine:=by
  have e1:=StrLaws.occ_length_le a b 0 a.length (a.length+1)
  rw[PySem.length_partsBetween];lia
 have hy:(b.length == 0)=false:=by simpa using hb
 have put:∀(l:List (Str×Tok))(k:Nat),l.map (·.1)=Txt.split a b->l.length<=sizeLine->EP X pins σ Q (.ref s.heap.objs.size) {s with toks:=k,heap:=s.heap.push {cls:=.type "list", data:=.seq (strValues l).toArray } }:=fun l k e hl =>
  ⟨.ref s.heap.objs.size,_,I.laid (t':=k) (fun b o e=>xF _ e) (xE _) (show ObjOk X.prog X.w _ _ _ (.lst ((Txt.split a b).map V.str)) from⟨by rw[xA,← e,xA];exact hl,strValues l,0,by rw[← e];exact Zjo l,xW _ rfl⟩),rfl,q _ (I.hok.fresh (xE _))⟩
 cases h1:(decide (a.length < b.length) || decide (PySem.Builtin.Str.strKind a < PySem.Builtin.Str.strKind b))
 ·cases hf:(PySem.Builtin.Str.occurrences a b 0 a.length (a.length+1)).isEmpty
  ·refine call_meets F.slot_str_split (typeIs_str _ _ _) F.entry_str_split (F.args_str_split_2 _ _) (meets_str_split_sep a b t tu h1 hy hf (by lia) hn) ?_
   show wants _ _ _ {s with toks:=_,heap:=s.heap.push {cls:=.type "list", data:=.seq (strsFrom s.toks (PySem.Builtin.Str.partsBetween a (PySem.Builtin.Str.occurrences a b 0 a.length (a.length+1)) b.length)).toArray } }
   rw[strsFrom_eq]
   have e:(numbered s.toks (PySem.Builtin.Str.partsBetween a (PySem.Builtin.Str.occurrences a b 0 a.length (a.length+1)) b.length)).map (·.1)=Txt.split a b:=(numbered_texts s.toks (PySem.Builtin.Str.partsBetween a (PySem.Builtin.Str.occurrences a b 0 a.length (a.length+1)) b.length)).trans ((if_neg (ne_true_of_eq_false h1)).trans (if_neg (ne_true_of_eq_false hf))).symm
   refine put (numbered s.toks _) _ e ?_
   have:=congrArg List.length (numbered_texts s.toks (PySem.Builtin.Str.partsBetween a (PySem.Builtin.Str.occurrences a b 0 a.length (a.length+1)) b.length))
   rw[xA] at this
   rw[this];exact hn
  ·exact call_meets F.slot_str_split (typeIs_str _ _ _) F.entry_str_split (F.args_str_split_2 _ _) (meets_str_split_not_found a b t tu h1 hy hf) (put [(a,t)] s.toks ((if_neg (ne_true_of_eq_false h1)).trans (if_pos hf)).symm (by show 1<=sizeLine;lia))
 ·exact call_meets F.slot_str_split (typeIs_str _ _ _) F.entry_str_split (F.args_str_split_2 _ _) (meets_str_split_cannot_occur a b t tu h1) (put [(a,t)] s.toks (if_pos h1).symm (by show 1<=sizeLine;lia))
theorem Zru:QM X "str.split" rSplit:=⟨Zth⟩
end
end
section
def Zec(K:uFg)(P:Params)(d:Addr)(kvs:List (Str×Tok×Addr)):Prop:=(∃n,K.lookup d=some ⟨.type "dict", none,.dict (kvs.map fun x=>de P x.1 x.2.1 (.ref x.2.2)).toArray n,#[]⟩)/\(kvs.map (·.1)).Nodup/\(d == sysModules)=false
def kdK(kvs:List (Str×Tok×Addr)):List (Key×Value):=kvs.map fun x=>(Sum.inr x.1,Value.ref x.2.2)
theorem Zxn{K:uFg}{Pg:Program}{w:World}{h:Heap}{d:Addr}{kvs:List (Str×Tok×Addr)}(X:K.In h)(D:Zec K w.params d kvs):h.DictOf (Y0 Pg w) d (kdK kvs):=by
 obtain⟨⟨n,e⟩,nd,_⟩:=D
 refine⟨_,_,n,X _ _ e,⟨rfl,rfl,rfl⟩,rfl,fun x hx=>?_,?_,?_⟩
 ·obtain⟨y,_,rfl⟩:=yS.mp (Array.mem_toList_iff.mpr hx)
  exact⟨Sum.inr y.1,Ze9 y.1 y.2.1,rfl⟩
 ·have:∀l:List (Str×Tok×Addr),PySem.Pairs (Y0 Pg w) (l.map fun x=>de w.params x.1 x.2.1 (.ref x.2.2)) (kdK l):=by
   intro l
   induction l with
   | nil=>exact .nil
   | cons y l ih=>exact .cons (Ze9 y.1 y.2.1) rfl ih
  exact this kvs
 ·unfold kdK
  rw[List.map_map]
  have e2:((fun x:Key×Value=>x.1)∘fun x:Str×Tok×Addr=>((Sum.inr x.1:Key),Value.ref x.2.2))=fun x=>Sum.inr x.1:=rfl
  rw[e2]
  rw[List.nodup_iff_pairwise_ne] at nd ⊢
  rw[List.pairwise_map] at nd ⊢
  exact nd.imp fun h z=>h (Sum.inr.inj z)
def Zc6(kvs:List (Str×Tok×Addr))(n:Str):Option Addr:=(kvs.find? fun x=>decide (x.1=n)).map (·.2.2)
theorem Zld(n:Str):∀kvs:List (Str×Tok×Addr),valueAt (kdK kvs) (Sum.inr n)=(Zc6 kvs n).map Value.ref
 | []=>rfl
 | x::l=>by
  have ih:=Zld n l
  unfold valueAt kdK Zc6 at *
  rw[xV,zD,zD]
  dsimp only
  rw[Zkt]
  cases decide (x.1=n) with
  | true=>rfl
  | false=>exact ih
section
variable{X:Cx}
inductive rInKD (K:uFg) (P:Params) (x:V) (y:V) (H:Hp) (Q:VK):Prop
 | mk (n:Str) (d:Addr) (kvs:List (Str×Tok×Addr)) (h0:x = .str n) (h1:y = .ref d) (h2:Zec K P d kvs) (h3:Q (.bl (Zc6 kvs n).isSome) H)
theorem Zvi:OpR X (compareOp .In) (rInKD X.K X.w.params):=by
 intro pins s σ H x y v u Q I rx ry ⟨n,d,kvs,ex,ey,D,q⟩
 subst ex ey
 obtain rfl:u=Value.ref d:=ry
 refine wpAny_in_of (Zai (P:=X.prog) (w:=X.w) (k:=Sum.inr n) rx) D.2.2 (Zxn I.kIn D).mapOf ?_
 rw[Zld,Option.isSome_map]
 exact⟨.bl _,H,I.tok _,rfl,q⟩
theorem Zj4:QOp X (compareOp .In) (rInKD X.K X.w.params):=⟨Zvi⟩
end
end
section
end
section
section
variable{P:Program}{w:World}{A:Around}{E:Value->Shared->Prop}{s:Shared}
end
end
section
section
variable{X:Cx}{pins:List (Addr×Obj)}{σ:St}{H:Hp}{s:Shared}
theorem Inv.freeze{d:Addr}{o:Obj}{kvs:List (Key×V)}(I:Inv X pins σ H s)(e:H d=some (.dK kvs))(ho:s.heap.get? d=some o):Inv X pins σ (upd H d (.frz o (.dK kvs))) s:=by
 have h:=I.write (h':=s.heap) (t':=s.toks) (x:=d) (e:=d) (o:=.frz o (.dK kvs)) (by rw[e];exact True.intro) (.inl rfl) (fun _ _ _ q=>q) ⟨o,ho⟩ ⟨ho,?_⟩
 ·exact h
 ·obtain⟨z,y,vs,r,q⟩:=(show ObjOk X.prog X.w H s.heap d (.dK kvs) from I.hok d _ e)
  exact⟨z,y,vs,r,q⟩
theorem Inv.nofrz{d:Addr}{kvs:List (Key×V)}(I:Inv X pins σ H s)(e:H d=some (.dK kvs)):∀o u,X.H₀ d≠some (.frz o u):=fun o u z=>by
 have:=I.base.frzs d o u z
 rw[e] at this;cases this
theorem Inv.thaw{d:Addr}{o:Obj}{kvs:List (Key×V)}(I:Inv X pins σ H s)(e:H d=some (.frz o (.dK kvs)))(nf:∀o u,X.H₀ d≠some (.frz o u)):Inv X pins σ (upd H d (.dK kvs)) s:=by
 have hne:∀b u,H b=some u->(∀x,u ≠ .frz o x)->b≠d:=fun b u q n z=>by rw[z,e] at q;exact n _ (Option.some.inj q).symm
 have hnn:∀b,H b=none->b≠d:=fun b q z=>by rw[z,e] at q;cases q
 refine⟨I.ok,I.os,I.bare,⟨I.base.keep,I.base.slot,fun b ob q n hx=>?_,I.base.there,fun b xs q=>?_,fun b ob u q=>?_,fun b ps q=>?_⟩,I.loc,I.cell,?_,fun x c q=>?_,fun p hp=>?_,fun b u q=>?_,I.len⟩
 ·have:=I.base.free b ob q n hx
  rw[Zc (hnn b this)];exact this
 ·have:=I.base.tups b xs q
  rw[Zc (hne b _ this fun _ z=>nomatch z)];exact this
 ·have:=I.base.frzs b ob u q
  rw[Zc (fun z=>nf ob u (by rw[← z];exact q))];exact this
 ·obtain⟨m,hm⟩:=I.base.tbls b ps q
  exact⟨m,by rw[Zc (hne b _ hm fun _ z=>nomatch z)];exact hm⟩
 ·rw[Zc (hnn _ I.free)];exact I.free
 ·rw[Zc (hnn _ (I.freeC x c q))];exact I.freeC x c q
 ·obtain⟨p1,p2,p3,p4,p5⟩:=I.pin p hp
  exact⟨p1,by rw[Zc (hnn _ p2)];exact p2,p3,p4,p5⟩
 ·by_cases hb:b=d
  ·subst hb
   rw[Zg] at q
   cases q
   obtain⟨_,z,y,vs,r,c⟩:=(show ObjOk X.prog X.w H s.heap b (.frz o (.dK kvs)) from I.hok b _ e)
   exact⟨z,y,vs,r,c⟩
  ·rw[Zc hb] at q
   refine(I.hok b u q).stay (fun _ _ _ z=>z) (fun c z=>?_) fun c xs z=>?_
   ·rw[Zc (hne c _ z fun _ y=>nomatch y)];exact z
   ·rw[Zc (hne c _ z fun _ y=>nomatch y)];exact z
end
section
variable{X:Cx}{e:Expr}{te:TE}
inductive tIced (te:TE) (σ:St) (H:Hp) (Q:VK):Prop
 | mk (d kvs) (h0:H d=some (.dK kvs)) (h1:∀o,te σ (upd H d (.frz o (.dK kvs))) fun v H'=>H' d=some (.frz o (.dK kvs))/\Q v (upd H' d (.dK kvs)))
theorem Zvj(h:QE X e te):QE X e (tIced te):=⟨by
 intro pins s σ H Q I q
 obtain⟨d,kvs,ed,q⟩:=q
 obtain⟨z,y,vs,r,o,es,ep,ho,c⟩:=(show ObjOk X.prog X.w H s.heap d (.dK kvs) from I.hok d _ ed)
 have nf:=I.nofrz ed
 exact thn (h.h pins s σ _ _ (I.freeze ed ho) (q o)) fun u s1 ⟨x,H1,I1,r1,e1,q1⟩=>⟨x,_,I1.thaw e1 nf,r1,q1⟩⟩
end
def Itk(d:Addr)(o:Obj)(kvs:List (Key×V)):It :=
 ⟨fun i H=>H d=some (.frz o (.dK kvs))/\i < kvs.length,fun i H v H'=>H'=H/\∃p,kvs[i]? = some p/\v=kV p.1,fun i H=>H d=some (.frz o (.dK kvs))/\kvs.length<=i⟩
theorem Zxo{P:Program}{w:World}{k:Key}{v:Value}(h:(Y0 P w).is k v=true):RelV (kV k) v:=by
 cases k with
 | inl i =>
  cases v<;>first
   | exact absurd (show false=true from h) xM
   | skip
  rename_i j t
  have e:j=i:=by
   have h:(j == i)=true:=h
   exact eq_of_beq h
  exact⟨t,by rw[e]⟩
 | inr x =>
  cases v<;>first
   | exact absurd (show false=true from h) xM
   | skip
  rename_i j t
  have e:j=x:=by
   have h:(j == x)=true:=h
   exact eq_of_beq h
  exact⟨t,by rw[e]⟩
theorem KV.get{κ:Type}:∀{kvs:List (κ×V)}{vs:List (κ×Value)}{i:Nat}{p : κ×V}{q : κ×Value},KV kvs vs->kvs[i]? = some p->vs[i]? = some q->p.1=q.1/\RelV p.2 q.2:=by
 intro kvs vs i p q r
 unfold KV at r
 induction r generalizing i with
 | nil=>intro h;simp at h
 | cons h t ih =>
  intro e1 e2
  cases i with
  | zero =>
   have e1:some _=some p:=e1
   have e2:some _=some q:=e2
   cases e1
   cases e2
   exact h
  | succ i=>exact ih (i:=i) e1 e2
theorem Zrv{P:Program}{w:World}{K:uFg}{tg:Expr}(it d:Addr)(o:Obj)(kvs:List (Key×V))(vs:List (Key×Value))(ep:Nat)(hne:d≠it)(rel:KV kvs vs)(hD:∀h:Heap,h.get? d=some o->h.DictAt (Y0 P w) d vs ep) :
  Turn P w K tg (Itk d o kvs) [it] it (fun i h=>h.IsKeyIter it d i vs.length ep) where
 mem:=by simp
 obj:=fun i h st b hb=>by
  have e:b=it:=by simpa using hb
  subst e
  obtain⟨ob,ho,hc,hd⟩:=st
  exact⟨ob,ho,fun v q=>by rw[hd] at q;cases q⟩
 keep:=fun i h h' st k=>st.at fun ob q=>k it (by simp) ob q
 item:=by
  intro X hP hw hK hc i pins s σ H E I hf st hg
  subst hP hw hK
  obtain⟨f0,f1,f2,f3,f4,f5⟩:=hf it (by simp)
  obtain⟨ed,hi⟩:=hg
  obtain⟨hod,_⟩:=(show ObjOk X.prog X.w H s.heap d (.frz o (.dK kvs)) from I.hok d _ ed)
  have W:=Walks.dictKeys (prog:=X.prog) (w:=X.w) (A:=X.A) (knd:=Y0 X.prog X.w) (I.ok.hd hc) it d hne vs ep
  refine W.item i s _ _ (by rw[← rel.length];exact hi) ⟨st,hD _ hod⟩ fun v h' tk hv st' kk=>?_
  obtain⟨k,x,hx,hk⟩:=hv
  have I1:Inv X pins σ H {s with heap:=h',toks:=tk }:=I.turned (fun b ob hb e=>kk b ob (by simpa using hb) e) f0 f1 f3 f4 f5
  obtain⟨ob,ho,hcl,hdt⟩:=id st'.1
  obtain⟨p,hp⟩:∃p,kvs[i]? = some p:=⟨_,xB hi⟩
  have hpk:p.1=k:=(KV.get rel hp hx).1
  refine⟨_,rfl,Zcu (s:={s with heap:=h',toks:=tk }) (n:="dict_keyiterator") ho hcl hdt (by decide) ⟨kV p.1,H,I1,by rw[hpk];exact Zxo hk,⟨rfl,p,hp,rfl⟩,st'.1,fun b hb=>(hf b hb).1⟩⟩
 done:=by
  intro X hP hw hK hc i pins s σ H E I hf st hg
  subst hP hw hK
  obtain⟨f0,f1,f2,f3,f4,f5⟩:=hf it (by simp)
  obtain⟨ed,hi⟩:=hg
  obtain⟨hod,_⟩:=(show ObjOk X.prog X.w H s.heap d (.frz o (.dK kvs)) from I.hok d _ ed)
  exact wpAny_pyNext_dict_end (I.ok.hd hc) st (hD _ hod) (List.getElem?_eq_none (by rw[← rel.length];exact hi)) fun h' eb=>⟨rfl,I.turned (t':=s.toks) (fun b ob hb e=>eb b ob hb e) f0 f1 f3 f4 f5⟩
 self:=fun _ _ _ _ _ st h=>wpAny_pyIter_keyiter st h
section
variable{X:Cx}{tg l:Expr}{te:TE}
inductive iKeys_ (R:It->Hp->Prop) (x:V) (H1:Hp):Prop
 | mk (d o kvs) (h0:x = .ref d) (h1:H1 d=some (.frz o (.dK kvs))) (h2:R (Itk d o kvs) H1)
def Zys(te:TE):TI:=fun σ H R=>te σ H fun x H1=>iKeys_ R x H1
theorem Zvk(hl:QE X l te):QI X tg l (Zys te):=⟨by
 intro pins s σ H R I h
 refine thn (hl.h pins s σ H _ I h) fun u s1 ⟨x,H1,I1,r1,d,o,kvs,ex,ed,q⟩=>?_
 subst ex
 obtain rfl:u=Value.ref d:=r1
 obtain⟨hod,z,hsys,vs,rel,o',es,ep,ho',c⟩:=(show ObjOk X.prog X.w H1 s1.heap d (.frz o (.dK kvs)) from I1.hok d _ ed)
 rw[hod] at ho'
 cases ho'
 have hD:∀h:Heap,h.get? d=some o->h.DictAt (Y0 X.prog X.w) d vs ep:=fun h e=>⟨o,es,e,c⟩
 refine wpAny_pyIter_dict hsys (hD _ hod) ?_
 have lt:d < s1.heap.objs.size:=xN hod
 refine⟨s1.heap.objs.size,[s1.heap.objs.size],_,_,H1,rfl,I1.kept (t':=s1.toks) fun b ob e=>xF _ e,Zrv s1.heap.objs.size d o kvs vs ep (yC lt) rel hD,⟨_,xW _ rfl,rfl,rfl⟩,fun b hb=>?_,q⟩
 have e:b=s1.heap.objs.size:=by simpa using hb
 subst e
 exact I1.fpOk (xE _) (I1.hok.fresh (xE _))⟩
end
theorem Zrw{d:Addr}{o:Obj}{kvs:List (Key×V)}{nl:Nat}{fv:St}{g:TG}{tt:TTs}{te:TE}{Q:VK}{H:Hp}(Pv:Nat->List V->Hp->Prop)(h0:Pv 0 [] H)(hn:kvs.length<=1000000)(hl:∀i ys H,i<=kvs.length->Pv i ys H->H d=some (.frz o (.dK kvs)))(hlen:∀i ys H,Pv i ys H->ys.length<=i)(step:∀i p ys H,kvs[i]? = some p->Pv i ys H->Vn nl fv g tt te (kV p.1) H (fun y H'=>Pv (i+1) (ys ++ [y]) H') fun H'=>Pv (i+1) ys H')(hd:∀ys H,Pv kvs.length ys H->∀l,H l=none->Q (.ref l) (upd H l (.lst ys))) :
  Ui (Itk d o kvs) nl fv g tt te Q H:=by
 have hml:(kvs.map fun p=>kV p.1).length=kvs.length:=xA ..
 refine Zdj (xs:=kvs.map fun p=>kV p.1) Pv h0 (by rw[hml];exact hn) ?_ ?_ ?_ hlen ?_ ?_
 ·intro i H ys hi p
  rw[hml] at hi
  exact⟨hl i ys H (zI hi) p,hi⟩
 ·rintro i H x H' ys hi p ⟨rfl,q,hq,rfl⟩
  exact⟨rfl,by rw[xP,hq];rfl⟩
 ·intro H ys p
  rw[hml] at p ⊢
  exact⟨hl _ ys H (xE _) p,xE _⟩
 ·intro i x ys H hx p
  rw[xP] at hx
  cases e:kvs[i]? with
  | none=>rw[e] at hx;cases hx
  | some q=>rw[e] at hx;cases hx;exact step i q ys H e p
 ·intro ys H p
  rw[hml] at p
  exact hd ys H p
section
variable{X:Cx}
inductive rMaxL (K:uFg) (xs:List V) (H:Hp) (Q:VK):Prop
 | mk (a:Addr) (ns:List Int) (h0:xs = [.ref a]) (h1:SqL K H a (ns.map V.int)) (h2:ns ≠ []) (h3:∀m,m∈ns->(∀x∈ns,x<=m)->Q (.int m) H)
theorem Zpo{ns:List Int}:∀{us:List Value},Vals (ns.map V.int) us->∃xs:List (Int×Tok),xs.map (·.1)=ns/\us=xs.map fun p=>Value.int p.1 p.2:=by
 induction ns with
 | nil=>intro us r;cases r;exact⟨[],rfl,rfl⟩
 | cons n ns ih =>
  intro us r
  cases r with
  | cons r1 r2 =>
   obtain⟨t,rfl⟩:=r1
   obtain⟨xs,e1,e2⟩:=ih r2
   exact⟨(n,t)::xs,by rw[xV,e1],by rw[xV,e2]⟩
theorem Zrx(hc:X.calm=true):Vj X (.builtin "max") (rMaxL X.K):=by
 intro pins s σ H xs us Q I r h
 obtain⟨a,ns,rfl,ha,hne,q⟩:=h
 obtain⟨u,rfl,ru⟩:=Uh r
 cases ru
 obtain⟨its,rv,p,_⟩:=I.list ha
 obtain⟨ps,e1,e2⟩:=Zpo rv
 subst e2
 have hl:s.heap.IsList a (intItems ps.toArray):=by
  have:=p.isList
  have e:intItems ps.toArray=(ps.map fun p=>Value.int p.1 p.2).toArray:=by unfold intItems;simp
  rw[e];exact this
 have hps : 0 < ps.toArray.size:=by
  rw[xL]
  cases ps with
  | nil=>exact absurd e1.symm hne
  | cons x r=>simp
 refine max_intList (I.ok.hd hc) hl hps fun v h' tk hv k=>?_
 obtain⟨b1,b2⟩:=argBest_gt (numAt ps.toArray) (ps.toArray.size - 1)
 generalize argBest (fun i j=>decide (numAt ps.toArray i > numAt ps.toArray j)) (ps.toArray.size - 1)=j at hv b1 b2
 obtain⟨t,rfl⟩:=intItems_at hv
 have num:∀i:Nat,i < ps.length->ns[i]? = some (numAt ps.toArray i):=fun i hi=>by
  rw[← e1,xP]
  unfold numAt
  rw[List.getElem?_toArray,xB hi]
  rfl
 have hsz:ps.toArray.size=ps.length:=xL ..
 have hnl:ns.length=ps.length:=by rw[← e1,xA]
 refine⟨.int (numAt ps.toArray j),H,I.kept k,⟨t,rfl⟩,q _ (xO (num j (by lia))) fun x hx=>?_⟩
 obtain⟨i,hi⟩:=List.getElem?_of_mem hx
 have hil:i < ps.length:=by have:=(xG.mp hi).1;lia
 rw[num i hil] at hi
 cases hi
 exact b2 i (by lia)
theorem Zpp(hc:X.calm=true):QC X (.builtin "max") (rMaxL X.K):=⟨Zrx hc⟩
end
end
section
section
variable{X:Cx}{o:Expr}{te:TE}
end
end
section
theorem Zry{J:It}{nl:Nat}{fv:St}{g:TG}{tt:TTs}{te:TE}{Q:VK}{H:Hp}(n:Nat)(f:Nat->Option (List V))(Pv:Nat->List V->Hp->Prop)(h0:Pv 0 [] H)(hn:n<=1000000)(hgo:∀i H ys,i < n->Pv i ys H->J.go i H)(hy:∀i H x H' ys,i < n->Pv i ys H->J.yld i H x H'->∃p us,f i=some us/\x = .ref p/\H p=none/\H'=upd H p (.tup us))(hst:∀H ys,Pv n ys H->J.stop n H)(hlen:∀i ys H,Pv i ys H->ys.length<=i)(step:∀i us p ys H,i < n->f i=some us->Pv i ys H->H p=none->Vn nl fv g tt te (.ref p) (upd H p (.tup us)) (fun y H'=>Pv (i+1) (ys ++ [y]) H') fun H'=>Pv (i+1) ys H')(hd:∀ys H,Pv n ys H->∀l,H l=none->Q (.ref l) (upd H l (.lst ys))) :
  Ui J nl fv g tt te Q H:=by
 have mono:∀{x:V}{H:Hp}{Y Y':V->Hp->Prop}{N N':Hp->Prop},Vn nl fv g tt te x H Y N->Y=Y'->N=N'->Vn nl fv g tt te x H Y' N':=fun h e1 e2=>by subst e1;subst e2;exact h
 refine⟨fun i m ys H=>m=n - i/\i<=n/\Pv i ys H,⟨n,by simp,yL _,h0⟩,?_⟩
 rintro i m ys H ⟨rfl,hi,p⟩
 have hl:=hlen i ys H p
 have hz:(1000000:Nat) < sizeLine:=by decide
 by_cases hlt:i < n
 ·refine .inr ⟨hgo i H ys hlt p,by lia,n - (i+1),by lia,fun x H' y=>?_⟩
  obtain⟨q,us,hf,rfl,hq,rfl⟩:=hy i H x H' ys hlt p y
  refine mono (step i us q ys H hlt hf p hq) ?_ ?_
  ·funext y H4
   apply propext
   exact⟨fun q=>⟨rfl,hlt,q⟩,fun q=>q.2.2⟩
  ·funext H3
   apply propext
   exact⟨fun q=>⟨rfl,hlt,q⟩,fun q=>q.2.2⟩
 ·have e:i=n:=by lia
  subst e
  exact .inl ⟨hst H ys p,by lia,hd ys H p⟩
theorem Zrz{K:uFg}{l:Addr}{nl:Nat}{fv:St}{g:TG}{tt:TTs}{te:TE}{Q:VK}{H:Hp}(xs:List V)(Pv:Nat->List V->Hp->Prop)(h0:Pv 0 [] H)(hn:xs.length<=1000000)(hl:∀i ys H,i<=xs.length->Pv i ys H->SqL K H l xs)(hlen:∀i ys H,Pv i ys H->ys.length<=i)(step:∀i x p ys H,xs[i]? = some x->Pv i ys H->H p=none->Vn nl fv g tt te (.ref p) (upd H p (.tup [.int i,x])) (fun y H'=>Pv (i+1) (ys ++ [y]) H') fun H'=>Pv (i+1) ys H')(hd:∀ys H,Pv xs.length ys H->∀l,H l=none->Q (.ref l) (upd H l (.lst ys))) :
  Ui (Ite K l) nl fv g tt te Q H:=by
 refine Zry xs.length (fun i=>(xs[i]?).map fun x=>[.int i,x]) Pv h0 hn (fun i H ys hi p=>⟨xs,hl i ys H (zI hi) p,hi⟩) ?_ (fun H ys p=>⟨xs,hl _ ys H (xE _) p,xE _⟩) hlen ?_ hd
 ·rintro i H x H' ys hi p ⟨q,a,rfl,hq,rfl,ha⟩
  exact⟨q,_,by rw[ha xs (hl i ys H (zI hi) p)];rfl,rfl,hq,rfl⟩
 ·intro i us p ys H hi hf hp hq
  obtain⟨x,hx,rfl⟩:=yE.mp hf
  exact step i x p ys H hx hp hq
end
section
section
variable{X:Cx}
structure QPs (X:Cx) (pos:Pos) (keys:List (Option Expr)) (values:List Expr) (trs:List (TE×TE)):Prop where
 h:PPs X pos keys values trs
end
end
section
structure InnX (X:Cx) (scope:Scope) (N':List Str) (tg:Expr) (ifs:List Expr) (x:Str) (e:Expr) (es:List Expr) (pos:Pos) (g:TG) (tt:TTs) (t:TA):Prop where
 h:∀(cl:List (Str×Addr))(C:Addr)(s0:Shared)(H0:Hp)(ex:List Addr)(pn:List (Addr×Obj)),QG (ccx X scope cl C N' s0 H0 ex pn) tg g/\QTs (ccx X scope cl C N' s0 H0 ex pn) ifs tt/\QA (ccx X scope cl C N' s0 H0 ex pn) (e::es) t/\Nm (ccx X scope cl C N' s0 H0 ex pn).env.scope x .globalImplicit /\
  starEach (e::es) (ccx X scope cl C N' s0 H0 ex pn).env=(false,eval e (ccx X scope cl C N' s0 H0 ex pn).env)::starEach es (ccx X scope cl C N' s0 H0 ex pn).env/\(backTo pos (starEach es (ccx X scope cl C N' s0 H0 ex pn).env)).any (·.1)=false
section
variable{X:Cx}{tg iter e:Expr}{es ifs:List Expr}{scope:Scope}{pos cpos np:Pos}{locs:List Str}{fr:List (Str×Nat)}{g:TG}{tt:TTs}{t:TA}{x:Str}
end
theorem Zc7{P:Program}{w:World}{K:uFg}{mg:Str->Option Value}{base:Heap}{N:List Str}{qual:Str}{scope:Scope}{f:Addr}{cd:Value}{A:Around}{outer:List Env}{s:Shared}{H:Hp}{E:XK} :
  Pl (Yu (CXE P w) P w K mg base N qual scope f cd A outer s H E):=⟨rfl,rfl,rfl,rfl⟩
end
end L2
end
section
namespace L2
open PySem PySem.Spec PyProof.Rows PySem.W
def Pm(N:Nat)(p:Array Nat):Prop:=p.toList.Perm (List.range N)
section
variable{s:Shared}{cmp:Nat->Nat->(Bool->Shared->Prop)->Shared->Prop}{r:Nat->Nat}{N:Nat}{p:Array Nat}
end
end L2
namespace L2
structure Weak (lt:Nat->Nat->Bool):Prop where
 irr:∀i,lt i i=false
 tr:∀i j k,lt i j=true->lt j k=true->lt i k=true
 neg:∀i j k,lt i j=true->lt i k=true\/lt k j=true
end L2
namespace L2
open PySem PySem.Spec PyProof.Rows
end L2
namespace L2
open PySem PySem.Spec PyProof.Rows PySem.W
section
variable{prog:Program}{w:World}{A:Around}{E:Value->Shared->Prop}{s:Shared}
end
section
variable{X:Cx}
end
end L2
end
section
namespace L2
open PySem PySem.Spec PyProof.Rows PySem.W
def LL(r:Nat->Nat)(a b:Nat):Prop:=r a < r b\/(r a=r b/\a < b)
structure Tl (N m:Nat) (p:Array Nat):Prop where
 pm:Pm N p
 tl:∀j,m<=j->j < N->p.getD j 0=j
 hd:∀j,j < m->p.getD j 0 < m
section
variable{s:Shared}{cmp:Nat->Nat->(Bool->Shared->Prop)->Shared->Prop}{r:Nat->Nat}{N:Nat}{p:Array Nat}
structure Dn (r:Nat->Nat) (p:Array Nat) (z n:Nat):Prop where
 a:∀i,i+1<=z->LL r (p.getD (i+1) 0) (p.getD i 0)
 b:∀i,i+1=z->r (p.getD (i+1) 0) < r (p.getD i 0)
 c:∀i,z<=i->i+1 < n->r (p.getD i 0)=r (p.getD (i+1) 0)/\p.getD i 0 < p.getD (i+1) 0
end
end L2
end
section
namespace L2
open PySem PySem.Spec PyProof.Rows PySem.W
section
variable{P:Program}{w:World}{K:Frag}{mg:Str->Option Value}{base:Heap}
end
structure LamX (X:Cx) (c P:Addr) (nm:Str):Prop where
 code:X.env.code = .ref c
 hd:CodeHd X.base c P
 blt:X.base.BuiltinsAt X.mg P
 nmq:X.env.qual ++ "<lambda>" = nm
 gl:mainGlobals≠P
section
variable{X:Cx}{pins:List (Addr×Obj)}{σ:St}{H:Hp}{s:Shared}{c P:Addr}{nm:Str}{params:Arguments}{body:Expr}{scope:Scope}{lpos:Pos}
end
end L2
end
section
namespace L2
open PySem PySem.Spec PyProof.Rows PySem.W
section
variable{X:Cx}{pins:List (Addr×Obj)}{σ:St}{H:Hp}{s:Shared}
variable{f:Value}{c' a kS:Addr}{oc:Obj}{vs:List Value}{ks:List Int}{keys:Array Value}{b:Bool}{e e1:Nat}{Pf:PySem.Fin->Shared->Prop}{E:Value->Shared->Prop}
end
end L2
end
section
namespace L2
open PySem PySem.Spec PyProof.Rows PySem.W
section
variable{X:Cx}{c P:Addr}{nm x:Str}{params:Arguments}{body:Expr}{scope:Scope}{lpos p kp kp2 pos:Pos}{e:Expr}{te1 te:TE}{k:Nat}
structure LamOk (X:Cx) (nm x:Str) (params:Arguments) (body:Expr) (scope:Scope) (te:TE):Prop where
 cl:closureFor scope X.env=pure []
 df:defaultsOf params X.env=([],[])
 S:FnScope [x] [x] scope
 bd:∀(pm cv ctv u:Value),bindArgs (kla_fn "<lambda>" nm params body scope [] pm cv ctv) ⟨[u],[]⟩=pure [(x,u)]
 bo:∀(f:Addr)(cv:Value)(A:Around)(s:Shared)(H2:Hp),QE (Yu CX0 X.prog X.w X.K X.mg X.base [x] nm scope f cv A X.stack s H2 E0) body te
end
end L2
end
section
namespace L2
open PySem PySem.Spec PyProof.Rows PySem.W
/- the library's own look at a code's head (KE.KNestM): a match of its own cost 37,000 objects -/
structure LamB (K:Frag) (mg:Str->Option Value) (c P:Addr):Prop where
 hd:PySem.W.codeHdIn K c P=true
 bm:∃bm o,mg "__builtins__" = some (.ref bm)/\bm≠builtinsNs/\bm≠mainGlobals/\bm≠P/\K.lookup bm=some o/\o.cls = .type "module" /\ o.dict=some builtinsNs/\o.data = .plain
 gl:mainGlobals≠P
section
variable{P:Program}{w:World}{K:uFg}{mg:Str->Option Value}{base:Heap}
end
section
variable{P:Program}{w:World}{K:uFg}{mg:Str->Option Value}{base:Heap}{x nm:Str}{scope:Scope}{f:Addr}{cv:Value}{A:Around}{outer:List Env}{s:Shared}{H:Hp}{E:XK}{pos:Pos}
end
structure Tb where
 c:Addr
 P:Addr
 nm:Str
end L2
namespace L2
open PySem PySem.Spec PyProof.Rows PySem.W
end L2
namespace L2
open PySem PySem.Spec PyProof.Rows PySem.W
section
variable{X:Cx}{a:Expr}{ta:TE}
def Z1f(K:Frag)(ta:TE):TT:=fun σ H Q=>ta σ H fun x H'=>∃k,Zid K x H' k/\Q k H'
theorem Zj5(ha:QE X a ta)(he:∀whole,isTrue a X.env whole=(do let v ← whole;standAt a.pos;holding [v] (truthy v))):QT X a (Z1f X.K ta):=⟨Zse ha.h he⟩
end
end L2
end
section
namespace L2
open PySem PySem.Spec PyProof.Rows
section
def erB(K:uFg)(c:Str->Addr)(errs:List Str):Bool :=
 decide (PySem.W.nsIn K mainGlobals "MootError" = some (some (.ref (c "MootError")))) && errs.all fun x=>decide (PySem.W.nsIn K mainGlobals x=some (some (.ref (c x)))) && Za4 K (c x) && Ur K (c x) && decide (Zad K (c x) (c "MootError")=some true) && decide (PySem.W.kitOne K (.ref (c x)) (.type "ValueError")=some true) &&
  errs.all fun y=>decide (Zad K (c x) (c y)=some (decide (x=y))) && decide (PySem.W.kitOne K (.ref (c x)) (.ref (c y))=some (decide (x=y)))
theorem Zyt{K:uFg}{h:Heap}{mg:Str->Option Value}{c:Str->Addr}{errs:List Str}(X:K.In h)(G:h.Ns mainGlobals mg)(e:erB K c errs=true):Er K mg c errs:=by
 unfold erB at e
 rw[yJ,zE] at e
 obtain⟨e0,e⟩:=e
 have e1:∀x,x∈errs->(((((PySem.W.nsIn K mainGlobals x=some (some (.ref (c x)))/\Za4 K (c x)=true)/\Ur K (c x)=true)/\Zad K (c x) (c "MootError")=some true)/\PySem.W.kitOne K (.ref (c x)) (.type "ValueError")=some true)/\∀y,y∈errs->Zad K (c x) (c y)=some (decide (x=y))/\PySem.W.kitOne K (.ref (c x)) (.ref (c y))=some (decide (x=y))):=fun x hx=>by
  have:=e x hx
  simp only[yJ,decide_eq_true_eq,zE] at this
  exact this
 exact⟨fun x hx=>PySem.W.mg_of X G (e1 x hx).1.1.1.1.1,fun x hx=>(e1 x hx).1.1.1.1.2,fun x hx=>(e1 x hx).1.1.1.2,PySem.W.mg_of X G (of_decide_eq_true e0),fun x hx=>(e1 x hx).1.1.2,fun x hx y hy=>((e1 x hx).2 y hy).1,fun x hx y hy=>((e1 x hx).2 y hy).2,fun x hx=>(e1 x hx).1.2⟩
end
section
section
variable{X:Cx}{o:Expr}{to:TE}{name:Str}{apos cpos:Pos}{T id:String}{r:V->List V->Hp->VK->Prop}
theorem Zvl:QM X "list.pop" rPop:=⟨Zw9⟩
theorem Zxp(pa:PlainAttrs T)(slot:Slot T name id)(hty:typeOf (.builtin id)=pure (.type "method_descriptor"))(hm:QM X id r)(ho:QE X o to)(hbase:attributeBase o name X.env (eval o X.env)=eval o X.env:=by rfl)(hline:(apos.endLine == cpos.line)=true:=by rfl):QE X (.Call (.Attribute o name apos) [] [] cpos) (Zn0 X.K T r to):=⟨Zw8 pa slot hty hm.h ho.h hbase hline⟩
end
end
section
section
variable{prog:Program}{w:World}{A:Around}{E:Value->Shared->Prop}
theorem Zjp{it l:Addr}{items:Array Value}(hne:l≠it):∀(n i:Nat)(s:Shared)(Q:List Value->Shared->Prop),s.heap.IsListIter it l i->s.heap.IsList l items->i+n<=items.size ->
  (∀h',h'.IsListIter it l (i+n)->Heap.SameBut it s.heap h'->Q ((items.toList.drop i).take n) {s with heap:=h' })->wpAny (model prog w) A (draw (.ref it) n) Q E s
 | 0,i,s,Q,hit,_,_,hQ=>by
  show wpAny _ _ (pure []) Q E s
  exact wpAny_pure (by simpa using hQ s.heap hit (Heap.SameBut.refl ..))
 | n+1,i,s,Q,hit,ht,hle,hQ=>by
  have hlt:i < items.size:=by lia
  show wpAny _ _ (pyNext (.ref it) >>= _) Q E s
  refine wpAny_bind (wpAny_pyNext_list_item hit ht (x:=items[i]) (by simp[hlt]) fun h₁ hit₁ hs₁=>?_)
  refine wpAny_bind (wpAny_holding (Zjp hne n (i+1) _ _ hit₁ (ht.extBut hs₁.extBut hne) (by lia) fun h₂ hit₂ hs₂=>wpAny_pure ?_))
  have hd:items.toList.drop i=items[i]::items.toList.drop (i+1):=by simp[List.drop_eq_getElem_cons,hlt]
  have:=hQ h₂ (by rw[show i+(n+1)=i+1+n by lia];exact hit₂) (hs₁.trans hs₂)
  rw[hd,List.take_succ_cons] at this
  exact this
variable{s:Shared}
theorem Zoc{env:Env}{elts:List Expr}{x1} {pos:Pos}{l:Addr}{items:Array Value}{Q:Unit->Shared->Prop}(hh:A.handled=none) (ht:s.heap.IsList l items)
  (hn:(assignEach elts env).length=items.size) (hstar:(assignEach elts env).findIdx? (·.1)=none)
  (h:∀h',Heap.ExtBut s.heap.objs.size s.heap h'->wpAny (model prog w) A (assignInOrder ((assignEach elts env).map (·.2)) items.toList) Q E {s with heap:=h' }) :
  wpAny (model prog w) A (assign (.Tuple elts x1 pos) env (.ref l)) Q E s:=by
 have hlt:l≠s.heap.objs.size:=by obtain⟨o,ho,_⟩:=ht;exact yC (xN ho)
 rw[assign_Tuple]
 refine wpAny_bind (wpAny_standAt ?_)
 unfold unpack
 rw[hn,hstar]
 refine wpAny_bind (wpAny_holding ?_)
 unfold unpackItems
 refine wpAny_bind ?_
 ·unfold notIterableAtAll
  refine wpAny_bind (wpAny_specialOf ht.typeIs slot_list_iter.lookup ?_)
  refine wpAny_pure ?_
  simp only[zJ,if_false]
  refine wpAny_bind (wpAny_holding (wpAny_pyIter_list ht ?_))
  refine wpAny_bind (wpAny_holding (Zjp hlt items.size 0 _ _ ⟨_,xW _ rfl,rfl,rfl⟩ (ht.push _) (by lia) fun h₁ hit₁ hs₁=>?_))
  have hall:List.take items.size (List.drop 0 items.toList)=items.toList:=by
   rw[List.drop_zero];exact yV (by simp)
  rw[hall]
  rw[if_neg (by simp)]
  have ht₁:h₁.IsList l items:=(ht.push _).extBut hs₁.extBut hlt
  refine wpAny_bind (wpAny_holding (wpAny_pyNext_list_end hh hit₁ ht₁ (by simp) fun h₂ he₂=>?_))
  simp only[Option.isSome_none,zJ,if_false]
  refine wpAny_pure (h h₂ fun b o hb e=>he₂ b o hb (hs₁.extBut b o hb (xF _ e)))
end
section
variable{X:Cx}{pos:Pos}
inductive gLst (K:uFg) (n:Nat) (t:TGs) (v:V) (σ:St) (H:Hp) (Q:St->Hp->Prop):Prop
 | mk (a xs) (h0:v = .ref a) (h1:SqL K H a xs) (h2:xs.length=n) (h3:t xs σ H Q)
theorem Zvm{es:List Expr}{k:Nat}{t:TGs}{n:Nat}(hc:X.calm=true)(h:QGs X es t)(hn:(assignEach es X.env).length=n:=by rfl)(hst:(assignEach es X.env).findIdx? (·.1)=none:=by rfl):QG X (.Tuple es k pos) (gLst X.K n t):=⟨by
 intro pins s σ H v u Q I r hw
 obtain⟨a,xs,e1,hq,hl,hw⟩:=hw
 subst e1
 cases r
 obtain⟨its,rv,⟨o,m,ho,hcl,_,hd⟩,hz⟩:=I.list hq
 refine Zoc (I.ok.hd hc) ⟨o,ho,hcl,m,hd⟩ (by simp[hn,← hl,rv.length]) hst fun h' hx=>?_
 have I1:Inv X pins σ H {s with heap:=h' }:=I.kept (t':=s.toks) fun b o e=>hx b o (yC (xN e)) e
 exact h.h pins _ σ H xs _ Q I1 (by simpa using rv) hw⟩
end
end
end L2
end
namespace Law
open PySem L2
local macro_rules | `(tactic| walk_at "hp")=>`(tactic| first | exact Zg | assumption | (rw[Zc (by first | assumption | (apply Ne.symm;assumption))];walk_at "hp"))
local macro_rules | `(tactic| walk_at "sq")=>`(tactic| first | assumption | exact SqL.of (by walk_at "hp"))
local macro_rules | `(tactic| walk_at "dc")=>`(tactic| first | decide | assumption | lia)
local macro_rules | `(tactic| walk_at "rd1")=>`(tactic| first | refine Ym ?_ | refine Yj ?_ | refine Z6 (fun _=>?_) (fun _=>?_) | refine Vk (fun _=>?_) (fun _=>?_) | refine iteB (fun _=>?_) (fun _=>?_) | refine⟨_,rfl,?_⟩ | refine⟨_,_,rfl,rfl,?_⟩ | refine⟨_,_,rfl,rfl,(.inr ⟨by decide,by decide⟩:CMul _ _),?_⟩ | refine⟨_,_,rfl,rfl,(⟨by walk_at "dc", by walk_at "dc"⟩:Zib _ _),?_⟩ | refine⟨_,_,rfl,rfl,(⟨by decide,by decide,by decide⟩:Zic _ _),?_⟩ | refine⟨_,_,rfl,rfl,(show (0:Int) < _ by walk_at "dc"),?_⟩ | refine⟨_,_,_,_,rfl,rfl,(by walk_at "sq"),(by rfl),?_⟩ | refine⟨_,_,_,_,rfl,rfl,(by walk_at "sq"),Zu6 (by lia) (by lia),?_⟩ | refine⟨_,_,_,_,rfl,rfl,(by walk_at "hp"),(by rfl),?_⟩ | refine⟨_,_,rfl,.inl (by walk_at "sq"),?_⟩ | fail "rd")
local macro_rules | `(tactic| walk_at "rd")=>`(tactic| repeat' walk_at "rd1")
def top(i:Nat):Stmt:=PySem.Challenge.pw_forsworn_k58_each_refusal_by_itself.main.body.getD i (.Pass ⟨0,0,0,0⟩)
structure Txt (mg:Str->Option Value):Prop where
 len:mg "len" = none
 list:mg "list" = none
 range:mg "range" = none
 isinstance:mg "isinstance" = none
 bool:mg "bool" = none
 int:mg "int" = none
 str:mg "str" = none
 tuple:mg "tuple" = none
 zip:mg "zip" = none
 all:mg "all" = none
 max:mg "max" = none
 enumerate:mg "enumerate" = none
 sum:mg "sum" = none
 set:mg "set" = none
 min:mg "min" = none
 ValueError:mg "ValueError" = none
section
variable{P:Program}{w:World}{K:uFg}{mg:Str->Option Value}{base:Heap}
inductive spSrc (K:uFg) (vs:List V) (H:Hp) (Q:VK) (z3:XK):Prop
 | mk (a:Addr) (ns:List Int) (h0:vs = [.ref a]) (h1:SqL K H a (ns.map V.int)) (h2:∀(s la:Addr)(H':Hp),H s=none->H la=none->SrcAt H' s la->Same H H'->Q (.ref s) H')
abbrev Zma:Stmt:=top 75
theorem Zyu(Zf9:Has K mg "_law_src" Zma)(T:Txt mg):Fn P w K mg base "_law_src" ["_law_script"] 1 (spSrc K):=by
 refine Zf9.fq ["_law_script"] fun H vs Q E hr h=>?_
 obtain⟨a,ns,rfl,hS,k⟩:=h
 refine⟨rfl,_,(Zf (Z5 (Zz (Za (Zap Za2 T.list Zal (Za (Zao Zdg (qvN 0) Zam (Zan Ze)) Zb)) (Za Ze (Za Ze (Za Ze (Za Ze Zb)))))))),?_⟩
 refine⟨_,rfl,_,rfl,a,_,rfl,hS,fun l hl=>?_⟩
 have hc:∃ms:List Int,V3 (ns.map V.int) none (some 63)=ms.map V.int:=by
  unfold V3
  rw[← List.map_drop,← List.map_take]
  exact⟨_,rfl⟩
 obtain⟨ms,ec⟩:=hc
 refine⟨l,_,rfl,.inl (SqL.of Zg),fun l2 hl2=>⟨by show 5<=sizeLine;decide,fun s hs=>?_⟩⟩
 have n1:l2≠l:=fun z=>by rw[z,Zg] at hl2;cases hl2
 have s1:Same H (upd H l (.lst (V3 (ns.map V.int) none (some 63)))):=Same.new hl
 have s2:=s1.trans (Same.new (o:=.lst (V3 (ns.map V.int) none (some 63))) hl2)
 have n2:l2≠s:=fun z=>by rw[← z,Zg] at hs;cases hs
 refine k s l2 _ (s2.free hs) (s1.free hl2) ⟨ms,0,0,1,0,Zg,by rw[Zc n2,Zg,ec],by decide,n2⟩ (s2.trans (Same.new hs))
inductive spNext (vs:List V) (H:Hp) (Q:VK) (z3:XK):Prop
 | mk (s la:Addr) (b:Int) (h0:vs = [.ref s,.int b]) (h1:SrcAt H s la) (h2 : 0 < b) (h3:b < 1073741824) (h4:∀(d:Int)(H':Hp),0<=d->d < b->SrcAt H' s la->SameX s H H'->Q (.int d) H')
abbrev Zmb:Stmt:=top 76
theorem Zyv(Zga:Has K mg "_law_next" Zmb)(T:Txt mg):Fn P w K mg base "_law_next" ["_law_src_here", "_law_base"] 1 spNext:=by
 refine Zga.fq ["_law_src_here", "_law_base", "_law_cell", "_law_digit"] fun H vs Q E hr h=>?_
 obtain⟨s,la,b,rfl,⟨ns,i,big,st,cnt,hs,hla,hi,hne⟩,hb0,hb1,k⟩:=h
 refine⟨rfl,_,(Zd (Zbd (Zu Vc (Zk Yx (qvN 0) Ze (fun _ _=>rfl)) Ze) (Zby (qvN 0) Ze Zbp))
 (Zd (Zp (Zs Wf (Zk Yx (qvN 0) Ze (fun _ _=>rfl)) Ze (Z2 _)) (Zd (Zy 2 Ze)
 (Zd (Zp (Zs Uk (Zk Yx (qvN 0) Ze (fun _ _=>rfl)) (Z1 Wm T.len Y1 (Za (Zk Yx (qvN 0) Ze (fun _ _=>rfl)) Zb)) (Z2 _)) (Zd (Zy 2 (Zk Yx (Zk Yx (qvN 0) Ze (fun _ _=>rfl)) (Zk Yx (qvN 0) Ze (fun _ _=>rfl)) (fun _ _=>rfl)))
 (Zf (Zbd (Zu Vc (Zk Yx (qvN 0) Ze (fun _ _=>rfl)) Ze) (Zby (qvN 0) Ze Zbp)))) Zo)
 (Zd (Zbd (Zu Zbv (Zu Vc (Zu Vc (Zu Zkf (Zk Yx (qvN 0) Ze (fun _ _=>rfl)) Ze) (Zu Zbv (qvN 2) Ze)) (Zk Yx (qvN 0) Ze (fun _ _=>rfl))) Ze) (Zby (qvN 0) Ze Zbp))
 (Zf (Zp (Zs Zaq (qvN 2) (Zu Zu9 Ze Ze) (Z2 _)) (Zf (Zbd (qvN 2) (Zby (qvN 0) Ze Zbp))) Zo))))) Zo)
 (Zd (Zp (Zs Zk7 (Zk Yx (qvN 0) Ze (fun _ _=>rfl)) Ze (Z2 _)) (Zd (Zy 3 (Zu Zbv (Zk Yx (qvN 0) Ze (fun _ _=>rfl)) (qvN 1)))
 (Zd (Zbd (Zu Zfh (Zk Yx (qvN 0) Ze (fun _ _=>rfl)) (qvN 1)) (Zby (qvN 0) Ze Zbp))
 (Zf (Z5 (qvN 3))))) Zo)
 (Zf (Z5 (Zu Zbv (Zu Zfh (Zu Zbv (Zu Zkf (Zk Yx (qvN 0) Ze (fun _ _=>rfl)) Ze) Ze) Ze) (qvN 1))))))),?_⟩
 have fin:∀(H1:Hp)(i' big st cnt d:Int),0<=d->d < b->SameX s H H1->H1 s=some (.lst [.ref la,.int i',.int big,.int st,.int cnt])->0<=i'->Q (.int d) H1:=fun H1 i' big st cnt d h0 h1 sx hs1 hi1 =>
  k d H1 h0 h1 ⟨ns,i',big,st,cnt,hs1,sx _ _ hne hla,hi1,hne⟩ sx
 walk_at "rd"
 all_goals refine fin _ _ _ _ _ _ (Int.emod_nonneg _ (by lia)) (Int.emod_lt_of_pos _ hb0) ?_ Zg (by lia)
 all_goals repeat (first | exact SameX.refl | refine SameX.trans ?_ SameX.upd)
end
section
variable{P:Program}{w:World}{K:uFg}{mg:Str->Option Value}{base:Heap}
inductive spWord (vs:List V) (H:Hp) (Q:VK) (z3:XK):Prop
 | mk (s la:Addr) (n:Int) (h0:vs = [.ref s,.int n]) (h1:SrcAt H s la) (h2 : 0<=n) (h3:n<=100) (h4:∀(x:Str)(H':Hp),(x.length:Int)=n->Low x->SrcAt H' s la->SameX s H H'->Q (.str x) H')
theorem Zoz(cl:List Nat):(List.map cs (cl.map fun c=>(⟨#[c]⟩:Str))).flatten=cl:=by
 induction cl with
 | nil=>rfl
 | cons c r ih=>rw[xV,xV,zQ,ih];rfl
abbrev Zcx:Stmt:=top 78
theorem Zyw:FnScope ["_law_src_here", "_law_many", "_law_letters"] ["_law_src_here", "_law_many"] (Zm Zcx):=fsc
theorem Nq2:Nm (Zm Zcx) "_law_letters" .cell:=by decide +kernel
theorem Nq3:Nm (Zm Zcx) "_law_src_here" .cell:=by decide +kernel
theorem Zyx(Zgb:Has K mg "_law_word" Zcx)(T:Txt mg)(Vw:Fn P w K mg base "_law_next" ["_law_src_here", "_law_base"] 1 spNext):Fn P w K mg base "_law_word" ["_law_src_here", "_law_many"] 2 spWord:=by
 refine Zgb.fq ["_law_src_here", "_law_many", "_law_letters"] fun H vs Q E hr h=>?_
 obtain⟨s,la,n,rfl,hsrc,hn0,hn1,k⟩:=h
 refine⟨rfl,_,(Zd (Zs7 (i:=2) Zyw.nd Nq2 Z3)
 (Zf (Z5 (Y4 F.plainAttrs_str F.slot_str_join F.type_str_join Zs9 Z3 (Za (Uu (locs:=["_law_k"]) (fr:=[("_law_src_here", 0),("_law_letters", 2)]) ⟨rfl,by decide +kernel,by decide +kernel,by decide +kernel,by decide +kernel,by decide +kernel⟩ (.consN Nq3 (.consN Nq2 .nil)) rfl (Zch T.range (Za (qvN 1) Zb)) ⟨fun _ _ _ _ _ _=>by
  have cnd:(inN ["_law_k"] [("_law_src_here", 0),("_law_letters", 2)]).Nodup:=by decide +kernel
  exact⟨(Vv 0 cnd),Zbw,(Zk Zfq (Za3 2) (Yg Vw (Za (Za3 1) (Za Ze Zb)) (n:=nmC)) (fun _ _=>rfl))⟩⟩) Zb))))),?_⟩
 refine⟨rfl,_,rfl,n,rfl,by lia,by lia,?_⟩
 refine Zi3 (n:=n.toNat) (fun i ys H2=>SrcAt H2 s la/\SameX s H H2/\∃cl:List Nat,cl.length=i/\ys=cl.map (fun c=>V.str ⟨#[c]⟩)/\∀c∈cl,97<=c/\c<=122) ⟨hsrc,SameX.refl,[],rfl,rfl,(fun _ z=>nomatch z)⟩ (by lia) ?_ ?_ ?_
 ·rintro i ys H2 ⟨_,_,cl,h1,rfl,_⟩
  rw[xA];lia
 ·rintro i ys H2 hi ⟨hs2,sx2,cl,h1,rfl,hc⟩ ls hls
  obtain⟨a,rfl⟩:=Zc5 hls
  refine⟨⟨[_],rfl,rfl⟩,?_⟩
  walk_at "rd"
  refine⟨s,la,26,rfl,hs2,by decide,by decide,fun d H3 d0 d1 hs3 sx3=>?_⟩
  refine⟨letters,d,_,rfl,rfl,by decide,Zeq d0 d1,hs3,sx2.trans sx3,cl ++ [97+d.toNat],by rw[xJ,h1];rfl,by rw[xQ];rfl,fun c hc'=>?_⟩
  rcases xH.mp hc' with z | z
  ·exact hc c z
  ·have:c=97+d.toNat:=by simpa using z
   lia
 ·rintro ys H2 ⟨hs2,sx2,cl,h1,rfl,hc⟩ l hl
  have e:(cl.map fun c=>V.str ⟨#[c]⟩)=(cl.map fun c=>(⟨#[c]⟩:Str)).map V.str:=by rw[List.map_map];rfl
  have sumlen:∀l:List Nat,((l.map fun c=>(⟨#[c]⟩:Str)).map (·.length)).sum=l.length:=by
   intro l
   induction l with
   | nil=>rfl
   | cons c r ih=>rw[xV,xV,List.sum_cons,ih,xU];show 1+r.length=_;lia
  refine⟨_,l,cl.map fun c=>(⟨#[c]⟩:Str),rfl,rfl,SqL.of (by rw[Zg,e]),?_,?_⟩
  ·rw[sumlen,xA]
   show cl.length+cl.length * 0<=16777216
   lia
  ·have ej:cs (Txt.join "" (cl.map fun c=>(⟨#[c]⟩:Str)))=cl:=by rw[Zs4,Zoz]
   refine k _ _ ?_ (fun c hc'=>hc c (by rw[ej] at hc';exact hc')) (hs2.keep (Same.new hl)) (sx2.trans (SameX.new hl))
   rw[← Wj,ej,h1]
   lia
end
theorem ph{α:Type} [DecidableEq α]:∀(L M:List α),L.Nodup->(∀a∈L,a∈M)->L.length<=M.length
 | [],_,_,_=>yL _
 | a::L,M,nd,h=>by
  obtain⟨n1,n2⟩:=yF.mp nd
  have ha:=h a yD
  have:=ph L (M.erase a) n2 fun b hb=>(List.mem_erase_of_ne (fun(e:b=a)=>n1 (by rw[← e];exact hb))).mpr (h b (xX _ hb))
  rw[List.length_erase_of_mem ha] at this
  have hp : 0 < M.length:=List.length_pos_of_mem ha
  rw[xU]
  lia
def Ve(stem:Str)(j:Nat):Str:=stem++⟨#[97+j % 26]⟩++⟨#[97+j / 26]⟩
theorem Zdn(stem:Str)(j:Nat):cs (Ve stem j)=cs stem ++ [97+j % 26,97+j / 26]:=by
 unfold Ve
 rw[Zbc,Zbc]
 simp[cs]
theorem Zti{stem:Str}{i j:Nat}(h:Ve stem i=Ve stem j):i=j:=by
 have e:cs (Ve stem i)=cs (Ve stem j):=by rw[h]
 rw[Zdn,Zdn] at e
 have e2:=List.append_cancel_left e
 injection e2 with e3 e4
 injection e4 with e5 _
 lia
theorem Zj6(stem:Str)(j:Nat):(Ve stem j).length=stem.length+2:=by
 rw[← Wj,Zdn,xJ,Wj]
 rfl
theorem Ztj{stem:Str}{j:Nat}(h:Low stem)(hj:j < 676):Low (Ve stem j):=by
 intro c hc
 rw[Zdn] at hc
 rcases xH.mp hc with z | z
 ·exact h c z
 ·simp at z
  lia
theorem Zoo{names:List Str}{stem:Str}(h:∀j,j < names.length->Ve stem j∈names):Ve stem names.length∉names:=by
 intro hm
 have nd:((List.range (names.length+1)).map (Ve stem)).Nodup:=by
  rw[List.nodup_iff_pairwise_ne,List.pairwise_map]
  exact List.Pairwise.imp (fun h e=>h (Zti e)) (List.nodup_iff_pairwise_ne.mp List.nodup_range)
 have:=ph _ names nd fun a ha=>by
  obtain⟨j,hj,rfl⟩:=yS.mp ha
  have hj:=wA.mp hj
  by_cases e:j=names.length
  ·rw[e];exact hm
  ·exact h j (by lia)
 rw[xA,zA] at this
 lia
theorem Zkj(x:Str)(names:List Str):inV (.str x) (names.map V.str)=decide (x∈names):=by
 unfold inV
 rw[List.any_map,zB,List.any_eq_true,decide_eq_true_iff]
 constructor
 ·rintro⟨y,hy,e⟩
  have:y=x:=by simpa [eqV] using e
  rw[← this];exact hy
 ·intro h
  exact⟨x,h,by simp[eqV]⟩
theorem Zjq(names:List Str):(names.map V.str).all Us=true:=by
 rw[List.all_map,zE]
 intro x _
 rfl
def Y6(x:Str):Prop:=Low x/\1<=x.length/\x.length<=12
section
variable{P:Program}{w:World}{K:uFg}{mg:Str->Option Value}{base:Heap}
inductive spUnlike (K:uFg) (vs:List V) (H:Hp) (Q:VK) (z3:XK):Prop
 | mk (a:Addr) (names:List Str) (x:Str) (h0:vs = [.ref a,.str x]) (h1:SqL K H a (names.map V.str)) (h2:names.length<=600) (h3:Y6 x) (h4:∀y:Str,Y6 y->y∉names->Q (.str y) H)
abbrev Zmc:Stmt:=top 77
theorem Zyy(Zgc:Has K mg "_law_unlike" Zmc)(T:Txt mg):Fn P w K mg base "_law_unlike" ["_law_names_here", "_law_name"] 1 (spUnlike K):=by
 refine Zgc.fq ["_law_names_here", "_law_name", "_law_letters", "_law_stem", "_law_tries"] fun H vs Q E hr h=>?_
 obtain⟨a,names,x,rfl,hS,hn,⟨hx1,hx2,hx3⟩,k⟩:=h
 refine⟨rfl,_,(Zd (Zy 2 Z3)
 (Zd (Zy 3 (Zao Zdl (qvN 1) Zam (Zan Ze)))
 (Zd (Uj PassesOwn.never rfl (Zch T.range (Za (Zu Vc (Z1 Wm T.len Y1 (Za (qvN 0) Zb)) Ze) Zb)) (Wq 4)
 (Zd (Zp (Zs Ziv (qvN 1) (qvN 0) rfl) (Zf (Z5 (qvN 1))) Zo)
 (Zf (Zy 1 (Zu Zcf (Zu Zcf (qvN 3) (Zk Zfq (qvN 2) (Zu Zbv (qvN 4) Ze) (fun _ _=>rfl))) (Zk Zfq (qvN 2) (Zu Zfh (qvN 4) Ze) (fun _ _=>rfl)))))))
 (Zf (Z5 (qvN 1)))))),?_⟩
 have hz:(13:Nat)<=sizeLine:=by decide
 refine⟨_,rfl,10,rfl,x,rfl,by lia,?_⟩
 have hst:cs (Txt.slice x none (some 10))=(cs x).take 10:=Zfo x (by decide)
 have hstl:(Txt.slice x none (some 10)).length<=10:=by rw[← Wj,hst,xY];lia
 have hsto:Low (Txt.slice x none (some 10)):=fun c hc=>hx1 c (by rw[hst] at hc;exact zF hc)
 show Vs _ _ _ [some (.ref a),some (.str x),some (.str letters),some (.str (Txt.slice x none (some 10))),none] H
 generalize Txt.slice x none (some 10)=stem at hstl hsto
 refine⟨_,rfl,a,_,rfl,.inl hS,_,_,rfl,rfl,_,rfl,by lia,by rw[xA];lia,?_⟩
 refine Zer (names.length+1) (by rw[xA];lia) (fun i σ H'=>H'=H/\∃(cur:Str)(v:Option V),σ = [some (.ref a),some (.str cur),some (.str letters),some (.str stem),v]/\Y6 cur/\(i=0\/cur=Ve stem (i - 1))/\∀j,j+1 < i->Ve stem j∈names)
  ⟨rfl,x,none,rfl,⟨hx1,hx2,hx3⟩,.inl rfl,fun j hj=>by lia⟩ ?_ ?_
 ·rintro i σ H' hi ⟨rfl,cur,v,rfl,hc,hci,hal⟩
  refine⟨_,rfl,_,rfl,a,_,rfl,.inl hS,rfl,Zjq names,_,rfl,?_⟩
  rw[Zkj]
  refine Vk (fun hnin=>?_) (fun hin=>?_)
  ·exact⟨_,rfl,k cur hc hnin⟩
  ·have hi':i<=600:=by lia
   refine⟨_,rfl,_,rfl,_,rfl,_,_,rfl,rfl,by show (0:Int) < 26;decide,letters,_,_,rfl,rfl,by decide,Zeq (Int.emod_nonneg _ (by decide)) (Int.emod_lt_of_pos _ (by decide)),stem,_,rfl,rfl,?_,?_⟩
   ·show stem.length+1<=sizeLine
    lia
   refine⟨_,rfl,_,rfl,_,_,rfl,rfl,⟨by decide,by decide⟩,letters,_,_,rfl,rfl,by decide,Zeq (Int.ediv_nonneg (by lia) (by decide)) (by lia),_,_,rfl,rfl,?_,?_⟩
   ·show (stem++_).length+1<=sizeLine
    rw[PySem.Str.length_append]
    show stem.length+1+1<=sizeLine
    lia
   have e1:((0:Int)+(i:Nat)) % 26=((i % 26:Nat):Int):=by lia
   have e2:((0:Int)+(i:Nat)) / 26=((i / 26:Nat):Int):=by lia
   refine⟨rfl,Ve stem i,some (.int (0+(i:Nat))),?_,⟨Ztj hsto (by lia),by rw[Zj6];lia,by rw[Zj6];lia⟩,.inr rfl,fun j hj=>?_⟩
   ·show [some (V.ref a),some (V.str _),some (V.str letters),some (V.str stem),some (V.int _)]=_
    unfold Ve
    rw[e1,e2]
    rfl
   ·by_cases e:j+1=i
    ·rcases hci with z | z
     ·lia
     ·have:j=i - 1:=by lia
      rw[this,← z];exact hin
    ·exact hal j (by lia)
 ·rintro σ H' ⟨rfl,cur,v,rfl,hc,hci,hal⟩
  refine⟨_,rfl,k cur hc ?_⟩
  rcases hci with z | z
  ·lia
  ·rw[z]
   exact Zoo fun j hj=>hal j (by lia)
inductive spNames (vs:List V) (H:Hp) (Q:VK) (z3:XK):Prop
 | mk (s la:Addr) (n:Int) (h0:vs = [.ref s,.int n]) (h1:SrcAt H s la) (h2 : 0<=n) (h3:n<=100) (h4:∀(l:Addr)(names:List Str)(H':Hp),(names.length:Int)=n->names.Nodup->(∀x∈names,Y6 x)->H l=none->H' l=some (.lst (names.map V.str))->SrcAt H' s la->SameX s H H'->Q (.ref l) H')
abbrev Zmd:Stmt:=top 79
theorem Zyz(Zgd:Has K mg "_law_names" Zmd)(T:Txt mg)(Vw:Fn P w K mg base "_law_next" ["_law_src_here", "_law_base"] 1 spNext)(Zge:Fn P w K mg base "_law_word" ["_law_src_here", "_law_many"] 2 spWord)(Zy0:Fn P w K mg base "_law_unlike" ["_law_names_here", "_law_name"] 1 (spUnlike K)):Fn P w K mg base "_law_names" ["_law_src_here", "_law_many"] 3 spNames:=by
 refine Zgd.fq ["_law_src_here", "_law_many", "_law_style", "_law_stem", "_law_at", "_law_names_here", "_law_k", "_law_name"] fun H vs Q E hr h=>?_
 obtain⟨s,la,n,rfl,hsrc,hn0,hn1,k⟩:=h
 refine⟨rfl,_,(Zd (Zy 2 (Yg Vw (Za (qvN 0) (Za Ze Zb))))
 (Zd (Zy 3 (Yg Zge (Za (qvN 0) (Za (Zu Vc Ze (Yg Vw (Za (qvN 0) (Za Ze Zb)))) Zb))))
 (Zd (Zy 4 (Yg Vw (Za (qvN 0) (Za (Z1 Zen T.len Y1 (Za (qvN 3) Zb)) Zb))))
 (Zd (Zy 5 (Zz Zb))
 (Zd (Uj PassesOwn.never rfl (Zch T.range (Za (qvN 1) Zb)) (Wq 6)
 (Zd (Zy 7 (Zu Zcf (Zu Zcf (Zao Zdl (qvN 3) Zam (Zan (qvN 4))) (Yg Zge (Za (qvN 0) (Za Ze Zb)))) (Zao Zdl (qvN 3) (Zan (Zu Vc (qvN 4) Ze)) Zam)))
 (Zd (Zp (Zs Wl (qvN 2) Ze (Z2 _)) (Zf (Zy 7 (Zao Zdl (qvN 3) Zam (Zan (Zu Vc Ze (Yg Vw (Za (qvN 0) (Za (Z1 Zen T.len Y1 (Za (qvN 3) Zb)) Zb)))))))) Zo)
 (Zd (Zp (Zs Wl (qvN 2) Ze (Z2 _)) (Zf (Zy 7 (Yg Zge (Za (qvN 0) (Za (Zu Vc Ze (Yg Vw (Za (qvN 0) (Za Ze Zb)))) Zb))))) Zo)
 (Zf (Zh (Y4 F.plainAttrs_list F.slot_list_append F.type_list_append Wg (qvN 5) (Za (Yg Zy0 (Za (qvN 5) (Za (qvN 7) Zb))) Zb))))))))
 (Zf (Z5 (qvN 5)))))))),?_⟩
 have hz:(200:Nat)<=sizeLine:=by decide
 refine⟨_,rfl,s,la,3,rfl,hsrc,by decide,by decide,fun style H1 st0 st1 hs1 sx1=>?_⟩
 refine⟨_,rfl,_,rfl,s,la,11,rfl,hs1,by decide,by decide,fun d1 H2 d10 d11 hs2 sx2=>?_⟩
 refine⟨_,_,rfl,rfl,s,la,_,rfl,hs2,by lia,by lia,fun stem H3 hl3 hlow3 hs3 sx3=>?_⟩
 refine⟨_,rfl,_,rfl,stem,rfl,by lia,s,la,_,rfl,hs3,by lia,by lia,fun at_ H4 at0 at1 hs4 sx4=>?_⟩
 refine⟨by show 0<=sizeLine;lia,fun l hl4=>?_⟩
 have sx:SameX s H H4:=((sx1.trans sx2).trans sx3).trans sx4
 obtain⟨nls,nlla⟩:=hs4.ne hl4
 have hlH:H l=none:=by
  cases e:H l with
  | none=>rfl
  | some o=>exact absurd (sx l o nls e) (by rw[hl4];simp)
 refine⟨_,rfl,n,rfl,by lia,by lia,?_⟩
 show Zb2 _ _ _ _ [some (.ref s),some (.int n),some (.int style),some (.str stem),some (.int at_),some (.ref l),none,none] (upd H4 l (.lst []))
 have mkn:∀x:Str,Low x->1<=x.length->x.length<=12->Y6 x:=fun x a b c=>⟨a,b,c⟩
 refine Zer n.toNat rfl (fun i σ H'=>∃(names:List Str)(v1 v2:Option V),σ = [some (.ref s),some (.int n),some (.int style),some (.str stem),some (.int at_),some (.ref l),v1,v2]/\names.length=i/\names.Nodup/\(∀x∈names,Y6 x)/\H' l=some (.lst (names.map V.str))/\SrcAt H' s la/\SameX s H H')
  ⟨[],none,none,rfl,rfl,List.nodup_nil,(fun _ z=>nomatch z),Zg,hs4.keep (Same.new hl4),sx.trans (SameX.new hl4)⟩ ?_ ?_
 ·rintro i σ H5 hi ⟨names,v1,v2,rfl,hlen,hnd,hall,hl5,hs5,sx5⟩
  have e1:cs (Txt.slice stem none (some at_))=(cs stem).take at_.toNat:=Zfo stem at0
  have e2:cs (Txt.slice stem (some (at_+1)) none)=(cs stem).drop (at_+1).toNat:=Zu8 stem (by lia)
  have l1:(Txt.slice stem none (some at_)).length<=11:=by rw[← Wj,e1,xY,Wj];lia
  have l2:(Txt.slice stem (some (at_+1)) none).length+(at_+1).toNat=stem.length:=by rw[← Wj,e2,List.length_drop,Wj];lia
  have l1':(Txt.slice stem none (some at_)).length=at_.toNat:=by rw[← Wj,e1,xY,Wj];lia
  refine⟨_,rfl,_,rfl,at_,rfl,stem,rfl,by lia,_,rfl,s,la,1,rfl,hs5,by decide,by decide,fun x1 H6 hx1 hlow1 hs6 sx6=>?_⟩
  have hl6:H6 l=some (.lst (names.map V.str)):=sx6 l _ nls hl5
  refine⟨_,_,rfl,rfl,by lia,?_⟩
  refine⟨_,rfl,_,rfl,_,_,rfl,rfl,_,rfl,stem,rfl,by lia,?_⟩
  have l3:(Txt.slice stem none (some at_)++x1).length=at_.toNat+1:=by rw[PySem.Str.length_append,l1'];lia
  refine⟨_,_,rfl,rfl,by rw[l3];lia,?_⟩
  have hname:Y6 (Txt.slice stem none (some at_)++x1++Txt.slice stem (some (at_+1)) none):=by
   refine mkn _ (fun c hc=>?_) ?_ ?_
   ·rw[Zbc,Zbc,e1,e2] at hc
    rcases xH.mp hc with hc | hc
    ·rcases xH.mp hc with hc | hc
     ·exact hlow3 c (zF hc)
     ·exact hlow1 c hc
    ·exact hlow3 c (List.mem_of_mem_drop hc)
   ·rw[PySem.Str.length_append,l3];lia
   ·rw[PySem.Str.length_append,l3];lia
  generalize Txt.slice stem none (some at_)++x1++Txt.slice stem (some (at_+1)) none=nm0 at hname
  show Vs _ _ _ [some (.ref s),some (.int n),some (.int style),some (.str stem),some (.int at_),some (.ref l),some (.int (0+(i:Nat))),some (.str nm0)] H6
  have app:∀(D:Ends),(∀ σ H',(∃(names:List Str)(v1 v2:Option V),σ = [some (.ref s),some (.int n),some (.int style),some (.str stem),some (.int at_),some (.ref l),v1,v2]/\names.length=i+1/\names.Nodup/\(∀x∈names,Y6 x)/\H' l=some (.lst (names.map V.str))/\SrcAt H' s la/\SameX s H H')->D.nx σ H')->
    ∀(x:Str)(H6:Hp),Y6 x->H6 l=some (.lst (names.map V.str))->SrcAt H6 s la->SameX s H H6 ->
    Zdw (tBM K "list" rAppend (tVar 5) (Wy (tFn (spUnlike K) (Wy (tVar 5) (Wy (tVar 7) Vl))) Vl)) D
     [some (.ref s),some (.int n),some (.int style),some (.str stem),some (.int at_),some (.ref l),some (.int (0+(i:Nat))),some (.str x)] H6:=by
   intro D hD x H6 hx hl6 hs6 sx6
   refine⟨_,rfl,.inl ⟨rfl,_,SqL.of hl6⟩,_,rfl,_,rfl,l,names,x,rfl,SqL.of hl6,by lia,hx,fun y hy hny=>?_⟩
   refine⟨l,_,_,rfl,rfl,hl6,by rw[xA];lia,hD _ _ ⟨names ++ [y],_,_,rfl,by rw[xJ,hlen];rfl,Zke hnd hny,fun z hz=>?_,?_,?_,?_⟩⟩
   ·rcases xH.mp hz with q | q
    ·exact hall z q
    ·have:z=y:=by simpa using q
     rw[this];exact hy
   ·rw[Zg,xQ];rfl
   ·exact hs6.keepX SameX.upd nls nlla
   ·intro b o hb e
    have:b≠l:=fun z=>by rw[z,hlH] at e;cases e
    rw[Zc this]
    exact sx6 b o hb e
  have step2:∀(D:Ends),(∀ σ H',(∃(names:List Str)(v1 v2:Option V),σ = [some (.ref s),some (.int n),some (.int style),some (.str stem),some (.int at_),some (.ref l),v1,v2]/\names.length=i+1/\names.Nodup/\(∀x∈names,Y6 x)/\H' l=some (.lst (names.map V.str))/\SrcAt H' s la/\SameX s H H')->D.nx σ H')->
    ∀(x:Str)(H6:Hp),Y6 x->H6 l=some (.lst (names.map V.str))->SrcAt H6 s la->SameX s H H6 ->
    Vs (Zc2 (Za6 (tOp rEq (tVar 2) (tC (.int 2)))) (Zac (tFn spWord (Wy (tVar 0) (Wy (tOp (rI0 fun i j=>.int (i+j)) (tC (.int 1)) (tFn spNext (Wy (tVar 0) (Wy (tC (.int 12)) Vl)))) Vl))) (Wp 7)) Zah)
     (Zdw (tBM K "list" rAppend (tVar 5) (Wy (tFn (spUnlike K) (Wy (tVar 5) (Wy (tVar 7) Vl))) Vl))) D
     [some (.ref s),some (.int n),some (.int style),some (.str stem),some (.int at_),some (.ref l),some (.int (0+(i:Nat))),some (.str x)] H6:=by
   intro D hD x H6 hx hl6 hs6 sx6
   refine⟨_,rfl,rfl,_,rfl,Z6 (fun _=>?_) (fun _=>?_)⟩
   ·refine⟨_,rfl,_,rfl,s,la,12,rfl,hs6,by decide,by decide,fun d H7 d0 d1 hs7 sx7=>?_⟩
    refine⟨_,_,rfl,rfl,s,la,_,rfl,hs7,by lia,by lia,fun y H8 hy1 hy2 hs8 sx8=>?_⟩
    exact app D hD y H8 ⟨hy2,by lia,by lia⟩ (sx8 l _ nls (sx7 l _ nls hl6)) hs8 ((sx6.trans sx7).trans sx8)
   ·exact app D hD x H6 hx hl6 hs6 sx6
  refine⟨_,rfl,rfl,_,rfl,Z6 (fun _=>?_) (fun _=>?_)⟩
  ·refine⟨_,rfl,_,rfl,_,rfl,stem,rfl,by lia,s,la,_,rfl,hs6,by lia,by lia,fun d H7 d0 d1 hs7 sx7=>?_⟩
   refine⟨_,_,rfl,rfl,_,rfl,stem,rfl,by lia,?_⟩
   have e3:cs (Txt.slice stem none (some (1+d)))=(cs stem).take (1+d).toNat:=Zfo stem (by lia)
   refine step2 _ (fun σ H' h=>h) _ H7 ⟨fun c hc=>hlow3 c (by rw[e3] at hc;exact zF hc),?_,?_⟩ (sx7 l _ nls hl6) hs7 ((sx5.trans sx6).trans sx7)
   ·rw[← Wj,e3,xY,Wj];lia
   ·rw[← Wj,e3,xY,Wj];lia
  ·exact step2 _ (fun σ H' h=>h) nm0 H6 hname hl6 hs6 (sx5.trans sx6)
 ·rintro σ H5 ⟨names,v1,v2,rfl,hlen,hnd,hall,hl5,hs5,sx5⟩
  exact⟨_,rfl,k l names H5 (by lia) hnd hall hlH hl5 hs5 sx5⟩
end
section
variable{P:Program}{w:World}{K:uFg}{mg:Str->Option Value}{base:Heap}
def okc(c:Nat):Bool:=decide (97<=c) && decide (c<=122)
def Vf(x:Str):Bool:=(decide (1<=x.length) && decide (x.length<=12)) && (cs x).all okc
theorem Zeu{x:Str}(h:Y6 x):Vf x=true:=by
 obtain⟨h1,h2,h3⟩:=h
 unfold Vf
 rw[yI h2,yI h3,Bool.true_and,Bool.true_and,zE]
 intro c hc
 obtain⟨a,b⟩:=h1 c hc
 unfold okc
 rw[yI a,yI b]
 rfl
inductive spIsName (vs:List V) (H:Hp) (Q:VK) (z3:XK):Prop
 | mk (x:Str) (h0:vs = [.str x]) (h1:x.length<=1000) (h2:∀H',Same H H'->Q (.bl (Vf x)) H')
theorem Zle{x:Str}{i:Nat}(hi:i < x.length):(cs x)[i]? = some (x.cps.getD i 0):=by
 unfold cs
 have:i < x.cps.size:=hi
 rw[Array.getD_eq_getD_getElem?,Array.getElem?_eq_getElem this,zL,Array.getElem?_eq_getElem this]
 rfl
theorem leA(c:Nat):(!decide ((⟨#[c]⟩:Str).cps.toList < ("a" : Str).cps.toList))=decide (97<=c):=by
 have e:("a" : Str).cps.toList = [97]:=by decide +kernel
 rw[e]
 show (!decide (([c]:List Nat) < [97]))=_
 rw[zB,Bool.not_eq_true',decide_eq_false_iff_not,decide_eq_true_iff,Zi5]
 lia
theorem leZ(c:Nat):(!decide (("z" : Str).cps.toList < (⟨#[c]⟩:Str).cps.toList))=decide (c<=122):=by
 have e:("z" : Str).cps.toList = [122]:=by decide +kernel
 rw[e]
 show (!decide (([122]:List Nat) < [c]))=_
 rw[zB,Bool.not_eq_true',decide_eq_false_iff_not,decide_eq_true_iff,Zi5]
 lia
theorem Ziw{α β:Type}{l:List α}{i:Nat}{a : α}(f : α->β)(h:l[i]? = some a):(l.take (i+1)).map f=(l.take i).map f ++ [f a]:=by
 rw[yP,h,xQ]
 rfl
abbrev Zme:Stmt:=top 36
theorem Zy1(Zgf:Has K mg "is_name" Zme)(T:Txt mg)(hL:∃t,mg "LONGEST_NAME" = some (.int 12 t)):Fn P w K mg base "is_name" ["text"] 1 spIsName:=by
 obtain⟨tL,c_LONGEST_NAME⟩:=hL
 have r_LONGEST_NAME:RelV (.int 12) (.int 12 tL):=⟨tL,rfl⟩
 refine Zgf.fq ["text"] fun H vs Q E hr h=>?_
 obtain⟨x,rfl,hx,k⟩:=h
 refine⟨rfl,_,(Zf (Z5 (Zk6 (Zjy Wf Wf Ze (Z1 Zen T.len Y1 (Za (qvN 0) Zb)) (Z4 c_LONGEST_NAME r_LONGEST_NAME)) (Zk5 (Z1 (Zrf (by rfl)) T.all Zyi (Za (Uu (locs:=["sign"]) (fr:=[]) ⟨rfl,by decide +kernel,by decide +kernel,by decide +kernel,by decide +kernel,by decide +kernel⟩ .nil rfl (Zxj (qvN 0)) ⟨fun _ _ _ _ _ _=>by
  have cnd:(inN ["sign"] []).Nodup:=by decide +kernel
  exact⟨(Vv 0 cnd),Zbw,(Zjy Zi4 Zi4 Z3 (V5 0) Z3)⟩⟩) Zb)))))),?_⟩
 have hz:(1000:Nat)<=sizeLine:=by decide
 refine⟨_,rfl,x,rfl,by lia,_,_,rfl,rfl,_,rfl,Z6 (fun h1=>?_) (fun h1=>?_)⟩
 ·refine⟨_,_,rfl,rfl,_,rfl,Z6 (fun h2=>?_) (fun h2=>?_)⟩
  ·refine⟨_,rfl,x,rfl,?_⟩
   refine Zs6 (fun i ys H'=>H'=H/\ys=((cs x).take i).map fun c=>V.bl (okc c)) ⟨rfl,rfl⟩ (by lia) ?_ ?_ ?_
   ·rintro i ys H' ⟨_,rfl⟩
    rw[xA,xY];lia
   ·rintro i ys H' hi ⟨rfl,rfl⟩ ls hls
    obtain⟨a,rfl⟩:=Zc5 hls
    refine⟨⟨[_],rfl,rfl⟩,Ym ?_⟩
    refine⟨_,rfl,_,_,rfl,rfl,_,rfl,?_⟩
    rw[leA]
    refine Z6 (fun h3=>?_) (fun h3=>?_)
    ·refine⟨_,_,rfl,rfl,rfl,?_⟩
     dsimp only
     rw[leZ,Ziw _ (Zle hi)]
     unfold okc
     rw[yI h3,Bool.true_and]
    ·refine⟨rfl,?_⟩
     rw[Ziw _ (Zle hi)]
     unfold okc
     rw[yH h3,zH]
   ·rintro ys H' ⟨rfl,rfl⟩ l hl
    refine⟨l,(cs x).map okc,rfl,SqL.of (by rw[Zg,← Wj,yZ,List.map_map];rfl),?_⟩
    have e:((cs x).map okc).all id=Vf x:=by
     unfold Vf
     rw[List.all_map,yI (show 1<=x.length by lia),yI (show x.length<=12 by lia)]
     rfl
    rw[e]
    exact k _ (Same.new hl)
  ·refine(?_:Q (.bl false) H)
   have e:Vf x=false:=by
    unfold Vf
    rw[yH (show ¬x.length<=12 by lia),Bool.and_false,zH]
   rw[← e]
   exact k H (Same.refl _)
 ·refine⟨_,rfl,Yj ?_⟩
  have e:Vf x=false:=by
   unfold Vf
   rw[yH (show ¬ 1<=x.length by lia),zH,zH]
  rw[← e]
  exact k H (Same.refl _)
end
section
variable{P:Program}{w:World}{K:uFg}{mg:Str->Option Value}{base:Heap}
inductive Deed where
 | come (n:Str) (d w:Int) | rise (n:Str) (d w:Int) | die (n:Str) (d:Int) (h:Str)
def Zj:List Deed->Str->Option Int
 | [],_=>none
 | .come m d _::r,n=>if m=n then some d else Zj r n
 | .rise _ _ _::r,n=>Zj r n
 | .die _ _ _::r,n=>Zj r n
def Z0:List Deed->Str->Option (Int×Str)
 | [],_=>none
 | .die m d h::r,n=>if m=n then some (d,h) else Z0 r n
 | .come _ _ _::r,n=>Z0 r n
 | .rise _ _ _::r,n=>Z0 r n
theorem Zci(a b:List Deed)(n:Str):Zj (a++b) n=(Zj a n).or (Zj b n):=by
 induction a with
 | nil=>rfl
 | cons x r ih =>
  cases x with
  | come m d w =>
   rw[xT,Zj,Zj]
   by_cases e:m=n
   ·rw[if_pos e,if_pos e];rfl
   ·rw[if_neg e,if_neg e,ih]
  | rise m d w=>rw[xT,Zj,Zj,ih]
  | die m d h=>rw[xT,Zj,Zj,ih]
theorem Zcj(a b:List Deed)(n:Str):Z0 (a++b) n=(Z0 a n).or (Z0 b n):=by
 induction a with
 | nil=>rfl
 | cons x r ih =>
  cases x with
  | come m d w=>rw[xT,Z0,Z0,ih]
  | rise m d w=>rw[xT,Z0,Z0,ih]
  | die m d h =>
   rw[xT,Z0,Z0]
   by_cases e:m=n
   ·rw[if_pos e,if_pos e];rfl
   ·rw[if_neg e,if_neg e,ih]
theorem Zev{ds:List Deed}{n:Str}{d w:Int}(h:Zj ds n=none)(x:Str):Zj (ds ++ [.come n d w]) x=if x=n then some d else Zj ds x:=by
 rw[Zci,Zj,Zj]
 by_cases e:x=n
 ·subst e
  rw[if_pos rfl,if_pos rfl,h];rfl
 ·rw[if_neg (Ne.symm e),if_neg e]
  cases Zj ds x<;>rfl
theorem Zjr{ds:List Deed}{n h:Str}{d:Int}(x:Str):Zj (ds ++ [.die n d h]) x=Zj ds x:=by
 rw[Zci,Zj,Zj]
 cases Zj ds x<;>rfl
theorem Zew{ds:List Deed}{n:Str}{d w:Int}(x:Str):Z0 (ds ++ [.come n d w]) x=Z0 ds x:=by
 rw[Zcj,Z0,Z0]
 cases Z0 ds x<;>rfl
theorem Zjs{ds:List Deed}{n h:Str}{d:Int}(hn:Z0 ds n=none)(x:Str):Z0 (ds ++ [.die n d h]) x=if x=n then some (d,h) else Z0 ds x:=by
 rw[Zcj,Z0,Z0]
 by_cases e:x=n
 ·subst e
  rw[if_pos rfl,if_pos rfl,hn];rfl
 ·rw[if_neg (Ne.symm e),if_neg e]
  cases Z0 ds x<;>rfl
def Vo(ds:List Deed)(n:Str)(day:Int):Bool:=match Z0 ds n with
 | some x=>decide (x.1<=day)
 | none=>false
def Vp(dc dw dd dh:Addr):List (Str×V):=Zi "heirs" (.ref dh) (Zi "deaths" (.ref dd) (Zi "weights" (.ref dw) (Zi "comings" (.ref dc) [])))
theorem Zae(dc dw dd dh:Addr):(Vp dc dw dd dh).lookup ("comings" : Str)=some (.ref dc):=by
 unfold Vp
 rw[Yp,if_neg (by decide +kernel),Yp,if_neg (by decide +kernel),Yp,if_neg (by decide +kernel),Yp,if_pos rfl]
theorem Zii(dc dw dd dh:Addr):(Vp dc dw dd dh).lookup ("weights" : Str)=some (.ref dw):=by
 unfold Vp
 rw[Yp,if_neg (by decide +kernel),Yp,if_neg (by decide +kernel),Yp,if_pos rfl]
theorem Zbj(dc dw dd dh:Addr):(Vp dc dw dd dh).lookup ("deaths" : Str)=some (.ref dd):=by
 unfold Vp
 rw[Yp,if_neg (by decide +kernel),Yp,if_pos rfl]
theorem Z1g(dc dw dd dh:Addr):(Vp dc dw dd dh).lookup ("heirs" : Str)=some (.ref dh):=by
 unfold Vp
 rw[Yp,if_pos rfl]
def Zed(m:Str):Prop:=¬m = "heirs" /\ ¬m = "deaths" /\ ¬m = "weights" /\ ¬m = "comings"
instance (m:Str):Decidable (Zed m):=by unfold Zed;exact inferInstance
theorem Yr(dc dw dd dh:Addr){m:Str}(h:Zed m:=by decide +kernel):(Vp dc dw dd dh).lookup m=none:=by
 obtain⟨a,b,c,d⟩:=h
 unfold Vp
 rw[Yp,if_neg a,Yp,if_neg b,Yp,if_neg c,Yp,if_neg d]
 rfl
structure FL where
 p:Addr
 dc:Addr
 dw:Addr
 dd:Addr
 dh:Addr
structure FolkAt (C:Addr) (H:Hp) (L:FL) (ds:List Deed):Prop where
 ob:∃dx,H L.p=some (.ins C dx (Vp L.dc L.dw L.dd L.dh))
 c:∃kvs:List (Key×V),H L.dc=some (.dK kvs)/\kvs.length<=ds.length/\∀n:Str,Zt kvs (.inr n)=(Zj ds n).map V.int
 w:∃kvs:List (Key×V),H L.dw=some (.dK kvs)/\kvs.length<=ds.length
 d:∃kvs:List (Key×V),H L.dd=some (.dK kvs)/\kvs.length<=ds.length/\∀n:Str,Zt kvs (.inr n)=(Z0 ds n).map fun x=>V.int x.1
 h:∃kvs:List (Key×V),H L.dh=some (.dK kvs)/\kvs.length<=ds.length/\∀n:Str,Zt kvs (.inr n)=(Z0 ds n).map fun x=>V.str x.2
 a1:L.dc≠L.dw
 a2:L.dc≠L.dd
 a3:L.dc≠L.dh
 a4:L.dw≠L.dd
 a5:L.dw≠L.dh
 a6:L.dd≠L.dh
def Zgg(H H':Hp):Prop:=∀b o,(∀xs,o ≠ .lst xs)->H b=some o->H' b=some o
theorem Same.n{H H':Hp}(h:Same H H'):Zgg H H':=fun b o _ e=>h b o e
theorem FolkAt.keep{C:Addr}{H H':Hp}{L:FL}{ds:List Deed}(h:FolkAt C H L ds)(k:Zgg H H'):FolkAt C H' L ds:=by
 obtain⟨⟨dx,ob⟩,⟨k1,c1,c2⟩,⟨k2,w1,w2⟩,⟨k3,d1,d2⟩,⟨k4,h1,h2⟩,a1,a2,a3,a4,a5,a6⟩:=h
 exact⟨⟨dx,k _ _ (fun _ z=>nomatch z) ob⟩,⟨k1,k _ _ (fun _ z=>nomatch z) c1,c2⟩,⟨k2,k _ _ (fun _ z=>nomatch z) w1,w2⟩,⟨k3,k _ _ (fun _ z=>nomatch z) d1,d2⟩,⟨k4,k _ _ (fun _ z=>nomatch z) h1,h2⟩,a1,a2,a3,a4,a5,a6⟩
def SameLT(H H':Hp):Prop:=(∀b xs,H b=some (.lst xs)->H' b=some (.lst xs))/\∀b xs,H b=some (.tup xs)->H' b=some (.tup xs)
theorem SameLT.updD{H:Hp}{l:Addr}{kvs kvs':List (Key×V)}(h:H l=some (.dK kvs)):SameLT H (upd H l (.dK kvs')) :=
 ⟨fun b xs e=>by rw[Zc (fun z=>by rw[z,h] at e;cases e)];exact e,fun b xs e=>by rw[Zc (fun z=>by rw[z,h] at e;cases e)];exact e⟩
structure TxC (K:uFg) (C:Addr):Prop where
 cl:Cls K C
 nc:NoAttr K C "comings"
 nw:NoAttr K C "weights"
 nd:NoAttr K C "deaths"
 nh:NoAttr K C "heirs"
variable{C:Addr}
inductive spDay (vs:List V) (H:Hp) (Q:VK) (z3:XK):Prop
 | mk (d:Int) (h0:vs = [.int d]) (h1 : 0<=d) (h2:d<=9999) (h3:Q .non H)
abbrev Zgh:Stmt:=top 30
theorem Zy2(Zb4:Has K mg "check_day" Zgh)(C0:∃t,mg "LAST_DAY" = some (.int 9999 t)):Fn P w K mg base "check_day" ["day"] 1 spDay:=by
 obtain⟨t0,c_LAST_DAY⟩:=C0
 have r_LAST_DAY:RelV (.int 9999) (.int 9999 t0):=⟨t0,rfl⟩
 refine Zb4.fq ["day"] fun H vs Q E hr h=>?_
 obtain⟨d,rfl,h0,h1,k⟩:=h
 refine⟨rfl,_,(Zf (Zp (V0 (Ut Wf Wf Ze (qvN 0) (Z4 c_LAST_DAY r_LAST_DAY))) (Zf Vd) Zo)),?_⟩
 refine⟨_,rfl,_,_,rfl,rfl,_,rfl,Z6 (fun _=>?_) (fun z=>absurd h0 z)⟩
 refine⟨_,_,rfl,rfl,_,rfl,Vk (fun z=>absurd h1 z) (fun _=>k)⟩
inductive spWt (vs:List V) (H:Hp) (Q:VK) (z3:XK):Prop
 | mk (d:Int) (h0:vs = [.int d]) (h1 : 1<=d) (h2:d<=1000) (h3:Q .non H)
abbrev Zgi:Stmt:=top 31
theorem Zy3(Zb6:Has K mg "check_weight" Zgi)(C0:∃t,mg "MOST_WEIGHT" = some (.int 1000 t)):Fn P w K mg base "check_weight" ["weight"] 1 spWt:=by
 obtain⟨t0,c_MOST_WEIGHT⟩:=C0
 have r_MOST_WEIGHT:RelV (.int 1000) (.int 1000 t0):=⟨t0,rfl⟩
 refine Zb6.fq ["weight"] fun H vs Q E hr h=>?_
 obtain⟨d,rfl,h0,h1,k⟩:=h
 refine⟨rfl,_,(Zf (Zp (V0 (Ut Wf Wf Ze (qvN 0) (Z4 c_MOST_WEIGHT r_MOST_WEIGHT))) (Zf Vd) Zo)),?_⟩
 refine⟨_,rfl,_,_,rfl,rfl,_,rfl,Z6 (fun _=>?_) (fun z=>absurd h0 z)⟩
 refine⟨_,_,rfl,rfl,_,rfl,Vk (fun z=>absurd h1 z) (fun _=>k)⟩
inductive spKnown (C:Addr) (vs:List V) (H:Hp) (Q:VK) (z3:XK):Prop
 | mk (L:FL) (ds:List Deed) (n:Str) (d:Int) (h0:vs = [.ref L.p,.str n]) (h1:FolkAt C H L ds) (h2:Zj ds n=some d) (h3:Q .non H)
abbrev Zgj:Stmt:=Ye (top 40) 17
theorem Zy4(Zb7:HasM K C "check_known" "Folk.check_known" Zgj)(Tc:TxC K C):Mt P w K mg base C "check_known" ["self", "name"] 1 (spKnown C):=by
 refine Zb7.mq ["self", "name"] fun H vs Q E hr h=>?_
 obtain⟨L,ds,n,d,rfl,F,hn,k⟩:=h
 refine⟨rfl,_,(Zf (Zp (Zs (Zet hr) (qvN 1) (Zn (qvN 0)) rfl) (Zf Vd) Zo)),?_⟩
 obtain⟨dx,ob⟩:=F.ob
 obtain⟨kvs,c1,c2,c3⟩:=F.c
 refine⟨_,rfl,_,rfl,L.p,C,dx,_,_,rfl,ob,Tc.cl,Tc.nc,Zae _ _ _ _,L.dc,_,rfl,DGet.k (k:=Sum.inr n) c1,_,rfl,?_⟩
 rw[c3,hn]
 exact Yj k
inductive spThere (C:Addr) (vs:List V) (H:Hp) (Q:VK) (z3:XK):Prop
 | mk (L:FL) (ds:List Deed) (n:Str) (d day:Int) (h0:vs = [.ref L.p,.str n,.int day]) (h1:FolkAt C H L ds) (h2:Zj ds n=some d) (h3:d<=day) (h4:Q .non H)
abbrev Zgk:Stmt:=Ye (top 40) 18
theorem Zy5(Zb8:HasM K C "check_there" "Folk.check_there" Zgk)(Tc:TxC K C):Mt P w K mg base C "check_there" ["self", "name", "day"] 1 (spThere C):=by
 refine Zb8.mq ["self", "name", "day"] fun H vs Q E hr h=>?_
 obtain⟨L,ds,n,d,day,rfl,F,hn,hd,k⟩:=h
 refine⟨rfl,_,(Zf (Zp (Zs Uk (qvN 2) (Zbx hr (Zn (qvN 0)) (qvN 1) (fun _ _=>rfl)) (Z2 _)) (Zf Vd) Zo)),?_⟩
 obtain⟨dx,ob⟩:=F.ob
 obtain⟨kvs,c1,c2,c3⟩:=F.c
 have g:=DGet.k (k:=Sum.inr n) c1
 rw[c3,hn] at g
 refine⟨_,rfl,_,rfl,L.p,C,dx,_,_,rfl,ob,Tc.cl,Tc.nc,Zae _ _ _ _,_,rfl,L.dc,.int d,rfl,g,?_⟩
 exact⟨_,_,rfl,rfl,_,rfl,Z6 (fun z=>absurd z (by lia)) (fun _=>k)⟩
inductive spDiedBy (C:Addr) (vs:List V) (H:Hp) (Q:VK) (z3:XK):Prop
 | mk (L:FL) (ds:List Deed) (n:Str) (day:Int) (h0:vs = [.ref L.p,.str n,.int day]) (h1:FolkAt C H L ds) (h2:Q (.bl (Vo ds n day)) H)
abbrev Zmf:Stmt:=Ye (top 40) 11
theorem Zy6(Zgl:HasM K C "died_by" "Folk.died_by" Zmf)(Tc:TxC K C):Mt P w K mg base C "died_by" ["self", "name", "day"] 1 (spDiedBy C):=by
 refine Zgl.mq ["self", "name", "day"] fun H vs Q E hr h=>?_
 obtain⟨L,ds,n,day,rfl,F,k⟩:=h
 refine⟨rfl,_,(Zf (Z5 (Zk6 (Zcm (Zas hr) (qvN 1) (Zn (qvN 0)) rfl) (Zk5 (Zcm Wf (Zbx hr (Zn (qvN 0)) (qvN 1) (fun _ _=>rfl)) (qvN 2) (Z2 _)))))),?_⟩
 obtain⟨dx,ob⟩:=F.ob
 obtain⟨kvs,c1,c2,c3⟩:=F.d
 have g:=DGet.k (k:=Sum.inr n) c1
 rw[c3] at g
 unfold Vo at k
 refine⟨_,rfl,_,rfl,L.p,C,dx,_,_,rfl,ob,Tc.cl,Tc.nd,Zbj _ _ _ _,L.dd,_,rfl,g,_,rfl,?_⟩
 cases e:Z0 ds n with
 | none =>
  rw[e] at k
  exact Yj k
 | some x =>
  rw[e] at k g
  refine Ym ?_
  exact⟨_,rfl,L.p,C,dx,_,_,rfl,ob,Tc.cl,Tc.nd,Zbj _ _ _ _,_,rfl,L.dd,.int x.1,rfl,g,_,rfl,_,_,rfl,rfl,k⟩
end
section
variable{P:Program}{w:World}{K:uFg}{mg:Str->Option Value}{base:Heap}{C:Addr}
inductive spInit (C:Addr) (vs:List V) (H:Hp) (Q:VK) (z3:XK):Prop
 | mk (p dx:Addr) (h0:vs = [.ref p]) (h1:H p=some (.ins C dx [])) (h2:∀(L:FL)(H':Hp),L.p=p->FolkAt C H' L []->(∀b o,H b=some o->b≠p->H' b=some o)->(∀b,b=L.dc\/b=L.dw\/b=L.dd\/b=L.dh->H b=none)->Q .non H')
abbrev Zmg:Stmt:=Ye (top 40) 0
theorem Zy7(Zgm:HasM K C "__init__" "Folk.__init__" Zmg)(Tc:TxC K C):Mt P w K mg base C "__init__" ["self"] 1 (spInit C):=by
 refine Zgm.mq ["self"] fun H vs Q E hr h=>?_
 obtain⟨p,dx,rfl,hp,k⟩:=h
 refine⟨rfl,_,(Zd (Ww (qvN 0) Zbs)
 (Zd (Ww (qvN 0) Zbs)
 (Zd (Ww (qvN 0) Zbs)
 (Zf (Ww (qvN 0) Zbs))))),?_⟩
 intro dc hdc
 have p1:p≠dc:=Zl hp hdc
 refine⟨_,rfl,p,C,dx,[],rfl,(by rw[Zc p1];exact hp),Tc.cl,Tc.nc,(by show 0 < 1000;decide),?_⟩
 have g1:(upd (upd H dc (.dK [])) p (.ins C dx (Zi "comings" (.ref dc) []))) p=some (.ins C dx (Zi "comings" (.ref dc) [])):=Zg
 have c1:(upd (upd H dc (.dK [])) p (.ins C dx (Zi "comings" (.ref dc) []))) dc=some (.dK []):=by rw[Zc p1.symm,Zg]
 have s1:∀b o,H b=some o->b≠p->(upd (upd H dc (.dK [])) p (.ins C dx (Zi "comings" (.ref dc) []))) b=some o:=fun b o e n=>by rw[Zc n,Zc (Zl e hdc)];exact e
 generalize (upd (upd H dc (.dK [])) p (.ins C dx (Zi "comings" (.ref dc) [])))=H1 at g1 c1 s1 ⊢
 intro dw hdw
 have p2:p≠dw:=Zl g1 hdw
 have q1:dc≠dw:=Zl c1 hdw
 refine⟨_,rfl,p,C,dx,_,rfl,(by rw[Zc p2];exact g1),Tc.cl,Tc.nw,(by show 1 < 1000;decide),?_⟩
 have g2:(upd (upd H1 dw (.dK [])) p (.ins C dx (Zi "weights" (.ref dw) (Zi "comings" (.ref dc) [])))) p=some (.ins C dx (Zi "weights" (.ref dw) (Zi "comings" (.ref dc) []))):=Zg
 have c2:(upd (upd H1 dw (.dK [])) p (.ins C dx (Zi "weights" (.ref dw) (Zi "comings" (.ref dc) [])))) dc=some (.dK []):=by rw[Zc p1.symm,Zc q1];exact c1
 have w2:(upd (upd H1 dw (.dK [])) p (.ins C dx (Zi "weights" (.ref dw) (Zi "comings" (.ref dc) [])))) dw=some (.dK []):=by rw[Zc p2.symm,Zg]
 have s2:∀b o,H b=some o->b≠p->(upd (upd H1 dw (.dK [])) p (.ins C dx (Zi "weights" (.ref dw) (Zi "comings" (.ref dc) [])))) b=some o:=fun b o e n=>by rw[Zc n,Zc (Zl (s1 b o e n) hdw)];exact s1 b o e n
 generalize (upd (upd H1 dw (.dK [])) p (.ins C dx (Zi "weights" (.ref dw) (Zi "comings" (.ref dc) []))))=H2 at g2 c2 w2 s2 ⊢
 intro dd hdd
 have p3:p≠dd:=Zl g2 hdd
 have q2:dc≠dd:=Zl c2 hdd
 have q3:dw≠dd:=Zl w2 hdd
 have z1:(Zi "comings" (V.ref dc) []).length<=0+1:=Za8 "comings" (V.ref dc) []
 have z2:=Za8 "weights" (V.ref dw) (Zi "comings" (V.ref dc) [])
 have z3:=Za8 "deaths" (V.ref dd) (Zi "weights" (V.ref dw) (Zi "comings" (V.ref dc) []))
 refine⟨_,rfl,p,C,dx,_,rfl,(by rw[Zc p3];exact g2),Tc.cl,Tc.nd,(by lia),?_⟩
 have g3:(upd (upd H2 dd (.dK [])) p (.ins C dx (Zi "deaths" (.ref dd) (Zi "weights" (.ref dw) (Zi "comings" (.ref dc) []))))) p=some (.ins C dx (Zi "deaths" (.ref dd) (Zi "weights" (.ref dw) (Zi "comings" (.ref dc) [])))):=Zg
 have c3:(upd (upd H2 dd (.dK [])) p (.ins C dx (Zi "deaths" (.ref dd) (Zi "weights" (.ref dw) (Zi "comings" (.ref dc) []))))) dc=some (.dK []):=by rw[Zc p1.symm,Zc q2];exact c2
 have w3:(upd (upd H2 dd (.dK [])) p (.ins C dx (Zi "deaths" (.ref dd) (Zi "weights" (.ref dw) (Zi "comings" (.ref dc) []))))) dw=some (.dK []):=by rw[Zc p2.symm,Zc q3];exact w2
 have d3:(upd (upd H2 dd (.dK [])) p (.ins C dx (Zi "deaths" (.ref dd) (Zi "weights" (.ref dw) (Zi "comings" (.ref dc) []))))) dd=some (.dK []):=by rw[Zc p3.symm,Zg]
 have s3:∀b o,H b=some o->b≠p->(upd (upd H2 dd (.dK [])) p (.ins C dx (Zi "deaths" (.ref dd) (Zi "weights" (.ref dw) (Zi "comings" (.ref dc) []))))) b=some o:=fun b o e n=>by rw[Zc n,Zc (Zl (s2 b o e n) hdd)];exact s2 b o e n
 generalize (upd (upd H2 dd (.dK [])) p (.ins C dx (Zi "deaths" (.ref dd) (Zi "weights" (.ref dw) (Zi "comings" (.ref dc) [])))))=H3 at g3 c3 w3 d3 s3 ⊢
 intro dh hdh
 have p4:p≠dh:=Zl g3 hdh
 have q4:dc≠dh:=Zl c3 hdh
 have q5:dw≠dh:=Zl w3 hdh
 have q6:dd≠dh:=Zl d3 hdh
 refine⟨_,rfl,p,C,dx,_,rfl,(by rw[Zc p4];exact g3),Tc.cl,Tc.nh,(by lia),?_⟩
 refine k ⟨p,dc,dw,dd,dh⟩ _ rfl ⟨⟨dx,Zg⟩,⟨[],?_,xE _,fun n=>rfl⟩,⟨[],?_,xE _⟩,⟨[],?_,xE _,fun n=>rfl⟩,⟨[],?_,xE _,fun n=>rfl⟩,q1,q2,q4,q3,q5,q6⟩ (fun b o e n=>?_) fun b hb=>?_
 ·show (upd (upd H3 dh _) p _) dc=_
  rw[Zc p1.symm,Zc q4];exact c3
 ·show (upd (upd H3 dh _) p _) dw=_
  rw[Zc p2.symm,Zc q5];exact w3
 ·show (upd (upd H3 dh _) p _) dd=_
  rw[Zc p3.symm,Zc q6];exact d3
 ·show (upd (upd H3 dh _) p _) dh=_
  rw[Zc p4.symm,Zg]
 ·rw[Zc n,Zc (Zl (s3 b o e n) hdh)];exact s3 b o e n
 ·cases eb:H b with
  | none=>rfl
  | some o =>
   rcases hb with z | z | z | z<;>subst z
   ·rw[hdc] at eb;cases eb
   ·have:=s1 _ _ eb p2.symm;rw[hdw] at this;cases this
   ·have:=s2 _ _ eb p3.symm;rw[hdd] at this;cases this
   ·have:=s3 _ _ eb p4.symm;rw[hdh] at this;cases this
inductive spChkCome (C:Addr) (vs:List V) (H:Hp) (Q:VK) (z3:XK):Prop
 | mk (L:FL) (ds:List Deed) (n:Str) (day wt:Int) (h0:vs = [.ref L.p,.str n,.int day,.int wt]) (h1:FolkAt C H L ds) (h2:(∃kvs,H L.dc=some (.dK kvs)/\kvs.length < 40)) (h3:Y6 n) (h4 : 0<=day) (h5:day<=9999) (h6 : 1<=wt) (h7:wt<=1000) (h8:Zj ds n=none) (h9:∀H',Same H H'->Q .non H')
abbrev Zgn:Stmt:=Ye (top 40) 14
theorem Zy8(Zb9:HasM K C "check_coming" "Folk.check_coming" Zgn)(T:Txt mg)(Tc:TxC K C)(C0:∃t,mg "MOST_FOLK" = some (.int 40 t))(Zgo:Fn P w K mg base "is_name" ["text"] 1 spIsName)(Y3:Fn P w K mg base "check_day" ["day"] 1 spDay)(Zbk:Fn P w K mg base "check_weight" ["weight"] 1 spWt) :
  Mt P w K mg base C "check_coming" ["self", "name", "day", "weight"] 2 (spChkCome C):=by
 obtain⟨t0,c_MOST_FOLK⟩:=C0
 have r_MOST_FOLK:RelV (.int 40) (.int 40 t0):=⟨t0,rfl⟩
 refine Zb9.mq ["self", "name", "day", "weight"] fun H vs Q E hr h=>?_
 obtain⟨L,ds,n,day,wt,rfl,F0,hl,hnm,d0,d1,w0,w1,hc,k⟩:=h
 refine⟨rfl,_,(Zd (Zp (V0 (Zbe (Yg Zgo (Za (qvN 1) Zb)))) (Zf Vd) Zo)
 (Zd (Zh (Yg Y3 (Za (qvN 2) Zb)))
 (Zd (Zh (Yg Zbk (Za (qvN 3) Zb)))
 (Zd (Zp (Zs (Zas hr) (qvN 1) (Zn (qvN 0)) rfl) (Zf Vd) Zo)
 (Zf (Zp (Zs Zaq (Z1 Zi6 T.len Y1 (Za (Zn (qvN 0)) Zb)) (Z4 c_MOST_FOLK r_MOST_FOLK) (Z2 _)) (Zf Vd) Zo)))))),?_⟩
 refine⟨_,rfl,n,rfl,by have:=hnm.2.2;lia,fun H1 s1=>⟨_,rfl,?_⟩⟩
 rw[Zeu hnm]
 refine Yj ?_
 have F:=F0.keep (Same.n s1)
 obtain⟨dx,ob⟩:=F.ob
 obtain⟨kvs,c1,c2,c3⟩:=F.c
 obtain⟨kv2,c4,c5⟩:=hl
 obtain rfl:kvs=kv2:=by have:=s1 _ _ c4;rw[c1] at this;cases this;rfl
 have g:=DGet.k (k:=Sum.inr n) c1
 rw[c3,hc] at g
 refine⟨_,rfl,day,rfl,d0,d1,?_⟩
 refine⟨_,rfl,wt,rfl,w0,w1,?_⟩
 refine⟨_,rfl,_,rfl,L.p,C,dx,_,_,rfl,ob,Tc.cl,Tc.nc,Zae _ _ _ _,L.dc,_,rfl,g,_,rfl,Yj ?_⟩
 refine⟨_,rfl,L.p,C,dx,_,_,rfl,ob,Tc.cl,Tc.nc,Zae _ _ _ _,L.dc,kvs,rfl,c1,_,_,rfl,rfl,_,rfl,Z6 (fun z=>absurd z (by lia)) (fun _=>?_)⟩
 exact k H1 s1
end
section
variable{P:Program}{w:World}{K:uFg}{mg:Str->Option Value}{base:Heap}{C:Addr}
def Wr(f:Str->Option (List (Key×V))):Deed->Str->Option (List (Key×V))
 | .come n d w,m=>if m=n then some [(.inl d,.int w)] else f m
 | .rise n d w,m=>if m=n then (f m).map fun l=>Zw l (.inl d) (.int w) else f m
 | .die _ _ _,m=>f m
def kw(ds:List Deed):Str->Option (List (Key×V)):=ds.foldl Wr fun _=>none
theorem Zau(ds:List Deed)(x:Deed):kw (ds ++ [x])=Wr (kw ds) x:=by
 unfold kw
 rw[List.foldl_append]
 rfl
def Wz:List Deed->List Str
 | []=>[]
 | .come n _ _::r=>n::Wz r
 | .rise _ _ _::r=>Wz r
 | .die _ _ _::r=>Wz r
theorem Zdc(a b:List Deed):Wz (a++b)=Wz a++Wz b:=by
 induction a with
 | nil=>rfl
 | cons x r ih=>cases x<;>simp[Wz,ih]
theorem Zpq{ds:List Deed}{n:Str}{d w:Int}(x:Str):Zj (ds ++ [.rise n d w]) x=Zj ds x:=by
 rw[Zci,Zj,Zj]
 cases Zj ds x<;>rfl
theorem Zi8{ds:List Deed}{n:Str}{d w:Int}(x:Str):Z0 (ds ++ [.rise n d w]) x=Z0 ds x:=by
 rw[Zcj,Z0,Z0]
 cases Z0 ds x<;>rfl
theorem Zj7{l:List (Key×V)}{k:Key}{v:V}{p:Key×V}(h:p∈Zw l k v):p=(k,v)\/p∈l:=by
 unfold Zw at h
 split at h
 ·obtain⟨q,hq,e⟩:=yS.mp h
  split at e
  ·rename_i e2
   rw[← e,e2];exact .inl rfl
  ·rw[← e];exact .inr hq
 ·rcases xH.mp h with z | z
  ·exact .inr z
  ·exact .inl (xI.mp z)
def Zgp(l:List (Key×V)):Prop:=∀p∈l,∃(d w:Int),p=(.inl d,.int w)
theorem Zkk:∀(ds:List Deed)(f:Str->Option (List (Key×V))),(∀n l,f n=some l->Zgp l)->∀n l,ds.foldl Wr f n=some l->Zgp l
 | [],f,h,n,l,e=>h n l e
 | x::r,f,h,n,l,e=>by
  refine Zkk r (Wr f x) (fun m l' e'=>?_) n l e
  cases x with
  | come n' d w' =>
   rw[Wr] at e'
   split at e'
   ·cases e';intro p hp;exact⟨d,w',xI.mp hp⟩
   ·exact h m l' e'
  | rise n' d w' =>
   rw[Wr] at e'
   split at e'
   ·cases e2:f m with
    | none=>rw[e2] at e';cases e'
    | some l0 =>
     rw[e2] at e'
     cases e'
     intro p hp
     rcases Zj7 hp with rfl | hp
     ·exact⟨d,w',rfl⟩
     ·exact h m l0 e2 p hp
   ·exact h m l' e'
  | die n' d h'=>exact h m l' e'
theorem Zxq{ds:List Deed}{n:Str}{l:List (Key×V)}(h:kw ds n=some l):Zgp l:=Zkk ds _ (fun _ _ z=>by cases z) n l h
def IsW(kv:Option (List (Key×V)))(day wt:Int):Prop:=∃l m,kv=some l/\Zt l (.inl m)=some (.int wt)/\m<=day/\∀d v,Zt l (.inl d)=some v->d<=day->d<=m
theorem Zn4{d:Int}{v:V}{j:Int}:Zt [((.inl d:Key),v)] (.inl j)=if j=d then some v else none:=by
 by_cases e:j=d
 ·subst e;rw[if_pos rfl];exact V4 rfl
 ·rw[if_neg e];simp[Zt,zD,Ne.symm e]
theorem Zkl:∀(ds:List Deed)(f:Str->Option (List (Key×V)))(g:Str->Option Int),(∀m,(f m).isSome=(g m).isSome)->∀m,(ds.foldl Wr f m).isSome=((g m).or (Zj ds m)).isSome
 | [],f,g,h,m=>by rw[Zj];show (f m).isSome=_;rw[h m];cases g m<;>rfl
 | x::r,f,g,h,m=>by
  have e:Zj (x::r) m=(Zj [x] m).or (Zj r m):=Zci [x] r m
  have ih:=Zkl r (Wr f x) (fun m=>(g m).or (Zj [x] m)) (fun m=>?_) m
  ·rw[List.foldl_cons,ih,e]
   cases g m<;>rfl
  ·cases x with
   | come n d w =>
    rw[Wr,Zj,Zj]
    by_cases z:m=n
    ·rw[if_pos z,if_pos z.symm];cases g m<;>rfl
    ·rw[if_neg z,if_neg (Ne.symm z),h m];cases g m<;>rfl
   | rise n d w =>
    rw[Wr,Zj,Zj]
    have hm:=h m
    by_cases z:m=n
    ·rw[if_pos z];cases e1:f m<;>cases e2:g m<;>rw[e1,e2] at hm<;>first | rfl | cases hm
    ·rw[if_neg z];cases e1:f m<;>cases e2:g m<;>rw[e1,e2] at hm<;>first | rfl | cases hm
   | die n d w=>rw[Wr,Zj,Zj,h m];cases g m<;>rfl
theorem Zlf(ds:List Deed)(n:Str):(kw ds n).isSome=(Zj ds n).isSome:=by
 have:=Zkl ds (fun _=>none) (fun _=>none) (fun _=>rfl) n
 exact this
structure WtsAt (H:Hp) (L:FL) (ds:List Deed) (wa:Str->Addr):Prop where
 w:∃kvs:List (Key×V),H L.dw=some (.dK kvs)/\kvs.length<=ds.length/\∀n l,kw ds n=some l->Zt kvs (.inr n)=some (.ref (wa n))/\H (wa n)=some (.dK l)/\l.length<=ds.length
 ord:∃kvs:List (Key×V),H L.dc=some (.dK kvs)/\(kvs.map fun p=>kV p.1)=(Wz ds).map V.str
 ap:∀n l,kw ds n=some l->wa n≠L.dc/\wa n≠L.dw/\wa n≠L.dd/\wa n≠L.dh
 inj:∀n m l l',kw ds n=some l->kw ds m=some l'->wa n=wa m->n=m
theorem WtsAt.keep{H H':Hp}{L:FL}{ds:List Deed}{wa:Str->Addr}(h:WtsAt H L ds wa)(k:Zgg H H'):WtsAt H' L ds wa:=by
 obtain⟨⟨k1,w1,w2,w3⟩,⟨k2,o1,o2⟩,ap,inj⟩:=h
 exact⟨⟨k1,k _ _ (fun _ z=>nomatch z) w1,w2,fun n l e=>let ⟨a,b,c⟩:=w3 n l e;⟨a,k _ _ (fun _ z=>nomatch z) b,c⟩⟩,⟨k2,k _ _ (fun _ z=>nomatch z) o1,o2⟩,ap,inj⟩
theorem WtsAt.start{H:Hp}{L:FL}{wa:Str->Addr}(h:FolkAt C H L []):WtsAt H L [] wa:=by
 obtain⟨k,w1,w2⟩:=h.w
 obtain⟨k2,c1,c2,_⟩:=h.c
 exact⟨⟨k,w1,w2,(fun n l e=>by cases e)⟩,⟨k2,c1,by rw[List.eq_nil_of_length_eq_zero (Nat.le_zero.mp c2)];rfl⟩,(fun n l e=>by cases e),(fun n m l l' e=>by cases e)⟩
def Z1h(H:Hp)(L:FL)(ds:List Deed)(wa:Str->Addr):Prop:=∃kvs:List (Key×V),H L.dw=some (.dK kvs)/\∀p∈kvs,∃n l,kw ds n=some l/\p=(Sum.inr n,V.ref (wa n))
def own(L:FL)(ds:List Deed)(wa:Str->Addr)(b:Addr):Prop:=b=L.p\/b=L.dc\/b=L.dw\/b=L.dd\/b=L.dh\/∃n l,kw ds n=some l/\b=wa n
structure Fk (C:Addr) (H:Hp) (L:FL) (ds:List Deed) (wa:Str->Addr):Prop where
 f:FolkAt C H L ds
 w:WtsAt H L ds wa
 all:Z1h H L ds wa
def Touch(L:FL)(ds:List Deed)(wa:Str->Addr)(H H':Hp):Prop:=∀b o,H b=some o->¬own L ds wa b->H' b=some o
def Zcy(L:FL)(ds:List Deed)(wa:Str->Addr)(ds':List Deed)(wa':Str->Addr)(H:Hp):Prop:=∀b,own L ds' wa' b->own L ds wa b\/H b=none
theorem Fk.at{H H':Hp}{L:FL}{ds:List Deed}{wa:Str->Addr}(h:Fk C H L ds wa)(k:∀b o,own L ds wa b->H b=some o->H' b=some o):Fk C H' L ds wa:=by
 obtain⟨⟨⟨dx,ob⟩,⟨k1,c1,c2⟩,⟨k2,w1,w2⟩,⟨k3,d1,d2⟩,⟨k4,h1,h2⟩,a1,a2,a3,a4,a5,a6⟩,⟨⟨k5,x1,x2,x3⟩,⟨k6,o1,o2⟩,ap,inj⟩,⟨k7,y1,y2⟩⟩:=h
 have kp:=k L.p _ (.inl rfl) ob
 have kc:=fun o=>k L.dc o (.inr (.inl rfl))
 have kw':=fun o=>k L.dw o (.inr (.inr (.inl rfl)))
 exact⟨⟨⟨dx,kp⟩,⟨k1,kc _ c1,c2⟩,⟨k2,kw' _ w1,w2⟩,⟨k3,k L.dd _ (.inr (.inr (.inr (.inl rfl)))) d1,d2⟩,⟨k4,k L.dh _ (.inr (.inr (.inr (.inr (.inl rfl))))) h1,h2⟩,a1,a2,a3,a4,a5,a6⟩,
  ⟨⟨k5,kw' _ x1,x2,fun n l e=>let ⟨a,b,c⟩:=x3 n l e;⟨a,k _ _ (.inr (.inr (.inr (.inr (.inr ⟨n,l,e,rfl⟩))))) b,c⟩⟩,⟨k6,kc _ o1,o2⟩,ap,inj⟩,⟨k7,kw' _ y1,y2⟩⟩
theorem Fk.there{H:Hp}{L:FL}{ds:List Deed}{wa:Str->Addr}(h:Fk C H L ds wa){b:Addr}(hb:own L ds wa b):∃o,H b=some o/\(∀xs,o ≠ .lst xs)/\∀xs,o ≠ .tup xs:=by
 obtain⟨⟨⟨dx,ob⟩,⟨k1,c1,c2⟩,⟨k2,w1,w2⟩,⟨k3,d1,d2⟩,⟨k4,h1,h2⟩,_⟩,⟨⟨k5,x1,x2,x3⟩,_⟩,_⟩:=h
 rcases hb with rfl | rfl | rfl | rfl | rfl | ⟨n,l,e,rfl⟩
 ·exact⟨_,ob,(fun _ z=>nomatch z),(fun _ z=>nomatch z)⟩
 ·exact⟨_,c1,(fun _ z=>nomatch z),(fun _ z=>nomatch z)⟩
 ·exact⟨_,w1,(fun _ z=>nomatch z),(fun _ z=>nomatch z)⟩
 ·exact⟨_,d1,(fun _ z=>nomatch z),(fun _ z=>nomatch z)⟩
 ·exact⟨_,h1,(fun _ z=>nomatch z),(fun _ z=>nomatch z)⟩
 ·exact⟨_,(x3 n l e).2.1,(fun _ z=>nomatch z),(fun _ z=>nomatch z)⟩
theorem Touch.lt{H H':Hp}{L:FL}{ds:List Deed}{wa:Str->Addr}(h:Fk C H L ds wa)(k:Touch L ds wa H H'):SameLT H H' :=
 ⟨fun b xs e=>k b _ e fun hb=>by obtain⟨o',e',n1,_⟩:=h.there hb;rw[e] at e';cases e';exact n1 xs rfl,fun b xs e=>k b _ e fun hb=>by obtain⟨o',e',_,n2⟩:=h.there hb;rw[e] at e';cases e';exact n2 xs rfl⟩
theorem Fk.cnt{H:Hp}{L:FL}{ds:List Deed}{wa:Str->Addr}(h:Fk C H L ds wa):∃kvs,H L.dc=some (.dK kvs)/\kvs.length=(Wz ds).length:=by
 obtain⟨kvs,a,b⟩:=h.w.ord
 exact⟨kvs,a,by have:=congrArg List.length b;rwa [xA,xA] at this⟩
inductive spComeW (C:Addr) (vs:List V) (H:Hp) (Q:VK) (z3:XK):Prop
 | mk (L:FL) (ds:List Deed) (wa:Str->Addr) (n:Str) (day wt:Int) (h0:vs = [.ref L.p,.str n,.int day,.int wt]) (h1:Fk C H L ds wa) (h2:(Wz ds).length < 40) (h3:ds.length<=1000) (h4:Y6 n) (h5 : 0<=day) (h6:day<=9999) (h7 : 1<=wt) (h8:wt<=1000) (h9:Zj ds n=none) (h10:∀(wa':Str->Addr)(H':Hp),Fk C H' L (ds ++ [.come n day wt]) wa'->Touch L ds wa H H'->Zcy L ds wa (ds ++ [.come n day wt]) wa' H->Q .non H')
abbrev Zmh:Stmt:=Ye (top 40) 1
theorem Zy9(Zgq:HasM K C "come" "Folk.come" Zmh)(Tc:TxC K C)(M_check_coming:Mt P w K mg base C "check_coming" ["self", "name", "day", "weight"] 2 (spChkCome C)) :
  Mt P w K mg base C "come" ["self", "name", "day", "weight"] 3 (spComeW C):=by
 refine Zgq.mq ["self", "name", "day", "weight"] fun H vs Q E hr h=>?_
 obtain⟨L,ds,wa,n,day,wt,rfl,K0,hcm,hl,hnm,d0,d1,w0,w1,hc,k⟩:=h
 refine⟨rfl,_,(Zd (Zh (Y2 (qvN 0) Tc.cl M_check_coming (Za (qvN 1) (Za (qvN 2) (Za (qvN 3) Zb)))))
 (Zd (Uv hr (Zn (qvN 0)) (qvN 1) (qvN 2))
 (Zf (Uv hr (Zn (qvN 0)) (qvN 1) (Ztb (qvN 2) (qvN 3)))))),?_⟩
 have F0:=K0.f
 have W0:=K0.w
 have hz:(5000:Nat)<=sizeLine:=by decide
 obtain⟨dx0,ob0⟩:=F0.ob
 refine⟨_,rfl,L.p,dx0,_,rfl,ob0,Yr _ _ _ _ (by decide +kernel),_,rfl,_,rfl,_,rfl,L,ds,n,day,wt,rfl,F0,(let ⟨kvs,a,b⟩:=K0.cnt;⟨kvs,a,by lia⟩),hnm,d0,d1,w0,w1,hc,fun H1 s1=>?_⟩
 have F:=F0.keep (Same.n s1)
 have W:=W0.keep (Same.n s1)
 obtain⟨k9,y8,y9⟩:=K0.all
 have y7:=s1 _ _ y8
 have hkn:kw ds n=none:=by
  have:=Zlf ds n
  rw[hc] at this
  cases e:kw ds n with
  | none=>rfl
  | some l=>rw[e] at this;cases this
 obtain⟨⟨dx,ob⟩,⟨k1,c1,c2,c3⟩,_,⟨k3,e1,e2,e3⟩,⟨k4,h1,h2,h3⟩,a1,a2,a3,a4,a5,a6⟩:=F
 obtain⟨⟨k2,w2,w3,w4⟩,⟨k1',o1,o2⟩,wap,winj⟩:=W
 rw[c1] at o1
 cases o1
 have np:L.p≠L.dc:=fun z=>by rw[z,c1] at ob;cases ob
 have np2:L.p≠L.dw:=fun z=>by rw[z,w2] at ob;cases ob
 refine⟨_,rfl,_,rfl,L.p,C,dx,_,_,rfl,ob,Tc.cl,Tc.nc,Zae _ _ _ _,_,rfl,L.dc,_,rfl,DPut.k (k:=Sum.inr n) c1 (by lia),?_⟩
 have T1:=SameLT.updD (kvs':=Zw k1 (Sum.inr n) (.int day)) c1
 have g0:∀b o,b≠L.dc->H1 b=some o->(upd H1 L.dc (.dK (Zw k1 (Sum.inr n) (.int day)))) b=some o:=fun b o nb e=>by rw[Zc nb];exact e
 have g2:(upd H1 L.dc (.dK (Zw k1 (Sum.inr n) (.int day)))) L.dc=some (.dK (Zw k1 (Sum.inr n) (.int day))):=Zg
 generalize (upd H1 L.dc (.dK (Zw k1 (Sum.inr n) (.int day))))=H2 at T1 g0 g2 ⊢
 have g1:=g0 _ _ np ob
 have g3:=g0 _ _ a1.symm w2
 have g4:=g0 _ _ a2.symm e1
 have g5:=g0 _ _ a3.symm h1
 intro q hq
 refine⟨_,rfl,_,rfl,Zg,[(Sum.inl day,.int wt)],rfl,by show 1<=15;decide,?_⟩
 have S3:Same H2 (upd (upd H2 q (.dK [])) q (.dK (Zak [] [(Sum.inl day,.int wt)]))):=fun b o e=>by rw[Zc (Zl e hq),Zc (Zl e hq)];exact e
 have kq:(upd (upd H2 q (.dK [])) q (.dK (Zak [] [(Sum.inl day,.int wt)]))) q=some (.dK [(Sum.inl day,.int wt)]):=Zg
 generalize (upd (upd H2 q (.dK [])) q (.dK (Zak [] [(Sum.inl day,.int wt)])))=H3 at S3 kq ⊢
 refine⟨_,rfl,L.p,C,dx,_,_,rfl,S3 _ _ g1,Tc.cl,Tc.nw,Zii _ _ _ _,_,rfl,L.dw,_,rfl,DPut.k (k:=Sum.inr n) (S3 _ _ g3) (by lia),?_⟩
 have T4:=SameLT.updD (kvs':=Zw k2 (Sum.inr n) (.ref q)) (S3 _ _ g3)
 have ll:=Vm k1 (Sum.inr n:Key) (V.int day)
 have ll2:=Vm k2 (Sum.inr n:Key) (V.ref q)
 have lapp:(ds ++ [Deed.come n day wt]).length=ds.length+1:=by rw[xJ];rfl
 have q1:q≠L.dc:=fun z=>by rw[z,g2] at hq;cases hq
 have q2:q≠L.dw:=fun z=>by rw[z,g3] at hq;cases hq
 have q3:q≠L.dd:=fun z=>by rw[z,g4] at hq;cases hq
 have q4:q≠L.dh:=fun z=>by rw[z,g5] at hq;cases hq
 have old:∀m l,kw ds m=some l->H3 (wa m)=some (.dK l)/\wa m≠q:=fun m l e=>by
  have hh:=g0 _ _ (wap m l e).1 (w4 m l e).2.1
  exact⟨S3 _ _ hh,Zl hh hq⟩
 have hkw:∀m l,kw (ds ++ [.come n day wt]) m=some l->(m=n/\l = [(Sum.inl day,.int wt)])\/(m≠n/\kw ds m=some l):=fun m l e=>by
  rw[Zau,Wr] at e
  split at e
  ·rename_i z;cases e;exact .inl ⟨z,rfl⟩
  ·rename_i z;exact .inr ⟨z,e⟩
 refine k (fun m=>if m=n then q else wa m) _ ⟨⟨⟨dx,by rw[Zc np2];exact S3 _ _ g1⟩,⟨_,by rw[Zc a1];exact S3 _ _ g2,by lia,fun x=>?_⟩,⟨_,Zg,by lia⟩,⟨k3,by rw[Zc a4.symm];exact S3 _ _ g4,by lia,fun x=>?_⟩,⟨k4,by rw[Zc a5.symm];exact S3 _ _ g5,by lia,fun x=>?_⟩,a1,a2,a3,a4,a5,a6⟩,
  ⟨⟨_,Zg,by lia,fun m l e=>?_⟩,⟨_,by rw[Zc a1];exact S3 _ _ g2,?_⟩,fun m l e=>?_,fun m m' l l' e e' z=>?_⟩,⟨_,Zg,fun p hp=>?_⟩⟩ (fun b o e hn=>?_) (fun b hb=>?_)
 ·rw[Uc,Zev hc]
  by_cases e:x=n
  ·subst e;rw[if_pos rfl,if_pos rfl];rfl
  ·rw[if_neg (fun z=>e (Sum.inr.inj z)),if_neg e];exact c3 x
 ·rw[Zew];exact e3 x
 ·rw[Zew];exact h3 x
 ·(try dsimp only)
  rcases hkw m l e with⟨rfl,rfl⟩ | ⟨hm,e'⟩
  ·rw[if_pos rfl]
   exact⟨by rw[Uc,if_pos rfl],by rw[Zc q2];exact kq,by rw[lapp];show 1<=_;lia⟩
  ·rw[if_neg hm]
   obtain⟨y1,y2,y3⟩:=w4 m l e'
   exact⟨by rw[Uc,if_neg (fun z=>hm (Sum.inr.inj z))];exact y1,by rw[Zc (wap m l e').2.1];exact(old m l e').1,by lia⟩
 ·have hv:Zt k1 (Sum.inr n:Key)=none:=by rw[c3,hc];rfl
  rw[Zsp _ hv,xQ,Zdc,xQ,o2]
  rfl
 ·(try dsimp only)
  rcases hkw m l e with⟨rfl,rfl⟩ | ⟨hm,e'⟩
  ·rw[if_pos rfl];exact⟨q1,q2,q3,q4⟩
  ·rw[if_neg hm];exact wap m l e'
 ·(try dsimp only at z)
  rcases hkw m l e with⟨rfl,rfl⟩ | ⟨hm,y⟩
  ·rcases hkw m' l' e' with⟨rfl,rfl⟩ | ⟨hm',y'⟩
   ·rfl
   ·rw[if_pos rfl,if_neg hm'] at z
    exact absurd z.symm (old m' l' y').2
  ·rcases hkw m' l' e' with⟨rfl,rfl⟩ | ⟨hm',y'⟩
   ·rw[if_neg hm,if_pos rfl] at z
    exact absurd z (old m l y).2
   ·rw[if_neg hm,if_neg hm'] at z
    exact winj m m' l l' y y' z
 ·rw[w2] at y7
  cases y7
  rcases Zj7 hp with rfl | hp
  ·exact⟨n,[(Sum.inl day,.int wt)],by rw[Zau,Wr,if_pos rfl],by (try dsimp only);rw[if_pos rfl]⟩
  ·obtain⟨m,l,e,rfl⟩:=y9 p hp
   have hm:m≠n:=fun z=>by rw[z,hkn] at e;cases e
   exact⟨m,l,by rw[Zau,Wr,if_neg hm];exact e,by (try dsimp only);rw[if_neg hm]⟩
 ·rw[Zc (fun z=>hn (.inr (.inr (.inl z))))]
  exact S3 _ _ (g0 b o (fun z=>hn (.inr (.inl z))) (s1 _ _ e))
 ·rcases hb with z | z | z | z | z | ⟨m,l,e,z⟩
  ·exact .inl (.inl z)
  ·exact .inl (.inr (.inl z))
  ·exact .inl (.inr (.inr (.inl z)))
  ·exact .inl (.inr (.inr (.inr (.inl z))))
  ·exact .inl (.inr (.inr (.inr (.inr (.inl z)))))
  ·(try dsimp only at z)
   rcases hkw m l e with⟨rfl,rfl⟩ | ⟨hm,y⟩
   ·rw[if_pos rfl] at z
    refine .inr ?_
    cases eq:H b with
    | none=>rfl
    | some o =>
     have:=g0 _ _ (by rw[z];exact q1) (s1 _ _ eq)
     rw[z,hq] at this
     cases this
   ·rw[if_neg hm] at z
    exact .inl (.inr (.inr (.inr (.inr (.inr ⟨m,l,y,z⟩)))))
end
section
variable{P:Program}{w:World}{K:uFg}{mg:Str->Option Value}{base:Heap}{C:Addr}
inductive spLiving (C:Addr) (vs:List V) (H:Hp) (Q:VK) (z3:XK):Prop
 | mk (L:FL) (ds:List Deed) (n:Str) (day:Int) (h0:vs = [.ref L.p,.str n,.int day]) (h1:FolkAt C H L ds) (h2:Vo ds n day=false) (h3:Q .non H)
abbrev Zgr:Stmt:=Ye (top 40) 19
theorem Zza(Zca:HasM K C "check_living" "Folk.check_living" Zgr)(Tc:TxC K C)(M_died_by:Mt P w K mg base C "died_by" ["self", "name", "day"] 1 (spDiedBy C)):Mt P w K mg base C "check_living" ["self", "name", "day"] 2 (spLiving C):=by
 refine Zca.mq ["self", "name", "day"] fun H vs Q E hr h=>?_
 obtain⟨L,ds,n,day,rfl,F,hd,k⟩:=h
 refine⟨rfl,_,(Zf (Zp (Zbe (Y2 (qvN 0) Tc.cl M_died_by (Za (qvN 1) (Za (qvN 2) Zb)))) (Zf Vd) Zo)),?_⟩
 obtain⟨dx,ob⟩:=F.ob
 refine⟨_,rfl,L.p,dx,_,rfl,ob,Yr _ _ _ _ (by decide +kernel),_,rfl,_,rfl,L,ds,n,day,rfl,F,_,rfl,?_⟩
 rw[hd]
 exact Yj k
def Vx(l:List (Key×V))(day:Int):List Int:=l.filterMap fun p=>match p.1 with
 | .inl d=>if d<=day then some d else none
 | .inr _=>none
theorem Zr0{l:List (Key×V)}{i:Nat}{d wt day:Int}(h:l[i]? = some (.inl d,.int wt)):Vx (l.take (i+1)) day=Vx (l.take i) day++(if d<=day then [d] else []):=by
 unfold Vx
 rw[yP,h,List.filterMap_append]
 congr 1
 by_cases e:d<=day
 ·simp[e]
 ·simp[e]
theorem upTo_mem{l:List (Key×V)}{day x:Int}:x∈Vx l day↔(∃v,(.inl x,v)∈l)/\x<=day:=by
 unfold Vx
 rw[List.mem_filterMap]
 constructor
 ·rintro⟨⟨k,v⟩,hp,e⟩
  cases k with
  | inl d =>
   have e:(if d<=day then some d else none)=some x:=e
   split at e
   ·cases e;exact⟨⟨v,hp⟩,by assumption⟩
   ·cases e
  | inr y=>cases e
 ·rintro⟨⟨v,hp⟩,hx⟩
  exact⟨(.inl x,v),hp,by show (if x<=day then some x else none)=_;rw[if_pos hx]⟩
theorem Zr1{l:List (Key×V)}{k:Key}{v:V}(h:Zt l k=some v):(k,v)∈l:=by
 unfold Zt at h
 cases e:l.find? fun kv=>decide (kv.1=k) with
 | none=>rw[e] at h;cases h
 | some p =>
  rw[e] at h
  cases h
  have h1:=List.mem_of_find?_eq_some e
  have h2:=List.find?_some e
  have h2:p.1=k:=by simpa using h2
  rw[← h2]
  exact h1
theorem Ztk{l:List (Key×V)}{k:Key}{v:V}(h:(k,v)∈l):∃u,Zt l k=some u:=by
 unfold Zt
 cases e:l.find? fun kv=>decide (kv.1=k) with
 | none =>
  have:=List.find?_eq_none.mp e (k,v) h
  exact absurd (yI rfl) this
 | some p=>exact⟨p.2,rfl⟩
inductive spWeigh (C:Addr) (vs:List V) (H:Hp) (Q:VK) (z3:XK):Prop
 | mk (L:FL) (ds:List Deed) (wa:Str->Addr) (n:Str) (day d0 wt:Int) (h0:vs = [.ref L.p,.str n,.int day]) (h1:FolkAt C H L ds) (h2:WtsAt H L ds wa) (h3:ds.length<=1000) (h4 : 0<=day) (h5:day<=9999) (h6:Zj ds n=some d0) (h7:d0<=day) (h8:IsW (kw ds n) day wt) (h9:∀H',Same H H'->Q (.int wt) H')
abbrev Zgs:Stmt:=Ye (top 40) 6
theorem Nq0:Nm (Zm Zgs) "day" .cell:=by decide +kernel
theorem Zzb(Zgt:HasM K C "weight" "Folk.weight" Zgs)(T:Txt mg)(Tc:TxC K C)(Y3:Fn P w K mg base "check_day" ["day"] 1 spDay)(M_check_known:Mt P w K mg base C "check_known" ["self", "name"] 1 (spKnown C))(M_check_there:Mt P w K mg base C "check_there" ["self", "name", "day"] 1 (spThere C)) :
  Mt P w K mg base C "weight" ["self", "name", "day"] 2 (spWeigh C):=by
 refine Zgt.mq ["self", "name", "day", "told"] fun H vs Q E hr h=>?_
 obtain⟨L,ds,wa,n,day,e0,wt,rfl,F,W,hl,d0,d1,hc,hd,hw,k⟩:=h
 refine⟨rfl,_,(Zd (Zh (Yg Y3 (Za (qvC 2 Nq0) Zb)))
 (Zd (Zh (Y2 (qvN 0) Tc.cl M_check_known (Za (qvN 1) Zb)))
 (Zd (Zh (Y2 (qvN 0) Tc.cl M_check_there (Za (qvN 1) (Za (qvC 2 Nq0) Zb))))
 (Zd (Zy 3 (Zbx hr (Zn (qvN 0)) (qvN 1) (fun _ _=>rfl)))
 (Zf (Z5 (Zbx hr (qvN 3) (Z1 (Zpp (by rfl)) T.max Zl1 (Za (Zvj (Uu (locs:=["since"]) (fr:=[("day", 2)]) ⟨rfl,by decide +kernel,by decide +kernel,by decide +kernel,by decide +kernel,by decide +kernel⟩ (.consN Nq0 .nil) rfl (Zvk (qvN 3)) ⟨fun _ _ _ _ _ _=>by
  have cnd:(inN ["since"] [("day", 2)]).Nodup:=by decide +kernel
  exact⟨(Vv 0 cnd),(Zfr (Zs Wf (V5 0) (Za3 1) (Z2 _))),(V5 0)⟩⟩)) Zb)) (fun _ _=>rfl)))))))),?_⟩
 have hz:(5000:Nat)<=sizeLine:=by decide
 obtain⟨dx,ob⟩:=F.ob
 refine⟨_,rfl,day,rfl,d0,d1,?_⟩
 refine⟨_,rfl,L.p,dx,_,rfl,ob,Yr _ _ _ _ (by decide +kernel),_,rfl,L,ds,n,e0,rfl,F,hc,?_⟩
 refine⟨_,rfl,L.p,dx,_,rfl,ob,Yr _ _ _ _ (by decide +kernel),_,rfl,_,rfl,L,ds,n,e0,day,rfl,F,hc,hd,?_⟩
 obtain⟨l,m0,hkl,hm0,hm1,hm2⟩:=hw
 obtain⟨k2,w2,w3,w4⟩:=W.w
 obtain⟨y1,y2,y3⟩:=w4 n l hkl
 have hint:=Zxq hkl
 have g:=DGet.k (k:=Sum.inr n) w2
 rw[y1] at g
 refine⟨_,rfl,L.p,C,dx,_,_,rfl,ob,Tc.cl,Tc.nw,Zii _ _ _ _,_,rfl,L.dw,.ref (wa n),rfl,g,?_⟩
 refine⟨_,rfl,wa n,l,y2,fun o=>?_⟩
 refine⟨_,rfl,wa n,o,l,rfl,Zg,?_⟩
 refine Zrw (fun i ys H'=>H'=upd H (wa n) (.frz o (.dK l))/\ys=(Vx (l.take i) day).map V.int) ⟨rfl,rfl⟩ (by lia) (fun i ys H' _ ⟨e,_⟩=>by rw[e];exact Zg) ?_ ?_ ?_
 ·rintro i ys H' ⟨_,rfl⟩
  rw[xA]
  unfold Vx
  refine xS (List.length_filterMap_le _ _) ?_
  rw[xY];lia
 ·rintro i p ys H' hp ⟨rfl,rfl⟩ ls hls
  obtain⟨w0,rfl⟩:=Zc5 hls
  obtain⟨d,wt',rfl⟩:=hint p (xO hp)
  refine⟨⟨[_],rfl,rfl⟩,?_⟩
  refine⟨_,rfl,_,rfl,d,day,rfl,rfl,_,rfl,?_⟩
  rw[Zr0 hp]
  refine Z6 (fun e=>?_) (fun e=>?_)
  ·refine⟨_,rfl,rfl,?_⟩
   rw[if_pos e,xQ]
   rfl
  ·exact⟨rfl,by rw[if_neg e,yN]⟩
 ·rintro ys H' ⟨rfl,rfl⟩ q hq
  rw[yZ]
  have nq:q≠wa n:=fun z=>by rw[z,Zg] at hq;cases hq
  refine⟨by rw[Zc nq.symm];exact Zg,?_⟩
  have hqH:H q=none:=by rw[Zc nq] at hq;exact hq
  have S:Same H (upd (upd (upd H (wa n) (.frz o (.dK l))) q (.lst ((Vx l day).map V.int))) (wa n) (.dK l)):=fun b ob e=>by
   by_cases z:b=wa n
   ·rw[z,Zg];rw[z,y2] at e;exact e
   ·rw[Zc z,Zc (Zl e hqH),Zc z];exact e
  have kq:(upd (upd (upd H (wa n) (.frz o (.dK l))) q (.lst ((Vx l day).map V.int))) (wa n) (.dK l)) q=some (.lst ((Vx l day).map V.int)):=by rw[Zc nq,Zg]
  generalize (upd (upd (upd H (wa n) (.frz o (.dK l))) q (.lst ((Vx l day).map V.int))) (wa n) (.dK l))=H2 at S kq ⊢
  have hin:m0∈Vx l day:=upTo_mem.mpr ⟨⟨_,Zr1 hm0⟩,hm1⟩
  refine⟨q,Vx l day,rfl,SqL.of kq,(fun z=>by rw[z] at hin;cases hin),fun m hm hmx=>?_⟩
  obtain⟨⟨v,hv⟩,hmd⟩:=upTo_mem.mp hm
  obtain⟨u,hu⟩:=Ztk hv
  have e1:=hm2 m u hu hmd
  have e2:=hmx m0 hin
  have em:m=m0:=by lia
  subst em
  have g2:=DGet.k (k:=Sum.inl m) (S _ _ y2)
  rw[hm0] at g2
  exact⟨wa n,.int wt,rfl,g2,k H2 S⟩
end
section
variable{P:Program}{w:World}{K:uFg}{mg:Str->Option Value}{base:Heap}{C:Addr}
inductive spChkRise (C:Addr) (vs:List V) (H:Hp) (Q:VK) (z3:XK):Prop
 | mk (L:FL) (ds:List Deed) (n:Str) (day wt d0:Int) (h0:vs = [.ref L.p,.str n,.int day,.int wt]) (h1:FolkAt C H L ds) (h2 : 0<=day) (h3:day<=9999) (h4 : 1<=wt) (h5:wt<=1000) (h6:Zj ds n=some d0) (h7:d0<=day) (h8:Vo ds n day=false) (h9:Q .non H)
abbrev Zgu:Stmt:=Ye (top 40) 15
theorem Zzc(Zcb:HasM K C "check_rise" "Folk.check_rise" Zgu)(Tc:TxC K C)(Y3:Fn P w K mg base "check_day" ["day"] 1 spDay)(Zbk:Fn P w K mg base "check_weight" ["weight"] 1 spWt)(M_check_known:Mt P w K mg base C "check_known" ["self", "name"] 1 (spKnown C))(M_check_there:Mt P w K mg base C "check_there" ["self", "name", "day"] 1 (spThere C))(M_check_living:Mt P w K mg base C "check_living" ["self", "name", "day"] 2 (spLiving C)):Mt P w K mg base C "check_rise" ["self", "name", "day", "weight"] 3 (spChkRise C):=by
 refine Zcb.mq ["self", "name", "day", "weight"] fun H vs Q E hr h=>?_
 obtain⟨L,ds,n,day,wt,e0,rfl,F,d0,d1,w0,w1,hc,hd,hv,k⟩:=h
 refine⟨rfl,_,(Zd (Zh (Yg Y3 (Za (qvN 2) Zb)))
 (Zd (Zh (Yg Zbk (Za (qvN 3) Zb)))
 (Zd (Zh (Y2 (qvN 0) Tc.cl M_check_known (Za (qvN 1) Zb)))
 (Zd (Zh (Y2 (qvN 0) Tc.cl M_check_there (Za (qvN 1) (Za (qvN 2) Zb))))
 (Zf (Zh (Y2 (qvN 0) Tc.cl M_check_living (Za (qvN 1) (Za (qvN 2) Zb))))))))),?_⟩
 obtain⟨dx,ob⟩:=F.ob
 refine⟨_,rfl,day,rfl,d0,d1,?_⟩
 refine⟨_,rfl,wt,rfl,w0,w1,?_⟩
 refine⟨_,rfl,L.p,dx,_,rfl,ob,Yr _ _ _ _ (by decide +kernel),_,rfl,L,ds,n,e0,rfl,F,hc,?_⟩
 refine⟨_,rfl,L.p,dx,_,rfl,ob,Yr _ _ _ _ (by decide +kernel),_,rfl,_,rfl,L,ds,n,e0,day,rfl,F,hc,hd,?_⟩
 exact⟨_,rfl,L.p,dx,_,rfl,ob,Yr _ _ _ _ (by decide +kernel),_,rfl,_,rfl,L,ds,n,day,rfl,F,hv,k⟩
inductive spRise (C:Addr) (vs:List V) (H:Hp) (Q:VK) (z3:XK):Prop
 | mk (L:FL) (ds:List Deed) (wa:Str->Addr) (n:Str) (day wt d0:Int) (h0:vs = [.ref L.p,.str n,.int day,.int wt]) (h1:Fk C H L ds wa) (h2:ds.length<=1000) (h3 : 0<=day) (h4:day<=9999) (h5 : 1<=wt) (h6:wt<=1000) (h7:Zj ds n=some d0) (h8:d0<=day) (h9:Vo ds n day=false) (h10:∀H',Fk C H' L (ds ++ [.rise n day wt]) wa->Touch L ds wa H H'->Zcy L ds wa (ds ++ [.rise n day wt]) wa H->Q .non H')
abbrev Zmi:Stmt:=Ye (top 40) 2
theorem Zzd(Zgv:HasM K C "rise" "Folk.rise" Zmi)(Tc:TxC K C)(M_check_rise:Mt P w K mg base C "check_rise" ["self", "name", "day", "weight"] 3 (spChkRise C)):Mt P w K mg base C "rise" ["self", "name", "day", "weight"] 4 (spRise C):=by
 refine Zgv.mq ["self", "name", "day", "weight"] fun H vs Q E hr h=>?_
 obtain⟨L,ds,wa,n,day,wt,e0,rfl,K0,hl,d0,d1,w0,w1,hc,hd,hv,k⟩:=h
 refine⟨rfl,_,(Zd (Zh (Y2 (qvN 0) Tc.cl M_check_rise (Za (qvN 1) (Za (qvN 2) (Za (qvN 3) Zb)))))
 (Zf (Uv hr (Zbx hr (Zn (qvN 0)) (qvN 1) (fun _ _=>rfl)) (qvN 2) (qvN 3)))),?_⟩
 have F:=K0.f
 have W:=K0.w
 obtain⟨k9,y8,y9⟩:=K0.all
 have hz:(5000:Nat)<=sizeLine:=by decide
 obtain⟨dx0,ob0⟩:=F.ob
 refine⟨_,rfl,L.p,dx0,_,rfl,ob0,Yr _ _ _ _ (by decide +kernel),_,rfl,_,rfl,_,rfl,L,ds,n,day,wt,e0,rfl,F,d0,d1,w0,w1,hc,hd,hv,?_⟩
 obtain⟨l,hkl⟩:∃l,kw ds n=some l:=by
  have:=Zlf ds n
  rw[hc] at this
  cases e:kw ds n with
  | none=>rw[e] at this;cases this
  | some l=>exact⟨l,rfl⟩
 obtain⟨⟨dx,ob⟩,⟨k1,c1,c2,c3⟩,_,⟨k3,e1,e2,e3⟩,⟨k4,h1,h2,h3⟩,a1,a2,a3,a4,a5,a6⟩:=F
 obtain⟨⟨k2,w2,w3,w4⟩,⟨k1',o1,o2⟩,wap,winj⟩:=W
 rw[c1] at o1
 cases o1
 obtain⟨y1,y2,y3⟩:=w4 n l hkl
 obtain⟨z1,z2,z3,z4⟩:=wap n l hkl
 have zp:L.p≠wa n:=fun z=>by rw[z,y2] at ob;cases ob
 have g:=DGet.k (k:=Sum.inr n) w2
 rw[y1] at g
 refine⟨_,rfl,_,rfl,L.p,C,dx,_,_,rfl,ob,Tc.cl,Tc.nw,Zii _ _ _ _,_,rfl,L.dw,.ref (wa n),rfl,g,_,rfl,wa n,_,rfl,DPut.k (k:=Sum.inl day) y2 (by lia),?_⟩
 have T1:=SameLT.updD (kvs':=Zw l (Sum.inl day) (.int wt)) y2
 have ll:=Vm l (Sum.inl day:Key) (V.int wt)
 have lapp:(ds ++ [Deed.rise n day wt]).length=ds.length+1:=by rw[xJ];rfl
 have hkw:∀m l',kw (ds ++ [.rise n day wt]) m=some l'->(m=n/\l'=Zw l (Sum.inl day) (.int wt))\/(m≠n/\kw ds m=some l'):=fun m l' e=>by
  rw[Zau,Wr] at e
  split at e
  ·rename_i z
   subst z
   rw[hkl] at e
   cases e
   exact .inl ⟨rfl,rfl⟩
  ·rename_i z;exact .inr ⟨z,e⟩
 have old:∀m l',kw (ds ++ [.rise n day wt]) m=some l'->∃l'',kw ds m=some l'':=fun m l' e=>by
  rcases hkw m l' e with⟨rfl,_⟩ | ⟨_,y⟩
  ·exact⟨l,hkl⟩
  ·exact⟨l',y⟩
 refine k _ ⟨⟨⟨dx,by rw[Zc zp];exact ob⟩,⟨k1,by rw[Zc z1.symm];exact c1,by lia,fun x=>by rw[Zpq];exact c3 x⟩,⟨k2,by rw[Zc z2.symm];exact w2,by lia⟩,⟨k3,by rw[Zc z3.symm];exact e1,by lia,fun x=>by rw[Zi8];exact e3 x⟩,⟨k4,by rw[Zc z4.symm];exact h1,by lia,fun x=>by rw[Zi8];exact h3 x⟩,a1,a2,a3,a4,a5,a6⟩,
  ⟨⟨k2,by rw[Zc z2.symm];exact w2,by lia,fun m l' e=>?_⟩,⟨k1,by rw[Zc z1.symm];exact c1,?_⟩,fun m l' e=>?_,fun m m' l1 l2 e e' z=>?_⟩,⟨k9,by rw[Zc z2.symm];exact y8,fun p hp=>?_⟩⟩ (fun b o e hn=>?_) (fun b hb=>?_)
 ·rcases hkw m l' e with⟨rfl,rfl⟩ | ⟨hm,y⟩
  ·exact⟨y1,Zg,by lia⟩
  ·obtain⟨x1,x2,x3⟩:=w4 m l' y
   exact⟨x1,by rw[Zc (fun z=>hm (winj m n l' l y hkl z))];exact x2,by lia⟩
 ·rw[Zdc,o2]
  show _=((Wz ds)++[]).map V.str
  rw[yN]
 ·obtain⟨l'',y⟩:=old m l' e
  exact wap m l'' y
 ·obtain⟨x1,y⟩:=old m l1 e
  obtain⟨x2,y'⟩:=old m' l2 e'
  exact winj m m' x1 x2 y y' z
 ·obtain⟨m,l',e,rfl⟩:=y9 p hp
  by_cases hm:m=n
  ·subst hm
   exact⟨m,Zw l (Sum.inl day) (.int wt),by rw[Zau,Wr,if_pos rfl,hkl];rfl,rfl⟩
  ·exact⟨m,l',by rw[Zau,Wr,if_neg hm];exact e,rfl⟩
 ·rw[Zc (fun z=>hn (.inr (.inr (.inr (.inr (.inr ⟨n,l,hkl,z⟩))))))]
  exact e
 ·rcases hb with z | z | z | z | z | ⟨m,l',e,z⟩
  ·exact .inl (.inl z)
  ·exact .inl (.inr (.inl z))
  ·exact .inl (.inr (.inr (.inl z)))
  ·exact .inl (.inr (.inr (.inr (.inl z))))
  ·exact .inl (.inr (.inr (.inr (.inr (.inl z)))))
  ·obtain⟨l'',y⟩:=old m l' e
   exact .inl (.inr (.inr (.inr (.inr (.inr ⟨m,l'',y,z⟩)))))
inductive spUntold (C:Addr) (vs:List V) (H:Hp) (Q:VK) (z3:XK):Prop
 | mk (L:FL) (ds:List Deed) (n:Str) (h0:vs = [.ref L.p,.str n]) (h1:FolkAt C H L ds) (h2:Z0 ds n=none) (h3:Q .non H)
abbrev Zgw:Stmt:=Ye (top 40) 20
theorem Zze(Zcc:HasM K C "check_untold" "Folk.check_untold" Zgw)(Tc:TxC K C):Mt P w K mg base C "check_untold" ["self", "name"] 1 (spUntold C):=by
 refine Zcc.mq ["self", "name"] fun H vs Q E hr h=>?_
 obtain⟨L,ds,n,rfl,F,c5,k⟩:=h
 refine⟨rfl,_,(Zf (Zp (Zs (Zas hr) (qvN 1) (Zn (qvN 0)) rfl) (Zf Vd) Zo)),?_⟩
 obtain⟨dx,ob⟩:=F.ob
 obtain⟨kvs,e1,e2,e3⟩:=F.d
 have g:=DGet.k (k:=Sum.inr n) e1
 rw[e3,c5] at g
 exact⟨_,rfl,_,rfl,L.p,C,dx,_,_,rfl,ob,Tc.cl,Tc.nd,Zbj _ _ _ _,L.dd,_,rfl,g,_,rfl,Yj k⟩
inductive spChkDie (C:Addr) (vs:List V) (H:Hp) (Q:VK) (z3:XK):Prop
 | mk (L:FL) (ds:List Deed) (n hr:Str) (day dn dr:Int) (h0:vs = [.ref L.p,.str n,.int day,.str hr]) (h1:FolkAt C H L ds) (h2 : 0<=day) (h3:day<=9999) (h4:Zj ds n=some dn) (h5:dn<=day) (h6:Zj ds hr=some dr) (h7:dr<=day) (h8:Z0 ds n=none) (h9:Z0 ds hr=none) (h10:hr≠n) (h11:Q .non H)
abbrev Zgx:Stmt:=Ye (top 40) 16
theorem Zzf(Zcd:HasM K C "check_death" "Folk.check_death" Zgx)(Tc:TxC K C)(Y3:Fn P w K mg base "check_day" ["day"] 1 spDay)(M_check_known:Mt P w K mg base C "check_known" ["self", "name"] 1 (spKnown C))(M_check_there:Mt P w K mg base C "check_there" ["self", "name", "day"] 1 (spThere C))(M_check_untold:Mt P w K mg base C "check_untold" ["self", "name"] 1 (spUntold C)) :
  Mt P w K mg base C "check_death" ["self", "name", "day", "heir"] 2 (spChkDie C):=by
 refine Zcd.mq ["self", "name", "day", "heir"] fun H vs Q E hr h=>?_
 obtain⟨L,ds,n,he,day,dn,dr,rfl,F,d0,d1,c1,c2,c3,c4,c5,c6,c7,k⟩:=h
 refine⟨rfl,_,(Zd (Zh (Yg Y3 (Za (qvN 2) Zb)))
 (Zd (Zh (Y2 (qvN 0) Tc.cl M_check_known (Za (qvN 1) Zb)))
 (Zd (Zh (Y2 (qvN 0) Tc.cl M_check_known (Za (qvN 3) Zb)))
 (Zd (Zh (Y2 (qvN 0) Tc.cl M_check_there (Za (qvN 1) (Za (qvN 2) Zb))))
 (Zd (Zh (Y2 (qvN 0) Tc.cl M_check_there (Za (qvN 3) (Za (qvN 2) Zb))))
 (Zd (Zh (Y2 (qvN 0) Tc.cl M_check_untold (Za (qvN 1) Zb)))
 (Zf (Zp (QW.pt (Zl5 (Zs Wl (qvN 3) (qvN 1) (Z2 _)) (Zk4 (Zs (Zas hr) (qvN 3) (Zn (qvN 0)) rfl)))) (Zf Vd) Zo)))))))),?_⟩
 obtain⟨dx,ob⟩:=F.ob
 obtain⟨kvs,e1,e2,e3⟩:=F.d
 have g:=DGet.k (k:=Sum.inr n) e1
 rw[e3,c5] at g
 have g':=DGet.k (k:=Sum.inr he) e1
 rw[e3,c6] at g'
 have no:∀{m:Str},Zed m->(Vp L.dc L.dw L.dd L.dh).lookup m=none:=fun h=>Yr _ _ _ _ h
 refine⟨_,rfl,day,rfl,d0,d1,?_⟩
 refine⟨_,rfl,L.p,dx,_,rfl,ob,no (by decide +kernel),_,rfl,L,ds,n,dn,rfl,F,c1,?_⟩
 refine⟨_,rfl,L.p,dx,_,rfl,ob,no (by decide +kernel),_,rfl,L,ds,he,dr,rfl,F,c3,?_⟩
 refine⟨_,rfl,L.p,dx,_,rfl,ob,no (by decide +kernel),_,rfl,_,rfl,L,ds,n,dn,day,rfl,F,c1,c2,?_⟩
 refine⟨_,rfl,L.p,dx,_,rfl,ob,no (by decide +kernel),_,rfl,_,rfl,L,ds,he,dr,day,rfl,F,c3,c4,?_⟩
 refine⟨_,rfl,L.p,dx,_,rfl,ob,no (by decide +kernel),_,rfl,L,ds,n,rfl,F,c5,?_⟩
 refine⟨_,rfl,_,rfl,rfl,_,rfl,Z6 (fun z=>absurd (by injection z) c7) (fun _=>?_)⟩
 exact⟨_,rfl,_,rfl,L.p,C,dx,_,_,rfl,ob,Tc.cl,Tc.nd,Zbj _ _ _ _,L.dd,_,rfl,g',_,rfl,Yj k⟩
inductive spDie (C:Addr) (vs:List V) (H:Hp) (Q:VK) (z3:XK):Prop
 | mk (L:FL) (ds:List Deed) (wa:Str->Addr) (n hr:Str) (day dn dr:Int) (h0:vs = [.ref L.p,.str n,.int day,.str hr]) (h1:Fk C H L ds wa) (h2:ds.length<=1000) (h3 : 0<=day) (h4:day<=9999) (h5:Zj ds n=some dn) (h6:dn<=day) (h7:Zj ds hr=some dr) (h8:dr<=day) (h9:Z0 ds n=none) (h10:Z0 ds hr=none) (h11:hr≠n) (h12:∀H',Fk C H' L (ds ++ [.die n day hr]) wa->Touch L ds wa H H'->Zcy L ds wa (ds ++ [.die n day hr]) wa H->Q .non H')
abbrev Zmj:Stmt:=Ye (top 40) 3
theorem Zzg(Zgy:HasM K C "die" "Folk.die" Zmj)(Tc:TxC K C)(M_check_death:Mt P w K mg base C "check_death" ["self", "name", "day", "heir"] 2 (spChkDie C)) :
  Mt P w K mg base C "die" ["self", "name", "day", "heir"] 3 (spDie C):=by
 refine Zgy.mq ["self", "name", "day", "heir"] fun H vs Q E hr h=>?_
 obtain⟨L,ds,wa,n,he,day,dn,dr,rfl,K0,hl,d0,d1,b1,b2,b3,b4,b5,b6,b7,k⟩:=h
 refine⟨rfl,_,(Zd (Zh (Y2 (qvN 0) Tc.cl M_check_death (Za (qvN 1) (Za (qvN 2) (Za (qvN 3) Zb)))))
 (Zd (Uv hr (Zn (qvN 0)) (qvN 1) (qvN 2))
 (Zf (Uv hr (Zn (qvN 0)) (qvN 1) (qvN 3))))),?_⟩
 have F:=K0.f
 obtain⟨⟨k5,x1,x2,x3⟩,⟨k6,o1,o2⟩,wap,winj⟩:=K0.w
 obtain⟨k9,y8,y9⟩:=K0.all
 have hkw:kw (ds ++ [.die n day he])=kw ds:=by rw[Zau];rfl
 have hz:(5000:Nat)<=sizeLine:=by decide
 obtain⟨dx0,ob0⟩:=F.ob
 refine⟨_,rfl,L.p,dx0,_,rfl,ob0,Yr _ _ _ _ (by decide +kernel),_,rfl,_,rfl,_,rfl,L,ds,n,he,day,dn,dr,rfl,F,d0,d1,b1,b2,b3,b4,b5,b6,b7,?_⟩
 obtain⟨⟨dx,ob⟩,⟨k1,c1,c2,c3⟩,⟨k2,w2,w3⟩,⟨k3,e1,e2,e3⟩,⟨k4,h1,h2,h3⟩,a1,a2,a3,a4,a5,a6⟩:=F
 have np:L.p≠L.dd:=fun z=>by rw[z,e1] at ob;cases ob
 have np2:L.p≠L.dh:=fun z=>by rw[z,h1] at ob;cases ob
 refine⟨_,rfl,_,rfl,L.p,C,dx,_,_,rfl,ob,Tc.cl,Tc.nd,Zbj _ _ _ _,_,rfl,L.dd,_,rfl,DPut.k (k:=Sum.inr n) e1 (by lia),?_⟩
 have T1:=SameLT.updD (kvs':=Zw k3 (Sum.inr n) (.int day)) e1
 have g1:(upd H L.dd (.dK (Zw k3 (Sum.inr n) (.int day)))) L.p=some (.ins C dx (Vp L.dc L.dw L.dd L.dh)):=by rw[Zc np];exact ob
 have g0:∀b o,b≠L.dd->H b=some o->(upd H L.dd (.dK (Zw k3 (Sum.inr n) (.int day)))) b=some o:=fun b o nb e=>by rw[Zc nb];exact e
 have g2:(upd H L.dd (.dK (Zw k3 (Sum.inr n) (.int day)))) L.dd=some (.dK (Zw k3 (Sum.inr n) (.int day))):=Zg
 have g3:(upd H L.dd (.dK (Zw k3 (Sum.inr n) (.int day)))) L.dw=some (.dK k2):=by rw[Zc a4];exact w2
 have g4:(upd H L.dd (.dK (Zw k3 (Sum.inr n) (.int day)))) L.dc=some (.dK k1):=by rw[Zc a2];exact c1
 have g5:(upd H L.dd (.dK (Zw k3 (Sum.inr n) (.int day)))) L.dh=some (.dK k4):=by rw[Zc a6.symm];exact h1
 generalize (upd H L.dd (.dK (Zw k3 (Sum.inr n) (.int day))))=H2 at T1 g0 g1 g2 g3 g4 g5 ⊢
 refine⟨_,rfl,_,rfl,L.p,C,dx,_,_,rfl,g1,Tc.cl,Tc.nh,Z1g _ _ _ _,_,rfl,L.dh,_,rfl,DPut.k (k:=Sum.inr n) g5 (by lia),?_⟩
 have T4:=SameLT.updD (kvs':=Zw k4 (Sum.inr n) (.str he)) g5
 have ll:=Vm k3 (Sum.inr n:Key) (V.int day)
 have ll2:=Vm k4 (Sum.inr n:Key) (V.str he)
 have lapp:(ds ++ [Deed.die n day he]).length=ds.length+1:=by rw[xJ];rfl
 refine k _ ⟨⟨⟨dx,by rw[Zc np2];exact g1⟩,⟨k1,by rw[Zc a3];exact g4,by lia,fun x=>?_⟩,⟨k2,by rw[Zc a5];exact g3,by lia⟩,⟨_,by rw[Zc a6];exact g2,by lia,fun x=>?_⟩,⟨_,Zg,by lia,fun x=>?_⟩,a1,a2,a3,a4,a5,a6⟩,
  ⟨⟨k5,by rw[Zc a5];exact g0 _ _ a4 x1,by lia,fun m l e=>?_⟩,⟨k6,by rw[Zc a3];exact g0 _ _ a2 o1,?_⟩,fun m l e=>wap m l (by rw[← hkw];exact e),fun m m' l l' e e' z=>winj m m' l l' (by rw[← hkw];exact e) (by rw[← hkw];exact e') z⟩,⟨k9,by rw[Zc a5];exact g0 _ _ a4 y8,fun p hp=>?_⟩⟩ (fun b o e hn=>?_) (fun b hb=>?_)
 ·rw[Zjr];exact c3 x
 ·rw[Uc,Zjs b5]
  by_cases e:x=n
  ·subst e;rw[if_pos rfl,if_pos rfl];rfl
  ·rw[if_neg (fun z=>e (Sum.inr.inj z)),if_neg e];exact e3 x
 ·rw[Uc,Zjs b5]
  by_cases e:x=n
  ·subst e;rw[if_pos rfl,if_pos rfl];rfl
  ·rw[if_neg (fun z=>e (Sum.inr.inj z)),if_neg e];exact h3 x
 ·rw[hkw] at e
  obtain⟨q1,q2,q3⟩:=x3 m l e
  obtain⟨_,_,z3,z4⟩:=wap m l e
  exact⟨q1,by rw[Zc z4];exact g0 _ _ z3 q2,by lia⟩
 ·rw[Zdc,o2]
  show _=((Wz ds)++[]).map V.str
  rw[yN]
 ·obtain⟨m,l,e,q⟩:=y9 p hp
  exact⟨m,l,by rw[hkw];exact e,q⟩
 ·rw[Zc (fun z=>hn (.inr (.inr (.inr (.inr (.inl z))))))]
  exact g0 b o (fun z=>hn (.inr (.inr (.inr (.inl z))))) e
 ·refine .inl ?_
  unfold own at hb ⊢
  rw[hkw] at hb
  exact hb
end
def Um(H H':Hp):Prop:=∀b xs,H b=some (.tup xs)->H' b=some (.tup xs)
theorem Zlg{l:Addr}{H:Hp}{xs:List V}{o:HO}(hl:H l=some (.lst xs)):Um H (upd H l o):=fun b ys e=>by
 rw[Zc (fun z=>by rw[z,hl] at e;cases e)];exact e
section
variable{P:Program}{w:World}{K:uFg}{mg:Str->Option Value}{base:Heap}
abbrev Yv:=List (Str×Int)
def Zd0(p:Str×Int):D:=.tup [.str p.1,.int p.2]
def Zgz(sd:Yv):D:=.lst (sd.map Zd0)
def RepS(H:Hp):Yv->List V->Prop
 | [],vs=>vs = []
 | p::r,vs=>∃a vs',vs = .ref a::vs'/\H a=some (.tup [.str p.1,.int p.2])/\RepS H r vs'
theorem RepS.mono{H H':Hp}(k:Um H H'):∀{sd:Yv}{vs:List V},RepS H sd vs->RepS H' sd vs
 | [],_,h=>h
 | _::_,_,⟨a,vs',e,h1,h2⟩=>⟨a,vs',e,k _ _ h1,RepS.mono k h2⟩
theorem RepS.rep{H:Hp}:∀{sd:Yv}{vs:List V},RepS H sd vs->RepL H (sd.map Zd0) vs
 | [],_,h=>h
 | p::_,_,⟨a,vs',e,h1,h2⟩=>⟨.ref a,vs',e,⟨a,_,rfl,h1,⟨.str p.1,_,rfl,rfl,⟨.int p.2,[],rfl,rfl,rfl⟩⟩⟩,RepS.rep h2⟩
theorem RepS.of{H:Hp}:∀{sd:Yv}{vs:List V},RepL H (sd.map Zd0) vs->RepS H sd vs
 | [],_,h=>h
 | p::_,_,⟨v,vs',e,⟨a,us,e2,h1,⟨x,r1,e3,e4,⟨y,r2,e5,e6,e7⟩⟩⟩,h2⟩=>by
  subst e2 e7 e5 e3
  cases e4
  cases e6
  exact⟨a,vs',e,h1,RepS.of h2⟩
theorem RepS.len{H:Hp}{sd:Yv}{vs:List V}(h:RepS H sd vs):vs.length=sd.length:=by
 have:=(RepS.rep h).length
 rw[xA] at this
 exact this
theorem RepS.get{H:Hp}:∀{sd:Yv}{vs:List V}{i:Nat}{v:V},RepS H sd vs->vs[i]? = some v->∃p a,sd[i]? = some p/\v = .ref a/\H a=some (.tup [.str p.1,.int p.2])
 | [],vs,i,v,h,e=>by cases h;simp at e
 | p::sd,vs,i,v,⟨a,vs',e1,h1,h2⟩,e=>by
  subst e1
  cases i with
  | zero=>simp at e;subst e;exact⟨p,a,rfl,rfl,h1⟩
  | succ i=>simp at e;exact RepS.get (i:=i) h2 e
theorem RepS.snoc{H:Hp}{p:Str×Int}{a:Addr}(hp:H a=some (.tup [.str p.1,.int p.2])):∀{sd:Yv}{vs:List V},RepS H sd vs->RepS H (sd ++ [p]) (vs ++ [.ref a])
 | [],vs,h=>by cases h;exact⟨a,[],rfl,hp,rfl⟩
 | q::sd,vs,⟨b,vs',e,h1,h2⟩=>by subst e;exact⟨b,vs' ++ [.ref a],rfl,h1,RepS.snoc hp h2⟩
end
section
variable{P:Program}{w:World}{K:uFg}{mg:Str->Option Value}{base:Heap}
def wts(sd:Yv):List Int:=sd.map (·.2)
def Light(sd:Yv):Prop:=(∀p∈sd,1<=p.2/\p.2<=1000)/\sd.length<=60
theorem Light.bnd{sd:Yv}(h:Light sd):∀n∈wts sd,-1000000000<=n/\n<=1000000000:=fun n hn=>by
 obtain⟨p,hp,rfl⟩:=yS.mp hn
 have:=h.1 p hp
 show -1000000000<=p.2/\p.2<=1000000000
 lia
theorem Zvn{sd:Yv}{i:Nat}{p:Str×Int}(h:sd[i]? = some p):(wts sd)[i]? = some p.2:=by unfold wts;rw[xP,h];rfl
def SideAt(H:Hp)(sd:Yv)(v:V):Prop:=∃a vs,v = .ref a/\H a=some (.lst vs)/\RepS H sd vs
theorem Same.t{H H':Hp}(h:Same H H'):Um H H':=fun b xs e=>h b _ e
theorem SideAt.mono{H H':Hp}{sd:Yv}{v:V}(h:SideAt H sd v)(k:Same H H'):SideAt H' sd v:=let ⟨a,vs,e,h1,h2⟩:=h;⟨a,vs,e,k _ _ h1,h2.mono fun b xs e=>k b _ e⟩
end
section
variable{P:Program}{w:World}{K:uFg}{mg:Str->Option Value}{base:Heap}
inductive spTotal (vs:List V) (H:Hp) (Q:VK) (z3:XK):Prop
 | mk (v:V) (sd:Yv) (h0:vs = [v]) (h1:SideAt H sd v) (h2:Light sd) (h3:∀H',Same H H'->Q (.int (wts sd).sum) H')
theorem Ztl{H:Hp}{sd:Yv}{a:Addr}{vs:List V}{fv:St}{Q:VK}(ha:H a=some (.lst vs))(hr:RepS H sd vs)(hl:sd.length<=60)(hd:∀l,H l=none->Q (.ref l) (upd H l (.lst ((wts sd).map V.int)))) :
  Ui (Itl K a) 2 fv (gTup K 2 (gCons (Wp 0) (gCons (Wp 1) Zd8))) (fun _ H Q=>Q true H) (tVar 1) Q H:=by
 have hlen:=hr.len
 refine Zdf (xs:=vs) (fun i ys H'=>H'=H/\ys=((wts sd).take i).map V.int) ⟨rfl,rfl⟩ (by lia) (fun i ys H' _ ⟨e,_⟩=>by rw[e];exact SqL.of ha) ?_ ?_ ?_
 ·rintro i ys H' ⟨_,rfl⟩
  rw[xA,xY];lia
 ·rintro i x ys H' hx ⟨rfl,rfl⟩ ls hls
  obtain⟨u,v,rfl⟩:=Zeb hls
  obtain⟨p,b,hp,rfl,hb⟩:=hr.get hx
  refine⟨b,_,rfl,SqT.of hb,rfl,_,_,rfl,_,_,rfl,rfl,⟨[_,_],rfl,rfl⟩,Ym ?_⟩
  refine⟨_,rfl,rfl,?_⟩
  rw[yP,Zvn hp,xQ]
  rfl
 ·rintro ys H' ⟨rfl,rfl⟩ l hl'
  have e:(wts sd).take vs.length=wts sd:=yV (by unfold wts;rw[xA];lia)
  rw[e]
  exact hd l hl'
abbrev Zmk:Stmt:=top 37
theorem Zzh(Zg0:Has K mg "total" Zmk)(T:Txt mg):Fn P w K mg base "total" ["side"] 1 spTotal:=by
 refine Zg0.fq ["side"] fun H vs Q E hr h=>?_
 obtain⟨v,sd,rfl,⟨a,vs,rfl,ha,hr⟩,hL,k⟩:=h
 refine⟨rfl,_,(Zf (Z5 (Z1 (Zjm (by rfl)) T.sum Zl2 (Za (Uu (locs:=["name", "weight"]) (fr:=[]) ⟨rfl,by decide +kernel,by decide +kernel,by decide +kernel,by decide +kernel,by decide +kernel⟩ .nil rfl (Vu (qvN 0)) ⟨fun _ _ _ _ _ _=>by
  have cnd:(inN ["name", "weight"] []).Nodup:=by decide +kernel
  exact⟨(Zdm 2 (by rfl) (Vb (Vv 0 cnd) (Vb (Vv 1 cnd) Zbu))),Zbw,(V5 1)⟩⟩) Zb)))),?_⟩
 refine⟨_,rfl,a,rfl,⟨_,SqL.of ha⟩,?_⟩
 refine Ztl ha hr hL.2 fun l hl=>?_
 exact⟨l,wts sd,rfl,SqL.of Zg,hL.bnd,by unfold wts;rw[xA];have:=hL.2;lia,k _ (Same.new hl)⟩
end
section
variable{P:Program}{w:World}{K:uFg}{mg:Str->Option Value}{base:Heap}
structure Suit where
 ones:Yv
 others:Yv
 need:Int
 named:Option (Int×Str)
def Zcr:Option (Int×Str)->D
 | none=>.non
 | some (c,n)=>.tup [.int c,.str n]
def Ws(t:Suit):D:=.tup [Zgz t.ones,Zgz t.others,.int t.need,Zcr t.named]
theorem SideAt.of{H:Hp}{sd:Yv}{v:V}(h:Rep H (Zgz sd) v):SideAt H sd v:=by
 obtain⟨a,vs,e,h1,h2⟩:=h
 exact⟨a,vs,e,h1,RepS.of h2⟩
theorem Ztm{H:Hp}{t:Suit}{v:V}(h:Rep H (Ws t) v):∃a u1 u2 u4,v = .ref a/\H a=some (.tup [u1,u2,.int t.need,u4])/\SideAt H t.ones u1/\SideAt H t.others u2/\Rep H (Zcr t.named) u4:=by
 obtain⟨a,vs,e,h1,⟨u1,r1,rfl,a1,⟨u2,r2,rfl,a2,⟨u3,r3,rfl,a3,⟨u4,r4,rfl,a4,a5⟩⟩⟩⟩⟩:=h
 cases a3
 cases a5
 exact⟨a,u1,u2,u4,e,h1,.of a1,.of a2,a4⟩
theorem RepS.app{H:Hp}{b:Yv}{ws:List V}(hb:RepS H b ws):∀{a:Yv}{vs:List V},RepS H a vs->RepS H (a++b) (vs++ws)
 | [],vs,h=>by cases h;exact hb
 | p::a,vs,⟨c,vs',e,h1,h2⟩=>by subst e;exact⟨c,vs'++ws,rfl,h1,RepS.app hb h2⟩
theorem Ztn{H:Hp}{sd:Yv}{a:Addr}{vs:List V}{fv:St}{Q:VK}(ha:H a=some (.lst vs))(hr:RepS H sd vs)(hl:sd.length<=1000)(hd:∀l,H l=none->Q (.ref l) (upd H l (.lst ((sd.map (·.1)).map V.str)))) :
  Ui (Itl K a) 2 fv (gTup K 2 (gCons (Wp 0) (gCons (Wp 1) Zd8))) (fun _ H Q=>Q true H) (tVar 0) Q H:=by
 have hlen:=hr.len
 refine Zdf (xs:=vs) (fun i ys H'=>H'=H/\ys=((sd.map (·.1)).take i).map V.str) ⟨rfl,rfl⟩ (by lia) (fun i ys H' _ ⟨e,_⟩=>by rw[e];exact SqL.of ha) ?_ ?_ ?_
 ·rintro i ys H' ⟨_,rfl⟩
  rw[xA,xY];lia
 ·rintro i x ys H' hx ⟨rfl,rfl⟩ ls hls
  obtain⟨u,v,rfl⟩:=Zeb hls
  obtain⟨p,b,hp,rfl,hb⟩:=hr.get hx
  refine⟨b,_,rfl,SqT.of hb,rfl,_,_,rfl,_,_,rfl,rfl,⟨[_,_],rfl,rfl⟩,Ym ?_⟩
  refine⟨_,rfl,rfl,?_⟩
  have e:(sd.map (·.1))[i]? = some p.1:=by rw[xP,hp];rfl
  rw[yP,e,xQ]
  rfl
 ·rintro ys H' ⟨rfl,rfl⟩ l hl'
  have e:(sd.map (·.1)).take vs.length=sd.map (·.1):=yV (by rw[xA];lia)
  rw[e]
  exact hd l hl'
def Zvo(ss:List Suit)(nm:Option (Int×Str)):Prop:=∀c n,nm=some (c,n)->0<=c/\∃t wt,ss[c.toNat]? = some t/\(n,wt)∈t.ones++t.others
def Uo(t:Suit):Prop:=Light t.ones/\Light t.others/\1<=t.need/\t.need<=12000
end
section
variable{P:Program}{w:World}{K:uFg}{mg:Str->Option Value}{base:Heap}
structure Line (ss:List Suit):Prop where
 ok:∀t∈ss,Uo t
 nd:∀t∈ss,((t.ones++t.others).map (·.1)).Nodup
 nm:∀t∈ss,∀p∈t.ones++t.others,Y6 p.1
 back:∀i t,ss[i]? = some t->Zvo (ss.take i) t.named
end
section
variable{P:Program}{w:World}{K:uFg}{mg:Str->Option Value}{base:Heap}
abbrev Ue:=List (List Key×V)
def Yd(c:Int)(n:Str):List Key:=[.inl c,.inr n]
def brk(kvs:Ue)(c:Int)(n:Str):Bool:=(Zt kvs (Yd c n)).isSome
def keep(br:Int->Str->Bool)(c:Int)(sd:Yv):Yv:=sd.filter fun p=>!br c p.1
def Zcz(br:Int->Str->Bool)(c:Int)(sd:Yv):Int:=(wts (keep br c sd)).sum
inductive spKept (vs:List V) (H:Hp) (Q:VK) (z3:XK):Prop
 | mk (c:Int) (v:V) (g:Addr) (sd:Yv) (kvs:Ue) (h0:vs = [.int c,v,.ref g]) (h1:SideAt H sd v) (h2:Light sd) (h3:H g=some (.dT kvs)) (h4:∀H',Same H H'->Q (.int (Zcz (brk kvs) c sd)) H')
theorem Zr2{br:Int->Str->Bool}{c:Int}{sd:Yv}{i:Nat}{p:Str×Int}(h:sd[i]? = some p):keep br c (sd.take (i+1))=keep br c (sd.take i)++(if br c p.1 then [] else [p]):=by
 unfold keep
 rw[yP,h,List.filter_append]
 cases e:br c p.1<;>simp[e]
abbrev Zd1:Stmt:=top 55
theorem Nq4:Nm (Zm Zd1) "case" .cell:=by decide +kernel
theorem Nq5:Nm (Zm Zd1) "gone" .cell:=by decide +kernel
theorem Zzi(Zg1:Has K mg "kept_weight" Zd1)(T:Txt mg):Fn P w K mg base "kept_weight" ["case", "side", "gone"] 1 spKept:=by
 refine Zg1.fq ["case", "side", "gone"] fun H vs Q E hr h=>?_
 obtain⟨c,v,g,sd,kvs,rfl,⟨a,vs,rfl,ha,hrs⟩,hL,hg,k⟩:=h
 refine⟨rfl,_,(Zf (Z5 (Z1 (Zjm (by rfl)) T.sum Zl2 (Za (Uu (locs:=["name", "weight"]) (fr:=[("case", 0),("gone", 2)]) ⟨rfl,by decide +kernel,by decide +kernel,by decide +kernel,by decide +kernel,by decide +kernel⟩ (.consN Nq4 (.consN Nq5 .nil)) rfl (Vu (qvN 1)) ⟨fun _ _ _ _ _ _=>by
  have cnd:(inN ["name", "weight"] [("case", 0),("gone", 2)]).Nodup:=by decide +kernel
  exact⟨(Zdm 2 (by rfl) (Vb (Vv 0 cnd) (Vb (Vv 1 cnd) Zbu))),(Zfr (Zs (Zet hr) (Z9 (Za (Za3 2) (Za (V5 0) Zb))) (Za3 3) rfl)),(V5 1)⟩⟩) Zb)))),?_⟩
 have hz:(2000:Nat)<=sizeLine:=by decide
 have hvl:=hrs.len
 have hl60:=hL.2
 refine⟨_,rfl,a,rfl,⟨_,SqL.of ha⟩,?_⟩
 refine Zdf (xs:=vs) (fun i ys H'=>Same H H'/\ys=(wts (keep (brk kvs) c (sd.take i))).map V.int) ⟨fun _ _ e=>e,rfl⟩ (by lia) (fun i ys H' _ ⟨e,_⟩=>SqL.of (e _ _ ha)) ?_ ?_ ?_
 ·rintro i ys H' ⟨_,rfl⟩
  unfold wts keep
  rw[xA,xA]
  refine xS (zZ _ _) ?_
  rw[xY];lia
 ·rintro i x ys H' hx ⟨sm,rfl⟩ ls hls
  obtain⟨w1,w2,rfl⟩:=Zeb hls
  obtain⟨p,b,hp,rfl,hb⟩:=hrs.get hx
  refine⟨b,_,rfl,SqT.of (sm _ _ hb),rfl,_,_,rfl,_,_,rfl,rfl,⟨[_,_],rfl,rfl⟩,?_⟩
  refine⟨_,rfl,_,rfl,by show 2<=sizeLine;lia,fun q hq=>?_⟩
  have S1:=Same.new (o:=.tup [.int c,.str p.1]) hq
  have k1:(upd H' q (.tup [.int c,.str p.1])) q=some (.tup [.int c,.str p.1]):=Zg
  generalize (upd H' q (.tup [.int c,.str p.1]))=H1 at S1 k1 ⊢
  refine⟨_,rfl,g,_,rfl,DGet.t (S1 _ _ (sm _ _ hg)) (k:=Yd c p.1) k1,_,rfl,?_⟩
  have e:=Zr2 (br:=brk kvs) (c:=c) hp
  show if (!brk kvs c p.1)=true then _ else _
  cases hb':brk kvs c p.1 with
  | true =>
   rw[hb',if_pos rfl,yN] at e
   refine Yj ?_
   exact⟨sm.trans S1,by rw[e]⟩
  | false =>
   rw[hb',if_neg xM] at e
   refine Ym ?_
   refine⟨_,rfl,sm.trans S1,?_⟩
   rw[e]
   unfold wts
   rw[xQ,xQ]
   rfl
 ·rintro ys H' ⟨sm,rfl⟩ l hl'
  rw[hvl,yZ]
  refine⟨l,wts (keep (brk kvs) c sd),rfl,SqL.of Zg,fun n hn=>?_,?_,k _ (sm.trans (Same.new hl'))⟩
  ·obtain⟨p,hp,rfl⟩:=yS.mp hn
   exact hL.bnd _ (yS.mpr ⟨p,(zW.mp hp).1,rfl⟩)
  ·unfold wts keep
   rw[xA]
   exact xS (zZ _ _) (by lia)
def Zaf(br:Int->Str->Bool)(c:Int)(t:Suit):Int:=Zcz br c t.ones - Zcz br c t.others - t.need
def SuitsAt(H:Hp)(ss:List Suit)(l:Addr):Prop:=∃us,H l=some (.lst us)/\RepL H (ss.map Ws) us
theorem SuitsAt.mono{H H':Hp}{ss:List Suit}{l:Addr}(h:SuitsAt H ss l)(k:Same H H'):SuitsAt H' ss l:=let ⟨us,a,b⟩:=h;⟨us,k _ _ a,b.mono' k⟩
theorem SuitsAt.get{H:Hp}{ss:List Suit}{l:Addr}{us:List V}{i:Nat}{t:Suit}(b:RepL H (ss.map Ws) us)(ht:ss[i]? = some t) :
  ∃ta u1 u2 u4,us[i]? = some (.ref ta)/\H ta=some (.tup [u1,u2,.int t.need,u4])/\SideAt H t.ones u1/\SideAt H t.others u2/\Rep H (Zcr t.named) u4:=by
 have hl:=b.length
 rw[xA] at hl
 have hi:i < us.length:=by rw[hl];exact(xG.mp ht).1
 have hu:us[i]? = some us[i]:=xB hi
 obtain⟨d,hd,hr⟩:=b.get hu
 rw[xP,ht] at hd
 cases hd
 obtain⟨ta,u1,u2,u4,e,h1,h2,h3,h4⟩:=Ztm hr
 exact⟨ta,u1,u2,u4,by rw[hu,e],h1,h2,h3,h4⟩
inductive spMargin (vs:List V) (H:Hp) (Q:VK) (z3:XK):Prop
 | mk (l g:Addr) (c:Nat) (ss:List Suit) (t:Suit) (kvs:Ue) (h0:vs = [.ref l,.int c,.ref g]) (h1:SuitsAt H ss l) (h2:ss[c]? = some t) (h3:Uo t) (h4:H g=some (.dT kvs)) (h5:∀H',Same H H'->Q (.int (Zaf (brk kvs) c t)) H')
abbrev Zml:Stmt:=top 54
theorem Zzj(Zg2:Has K mg "margin_without" Zml)(T:Txt mg)(C0:∃t,mg "ONES" = some (.int 0 t))(C1:∃t,mg "OTHERS" = some (.int 1 t))(C2:∃t,mg "NEED" = some (.int 2 t))(Zmm:Fn P w K mg base "kept_weight" ["case", "side", "gone"] 1 spKept):Fn P w K mg base "margin_without" ["suits", "case", "gone"] 2 spMargin:=by
 obtain⟨t0,c_ONES⟩:=C0
 obtain⟨t1,c_OTHERS⟩:=C1
 obtain⟨t2,c_NEED⟩:=C2
 have r_ONES:RelV (.int 0) (.int 0 t0):=⟨t0,rfl⟩
 have r_OTHERS:RelV (.int 1) (.int 1 t1):=⟨t1,rfl⟩
 have r_NEED:RelV (.int 2) (.int 2 t2):=⟨t2,rfl⟩
 refine Zg2.fq ["suits", "case", "gone", "suit"] fun H vs Q E hr h=>?_
 obtain⟨l,g,c,ss,t,kvs,rfl,⟨us,hl,hrep⟩,ht,⟨L1,L2',_,_⟩,hg,k⟩:=h
 refine⟨rfl,_,(Zd (Zy 3 (Zk Yx (qvN 0) (qvN 1) (fun _ _=>rfl)))
 (Zf (Z5 (Zu Zcn (Zu Zcn (Yg Zmm (Za (qvN 1) (Za (Zk Zx (qvN 3) (Z4 c_ONES r_ONES) (fun _ _=>rfl)) (Za (qvN 2) Zb)))) (Yg Zmm (Za (qvN 1) (Za (Zk Zx (qvN 3) (Z4 c_OTHERS r_OTHERS) (fun _ _=>rfl)) (Za (qvN 2) Zb))))) (Zk Zx (qvN 3) (Z4 c_NEED r_NEED) (fun _ _=>rfl)))))),?_⟩
 obtain⟨ta,u1,u2,u4,hu,hta,h1,h2,h4⟩:=SuitsAt.get (l:=l) hrep ht
 refine⟨_,rfl,_,rfl,l,us,c,.ref ta,rfl,rfl,SqL.of hl,Va hu,?_⟩
 refine⟨_,rfl,_,rfl,ta,_,0,u1,rfl,rfl,SqT.of hta,rfl,_,rfl,c,u1,g,t.ones,kvs,rfl,h1,L1,hg,fun H1 s1=>?_⟩
 refine⟨_,rfl,_,rfl,ta,_,1,u2,rfl,rfl,SqT.of (s1 _ _ hta),rfl,_,rfl,c,u2,g,t.others,kvs,rfl,h2.mono s1,L2',s1 _ _ hg,fun H2 s2=>?_⟩
 refine⟨_,_,rfl,rfl,_,rfl,ta,_,2,_,rfl,rfl,SqT.of (s2 _ _ (s1 _ _ hta)),rfl,_,_,rfl,rfl,k H2 (s1.trans s2)⟩
end
section
variable{P:Program}{w:World}{K:uFg}{mg:Str->Option Value}{base:Heap}
abbrev Zce:=Int×Str
def Yw(more:List Zce):Nat->List Suit->List Bool×List Zce
 | _,[]=>([],more)
 | i,t::r =>
  (decide (0<=Zaf (fun c n=>decide ((c,n)∈(Yw more (i+1) r).2)) i t)::(Yw more (i+1) r).1,
   if decide (0<=Zaf (fun c n=>decide ((c,n)∈(Yw more (i+1) r).2)) i t)=true then (Yw more (i+1) r).2++t.named.toList else (Yw more (i+1) r).2)
theorem Zfd(more:List Zce):∀(ss:List Suit)(i:Nat),(Yw more i ss).1.length=ss.length
 | [],_=>rfl
 | t::r,i=>by rw[Yw,xU,Zfd more r (i+1),xU]
def GoneIs(kvs:Ue)(gn:List Zce):Prop:=∀c n,brk kvs c n=decide ((c,n)∈gn)
theorem GoneIs.put{kvs:Ue}{gn:List Zce}{c:Int}{n:Str}{v:V}(h:GoneIs kvs gn):GoneIs (Zw kvs (Yd c n) v) (gn ++ [(c,n)]):=by
 intro c' n'
 unfold brk
 rw[Uc]
 by_cases e:Yd c' n'=Yd c n
 ·rw[if_pos e]
  have e':(c',n')=(c,n):=by
   unfold Yd at e
   injection e with e1 e2
   injection e2 with e2 _
   cases e1
   cases e2
   rfl
  rw[e']
  exact(yI (xK _ (xI.mpr rfl))).symm
 ·rw[if_neg e]
  refine(h c' n').trans ?_
  have e':¬(c',n')=(c,n):=fun z=>e (by injection z with z1 z2;rw[z1,z2])
  have:((c',n')∈gn ++ [(c,n)])↔((c',n')∈gn):=by rw[xH,xI];exact⟨fun z=>z.elim id (fun z=>absurd z e'),.inl⟩
  rw[decide_eq_decide]
  exact this.symm
theorem Zkm(r:List Bool)(b:Bool):∀c:Nat,((List.replicate (c+1) false++r).map V.bl).set c (.bl b)=(List.replicate c false++(b::r)).map V.bl
 | 0=>rfl
 | c+1=>by
  rw[yQ,xT,xV,List.set_cons_succ,Zkm r b c,yQ,xT,xV]
theorem Zkn(r:List Bool)(b:Bool):∀c:Nat,((List.replicate c false++(b::r)).map V.bl)[c]? = some (.bl b)
 | 0=>rfl
 | c+1=>by
  rw[yQ,xT,xV,List.getElem?_cons_succ]
  exact Zkn r b c
theorem Zvp{n c:Nat}(h:c < n):ixN n (c:Int)=some c:=by
 unfold ixN
 rw[if_pos (by lia),if_pos (by lia),yR]
inductive spSettW (vs:List V) (H:Hp) (Q:VK) (z3:XK):Prop
 | mk (l m:Addr) (ss:List Suit) (ms:List V) (more:List Zce) (h0:vs = [.ref l,.ref m]) (h1:SuitsAt H ss l) (h2:(∀t∈ss,Uo t)) (h3:ss.length<=1000) (h4:H m=some (.lst ms)) (h5:RepL H (more.map fun x=>Zcr (some x)) ms) (h6:more.length<=1000) (h7:∀(l2:Addr)(H':Hp),H l2=none->H' l2=some (.lst ((Yw more 0 ss).1.map V.bl))->Same H H'->Q (.ref l2) H')
abbrev Zmn:Stmt:=top 47
theorem Zzk(Zg3:Has K mg "settled_with" Zmn)(T:Txt mg)(C3:∃t,mg "NAMED" = some (.int 3 t))(Zzl:Fn P w K mg base "margin_without" ["suits", "case", "gone"] 2 spMargin):Fn P w K mg base "settled_with" ["suits", "more"] 3 spSettW:=by
 obtain⟨t3,c_NAMED⟩:=C3
 have r_NAMED:RelV (.int 3) (.int 3 t3):=⟨t3,rfl⟩
 refine Zg3.fq ["suits", "more", "gone", "oath", "standing", "case"] fun H vs Q E hr h=>?_
 obtain⟨l,m,ss,ms,more,rfl,hsu,hok,hlen,hm,hms,hml,k⟩:=h
 refine⟨rfl,_,(Zd (Zy 2 Zjz)
 (Zd (Uj PassesOwn.never rfl (Vu (qvN 1)) (Wq 3)
 (Zf (Uv hr (qvN 2) (qvN 3) Zb3)))
 (Zd (Zy 4 (Zu Zva (Zz (Za Zb3 Zb)) (Z1 Wm T.len Y1 (Za (qvN 0) Zb))))
 (Zd (Uj PassesOwn.never rfl (Zov T.range (Za (Zu Zcn (Z1 Wm T.len Y1 (Za (qvN 0) Zb)) Ze) (Za (Zf7 Zfp Ze) (Za (Zf7 Zfp Ze) Zb)))) (Wq 5)
 (Zd (Zbd (Zcm Zaq (Yg Zzl (Za (qvN 0) (Za (qvN 5) (Za (qvN 2) Zb)))) Ze (Z2 _)) (Zby (qvN 4) (qvN 5) Zbp))
 (Zf (Zp (QW.pt (Zcq (Zbe (Zk Yx (qvN 4) (qvN 5) (fun _ _=>rfl))) (Zdk (Zs Zbf (Zk Zx (Zk Yx (qvN 0) (qvN 5) (fun _ _=>rfl)) (Z4 c_NAMED r_NAMED) (fun _ _=>rfl)) We (Z2 _))))) (Zf (Uv hr (qvN 2) (Zk Zx (Zk Yx (qvN 0) (qvN 5) (fun _ _=>rfl)) (Z4 c_NAMED r_NAMED) (fun _ _=>rfl)) Zb3)) Zo))))
 (Zf (Z5 (qvN 4))))))),?_⟩
 have hz:(5000:Nat)<=sizeLine:=by decide
 refine fun g hg=>?_
 have S0:Same H (upd H g (.dT [])):=Same.new hg
 have hml':ms.length=more.length:=by have:=hms.length;rw[xA] at this;exact this
 refine⟨_,rfl,m,rfl,⟨_,SqL.of (S0 _ _ hm)⟩,?_⟩
 refine Zar ms (fun i σ H'=>∃(kvs:Ue)(v3:Option V),σ = [some (.ref l),some (.ref m),some (.ref g),v3,none,none]/\H' g=some (.dT kvs)/\GoneIs kvs (more.take i)/\kvs.length<=i/\Same H H') ⟨[],none,rfl,Zg,fun c n=>rfl,xE _,S0⟩ (fun i σ H' _ ⟨_,_,_,_,_,_,e⟩=>SqL.of (e _ _ hm)) ?_ ?_
 ·rintro i x σ H' hx ⟨kvs,v3,rfl,hg',hgi,hkl,sm⟩
  obtain⟨d,hd,hrd⟩:=hms.get hx
  rw[xP] at hd
  obtain⟨⟨c,n⟩,ho⟩:∃o,more[i]? = some o:=by cases e:more[i]? with | none=>rw[e] at hd;cases hd | some t=>exact⟨t,rfl⟩
  rw[ho] at hd
  cases hd
  obtain⟨b,bs,rfl,hb,⟨y1,r1,rfl,e1,⟨y2,r2,rfl,e2,e3⟩⟩⟩:=hrd
  cases e1
  cases e2
  cases e3
  have hi:i < ms.length:=(xG.mp hx).1
  refine⟨_,rfl,_,rfl,g,_,rfl,DPut.t hg' (k:=Yd c n) (sm _ _ hb) (by lia),?_⟩
  refine⟨_,_,rfl,Zg,?_,xS (Vm _ _ _) (by lia),?_⟩
  ·rw[yP,ho]
   exact hgi.put
  ·intro b' o e
   rw[Zc (fun z=>by rw[z,hg] at e;cases e)]
   exact sm b' o e
 ·rintro σ H1 ⟨kvs,v3,rfl,hg1,hgi,hkl,sm1⟩
  rw[hml',yZ] at hgi
  obtain⟨us,hl1,hrep1⟩:=hsu.mono sm1
  have hul:us.length=ss.length:=by have:=hrep1.length;rw[xA] at this;exact this
  refine⟨by show 1<=sizeLine;lia,fun q hq=>?_⟩
  have S2:=Same.new (o:=.lst [.bl false]) hq
  have k2:(upd H1 q (.lst [.bl false])) q=some (.lst [.bl false]):=Zg
  generalize (upd H1 q (.lst [.bl false]))=H2 at S2 k2 ⊢
  refine⟨_,rfl,l,us,rfl,.inl (SqL.of (S2 _ _ hl1)),q,_,_,rfl,rfl,k2,by lia,by lia,?_,fun st hst=>?_⟩
  ·rw[yR,hul];show 1 * ss.length<=sizeLine;lia
  have hstH:H st=none:=(sm1.trans S2).free hst
  have hgst:g≠st:=fun z=>by rw[← z,S2 _ _ hg1] at hst;cases hst
  have S3:=Same.new (o:=.lst (List.replicate (us.length:Int).toNat [V.bl false]).flatten) hst
  have k3:(upd H2 st (.lst (List.replicate (us.length:Int).toNat [V.bl false]).flatten)) st=some (.lst ((List.replicate ss.length false).map V.bl)):=by
   rw[Zg,yR,hul]
   have:∀n:Nat,(List.replicate n [V.bl false]).flatten=(List.replicate n false).map V.bl:=by
    intro n
    induction n with
    | zero=>rfl
    | succ n ih=>rw[yQ,zQ,ih,yQ,xV];rfl
   rw[this]
  generalize (upd H2 st (.lst (List.replicate (us.length:Int).toNat [V.bl false]).flatten))=H3 at S3 k3 ⊢
  have S13:=S2.trans S3
  have sm3:=sm1.trans S13
  refine⟨_,rfl,l,us,rfl,.inl (SqL.of (S13 _ _ hl1)),_,_,rfl,rfl,_,rfl,_,rfl,_,_,rfl,⟨by lia,by lia,by decide,by decide⟩,?_⟩
  refine Zrj ss.length (by lia) (fun i σ H'=>∃(kvs:Ue)(v3 v5:Option V),σ = [some (.ref l),some (.ref m),some (.ref g),v3,some (.ref st),v5]/\
    H' st=some (.lst ((List.replicate (ss.length - i) false++(Yw more (ss.length - i) (ss.drop (ss.length - i))).1).map V.bl))/\H' g=some (.dT kvs)/\GoneIs kvs (Yw more (ss.length - i) (ss.drop (ss.length - i))).2/\kvs.length<=1000+i/\Same H H')
   ⟨kvs,_,none,rfl,?_,S13 _ _ hg1,?_,by lia,sm3⟩ ?_ ?_
  ·rw[Nat.sub_zero,List.drop_length,Yw,yN];exact k3
  ·rw[Nat.sub_zero,List.drop_length,Yw];exact hgi
  ·rintro i σ H' hi ⟨kvs,v3,v5,rfl,hst',hg',hgi',hkl',sm'⟩
   obtain⟨c,hc⟩:∃c,ss.length - i=c+1:=⟨ss.length - i - 1,by lia⟩
   have hc2:ss.length - (i+1)=c:=by lia
   have hcl:c < ss.length:=by lia
   have ec:((us.length:Int) - 1 - (i:Nat))=((c:Nat):Int):=by lia
   rw[hc] at hst' hgi'
   rw[ec,hc2]
   have ht:ss[c]? = some ss[c]:=xB hcl
   have htm:ss[c]∈ss:=zT hcl
   have ed:ss.drop c=ss[c]::ss.drop (c+1):=List.drop_eq_getElem_cons hcl
   rw[ed]
   generalize ss[c]=t at ht htm ed ⊢
   obtain⟨us',hl',hrep'⟩:=hsu.mono sm'
   have hg'':brk kvs=fun(a:Int) (n:Str)=>decide ((a,n)∈(Yw more (c+1) (ss.drop (c+1))).2):=funext fun a=>funext fun b=>hgi' a b
   have hset:Yw more c (t::ss.drop (c+1))=(decide (0<=Zaf (brk kvs) c t)::(Yw more (c+1) (ss.drop (c+1))).1,if decide (0<=Zaf (brk kvs) c t)=true then (Yw more (c+1) (ss.drop (c+1))).2++t.named.toList else (Yw more (c+1) (ss.drop (c+1))).2):=by rw[hg'',Yw]
   rw[hset]
   generalize Yw more (c+1) (ss.drop (c+1))=R at hst' hgi' ⊢
   refine⟨_,rfl,_,rfl,_,rfl,l,g,c,ss,t,kvs,rfl,hsu.mono sm',ht,hok t htm,hg',fun H4 s4=>?_⟩
   have hst4:=s4 _ _ hst'
   refine⟨Zaf (brk kvs) c t,0,rfl,rfl,_,rfl,_,rfl,st,_,c,c,rfl,rfl,hst4,?_,?_⟩
   ·exact Zvp (by rw[xA,xJ,List.length_replicate];lia)
   dsimp only
   generalize decide (0<=Zaf (brk kvs) c t)=b
   rw[Zkm]
   have sm5:Same H (upd H4 st (.lst ((List.replicate c false++(b::R.1)).map V.bl))):=fun x o e=>by
    rw[Zc (fun z=>by rw[z,hstH] at e;cases e)]
    exact s4 _ _ (sm' _ _ e)
   have k5:(upd H4 st (.lst ((List.replicate c false++(b::R.1)).map V.bl))) st=some (.lst ((List.replicate c false++(b::R.1)).map V.bl)):=Zg
   have hg5:(upd H4 st (.lst ((List.replicate c false++(b::R.1)).map V.bl))) g=some (.dT kvs):=by rw[Zc hgst];exact s4 _ _ hg'
   generalize (upd H4 st (.lst ((List.replicate c false++(b::R.1)).map V.bl)))=H5 at sm5 k5 hg5 ⊢
   obtain⟨us5,hl5,hrep5⟩:=hsu.mono sm5
   obtain⟨ta,u1,u2,u4,hu,hta,h1,h2,h4⟩:=SuitsAt.get (l:=l) hrep5 ht
   refine⟨_,rfl,_,rfl,st,_,c,.bl b,rfl,rfl,SqL.of k5,Va (Zkn ..),b,rfl,?_⟩
   cases b with
   | false =>
    refine Yj (Yj ?_)
    exact⟨kvs,_,_,rfl,k5,hg5,hgi',by lia,sm5⟩
   | true =>
    refine Ym ?_
    refine⟨_,rfl,_,rfl,l,us5,c,.ref ta,rfl,rfl,SqL.of hl5,Va hu,ta,_,3,u4,rfl,rfl,SqT.of hta,rfl,rfl,_,rfl,?_⟩
    cases hn:t.named with
    | none =>
     rw[hn] at h4
     cases h4
     refine Yj ?_
     exact⟨kvs,_,_,rfl,k5,hg5,by show GoneIs kvs (R.2 ++ []);rw[yN];exact hgi',by lia,sm5⟩
    | some o =>
     rw[hn] at h4
     obtain⟨oc,on⟩:=o
     obtain⟨d,bs,rfl,hb,⟨y1,r1,rfl,e1,⟨y2,r2,rfl,e2,e3⟩⟩⟩:=h4
     cases e1
     cases e2
     cases e3
     refine Ym ?_
     refine⟨_,rfl,_,rfl,_,rfl,l,us5,c,.ref ta,rfl,rfl,SqL.of hl5,Va hu,ta,_,3,.ref d,rfl,rfl,SqT.of hta,rfl,?_⟩
     refine⟨g,_,rfl,DPut.t hg5 (k:=Yd oc on) hb (by lia),?_⟩
     refine⟨_,_,_,rfl,by rw[Zc hgst.symm];exact k5,Zg,hgi'.put,xS (Vm _ _ _) (by lia),?_⟩
     intro b' o e
     rw[Zc (fun z=>by rw[z,hg] at e;cases e)]
     exact sm5 b' o e
  ·rintro σ H' ⟨kvs,v3,v5,rfl,hst',hg',hgi',hkl',sm'⟩
   rw[Nat.sub_self] at hst'
   exact⟨_,rfl,k st H' hstH hst' sm'⟩
end
section
variable{P:Program}{w:World}{K:uFg}{mg:Str->Option Value}{base:Heap}
inductive spSett (vs:List V) (H:Hp) (Q:VK) (z3:XK):Prop
 | mk (l:Addr) (ss:List Suit) (h0:vs = [.ref l]) (h1:SuitsAt H ss l) (h2:(∀t∈ss,Uo t)) (h3:ss.length<=1000) (h4:∀(l2:Addr)(H':Hp),H l2=none->H' l2=some (.lst ((Yw [] 0 ss).1.map V.bl))->Same H H'->Q (.ref l2) H')
abbrev Zmo:Stmt:=top 46
theorem Zzm(Zg4:Has K mg "settled" Zmo)(T:Txt mg)(Zzn:Fn P w K mg base "settled_with" ["suits", "more"] 3 spSettW):Fn P w K mg base "settled" ["suits"] 4 spSett:=by
 refine Zg4.fq ["suits"] fun H vs Q E hr h=>?_
 obtain⟨l,ss,rfl,hsu,hok,hlen,k⟩:=h
 refine⟨rfl,_,(Zf (Z5 (Yg Zzn (Za (qvN 0) (Za (Zz Zb) Zb))))),?_⟩
 refine⟨_,rfl,by show 0<=sizeLine;lia,fun q hq=>?_⟩
 have S:=Same.new (o:=.lst []) hq
 exact⟨l,q,ss,[],[],rfl,hsu.mono S,hok,hlen,Zg,rfl,yL _,fun l2 H' h1 h2 h3=>k l2 H' (S.free h1) h2 (S.trans h3)⟩
end
section
variable{P:Program}{w:World}{K:uFg}{mg:Str->Option Value}{base:Heap}
def Wt(cs:List Nat):List V:=cs.map fun(c:Nat)=>V.int (c:Int)
def nmd(ss:List Suit)(c:Int)(n:Str)(j:Nat):Bool:=match ss[j]? with
 | some u=>decide (u.named=some (c,n))
 | none=>false
theorem nmd_iff{ss:List Suit}{c:Int}{n:Str}{j:Nat}:nmd ss c n j=true↔∃u,ss[j]? = some u/\u.named=some (c,n):=by
 unfold nmd
 cases e:ss[j]? with
 | none=>exact⟨(fun z=>nomatch z),(fun⟨u,z,_⟩=>nomatch z)⟩
 | some u=>exact⟨fun z=>⟨u,rfl,of_decide_eq_true z⟩,fun⟨v,z,q⟩=>by cases z;exact yI q⟩
def Wb(ss:List Suit)(c:Int)(n:Str)(cs:List Nat):List Nat:=cs.filter (nmd ss c n)
theorem Zdo{ss:List Suit}{c:Int}{n:Str}{cs:List Nat}{i j:Nat}(h:cs[i]? = some j):Wb ss c n (cs.take (i+1))=Wb ss c n (cs.take i)++(if nmd ss c n j then [j] else []):=by
 unfold Wb
 rw[yP,h,List.filter_append]
 cases e:nmd ss c n j<;>simp[e]
theorem Zxr(ss:List Suit)(c:Int)(n:Str)(cs:List Nat):(Wb ss c n cs).length<=cs.length:=zZ _ _
def Zn5(H:Hp)(g:Addr)(ss:List Suit)(cs:List Nat):Prop:=∃kvs:Ue,H g=some (.dT kvs)/\kvs.length<=cs.length/\(∀p∈kvs,∃c n,p.1=Yd c n/\Wb ss c n cs ≠ [])/\∀c n,(Zt kvs (Yd c n)=none/\Wb ss c n cs = [])\/∃a,Zt kvs (Yd c n)=some (.ref a)/\H a=some (.lst (Wt (Wb ss c n cs)))
structure NbPre (H H':Hp) (g:Addr) (ss:List Suit) (cs:List Nat) (kvs:Ue):Prop where
 at_:H' g=some (.dT kvs)
 len:kvs.length<=cs.length
 keys:∀p∈kvs,∃c n,p.1=Yd c n/\Wb ss c n cs ≠ []
 no:∀c n,Zt kvs (Yd c n)=none->Wb ss c n cs = []
 yes:∀c n v,Zt kvs (Yd c n)=some v->∃a,v = .ref a/\H a=none/\a≠g/\H' a=some (.lst (Wt (Wb ss c n cs)))
 one:∀c n c' n' a,Zt kvs (Yd c n)=some (.ref a)->Zt kvs (Yd c' n')=some (.ref a)->(c,n)=(c',n')
inductive spNaming (vs:List V) (H:Hp) (Q:VK) (z3:XK):Prop
 | mk (l lc:Addr) (ss:List Suit) (cs:List Nat) (h0:vs = [.ref l,.ref lc]) (h1:SuitsAt H ss l) (h2:cs.length<=1000) (h3:(∀j∈cs,j < ss.length)) (h4:H lc=some (.lst (Wt cs))) (h5:∀(g:Addr)(H':Hp),H g=none->Zn5 H' g ss cs->(∀kvs c n a,H' g=some (.dT kvs)->Zt kvs (Yd c n)=some (.ref a)->H a=none)->Same H H'->Q (.ref g) H')
theorem Zfi{c c':Int}{n n':Str}(e:Yd c n=Yd c' n'):(c,n)=(c',n'):=by
 unfold Yd at e
 injection e with e1 e2
 injection e2 with e2 _
 cases e1
 cases e2
 rfl
theorem Zto{l:Ue}{k:List Key}{v:V}{p:List Key×V}(h:p∈Zw l k v):p=(k,v)\/p∈l:=by
 unfold Zw at h
 split at h
 ·obtain⟨q,hq,e⟩:=yS.mp h
  split at e
  ·rename_i e2
   rw[← e,e2];exact .inl rfl
  ·rw[← e];exact .inr hq
 ·rcases xH.mp h with z | z
  ·exact .inr z
  ·exact .inl (xI.mp z)
abbrev Zmp:Stmt:=top 51
theorem Zzo(Zg5:Has K mg "naming" Zmp)(T:Txt mg)(C3:∃t,mg "NAMED" = some (.int 3 t)):Fn P w K mg base "naming" ["suits", "cases"] 1 spNaming:=by
 obtain⟨t3,c_NAMED⟩:=C3
 have r_NAMED:RelV (.int 3) (.int 3 t3):=⟨t3,rfl⟩
 refine Zg5.fq ["suits", "cases", "named_by", "case", "oath"] fun H vs Q E hr h=>?_
 obtain⟨l,lc,ss,cs,rfl,hsu,hlen,hcs,hlc,k⟩:=h
 refine⟨rfl,_,(Zd (Zy 2 Zjz)
 (Zd (Uj PassesOwn.never rfl (Vu (qvN 1)) (Wq 3)
 (Zd (Zy 4 (Zk Zx (Zk Yx (qvN 0) (qvN 3) (fun _ _=>rfl)) (Z4 c_NAMED r_NAMED) (fun _ _=>rfl)))
 (Zf (Zp (Zs Zbf (qvN 4) We (Z2 _)) (Zf (Zh (Y4 F.plainAttrs_list F.slot_list_append F.type_list_append Wg (Zrm hr (qvN 2) (qvN 4) (Zz Zb)) (Za (qvN 3) Zb)))) Zo))))
 (Zf (Z5 (qvN 2))))),?_⟩
 have hz:(5000:Nat)<=sizeLine:=by decide
 refine fun g hg=>?_
 have S0:Same H (upd H g (.dT [])):=Same.new hg
 refine⟨_,rfl,lc,rfl,⟨_,SqL.of (S0 _ _ hlc)⟩,?_⟩
 refine Zar (Wt cs) (fun i σ H'=>∃(kvs:Ue)(v3 v4:Option V),σ = [some (.ref l),some (.ref lc),some (.ref g),v3,v4]/\NbPre H H' g ss (cs.take i) kvs/\Same H H') ⟨[],none,none,rfl,⟨Zg,xE _,(fun p hp=>nomatch hp),fun c n _=>rfl,(fun c n v e=>nomatch e),(fun c n c' n' a e=>nomatch e)⟩,S0⟩ (fun i σ H' _ ⟨_,_,_,_,_,e⟩=>SqL.of (e _ _ hlc)) ?_ ?_
 ·rintro i x σ H' hx ⟨kvs,v3,v4,rfl,I,sm⟩
  have hi:i < cs.length:=by
   have:=(xG.mp hx).1
   unfold Wt at this
   rw[xA] at this
   exact this
  obtain⟨j,hcj,ex⟩:∃j,cs[i]? = some j/\x = .int (j:Int):=by
   unfold Wt at hx
   rw[xP] at hx
   obtain⟨j,h1,h2⟩:=yE.mp hx
   exact⟨j,h1,h2.symm⟩
  subst ex
  have tl:(cs.take i).length=i:=by rw[xY];lia
  have tl1:(cs.take (i+1)).length=i+1:=by rw[xY];lia
  have more:∀c n,Wb ss c n (cs.take i)≠ []->Wb ss c n (cs.take (i+1))≠ []:=fun c n h z=>by
   rw[Zdo hcj] at z
   exact h (List.append_eq_nil_iff.mp z).1
  have hlen':=I.len
  rw[tl] at hlen'
  obtain⟨t,ht⟩:∃t,ss[j]? = some t:=⟨_,xB (hcs j (xO hcj))⟩
  obtain⟨us,hl',hrep⟩:=hsu.mono sm
  obtain⟨ta,u1,u2,u4,hu,hta,_,_,h4⟩:=SuitsAt.get (l:=l) hrep ht
  refine⟨_,rfl,_,rfl,l,us,j,.ref ta,rfl,rfl,SqL.of hl',Va hu,ta,_,3,u4,rfl,rfl,SqT.of hta,rfl,?_⟩
  cases hn:t.named with
  | none =>
   rw[hn] at h4
   cases h4
   refine⟨_,rfl,rfl,_,rfl,Vk (fun z=>absurd rfl z) (fun _=>?_)⟩
   have same:∀c n,Wb ss c n (cs.take (i+1))=Wb ss c n (cs.take i):=fun c n=>by
    rw[Zdo hcj]
    have:nmd ss c n j=false:=by
     cases e:nmd ss c n j with
     | false=>rfl
     | true=>obtain⟨u,q1,q2⟩:=nmd_iff.mp e;rw[ht] at q1;cases q1;rw[hn] at q2;cases q2
    rw[this,if_neg xM,yN]
   exact⟨kvs,_,_,rfl,⟨I.at_,by lia,fun p hp=>let ⟨c,n,e,h⟩:=I.keys p hp;⟨c,n,e,more c n h⟩,fun c n e=>by rw[same];exact I.no c n e,fun c n v e=>by rw[same];exact I.yes c n v e,I.one⟩,sm⟩
  | some o =>
   rw[hn] at h4
   obtain⟨c0,n0⟩:=o
   obtain⟨b,bs,rfl,hb,⟨y1,r1,rfl,e1,⟨y2,r2,rfl,e2,e3⟩⟩⟩:=h4
   cases e1
   cases e2
   cases e3
   have mine:Wb ss c0 n0 (cs.take (i+1))=Wb ss c0 n0 (cs.take i)++[j]:=by rw[Zdo hcj,nmd_iff.mpr ⟨t,ht,hn⟩,if_pos rfl]
   have same:∀c n,(c,n)≠(c0,n0)->Wb ss c n (cs.take (i+1))=Wb ss c n (cs.take i):=fun c n hne=>by
    rw[Zdo hcj]
    have:nmd ss c n j=false:=by
     cases e:nmd ss c n j with
     | false=>rfl
     | true=>obtain⟨u,q1,q2⟩:=nmd_iff.mp e;rw[ht] at q1;cases q1;rw[hn] at q2;exact absurd (Option.some.inj q2).symm hne
    rw[this,if_neg xM,yN]
   have snocV:Wt (Wb ss c0 n0 (cs.take i))++[V.int j]=Wt (Wb ss c0 n0 (cs.take (i+1))):=by rw[mine];unfold Wt;rw[xQ];rfl
   have jl:=Zxr ss c0 n0 (cs.take i)
   rw[tl] at jl
   refine⟨_,rfl,rfl,_,rfl,Vk (fun _=>?_) (fun z=>nomatch z)⟩
   refine⟨_,rfl,g,rfl,.inr ⟨kvs,.inl I.at_⟩,_,rfl,by show 0<=sizeLine;lia,fun q hq=>?_⟩
   have Sq:=Same.new (o:=.lst []) hq
   have kq:(upd H' q (.lst [])) q=some (.lst []):=Zg
   have gq:q≠g:=fun z=>by rw[z,I.at_] at hq;cases hq
   have hqH:H q=none:=sm.free hq
   generalize (upd H' q (.lst []))=H1 at Sq kq ⊢
   have smq:=sm.trans Sq
   refine⟨kvs,Yd c0 n0,b,Sq _ _ I.at_,rfl,Sq _ _ hb,by lia,fun v hv=>?_,fun hv=>?_⟩
   ·obtain⟨a,rfl,haf,hag,ha⟩:=I.yes c0 n0 v hv
    have ha1:=Sq _ _ ha
    refine⟨.inl ⟨rfl,_,SqL.of ha1⟩,_,rfl,a,_,_,rfl,rfl,ha1,by unfold Wt;rw[xA];lia,?_⟩
    refine⟨kvs,_,_,rfl,⟨?_,by lia,fun p hp=>let ⟨c,n,e,h⟩:=I.keys p hp;⟨c,n,e,more c n h⟩,fun c n e=>?_,fun c n v e=>?_,I.one⟩,?_⟩
    ·rw[Zc hag.symm];exact Sq _ _ I.at_
    ·rw[same c n (fun z=>by cases z;rw[hv] at e;cases e)];exact I.no c n e
    ·obtain⟨a',rfl,h1,h2,h3⟩:=I.yes c n v e
     refine⟨a',rfl,h1,h2,?_⟩
     by_cases hk:(c,n)=(c0,n0)
     ·cases hk
      rw[hv] at e
      cases e
      rw[Zg,snocV]
     ·rw[same c n hk,Zc (fun z=>hk (by rw[z] at e;exact I.one c n c0 n0 a e hv))]
      exact Sq _ _ h3
    ·intro b' o e
     rw[Zc (fun z=>by rw[z,haf] at e;cases e)]
     exact smq b' o e
   ·have hg2:(upd H1 g (.dT (Zw kvs (Yd c0 n0) (.ref q)))) q=some (.lst []):=by rw[Zc gq];exact kq
    refine⟨.inl ⟨rfl,_,SqL.of hg2⟩,_,rfl,q,_,_,rfl,rfl,hg2,by show 0 < sizeLine;lia,?_⟩
    have j0:=I.no c0 n0 hv
    refine⟨Zw kvs (Yd c0 n0) (.ref q),_,_,rfl,⟨?_,xS (Vm _ _ _) (by lia),fun p hp=>?_,fun c n e=>?_,fun c n v e=>?_,fun c n c' n' a e e'=>?_⟩,?_⟩
    ·rw[Zc gq.symm,Zg]
    ·rcases Zto hp with rfl | hp
     ·exact⟨c0,n0,rfl,by rw[mine];simp⟩
     ·obtain⟨c,n,e,h⟩:=I.keys p hp
      exact⟨c,n,e,more c n h⟩
    ·rw[Uc] at e
     by_cases hk:Yd c n=Yd c0 n0
     ·rw[if_pos hk] at e;cases e
     ·rw[if_neg hk] at e
      rw[same c n (fun z=>hk (by cases z;rfl))]
      exact I.no c n e
    ·rw[Uc] at e
     by_cases hk:Yd c n=Yd c0 n0
     ·rw[if_pos hk] at e
      cases e
      have hk':=Zfi hk
      cases hk'
      exact⟨q,rfl,hqH,gq,by rw[Zg,mine,j0];rfl⟩
     ·rw[if_neg hk] at e
      obtain⟨a',rfl,h1,h2,h3⟩:=I.yes c n v e
      refine⟨a',rfl,h1,h2,?_⟩
      have aq:a'≠q:=fun z=>by rw[z,hq] at h3;cases h3
      rw[same c n (fun z=>hk (by cases z;rfl)),Zc aq,Zc h2]
      exact Sq _ _ h3
    ·rw[Uc] at e e'
     have no:∀c n,Zt kvs (Yd c n)=some (.ref q)->False:=fun c n z=>by
      obtain⟨a',z1,_,_,h3⟩:=I.yes c n _ z
      cases z1
      rw[hq] at h3
      cases h3
     by_cases hk:Yd c n=Yd c0 n0
     ·by_cases hk':Yd c' n'=Yd c0 n0
      ·exact(Zfi hk).trans (Zfi hk').symm
      ·rw[if_pos hk] at e
       rw[if_neg hk'] at e'
       cases e
       exact(no _ _ e').elim
     ·rw[if_neg hk] at e
      by_cases hk':Yd c' n'=Yd c0 n0
      ·rw[if_pos hk'] at e'
       cases e'
       exact(no _ _ e).elim
      ·rw[if_neg hk'] at e'
       exact I.one _ _ _ _ _ e e'
    ·intro b' o e
     rw[Zc (fun z=>by rw[z,hqH] at e;cases e),Zc (fun z=>by rw[z,hg] at e;cases e)]
     exact smq b' o e
 ·rintro σ H' ⟨kvs,v3,v4,rfl,I,sm⟩
  have el:(Wt cs).length=cs.length:=by unfold Wt;rw[xA]
  rw[el,yZ] at I
  refine⟨_,rfl,k g H' hg ⟨kvs,I.at_,I.len,I.keys,fun c n=>?_⟩ (fun kvs2 c n a e1 e2=>?_) sm⟩
  ·cases e:Zt kvs (Yd c n) with
   | none=>exact .inl ⟨rfl,I.no c n e⟩
   | some v =>
    obtain⟨a,rfl,_,_,h3⟩:=I.yes c n v e
    exact .inr ⟨a,rfl,h3⟩
  ·rw[I.at_] at e1
   cases e1
   obtain⟨a',z,hz',_,_⟩:=I.yes c n _ e2
   cases z
   exact hz'
end
section
variable{P:Program}{w:World}{K:uFg}{mg:Str->Option Value}{base:Heap}
def stT(bs:List Bool)(i:Nat):List Nat:=(List.range i).filter fun j=>bs.getD j false
def stL(bs:List Bool):List Nat:=stT bs bs.length
theorem Ztp{bs:List Bool}{i:Nat}{b:Bool}(h:bs[i]? = some b):stT bs (i+1)=stT bs i++(if b then [i] else []):=by
 unfold stT
 rw[List.range_succ,List.filter_append]
 cases b<;>simp[h]
theorem Zko(bs:List Bool)(i:Nat):(stT bs i).length<=i:=xS (zZ _ _) (by rw[zA];exact xE _)
theorem stL_mem{bs:List Bool}{j:Nat}:j∈stL bs↔bs[j]? = some true:=by
 unfold stL stT
 rw[zW,wA,xR]
 constructor
 ·rintro⟨h1,h2⟩
  rw[xB h1] at h2 ⊢
  exact congrArg some h2
 ·intro h
  exact⟨(xG.mp h).1,by rw[h];rfl⟩
abbrev Uf(ss:List Suit):List Bool:=(Yw [] 0 ss).1
def Zbl(ss:List Suit)(c:Int)(n:Str):List Nat:=Wb ss c n (stL (Uf ss))
theorem brk9_ne{ss:List Suit}{c:Int}{n:Str}:Zbl ss c n ≠ []↔∃(j:Nat)(u:Suit),ss[j]? = some u/\(Uf ss)[j]? = some true/\u.named=some (c,n):=by
 unfold Zbl Wb
 rw[← List.isEmpty_eq_false_iff,List.isEmpty_eq_false_iff_exists_mem]
 constructor
 ·rintro⟨j,h⟩
  obtain⟨h1,h2⟩:=zW.mp h
  obtain⟨u,a,b⟩:=nmd_iff.mp h2
  exact⟨j,u,a,stL_mem.mp h1,b⟩
 ·rintro⟨j,u,a,b,c⟩
  exact⟨j,zW.mpr ⟨stL_mem.mpr b,nmd_iff.mpr ⟨u,a,c⟩⟩⟩
inductive spBreaking (vs:List V) (H:Hp) (Q:VK) (z3:XK):Prop
 | mk (l:Addr) (ss:List Suit) (h0:vs = [.ref l]) (h1:SuitsAt H ss l) (h2:(∀t∈ss,Uo t)) (h3:ss.length<=1000) (h4:∀(g:Addr)(H':Hp),H g=none->Zn5 H' g ss (stL (Uf ss))->(∀kvs c n a,H' g=some (.dT kvs)->Zt kvs (Yd c n)=some (.ref a)->H a=none)->Same H H'->Q (.ref g) H')
abbrev Zmq:Stmt:=top 50
theorem Zzp(Zg6:Has K mg "breaking" Zmq)(T:Txt mg)(Zg7:Fn P w K mg base "settled" ["suits"] 4 spSett)(Zzq:Fn P w K mg base "naming" ["suits", "cases"] 1 spNaming) :
  Fn P w K mg base "breaking" ["suits"] 5 spBreaking:=by
 refine Zg6.fq ["suits"] fun H vs Q E hr h=>?_
 obtain⟨l,ss,rfl,hsu,hok,hlen,k⟩:=h
 refine⟨rfl,_,(Zf (Z5 (Yg Zzq (Za (qvN 0) (Za (Uu (locs:=["case", "stands"]) (fr:=[]) ⟨rfl,by decide +kernel,by decide +kernel,by decide +kernel,by decide +kernel,by decide +kernel⟩ .nil rfl (Zkh T.enumerate (Za (Yg Zg7 (Za (qvN 0) Zb)) Zb)) ⟨fun _ _ _ _ _ _=>by
  have cnd:(inN ["case", "stands"] []).Nodup:=by decide +kernel
  exact⟨(Zdm 2 (by rfl) (Vb (Vv 0 cnd) (Vb (Vv 1 cnd) Zbu))),(Zfr (Zbe (V5 1))),(V5 0)⟩⟩) Zb))))),?_⟩
 refine⟨_,rfl,_,rfl,l,ss,rfl,hsu,hok,hlen,fun tl H1 h1 h2 sm1=>?_⟩
 have hbl:(Uf ss).length=ss.length:=Zfd [] ss 0
 refine⟨tl,_,rfl,SqL.of h2,?_⟩
 refine Zrz ((Uf ss).map V.bl) (fun i ys H'=>Same H1 H'/\ys=Wt (stT (Uf ss) i)) ⟨fun _ _ e=>e,rfl⟩ (by rw[xA];lia) (fun i ys H' _ ⟨e,_⟩=>SqL.of (e _ _ h2)) ?_ ?_ ?_
 ·rintro i ys H' ⟨_,rfl⟩
  unfold Wt
  rw[xA]
  exact Zko _ _
 ·rintro i x p ys H' hx ⟨sm,rfl⟩ hp ls hls
  obtain⟨w1,w2,rfl⟩:=Zeb hls
  have Sp:=Same.new (o:=.tup [.int i,x]) hp
  have kp:(upd H' p (.tup [.int i,x])) p=some (.tup [.int i,x]):=Zg
  generalize (upd H' p (.tup [.int i,x]))=H2 at Sp kp ⊢
  obtain⟨b,hb,rfl⟩:∃b,(Uf ss)[i]? = some b/\x = .bl b:=by
   rw[xP] at hx
   obtain⟨b,h1,h2⟩:=yE.mp hx
   exact⟨b,h1,h2.symm⟩
  refine⟨p,_,rfl,SqT.of kp,rfl,_,_,rfl,_,_,rfl,rfl,⟨[_,_],rfl,rfl⟩,?_⟩
  refine⟨_,rfl,b,rfl,?_⟩
  have e:=Ztp hb
  cases b with
  | true =>
   refine Ym ?_
   refine⟨_,rfl,sm.trans Sp,?_⟩
   rw[e]
   unfold Wt
   rw[xQ]
   rfl
  | false =>
   refine Yj ?_
   exact⟨sm.trans Sp,by rw[e];simp⟩
 ·rintro ys H' ⟨sm,rfl⟩ lc hlc
  rw[xA]
  have Sc:=Same.new (o:=.lst (Wt (stL (Uf ss)))) hlc
  have S:=(sm1.trans sm).trans Sc
  have hl9:=Zko (Uf ss) (Uf ss).length
  refine⟨l,lc,ss,stL (Uf ss),rfl,hsu.mono S,by unfold stL;lia,fun j hj=>?_,Zg,fun g H2 hg hnb hfr sm2=>?_⟩
  ·rw[← hbl];exact(xG.mp (stL_mem.mp hj)).1
  ·exact k g H2 (S.free hg) hnb (fun kvs c n a e1 e2=>S.free (hfr kvs c n a e1 e2)) (S.trans sm2)
end
section
variable{P:Program}{w:World}{K:uFg}{mg:Str->Option Value}{base:Heap}{C CM:Addr}
def fz(xs:List Addr)(H:Hp):Hp:=fun b=>if b∈xs then H b else match H b with
 | some (.tup t)=>some (.tup t)
 | _=>none
theorem Zmr{xs:List Addr}{H:Hp}{b:Addr}{o:HO}(h:fz xs H b=some o):H b=some o/\(b∈xs\/∃t,o = .tup t):=by
 unfold fz at h
 split at h
 ·rename_i m;exact⟨h,.inl m⟩
 ·split at h
  ·rename_i t e;cases h;exact⟨e,.inr ⟨t,rfl⟩⟩
  ·cases h
theorem Uw{xs:List Addr}{H:Hp}{b:Addr}{o:HO}(m:b∈xs)(h:H b=some o):fz xs H b=some o:=by unfold fz;rw[if_pos m];exact h
theorem Y8{xs:List Addr}{H:Hp}{b:Addr}{t:List V}(h:H b=some (.tup t)):fz xs H b=some (.tup t):=by
 unfold fz
 split
 ·exact h
 ·rw[h]
theorem Zzr{xs:List Addr}{H:Hp}:Same (fz xs H) H:=fun _ _ e=>(Zmr e).1
theorem Zbh{xs xs':List Addr}{H H':Hp}(kt:Um H H')(kx:∀x∈xs,∀o,H x=some o->H' x=some o)(s:∀x∈xs,x∈xs'):Same (fz xs H) (fz xs' H'):=fun b o e=>by
 obtain⟨e,m | ⟨t,rfl⟩⟩:=Zmr e
 ·exact Uw (s b m) (kx b m o e)
 ·exact Y8 (kt b t e)
def LAt(H:Hp)(xs:List Addr)(l:Addr)(ds:List D):Prop:=∃vs,H l=some (.lst vs)/\RepL (fz xs H) ds vs
theorem LAt.mono{H H':Hp}{xs xs':List Addr}{l:Addr}{ds:List D}(h:LAt H xs l ds)(k:∀o,H l=some o->H' l=some o)(s:Same (fz xs H) (fz xs' H')):LAt H' xs' l ds :=
 let ⟨vs,a,b⟩:=h;⟨vs,k _ a,b.mono' s⟩
theorem LAt.get{H:Hp}{xs:List Addr}{l:Addr}{ds:List D}(h:LAt H xs l ds):∃vs,H l=some (.lst vs)/\RepL H ds vs/\vs.length=ds.length :=
 let ⟨vs,a,b⟩:=h;⟨vs,a,b.mono' Zzr,b.length⟩
structure ML where
 p:Addr
 L:FL
 ld:Addr
 lb:Addr
 lh:Addr
 lq:Addr
 lt:Addr
 ly:Addr
 lv:Addr
 dp:Addr
def Y9(M:ML):List (Str×V):=Zi "penances" (.ref M.dp) (Zi "verdicts" (.ref M.lv) (Zi "trial_days" (.ref M.ly) (Zi "trials" (.ref M.lt) (Zi "debts" (.ref M.lq) (Zi "happenings" (.ref M.lh) (Zi "bringings" (.ref M.lb) (Zi "folk" (.ref M.L.p) (Zi "deeds" (.ref M.ld) []))))))))
local macro_rules | `(tactic| walk_at "mf")=>`(tactic| (unfold Y9;repeat (first | rw[Yp,if_pos (by decide +kernel)] | rw[Yp,if_neg (by decide +kernel)])))
theorem Vy(M:ML):(Y9 M).lookup ("deeds" : Str)=some (.ref M.ld):=by walk_at "mf"
theorem V1(M:ML):(Y9 M).lookup ("folk" : Str)=some (.ref M.L.p):=by walk_at "mf"
theorem Zcl(M:ML):(Y9 M).lookup ("bringings" : Str)=some (.ref M.lb):=by walk_at "mf"
theorem Zft(M:ML):(Y9 M).lookup ("happenings" : Str)=some (.ref M.lh):=by walk_at "mf"
theorem Zj8(M:ML):(Y9 M).lookup ("debts" : Str)=some (.ref M.lq):=by walk_at "mf"
theorem Zav(M:ML):(Y9 M).lookup ("trials" : Str)=some (.ref M.lt):=by walk_at "mf"
theorem Zkp(M:ML):(Y9 M).lookup ("trial_days" : Str)=some (.ref M.ly):=by walk_at "mf"
theorem Zvq(M:ML):(Y9 M).lookup ("verdicts" : Str)=some (.ref M.lv):=by walk_at "mf"
theorem Zlh(M:ML):(Y9 M).lookup ("penances" : Str)=some (.ref M.dp):=by walk_at "mf"
def ML.setv(M:ML)(l:Addr):ML:={M with lv:=l }
theorem Zvr(M:ML)(l:Addr):Zi "verdicts" (.ref l) (Y9 M)=Y9 (M.setv l):=by
 obtain⟨p,L,ld,lb,lh,lq,lt,ly,lv,dp⟩:=M
 rfl
def Zij(m:Str):Prop:=¬m = "penances" /\ ¬m = "verdicts" /\ ¬m = "trial_days" /\ ¬m = "trials" /\ ¬m = "debts" /\ ¬m = "happenings" /\ ¬m = "bringings" /\ ¬m = "folk" /\ ¬m = "deeds"
instance (m:Str):Decidable (Zij m):=by unfold Zij;exact inferInstance
theorem Z7(M:ML){m:Str}(h:Zij m:=by decide +kernel):(Y9 M).lookup m=none:=by
 obtain⟨a1,a2,a3,a4,a5,a6,a7,a8,a9⟩:=h
 unfold Y9
 rw[Yp,if_neg a1,Yp,if_neg a2,Yp,if_neg a3,Yp,if_neg a4,Yp,if_neg a5,Yp,if_neg a6,Yp,if_neg a7,Yp,if_neg a8,Yp,if_neg a9]
 rfl
abbrev Zvs:=TxC
structure TxCMoot (K:uFg) (C:Addr):Prop where
 cl:Cls K C
 nd:NoAttr K C "deeds"
 nf:NoAttr K C "folk"
 nb:NoAttr K C "bringings"
 nh:NoAttr K C "happenings"
 nq:NoAttr K C "debts"
 nt:NoAttr K C "trials"
 ny:NoAttr K C "trial_days"
 nv:NoAttr K C "verdicts"
 np:NoAttr K C "penances"
structure Mo where
 deeds:List D
 brs:List D
 haps:List (List D)
 debts:List D
 trials:List Suit
 days:List Int
 verd:List Bool
 pen:Str->Option Int
 npen:Nat
def ML.ls(M:ML):List Addr:=[M.ld,M.lb,M.lq,M.lt,M.ly,M.lv]
def Mo.at_(m:Mo)(M:ML)(qs:List Addr):List (Addr×List D) :=
 (M.ld,m.deeds)::(M.lb,m.brs)::(M.lq,m.debts)::(M.lt,m.trials.map Ws)::(M.ly,m.days.map D.int)::(M.lv,m.verd.map D.bl)::qs.zip m.haps
structure MootAt (C CM:Addr) (H:Hp) (M:ML) (ds:List Deed) (wa:Str->Addr) (xs:List Addr) (m:Mo) (qs:List Addr):Prop where
 ob:∃dx,H M.p=some (.ins CM dx (Y9 M))
 fk:Fk C H M.L ds wa
 ls:∀p∈m.at_ M qs,LAt H xs p.1 p.2
 hl:H M.lh=some (.lst (qs.map V.ref))
 hn:qs.length=m.haps.length
 pn:∃kvs:List (Key×V),H M.dp=some (.dK kvs)/\kvs.length<=m.npen/\∀n:Str,Zt kvs (.inr n)=(m.pen n).map V.int
 nl:(M.lh::(M.ls++qs)).Nodup
 nx:∀x∈xs,x∉M.lh::(M.ls++qs)
 xl:∀x∈xs,∃vs,H x=some (.lst vs)
 np:M.p≠M.L.p
 nd:¬own M.L ds wa M.dp
def mo(M:ML)(ds:List Deed)(wa:Str->Addr)(xs qs:List Addr)(b:Addr):Prop:=b=M.p\/b=M.dp\/b∈M.lh::(M.ls++qs)\/b∈xs\/own M.L ds wa b
variable{M:ML}{ds:List Deed}{wa:Str->Addr}{xs qs:List Addr}{m:Mo}{H H':Hp}
theorem Zdu{p:Addr×List D}(h:p∈m.at_ M qs):p.1∈M.ls++qs:=by
 unfold Mo.at_ at h
 simp only[xC] at h
 rcases h with rfl | rfl | rfl | rfl | rfl | rfl | h
 iterate 6 (refine yM _ ?_;unfold ML.ls;simp only[xC,true_or,or_true])
 exact xK _ (yX h).1
theorem MootAt.keep(h:MootAt C CM H M ds wa xs m qs)(k:∀b o,mo M ds wa xs qs b->H b=some o->H' b=some o)(kt:Um H H'):MootAt C CM H' M ds wa xs m qs:=by
 obtain⟨⟨dx,ob⟩,fk,ls,hl,hn,⟨kvs,p1,p2,p3⟩,nl,nx,xl,np,nd⟩:=h
 have s:=Zbh (xs:=xs) (xs':=xs) kt (fun x hx o e=>k x o (.inr (.inr (.inr (.inl hx)))) e) (fun _ z=>z)
 exact⟨⟨dx,k _ _ (.inl rfl) ob⟩,fk.at fun b o hb e=>k b o (.inr (.inr (.inr (.inr hb)))) e,fun p hp=>(ls p hp).mono (fun o e=>k _ o (.inr (.inr (.inl (xX _ (Zdu hp))))) e) s,
  k _ _ (.inr (.inr (.inl yD))) hl,hn,⟨kvs,k _ _ (.inr (.inl rfl)) p1,p2,p3⟩,nl,nx,fun x hx=>let ⟨vs,e⟩:=xl x hx;⟨vs,k _ _ (.inr (.inr (.inr (.inl hx)))) e⟩,np,nd⟩
theorem MootAt.same(h:MootAt C CM H M ds wa xs m qs)(k:Same H H'):MootAt C CM H' M ds wa xs m qs:=h.keep (fun b o _ e=>k b o e) fun _ _ e=>k _ _ e
theorem MootAt.x(h:MootAt C CM H M ds wa xs m qs){s:Addr}{ys:List V}(hs:H s=some (.lst ys))(hn:¬mo M ds wa xs qs s)(k:SameX s H H'):MootAt C CM H' M ds wa xs m qs :=
 h.keep (fun b o hb e=>k b o (fun z=>hn (z▸hb)) e) fun b ys e=>k b _ (fun z=>by rw[z,hs] at e;cases e) e
theorem MootAt.nown(h:MootAt C CM H M ds wa xs m qs){b:Addr}{ys:List V}(e:H b=some (.lst ys)):¬own M.L ds wa b:=fun z=>by
 obtain⟨o,e',n1,_⟩:=h.fk.there z
 rw[e] at e';cases e';exact n1 ys rfl
theorem MootAt.pown(h:MootAt C CM H M ds wa xs m qs):¬own M.L ds wa M.p:=fun z=>by
 obtain⟨dx,ob⟩:=h.ob
 obtain⟨⟨_,⟨k1,c1,_⟩,⟨k2,w1,_⟩,⟨k3,d1,_⟩,⟨k4,h1,_⟩,_⟩,⟨⟨k5,x1,x2,x3⟩,_⟩,_⟩:=h.fk
 rcases z with z | z | z | z | z | ⟨n,l,e,z⟩
 ·exact h.np z
 ·rw[z,c1] at ob;cases ob
 ·rw[z,w1] at ob;cases ob
 ·rw[z,d1] at ob;cases ob
 ·rw[z,h1] at ob;cases ob
 ·rw[z,(x3 n l e).2.1] at ob;cases ob
theorem MootAt.folk(h:MootAt C CM H M ds wa xs m qs){ds':List Deed}{wa':Str->Addr}(F:Fk C H' M.L ds' wa')(t:Touch M.L ds wa H H')(f:Zcy M.L ds wa ds' wa' H):MootAt C CM H' M ds' wa' xs m qs:=by
 have T:=Touch.lt h.fk t
 have pw:=h.pown
 obtain⟨⟨dx,ob⟩,fk,ls,hl,hn,⟨kvs,p1,p2,p3⟩,nl,nx,xl,np,nd⟩:=h
 have s:=Zbh (xs:=xs) (xs':=xs) T.2 (fun x hx o e=>by obtain⟨vs,e'⟩:=xl x hx;rw[e] at e';cases e';exact T.1 _ _ e) (fun _ z=>z)
 exact⟨⟨dx,t _ _ ob pw⟩,F,fun p hp=>by
  obtain⟨vs,a,b⟩:=ls p hp
  exact⟨vs,T.1 _ _ a,b.mono' s⟩,T.1 _ _ hl,hn,⟨kvs,t _ _ p1 nd,p2,p3⟩,nl,nx,fun x hx=>let ⟨vs,e⟩:=xl x hx;⟨vs,T.1 _ _ e⟩,np,fun z=>(f _ z).elim nd fun z=>by rw[p1] at z;cases z⟩
end
section
variable{P:Program}{w:World}{K:uFg}{mg:Str->Option Value}{base:Heap}{C CM:Addr}
variable{M:ML}{ds:List Deed}{wa:Str->Addr}{xs qs:List Addr}{m:Mo}{H H':Hp}
theorem Zdv{l:Addr}(h:l∈M.ls++qs):l∈M.lh::(M.ls++qs):=xX _ h
theorem MootAt.lst(h:MootAt C CM H M ds wa xs m qs){l:Addr}(hl:l∈M.lh::(M.ls++qs)):∃ys,H l=some (.lst ys):=by
 rcases xC.mp hl with rfl | hl
 ·exact⟨_,h.hl⟩
 have:∃p∈m.at_ M qs,p.1=l:=by
  rcases xH.mp hl with z | z
  ·unfold ML.ls at z
   simp only[xC,yG,or_false] at z
   unfold Mo.at_
   rcases z with rfl | rfl | rfl | rfl | rfl | rfl
   ·exact⟨(M.ld,m.deeds),by simp,rfl⟩
   ·exact⟨(M.lb,m.brs),by simp,rfl⟩
   ·exact⟨(M.lq,m.debts),by simp,rfl⟩
   ·exact⟨(M.lt,m.trials.map Ws),by simp,rfl⟩
   ·exact⟨(M.ly,m.days.map D.int),by simp,rfl⟩
   ·exact⟨(M.lv,m.verd.map D.bl),by simp,rfl⟩
  ·obtain⟨i,hi,e⟩:=List.getElem_of_mem z
   have hi':i < m.haps.length:=h.hn▸hi
   refine⟨(qs[i],m.haps[i]),?_,e⟩
   have:(qs[i],m.haps[i])∈qs.zip m.haps:=xO (i:=i) (by rw[yY];exact⟨xB hi,xB hi'⟩)
   exact xK [(M.ld,m.deeds),(M.lb,m.brs),(M.lq,m.debts),(M.lt,m.trials.map Ws),(M.ly,m.days.map D.int),(M.lv,m.verd.map D.bl)] this
 obtain⟨p,hp,rfl⟩:=this
 obtain⟨vs,e,_⟩:=h.ls p hp
 exact⟨vs,e⟩
theorem MootAt.there(h:MootAt C CM H M ds wa xs m qs){b:Addr}(hb:mo M ds wa xs qs b):∃o,H b=some o:=by
 rcases hb with rfl | rfl | hb | hb | hb
 ·obtain⟨dx,e⟩:=h.ob;exact⟨_,e⟩
 ·obtain⟨kvs,e,_⟩:=h.pn;exact⟨_,e⟩
 ·obtain⟨ys,e⟩:=h.lst hb;exact⟨_,e⟩
 ·obtain⟨ys,e⟩:=h.xl b hb;exact⟨_,e⟩
 ·obtain⟨o,e,_⟩:=h.fk.there hb;exact⟨o,e⟩
theorem MootAt.put(h:MootAt C CM H M ds wa xs m qs){l:Addr}{zs:List V}(hl:l∈M.ls++qs){m':Mo}(e1:m'.haps.length=m.haps.length)(e2:m'.pen=m.pen)(e3:m'.npen=m.npen)(k:∀p∈m'.at_ M qs,(p∈m.at_ M qs/\p.1≠l)\/(p.1=l/\RepL (fz xs H) p.2 zs)):MootAt C CM (upd H l (.lst zs)) M ds wa xs m' qs:=by
 obtain⟨ys,e⟩:=h.lst (Zdv hl)
 have nw:=h.nown e
 have hh:=h
 obtain⟨⟨dx,ob⟩,fk,ls,lh,hn,⟨kvs,p1,p2,p3⟩,nl,nx,xl,np,nd⟩:=h
 have kt:Um H (upd H l (.lst zs)):=Zlg e
 have kx:∀x∈xs,x≠l:=fun x hx z=>nx x hx (z▸Zdv hl)
 have s:Same (fz xs H) (fz xs (upd H l (.lst zs))):=Zbh kt (fun x hx o e=>by rw[Zc (kx x hx)];exact e) (fun _ z=>z)
 have nh:M.lh≠l:=fun z=>(yF.mp nl).1 (z▸hl)
 refine⟨⟨dx,by rw[Zc (fun z=>by rw[z,e] at ob;cases ob)];exact ob⟩,fk.at fun b o hb eb=>by rw[Zc (fun z:b=l=>nw (z▸hb))];exact eb,fun p hp=>?_,by rw[Zc nh];exact lh,by rw[e1];exact hn,
  ⟨kvs,by rw[Zc (fun z=>by rw[z,e] at p1;cases p1)];exact p1,by rw[e3];exact p2,by rw[e2];exact p3⟩,nl,nx,fun x hx=>?_,np,nd⟩
 ·rcases k p hp with⟨a,b⟩ | ⟨a,b⟩
  ·exact(ls p a).mono (fun o e=>by rw[Zc b];exact e) s
  ·exact⟨zs,by rw[a,Zg],b.mono' s⟩
 ·obtain⟨vs,e⟩:=xl x hx
  exact⟨vs,by rw[Zc (kx x hx)];exact e⟩
theorem MootAt.freeze(h:MootAt C CM H M ds wa xs m qs){a:Addr}{vs:List V}(e:H a=some (.lst vs))(n:a∉M.lh::(M.ls++qs)):MootAt C CM H M ds wa (a::xs) m qs:=by
 obtain⟨ob,fk,ls,lh,hn,pn,nl,nx,xl,np,nd⟩:=h
 have s:Same (fz xs H) (fz (a::xs) H):=Zbh (fun _ _ e=>e) (fun _ _ _ e=>e) (fun _ z=>xX _ z)
 exact⟨ob,fk,fun p hp=>(ls p hp).mono (fun _ e=>e) s,lh,hn,pn,nl,fun x hx=>(xC.mp hx).elim (fun z=>z▸n) (nx x),fun x hx=>(xC.mp hx).elim (fun z=>⟨vs,z▸e⟩) (xl x),np,nd⟩
theorem MootAt.pena(h:MootAt C CM H M ds wa xs m qs){kvs:List (Key×V)}{n:Str}{c:Int}(e:H M.dp=some (.dK kvs)) :
  MootAt C CM (upd H M.dp (.dK (Zw kvs (.inr n) (.int c)))) M ds wa xs {m with pen:=fun x=>if x=n then some c else m.pen x,npen:=m.npen+1 } qs:=by
 have hh:=h
 obtain⟨⟨dx,ob⟩,fk,ls,lh,hn,⟨kvs',p1,p2,p3⟩,nl,nx,xl,np,nd⟩:=h
 rw[e] at p1
 cases p1
 have ll:∀l∈M.lh::(M.ls++qs),l≠M.dp:=fun l hl z=>by obtain⟨ys,e'⟩:=hh.lst hl;rw[z,e] at e';cases e'
 have kt:Um H (upd H M.dp (.dK (Zw kvs (.inr n) (.int c)))):=fun b t eb=>by rw[Zc (fun z=>by rw[z,e] at eb;cases eb)];exact eb
 have kx:∀x∈xs,x≠M.dp:=fun x hx z=>by obtain⟨vs,e'⟩:=xl x hx;rw[z,e] at e';cases e'
 have s:Same (fz xs H) (fz xs (upd H M.dp (.dK (Zw kvs (.inr n) (.int c))))):=Zbh kt (fun x hx o e=>by rw[Zc (kx x hx)];exact e) (fun _ z=>z)
 refine⟨⟨dx,by rw[Zc (fun z=>by rw[z,e] at ob;cases ob)];exact ob⟩,fk.at fun b o hb eb=>by rw[Zc (fun z:b=M.dp=>nd (z▸hb))];exact eb,fun p hp=>(ls p hp).mono (fun o e=>by rw[Zc (ll _ (Zdv (Zdu hp)))];exact e) s,
  by rw[Zc (ll _ yD)];exact lh,hn,⟨_,Zg,xS (Vm _ _ _) (by show kvs.length+1<=m.npen+1;lia),fun x=>?_⟩,nl,nx,fun x hx=>?_,np,nd⟩
 ·rw[Uc]
  show _=(if x=n then some c else m.pen x).map V.int
  by_cases z:x=n
  ·rw[if_pos (by rw[z]),if_pos z];rfl
  ·rw[if_neg (fun y=>z (by injection y)),if_neg z];exact p3 x
 ·obtain⟨vs,e'⟩:=xl x hx
  exact⟨vs,by rw[Zc (kx x hx)];exact e'⟩
theorem MootAt.setv(h:MootAt C CM H M ds wa xs m qs){l dx:Addr}{bs:List Bool}(e:H M.p=some (.ins CM dx (Y9 M)))(hl:H l=some (.lst (bs.map V.bl)))(n:¬mo M ds wa xs qs l) :
  MootAt C CM (upd H M.p (.ins CM dx (Y9 (M.setv l)))) (M.setv l) ds wa xs {m with verd:=bs } qs:=by
 have hh:=h
 obtain⟨_,fk,ls,lh,hn,⟨kvs,p1,p2,p3⟩,nl,nx,xl,np,nd⟩:=h
 have ll:∀l∈M.lh::(M.ls++qs),l≠M.p:=fun l hl z=>by obtain⟨ys,e'⟩:=hh.lst hl;rw[z,e] at e';cases e'
 have nlp:l≠M.p:=fun z=>n (.inl z)
 have kt:Um H (upd H M.p (.ins CM dx (Y9 (M.setv l)))):=fun b t eb=>by rw[Zc (fun z=>by rw[z,e] at eb;cases eb)];exact eb
 have kx:∀x∈xs,x≠M.p:=fun x hx z=>by obtain⟨vs,e'⟩:=xl x hx;rw[z,e] at e';cases e'
 have s:Same (fz xs H) (fz xs (upd H M.p (.ins CM dx (Y9 (M.setv l))))):=Zbh kt (fun x hx o e=>by rw[Zc (kx x hx)];exact e) (fun _ z=>z)
 have pw:=hh.pown
 have rb:∀(H:Hp)(bs:List Bool),RepL H (bs.map D.bl) (bs.map V.bl):=fun H bs=>by
  induction bs with
  | nil=>rfl
  | cons b r ih=>exact⟨_,_,rfl,rfl,ih⟩
 have nm:∀x,x∈M.lh::((M.setv l).ls++qs)->x∈M.lh::(M.ls++qs)\/x=l:=fun x hx=>by
  simp only[ML.ls,ML.setv,xC,xH,yG,or_false] at hx ⊢
  rcases hx with z | (z | z | z | z | z | z) | z<;>simp[z]
 have nlm:l∉M.lh::(M.ls++qs):=fun z=>n (.inr (.inr (.inl z)))
 refine⟨⟨dx,Zg⟩,fk.at fun b o hb eb=>by rw[Zc (fun z:b=M.p=>pw (z▸hb))];exact eb,fun p hp=>?_,by show (upd H M.p _) M.lh=_;rw[Zc (ll _ yD)];exact lh,hn,
  ⟨kvs,by show (upd H M.p _) M.dp=_;rw[Zc (fun z=>by rw[z,e] at p1;cases p1)];exact p1,p2,p3⟩,?_,fun x hx z=>(nm x z).elim (nx x hx) (fun z=>n (.inr (.inr (.inr (.inl (z▸hx)))))),fun x hx=>?_,np,nd⟩
 ·by_cases z:p=(l,bs.map D.bl)
  ·subst z
   exact⟨_,by show (upd H M.p _) l=_;rw[Zc nlp];exact hl,rb _ bs⟩
  ·have hp':p∈m.at_ M qs:=by
    simp only[Mo.at_,ML.setv,xC] at hp ⊢
    rcases hp with y | y | y | y | y | y | y
    ·exact .inl y
    ·exact .inr (.inl y)
    ·exact .inr (.inr (.inl y))
    ·exact .inr (.inr (.inr (.inl y)))
    ·exact .inr (.inr (.inr (.inr (.inl y))))
    ·exact absurd y z
    ·exact .inr (.inr (.inr (.inr (.inr (.inr y)))))
   exact(ls p hp').mono (fun o e=>by rw[Zc (ll _ (Zdv (Zdu hp')))];exact e) s
 ·simp only[ML.ls,ML.setv,yF,xC,xH,xT,zC,not_or] at nl nlm ⊢
  obtain⟨⟨a1,a2,a3,a4,a5,a6,a7⟩,⟨b2,b3,b4,b5,b6,b7⟩,⟨c3,c4,c5,c6,c7⟩,⟨d4,d5,d6,d7⟩,⟨f5,f6,f7⟩,⟨g6,g7⟩,k7,k8⟩:=nl
  obtain⟨m0,m1,m2,m3,m4,m5,m6,m7⟩:=nlm
  exact⟨⟨a1,a2,a3,a4,a5,Ne.symm m0,a7⟩,⟨b2,b3,b4,b5,Ne.symm m1,b7⟩,⟨c3,c4,c5,Ne.symm m2,c7⟩,⟨d4,d5,Ne.symm m3,d7⟩,⟨f5,Ne.symm m4,f7⟩,⟨Ne.symm m5,g7⟩,m7,k8⟩
 ·obtain⟨vs,e'⟩:=xl x hx
  exact⟨vs,by rw[Zc (kx x hx)];exact e'⟩
end
section
variable{P:Program}{w:World}{K:uFg}{mg:Str->Option Value}{base:Heap}{C CM:Addr}
variable{M:ML}{ds:List Deed}{wa:Str->Addr}{xs qs:List Addr}{m:Mo}{H H':Hp}
theorem MootAt.rep(h:MootAt C CM H M ds wa xs m qs){l:Addr}{c:List D}{vs:List V}(hp:(l,c)∈m.at_ M qs)(e:H l=some (.lst vs)):RepL (fz xs H) c vs:=by
 obtain⟨vs',e',r⟩:=h.ls _ hp
 rw[e] at e';cases e';exact r
theorem MootAt.deed(h:MootAt C CM H M ds wa xs m qs){vs:List V}{v:V}{d:D}(e:H M.ld=some (.lst vs))(hd:Rep (fz xs H) d v):MootAt C CM (upd H M.ld (.lst (vs ++ [v]))) M ds wa xs {m with deeds:=m.deeds ++ [d] } qs:=by
 have r:=h.rep (l:=M.ld) (c:=m.deeds) (by simp[Mo.at_]) e
 have nl:=h.nl
 simp only[ML.ls,yF,xC,xH,xT,zC,not_or] at nl
 obtain⟨_,⟨b2,b3,b4,b5,b6,b7⟩,⟨c3,c4,c5,c6,c7⟩,⟨d4,d5,d6,d7⟩,⟨f5,f6,f7⟩,⟨g6,g7⟩,k7,k8⟩:=nl
 refine h.put (l:=M.ld) (by simp[ML.ls]) rfl rfl rfl fun p hp=>?_
 simp only[Mo.at_,xC] at hp ⊢
 rcases hp with rfl | rfl | rfl | rfl | rfl | rfl | hp
 ·exact .inr ⟨rfl,r.snoc hd⟩
 ·exact .inl ⟨by simp,Ne.symm b2⟩
 ·exact .inl ⟨by simp,Ne.symm b3⟩
 ·exact .inl ⟨by simp,Ne.symm b4⟩
 ·exact .inl ⟨by simp,Ne.symm b5⟩
 ·exact .inl ⟨by simp,Ne.symm b6⟩
 ·exact .inl ⟨by simp[hp],fun z=>b7 (z▸(yX hp).1)⟩
theorem MootAt.debt(h:MootAt C CM H M ds wa xs m qs){vs:List V}{v:V}{d:D}(e:H M.lq=some (.lst vs))(hd:Rep (fz xs H) d v):MootAt C CM (upd H M.lq (.lst (vs ++ [v]))) M ds wa xs {m with debts:=m.debts ++ [d] } qs:=by
 have r:=h.rep (l:=M.lq) (c:=m.debts) (by simp[Mo.at_]) e
 have nl:=h.nl
 simp only[ML.ls,yF,xC,xH,xT,zC,not_or] at nl
 obtain⟨_,⟨b2,b3,b4,b5,b6,b7⟩,⟨c3,c4,c5,c6,c7⟩,⟨d4,d5,d6,d7⟩,⟨f5,f6,f7⟩,⟨g6,g7⟩,k7,k8⟩:=nl
 refine h.put (l:=M.lq) (by simp[ML.ls]) rfl rfl rfl fun p hp=>?_
 simp only[Mo.at_,xC] at hp ⊢
 rcases hp with rfl | rfl | rfl | rfl | rfl | rfl | hp
 ·exact .inl ⟨by simp,b3⟩
 ·exact .inl ⟨by simp,c3⟩
 ·exact .inr ⟨rfl,r.snoc hd⟩
 ·exact .inl ⟨by simp,Ne.symm d4⟩
 ·exact .inl ⟨by simp,Ne.symm d5⟩
 ·exact .inl ⟨by simp,Ne.symm d6⟩
 ·exact .inl ⟨by simp[hp],fun z=>d7 (z▸(yX hp).1)⟩
theorem MootAt.trial(h:MootAt C CM H M ds wa xs m qs){vs:List V}{v:V}{d:Suit}(e:H M.lt=some (.lst vs))(hd:Rep (fz xs H) (Ws d) v):MootAt C CM (upd H M.lt (.lst (vs ++ [v]))) M ds wa xs {m with trials:=m.trials ++ [d] } qs:=by
 have r:=h.rep (l:=M.lt) (c:=m.trials.map Ws) (by simp[Mo.at_]) e
 have nl:=h.nl
 simp only[ML.ls,yF,xC,xH,xT,zC,not_or] at nl
 obtain⟨_,⟨b2,b3,b4,b5,b6,b7⟩,⟨c3,c4,c5,c6,c7⟩,⟨d4,d5,d6,d7⟩,⟨f5,f6,f7⟩,⟨g6,g7⟩,k7,k8⟩:=nl
 refine h.put (l:=M.lt) (by simp[ML.ls]) rfl rfl rfl fun p hp=>?_
 simp only[Mo.at_,xC] at hp ⊢
 rcases hp with rfl | rfl | rfl | rfl | rfl | rfl | hp
 ·exact .inl ⟨by simp,b4⟩
 ·exact .inl ⟨by simp,c4⟩
 ·exact .inl ⟨by simp,d4⟩
 ·exact .inr ⟨rfl,by rw[xQ];exact r.snoc hd⟩
 ·exact .inl ⟨by simp,Ne.symm f5⟩
 ·exact .inl ⟨by simp,Ne.symm f6⟩
 ·exact .inl ⟨by simp[hp],fun z=>f7 (z▸(yX hp).1)⟩
theorem MootAt.day(h:MootAt C CM H M ds wa xs m qs){vs:List V}{v:V}{d:Int}(e:H M.ly=some (.lst vs))(hd:Rep (fz xs H) (.int d) v):MootAt C CM (upd H M.ly (.lst (vs ++ [v]))) M ds wa xs {m with days:=m.days ++ [d] } qs:=by
 have r:=h.rep (l:=M.ly) (c:=m.days.map D.int) (by simp[Mo.at_]) e
 have nl:=h.nl
 simp only[ML.ls,yF,xC,xH,xT,zC,not_or] at nl
 obtain⟨_,⟨b2,b3,b4,b5,b6,b7⟩,⟨c3,c4,c5,c6,c7⟩,⟨d4,d5,d6,d7⟩,⟨f5,f6,f7⟩,⟨g6,g7⟩,k7,k8⟩:=nl
 refine h.put (l:=M.ly) (by simp[ML.ls]) rfl rfl rfl fun p hp=>?_
 simp only[Mo.at_,xC] at hp ⊢
 rcases hp with rfl | rfl | rfl | rfl | rfl | rfl | hp
 ·exact .inl ⟨by simp,b5⟩
 ·exact .inl ⟨by simp,c5⟩
 ·exact .inl ⟨by simp,d5⟩
 ·exact .inl ⟨by simp,f5⟩
 ·exact .inr ⟨rfl,by rw[xQ];exact r.snoc hd⟩
 ·exact .inl ⟨by simp,Ne.symm g6⟩
 ·exact .inl ⟨by simp[hp],fun z=>g7 (z▸(yX hp).1)⟩
end
section
variable{P:Program}{w:World}{K:uFg}{mg:Str->Option Value}{base:Heap}{C CM:Addr}
variable{M:ML}{ds:List Deed}{wa:Str->Addr}{xs qs:List Addr}{m:Mo}{H H':Hp}
theorem MootAt.brg(h:MootAt C CM H M ds wa xs m qs){vs:List V}{v:V}{d:D}(e:H M.lb=some (.lst vs))(hd:Rep (fz xs H) d v):MootAt C CM (upd H M.lb (.lst (vs ++ [v]))) M ds wa xs {m with brs:=m.brs ++ [d] } qs:=by
 have r:=h.rep (l:=M.lb) (c:=m.brs) (by simp[Mo.at_]) e
 have nl:=h.nl
 simp only[ML.ls,yF,xC,xH,xT,zC,not_or] at nl
 obtain⟨_,⟨b2,b3,b4,b5,b6,b7⟩,⟨c3,c4,c5,c6,c7⟩,⟨d4,d5,d6,d7⟩,⟨f5,f6,f7⟩,⟨g6,g7⟩,k7,k8⟩:=nl
 refine h.put (l:=M.lb) (by simp[ML.ls]) rfl rfl rfl fun p hp=>?_
 simp only[Mo.at_,xC] at hp ⊢
 rcases hp with rfl | rfl | rfl | rfl | rfl | rfl | hp
 ·exact .inl ⟨by simp,b2⟩
 ·exact .inr ⟨rfl,r.snoc hd⟩
 ·exact .inl ⟨by simp,Ne.symm c3⟩
 ·exact .inl ⟨by simp,Ne.symm c4⟩
 ·exact .inl ⟨by simp,Ne.symm c5⟩
 ·exact .inl ⟨by simp,Ne.symm c6⟩
 ·exact .inl ⟨by simp[hp],fun z=>c7 (z▸(yX hp).1)⟩
theorem MootAt.hap(h:MootAt C CM H M ds wa xs m qs){i:Nat}{q:Addr}{c:List D}{vs:List V}{v:V}{d:D}(hq:qs[i]? = some q)(hc:m.haps[i]? = some c)(e:H q=some (.lst vs))(hd:Rep (fz xs H) d v) :
  MootAt C CM (upd H q (.lst (vs ++ [v]))) M ds wa xs {m with haps:=m.haps.set i (c ++ [d]) } qs:=by
 have mq:q∈qs:=xO hq
 have mz:(q,c)∈qs.zip m.haps:=xO (i:=i) (by rw[yY];exact⟨hq,hc⟩)
 have r:=h.rep (l:=q) (c:=c) (by simp[Mo.at_,mz]) e
 have nl:=h.nl
 simp only[ML.ls,yF,xC,xH,xT,zC,not_or] at nl
 obtain⟨_,⟨b2,b3,b4,b5,b6,b7⟩,⟨c3,c4,c5,c6,c7⟩,⟨d4,d5,d6,d7⟩,⟨f5,f6,f7⟩,⟨g6,g7⟩,k7,k8⟩:=nl
 refine h.put (l:=q) (xK _ mq) (List.length_set ..) rfl rfl fun p hp=>?_
 simp only[Mo.at_,xC] at hp ⊢
 rcases hp with rfl | rfl | rfl | rfl | rfl | rfl | hp
 ·exact .inl ⟨by simp,fun z:M.ld=q=>b7 (z▸mq)⟩
 ·exact .inl ⟨by simp,fun z:M.lb=q=>c7 (z▸mq)⟩
 ·exact .inl ⟨by simp,fun z:M.lq=q=>d7 (z▸mq)⟩
 ·exact .inl ⟨by simp,fun z:M.lt=q=>f7 (z▸mq)⟩
 ·exact .inl ⟨by simp,fun z:M.ly=q=>g7 (z▸mq)⟩
 ·exact .inl ⟨by simp,fun z:M.lv=q=>k7 (z▸mq)⟩
 ·obtain⟨j,hj⟩:=List.getElem?_of_mem hp
  rw[yY] at hj
  obtain⟨j1,j2⟩:=hj
  by_cases z:i=j
  ·subst z
   rw[hq] at j1
   injection j1 with j1
   rw[List.getElem?_set_self (by
    rcases Nat.lt_or_ge i m.haps.length with y | y
    ·exact y
    ·rw[List.getElem?_eq_none y] at hc;cases hc)] at j2
   injection j2 with j2
   exact .inr ⟨j1.symm,by rw[← j2];exact r.snoc hd⟩
  ·rw[List.getElem?_set_ne z] at j2
   refine .inl ⟨.inr (.inr (.inr (.inr (.inr (.inr (xO (i:=j) (by rw[yY];exact⟨j1,j2⟩))))))),fun y=>z ?_⟩
   have li:i < qs.length:=(xG.mp hq).1
   exact(List.getElem?_inj li k8).mp (by rw[hq,j1,y])
theorem MootAt.newq(h:MootAt C CM H M ds wa xs m qs){q:Addr}(hq:H q=some (.lst []))(n:¬mo M ds wa xs qs q) :
  MootAt C CM (upd H M.lh (.lst ((qs ++ [q]).map V.ref))) M ds wa xs {m with haps:=m.haps ++ [[]] } (qs ++ [q]):=by
 have hh:=h
 have nw:=h.nown h.hl
 obtain⟨⟨dx,ob⟩,fk,ls,lh,hn,⟨kvs,p1,p2,p3⟩,nl,nx,xl,np,nd⟩:=h
 have kt:Um H (upd H M.lh (.lst ((qs ++ [q]).map V.ref))):=Zlg lh
 have kx:∀x∈xs,x≠M.lh:=fun x hx z=>nx x hx (z▸yD)
 have s:Same (fz xs H) (fz xs (upd H M.lh (.lst ((qs ++ [q]).map V.ref)))):=Zbh kt (fun x hx o e=>by rw[Zc (kx x hx)];exact e) (fun _ z=>z)
 have nh:M.lh∉M.ls++qs:=(yF.mp nl).1
 have nq:q∉M.lh::(M.ls++qs):=fun z=>n (.inr (.inr (.inl z)))
 have nqh:q≠M.lh:=fun z=>nq (z▸yD)
 refine⟨⟨dx,by rw[Zc (fun z=>by rw[z,lh] at ob;cases ob)];exact ob⟩,fk.at fun b o hb eb=>by rw[Zc (fun z:b=M.lh=>nw (z▸hb))];exact eb,fun p hp=>?_,Zg,by rw[xJ,hn];show _=(m.haps ++ [[]]).length;rw[xJ];rfl,
  ⟨kvs,by rw[Zc (fun z=>by rw[z,lh] at p1;cases p1)];exact p1,p2,p3⟩,?_,fun x hx z=>?_,fun x hx=>?_,np,nd⟩
 ·by_cases z:p=(q,[])
  ·subst z
   exact⟨[],by show (upd H M.lh _) q=_;rw[Zc nqh];exact hq,rfl⟩
  ·have hp':p∈m.at_ M qs:=by
    simp only[Mo.at_,xC] at hp ⊢
    rw[List.zip_append hn] at hp
    rcases hp with y | y | y | y | y | y | y
    ·exact .inl y
    ·exact .inr (.inl y)
    ·exact .inr (.inr (.inl y))
    ·exact .inr (.inr (.inr (.inl y)))
    ·exact .inr (.inr (.inr (.inr (.inl y))))
    ·exact .inr (.inr (.inr (.inr (.inr (.inl y)))))
    ·rcases xH.mp y with y | y
     ·exact .inr (.inr (.inr (.inr (.inr (.inr y)))))
     ·exact absurd (xI.mp y) z
   exact(ls p hp').mono (fun o e=>by rw[Zc (fun z:p.1=M.lh=>nh (z▸Zdu hp'))];exact e) s
 ·rw[← yW]
  refine zR.mpr ⟨nl,yF.mpr ⟨yG,List.nodup_nil⟩,fun a ha b hb z=>nq ?_⟩
  rw[xI] at hb
  rw[← hb,← z];exact ha
 ·rw[← yW,← xT] at z
  rcases xH.mp z with z | z
  ·exact nx x hx z
  ·exact n (.inr (.inr (.inr (.inl (xI.mp z▸hx)))))
 ·obtain⟨vs,e'⟩:=xl x hx
  exact⟨vs,by rw[Zc (kx x hx)];exact e'⟩
end
section
variable{P:Program}{w:World}{K:uFg}{mg:Str->Option Value}{base:Heap}{C CM:Addr}{c:Str->Addr}
abbrev errs:List Str:=["NoName", "NoMeasure", "Unknown", "Taken", "NoThing", "NoCase", "NoOath", "NotYet", "Dead", "NoHeir", "TooMany", "SwornTwice", "Forsworn", "TooLight", "Broken", "NoMoment", "NothingBack", "NothingForth", "NoDeed"]
theorem Wc{d:Int}(h:d.natAbs<=1000000000000000000):d.natAbs.log2 < 1920:=by
 by_cases z:d.natAbs=0
 ·rw[z];decide +kernel
 ·rw[Nat.log2_lt z]
  exact yT h (by decide +kernel)
def okI(d:Int):Prop:=d.natAbs<=1000000000000000000
def due(E:XK)(c:Str->Addr)(H:Hp)(k:Prop):Option Str->Prop
 | none=>k
 | some x=>E (.ref (c x)) none H
def eM(lo hi d:Int):Option Str:=if lo<=d/\d<=hi then none else some "NoMeasure"
inductive spM (lo hi:Int) (c:Str->Addr) (vs:List V) (H:Hp) (Q:VK) (E:XK):Prop
 | mk (d:Int) (h0:vs = [.int d]) (h1:okI d) (h2:due E c H (Q .non H) (eM lo hi d))
theorem Zzs(Zb4:Has K mg "check_day" Zgh)(C0:∃t,mg "LAST_DAY" = some (.int 9999 t))(er:Er K mg c errs):FnX P w K mg base "check_day" 1 (spM 0 9999 c):=by
 obtain⟨t0,c_LAST_DAY⟩:=C0
 have r_LAST_DAY:RelV (.int 9999) (.int 9999 t0):=⟨t0,rfl⟩
 refine Zb4.fx ["day"] ["day"] fun H vs Q E hr h=>?_
 obtain⟨d,rfl,hs,k⟩:=h
 refine⟨rfl,_,(Zf (Zp (V0 (Ut Wf Wf Ze (qvN 0) (Z4 c_LAST_DAY r_LAST_DAY))) (Zf (Ys Yk er (Yz (Yq (qvN 0) (Yc Yy))))) Zo)),?_⟩
 unfold eM at k
 refine⟨_,rfl,_,_,rfl,rfl,_,rfl,Z6 (fun h0=>?_) (fun z=>?_)⟩
 ·refine⟨_,_,rfl,rfl,_,rfl,Vk (fun z=>?_) (fun h1=>?_)⟩
  ·rw[if_neg (fun y=>z y.2)] at k
   exact⟨_,rfl,.inr ⟨d,rfl,Wc hs⟩,by decide +kernel,fun _=>k⟩
  ·rw[if_pos ⟨h0,h1⟩] at k;exact k
 ·rw[if_neg (fun y=>z y.1)] at k
  exact⟨false,rfl,Ym ⟨_,rfl,.inr ⟨d,rfl,Wc hs⟩,by decide +kernel,fun _=>k⟩⟩
theorem Zzt(Zb6:Has K mg "check_weight" Zgi)(C0:∃t,mg "MOST_WEIGHT" = some (.int 1000 t))(er:Er K mg c errs):FnX P w K mg base "check_weight" 1 (spM 1 1000 c):=by
 obtain⟨t0,c_MOST_WEIGHT⟩:=C0
 have r_MOST_WEIGHT:RelV (.int 1000) (.int 1000 t0):=⟨t0,rfl⟩
 refine Zb6.fx ["weight"] ["weight"] fun H vs Q E hr h=>?_
 obtain⟨d,rfl,hs,k⟩:=h
 refine⟨rfl,_,(Zf (Zp (V0 (Ut Wf Wf Ze (qvN 0) (Z4 c_MOST_WEIGHT r_MOST_WEIGHT))) (Zf (Ys Yk er (Yz (Yq (qvN 0) (Yc Yy))))) Zo)),?_⟩
 unfold eM at k
 refine⟨_,rfl,_,_,rfl,rfl,_,rfl,Z6 (fun h0=>?_) (fun z=>?_)⟩
 ·refine⟨_,_,rfl,rfl,_,rfl,Vk (fun z=>?_) (fun h1=>?_)⟩
  ·rw[if_neg (fun y=>z y.2)] at k
   exact⟨_,rfl,.inr ⟨d,rfl,Wc hs⟩,by decide +kernel,fun _=>k⟩
  ·rw[if_pos ⟨h0,h1⟩] at k;exact k
 ·rw[if_neg (fun y=>z y.1)] at k
  exact⟨false,rfl,Ym ⟨_,rfl,.inr ⟨d,rfl,Wc hs⟩,by decide +kernel,fun _=>k⟩⟩
abbrev Zms:Stmt:=top 32
theorem Zzu(Zg8:Has K mg "check_need" Zms)(C0:∃t,mg "MOST_NEED" = some (.int 12000 t))(er:Er K mg c errs):FnX P w K mg base "check_need" 1 (spM 1 12000 c):=by
 obtain⟨t0,c_MOST_NEED⟩:=C0
 have r_MOST_NEED:RelV (.int 12000) (.int 12000 t0):=⟨t0,rfl⟩
 refine Zg8.fx ["need"] ["need"] fun H vs Q E hr h=>?_
 obtain⟨d,rfl,hs,k⟩:=h
 refine⟨rfl,_,(Zf (Zp (V0 (Ut Wf Wf Ze (qvN 0) (Z4 c_MOST_NEED r_MOST_NEED))) (Zf (Ys Yk er (Yz (Yq (qvN 0) (Yc Yy))))) Zo)),?_⟩
 unfold eM at k
 refine⟨_,rfl,_,_,rfl,rfl,_,rfl,Z6 (fun h0=>?_) (fun z=>?_)⟩
 ·refine⟨_,_,rfl,rfl,_,rfl,Vk (fun z=>?_) (fun h1=>?_)⟩
  ·rw[if_neg (fun y=>z y.2)] at k
   exact⟨_,rfl,.inr ⟨d,rfl,Wc hs⟩,by decide +kernel,fun _=>k⟩
  ·rw[if_pos ⟨h0,h1⟩] at k;exact k
 ·rw[if_neg (fun y=>z y.1)] at k
  exact⟨false,rfl,Ym ⟨_,rfl,.inr ⟨d,rfl,Wc hs⟩,by decide +kernel,fun _=>k⟩⟩
abbrev Zmt:Stmt:=top 33
theorem Zzv(Zg9:Has K mg "check_money" Zmt)(C0:∃t,mg "MOST_MONEY" = some (.int 1000000 t))(er:Er K mg c errs):FnX P w K mg base "check_money" 1 (spM 1 1000000 c):=by
 obtain⟨t0,c_MOST_MONEY⟩:=C0
 have r_MOST_MONEY:RelV (.int 1000000) (.int 1000000 t0):=⟨t0,rfl⟩
 refine Zg9.fx ["many"] ["many"] fun H vs Q E hr h=>?_
 obtain⟨d,rfl,hs,k⟩:=h
 refine⟨rfl,_,(Zf (Zp (V0 (Ut Wf Wf Ze (qvN 0) (Z4 c_MOST_MONEY r_MOST_MONEY))) (Zf (Ys Yk er (Yz (Yq (qvN 0) (Yc Yy))))) Zo)),?_⟩
 unfold eM at k
 refine⟨_,rfl,_,_,rfl,rfl,_,rfl,Z6 (fun h0=>?_) (fun z=>?_)⟩
 ·refine⟨_,_,rfl,rfl,_,rfl,Vk (fun z=>?_) (fun h1=>?_)⟩
  ·rw[if_neg (fun y=>z y.2)] at k
   exact⟨_,rfl,.inr ⟨d,rfl,Wc hs⟩,by decide +kernel,fun _=>k⟩
  ·rw[if_pos ⟨h0,h1⟩] at k;exact k
 ·rw[if_neg (fun y=>z y.1)] at k
  exact⟨false,rfl,Ym ⟨_,rfl,.inr ⟨d,rfl,Wc hs⟩,by decide +kernel,fun _=>k⟩⟩
def Wd(ds:List Deed)(n:Str):Option Str:=if Zj ds n=none then some "Unknown" else none
inductive spKnownX (C:Addr) (c:Str->Addr) (vs:List V) (H:Hp) (Q:VK) (E:XK):Prop
 | mk (L:FL) (ds:List Deed) (n:Str) (h0:vs = [.ref L.p,.str n]) (h1:FolkAt C H L ds) (h2:n.length<=100) (h3:due E c H (Q .non H) (Wd ds n))
theorem Zzw(Zb7:HasM K C "check_known" "Folk.check_known" Zgj)(Tc:TxC K C)(er:Er K mg c errs):MtX P w K mg base C "check_known" 1 (spKnownX C c):=by
 refine Zb7.mx ["self", "name"] ["self", "name"] fun H vs Q E hr h=>?_
 obtain⟨L,ds,n,rfl,F,ho,k⟩:=h
 refine⟨rfl,_,(Zf (Zp (Zs (Zet hr) (qvN 1) (Zn (qvN 0)) rfl) (Zf (Ys Yk er (Yz (Yc (Yq (qvN 1) Yy))))) Zo)),?_⟩
 obtain⟨dx,ob⟩:=F.ob
 obtain⟨kvs,c1,c2,c3⟩:=F.c
 refine⟨_,rfl,_,rfl,L.p,C,dx,_,_,rfl,ob,Tc.cl,Tc.nc,Zae _ _ _ _,L.dc,_,rfl,DGet.k (k:=Sum.inr n) c1,_,rfl,?_⟩
 unfold Wd at k
 rw[c3]
 cases hn:Zj ds n with
 | none =>
  rw[if_pos hn] at k
  exact Ym ⟨by decide +kernel,_,rfl,.inl ⟨n,rfl,by lia⟩,fun _=>k⟩
 | some d =>
  rw[if_neg (by rw[hn];intro z;cases z)] at k
  exact Yj k
def Yn(d day:Int):Option Str:=if day < d then some "NotYet" else none
inductive spThereX (C:Addr) (c:Str->Addr) (vs:List V) (H:Hp) (Q:VK) (E:XK):Prop
 | mk (L:FL) (ds:List Deed) (n:Str) (d day:Int) (h0:vs = [.ref L.p,.str n,.int day]) (h1:FolkAt C H L ds) (h2:Zj ds n=some d) (h3:n.length<=100) (h4:okI day) (h5:due E c H (Q .non H) (Yn d day))
theorem Zzx(Zb8:HasM K C "check_there" "Folk.check_there" Zgk)(Tc:TxC K C)(er:Er K mg c errs):MtX P w K mg base C "check_there" 1 (spThereX C c):=by
 refine Zb8.mx ["self", "name", "day"] ["self", "name", "day"] fun H vs Q E hr h=>?_
 obtain⟨L,ds,n,d,day,rfl,F,hn,ho,hi,k⟩:=h
 refine⟨rfl,_,(Zf (Zp (Zs Uk (qvN 2) (Zbx hr (Zn (qvN 0)) (qvN 1) (fun _ _=>rfl)) (Z2 _)) (Zf (Ys Yk er (Yz (Yq (qvN 1) (Yc (Yq (qvN 2) Yy)))))) Zo)),?_⟩
 obtain⟨dx,ob⟩:=F.ob
 obtain⟨kvs,c1,c2,c3⟩:=F.c
 have g:=DGet.k (k:=Sum.inr n) c1
 rw[c3,hn] at g
 refine⟨_,rfl,_,rfl,L.p,C,dx,_,_,rfl,ob,Tc.cl,Tc.nc,Zae _ _ _ _,_,rfl,L.dc,.int d,rfl,g,?_⟩
 unfold Yn at k
 refine⟨_,_,rfl,rfl,_,rfl,Z6 (fun z=>?_) (fun z=>?_)⟩
 ·rw[if_pos z] at k
  exact⟨_,rfl,.inl ⟨n,rfl,by lia⟩,by decide +kernel,_,rfl,.inr ⟨day,rfl,Wc hi⟩,fun _=>k⟩
 ·rw[if_neg z] at k;exact k
def Vg(ds:List Deed)(n:Str)(day:Int):Option Str:=if Vo ds n day=true then some "Dead" else none
inductive spLivingX (C:Addr) (c:Str->Addr) (vs:List V) (H:Hp) (Q:VK) (E:XK):Prop
 | mk (L:FL) (ds:List Deed) (n:Str) (day:Int) (h0:vs = [.ref L.p,.str n,.int day]) (h1:FolkAt C H L ds) (h2:n.length<=100) (h3:okI day) (h4:due E c H (Q .non H) (Vg ds n day))
theorem Zzy(Zca:HasM K C "check_living" "Folk.check_living" Zgr)(Tc:TxC K C)(er:Er K mg c errs)(M_died_by:Mt P w K mg base C "died_by" ["self", "name", "day"] 1 (spDiedBy C)):MtX P w K mg base C "check_living" 2 (spLivingX C c):=by
 refine Zca.mx ["self", "name", "day"] ["self", "name", "day"] fun H vs Q E hr h=>?_
 obtain⟨L,ds,n,day,rfl,F,ho,hi,k⟩:=h
 refine⟨rfl,_,(Zf (Zp (Zbe (Y2 (qvN 0) Tc.cl M_died_by (Za (qvN 1) (Za (qvN 2) Zb)))) (Zf (Ys Yk er (Yz (Yq (qvN 1) (Yc (Yq (qvN 2) Yy)))))) Zo)),?_⟩
 obtain⟨dx,ob⟩:=F.ob
 refine⟨_,rfl,L.p,dx,_,rfl,ob,Yr _ _ _ _ (by decide +kernel),_,rfl,_,rfl,L,ds,n,day,rfl,F,_,rfl,?_⟩
 unfold Vg at k
 cases hd:Vo ds n day with
 | true =>
  rw[if_pos hd] at k
  exact Ym ⟨_,rfl,.inl ⟨n,rfl,by lia⟩,by decide +kernel,_,rfl,.inr ⟨day,rfl,Wc hi⟩,fun _=>k⟩
 | false =>
  rw[if_neg (by rw[hd];decide)] at k
  exact Yj k
def Up(ds:List Deed)(n:Str):Option Str:=if Z0 ds n=none then none else some "Dead"
inductive spUntoldX (C:Addr) (c:Str->Addr) (vs:List V) (H:Hp) (Q:VK) (E:XK):Prop
 | mk (L:FL) (ds:List Deed) (n:Str) (h0:vs = [.ref L.p,.str n]) (h1:FolkAt C H L ds) (h2:n.length<=100) (h3:due E c H (Q .non H) (Up ds n))
theorem Zzz(Zcc:HasM K C "check_untold" "Folk.check_untold" Zgw)(Tc:TxC K C)(er:Er K mg c errs):MtX P w K mg base C "check_untold" 1 (spUntoldX C c):=by
 refine Zcc.mx ["self", "name"] ["self", "name"] fun H vs Q E hr h=>?_
 obtain⟨L,ds,n,rfl,F,ho,k⟩:=h
 refine⟨rfl,_,(Zf (Zp (Zs (Zas hr) (qvN 1) (Zn (qvN 0)) rfl) (Zf (Ys Yk er (Yz (Yc (Yq (qvN 1) (Yc Yy)))))) Zo)),?_⟩
 obtain⟨dx,ob⟩:=F.ob
 obtain⟨kvs,c1,c2,c3⟩:=F.d
 refine⟨_,rfl,_,rfl,L.p,C,dx,_,_,rfl,ob,Tc.cl,Tc.nd,Zbj _ _ _ _,L.dd,_,rfl,DGet.k (k:=Sum.inr n) c1,_,rfl,?_⟩
 unfold Up at k
 rw[c3]
 cases hn:Z0 ds n with
 | none =>
  rw[if_pos hn] at k
  exact Yj k
 | some x =>
  rw[if_neg (by rw[hn];intro z;cases z)] at k
  exact Ym ⟨by decide +kernel,_,rfl,.inl ⟨n,rfl,by lia⟩,by decide +kernel,fun _=>k⟩
def okN(n:Str):Prop:=n.length<=100/\∀x∈n.cps.toList,x < 16 ^ 8
def Vz(ds:List Deed)(n:Str)(day wt:Int):Option Str:=if Vf n=false then some "NoName" else (eM 0 9999 day).or ((eM 1 1000 wt).or ((if Zj ds n=none then none else some ("Taken" : Str)).or (if (Wz ds).length < 40 then none else some ("TooMany" : Str))))
inductive spComingX (C:Addr) (c:Str->Addr) (vs:List V) (H:Hp) (Q:VK) (E:XK):Prop
 | mk (L:FL) (ds:List Deed) (wa:Str->Addr) (n:Str) (day wt:Int) (h0:vs = [.ref L.p,.str n,.int day,.int wt]) (h1:Fk C H L ds wa) (h2:ds.length<=1000) (h3:okN n) (h4:okI day) (h5:okI wt) (h6:∀H',Same H H'->due E c H' (Q .non H') (Vz ds n day wt))
theorem Zz0(Zb9:HasM K C "check_coming" "Folk.check_coming" Zgn)(T:Txt mg)(Tc:TxC K C)(C0:∃t,mg "MOST_FOLK" = some (.int 40 t))(er:Er K mg c errs)(Zgo:Fn P w K mg base "is_name" ["text"] 1 spIsName)(Y3:FnX P w K mg base "check_day" 1 (spM 0 9999 c))(Zbk:FnX P w K mg base "check_weight" 1 (spM 1 1000 c)):MtX P w K mg base C "check_coming" 2 (spComingX C c):=by
 obtain⟨t0,c_MOST_FOLK⟩:=C0
 have r_MOST_FOLK:RelV (.int 40) (.int 40 t0):=⟨t0,rfl⟩
 refine Zb9.mx ["self", "name", "day", "weight"] ["self", "name", "day", "weight"] fun H vs Q E hr h=>?_
 obtain⟨L,ds,wa,n,day,wt,rfl,F1,hl,ho,hi,hw,k⟩:=h
 have F0:=F1.f
 refine⟨rfl,_,(Zd (Zp (V0 (Zbe (Yg Zgo (Za (qvN 1) Zb)))) (Zf (Ys Yk er (Yz (Zlb (qvN 1) (Yc Yy))))) Zo)
 (Zd (Zh (Y7 Zr Y3 (Za (qvN 2) Zb)))
 (Zd (Zh (Y7 Zr Zbk (Za (qvN 3) Zb)))
 (Zd (Zp (Zs (Zas hr) (qvN 1) (Zn (qvN 0)) rfl) (Zf (Ys Yk er (Yz (Yc (Yq (qvN 1) (Yc Yy)))))) Zo)
 (Zf (Zp (Zs Zaq (Z1 Zi6 T.len Y1 (Za (Zn (qvN 0)) Zb)) (Z4 c_MOST_FOLK r_MOST_FOLK) (Z2 _)) (Zf (Ys Yk er (Yz (Yc (Yq (Z4 c_MOST_FOLK r_MOST_FOLK) (Yc Yy)))))) Zo)))))),?_⟩
 have hl':=ho.1
 refine⟨_,rfl,n,rfl,by lia,fun H1 s1=>⟨_,rfl,?_⟩⟩
 replace k:=k H1 s1
 unfold Vz at k
 cases e:Vf n with
 | false =>
  rw[if_pos e] at k
  exact Ym ⟨_,rfl,⟨n,rfl,by lia,ho.2⟩,by decide +kernel,fun _=>k⟩
 | true =>
  rw[if_neg (by rw[e];decide)] at k
  refine Yj ?_
  have F:=F0.keep (Same.n s1)
  obtain⟨dx,ob⟩:=F.ob
  obtain⟨kvs,c1,c2,c3⟩:=F.c
  obtain⟨kv2,c4,c5⟩:=F1.cnt
  obtain rfl:kvs=kv2:=by have:=s1 _ _ c4;rw[c1] at this;cases this;rfl
  have g:=DGet.k (k:=Sum.inr n) c1
  rw[c3] at g
  refine⟨_,rfl,day,rfl,hi,?_⟩
  cases ed:eM 0 9999 day with
  | some x=>rw[ed] at k;exact k
  | none =>
  rw[ed,xD] at k
  refine⟨_,rfl,wt,rfl,hw,?_⟩
  cases ew:eM 1 1000 wt with
  | some x=>rw[ew] at k;exact k
  | none =>
  rw[ew,xD] at k
  refine⟨_,rfl,_,rfl,L.p,C,dx,_,_,rfl,ob,Tc.cl,Tc.nc,Zae _ _ _ _,L.dc,_,rfl,g,_,rfl,?_⟩
  cases hc:Zj ds n with
  | some d0 =>
   rw[if_neg (by rw[hc];intro z;cases z)] at k
   exact Ym ⟨by decide +kernel,_,rfl,.inl ⟨n,rfl,by lia⟩,by decide +kernel,fun _=>k⟩
  | none =>
   rw[if_pos hc,xD] at k
   refine Yj ⟨_,rfl,L.p,C,dx,_,_,rfl,ob,Tc.cl,Tc.nc,Zae _ _ _ _,L.dc,kvs,rfl,c1,_,_,rfl,rfl,_,rfl,Z6 (fun z=>?_) (fun z=>?_)⟩
   ·rw[if_neg (by lia)] at k
    exact⟨by decide +kernel,.inr ⟨40,rfl,by decide +kernel⟩,by decide +kernel,fun _=>k⟩
   ·rw[if_pos (by lia)] at k
    exact k
def Vq(ds:List Deed)(n:Str)(day wt:Int):Option Str:=(eM 0 9999 day).or ((eM 1 1000 wt).or ((Wd ds n).or ((Yn ((Zj ds n).getD 0) day).or (Vg ds n day))))
inductive spRisX (C:Addr) (c:Str->Addr) (vs:List V) (H:Hp) (Q:VK) (E:XK):Prop
 | mk (L:FL) (ds:List Deed) (n:Str) (day wt:Int) (h0:vs = [.ref L.p,.str n,.int day,.int wt]) (h1:FolkAt C H L ds) (h2:n.length<=100) (h3:okI day) (h4:okI wt) (h5:due E c H (Q .non H) (Vq ds n day wt))
theorem Zbo{ds:List Deed}{n:Str}(h:Wd ds n=none):∃d,Zj ds n=some d:=by
 unfold Wd at h
 cases e:Zj ds n with
 | none=>rw[if_pos e] at h;cases h
 | some d=>exact⟨d,rfl⟩
theorem Zz1(Zcb:HasM K C "check_rise" "Folk.check_rise" Zgu)(Tc:TxC K C)(Y3:FnX P w K mg base "check_day" 1 (spM 0 9999 c))(Zbk:FnX P w K mg base "check_weight" 1 (spM 1 1000 c))(M_check_known:MtX P w K mg base C "check_known" 1 (spKnownX C c))(M_check_there:MtX P w K mg base C "check_there" 1 (spThereX C c))(M_check_living:MtX P w K mg base C "check_living" 2 (spLivingX C c)):MtX P w K mg base C "check_rise" 3 (spRisX C c):=by
 refine Zcb.mx ["self", "name", "day", "weight"] ["self", "name", "day", "weight"] fun H vs Q E hr h=>?_
 obtain⟨L,ds,n,day,wt,rfl,F,ho,hi,hw,k⟩:=h
 refine⟨rfl,_,(Zd (Zh (Y7 Zr Y3 (Za (qvN 2) Zb)))
 (Zd (Zh (Y7 Zr Zbk (Za (qvN 3) Zb)))
 (Zd (Zh (Z8 Zr (qvN 0) Tc.cl M_check_known (Za (qvN 1) Zb)))
 (Zd (Zh (Z8 Zr (qvN 0) Tc.cl M_check_there (Za (qvN 1) (Za (qvN 2) Zb))))
 (Zf (Zh (Z8 Zr (qvN 0) Tc.cl M_check_living (Za (qvN 1) (Za (qvN 2) Zb))))))))),?_⟩
 obtain⟨dx,ob⟩:=F.ob
 unfold Vq at k
 refine⟨_,rfl,day,rfl,hi,?_⟩
 cases ed:eM 0 9999 day with
 | some x=>rw[ed] at k;exact k
 | none =>
 rw[ed,xD] at k
 refine⟨_,rfl,wt,rfl,hw,?_⟩
 cases ew:eM 1 1000 wt with
 | some x=>rw[ew] at k;exact k
 | none =>
 rw[ew,xD] at k
 refine⟨_,rfl,L.p,dx,_,rfl,ob,Yr _ _ _ _ (by decide +kernel),_,rfl,L,ds,n,rfl,F,ho,?_⟩
 cases ek:Wd ds n with
 | some x=>rw[ek] at k;exact k
 | none =>
 rw[ek,xD] at k
 obtain⟨d,hc⟩:=Zbo ek
 rw[hc,Option.getD_some] at k
 refine⟨_,rfl,L.p,dx,_,rfl,ob,Yr _ _ _ _ (by decide +kernel),_,rfl,_,rfl,L,ds,n,d,day,rfl,F,hc,ho,hi,?_⟩
 cases et:Yn d day with
 | some x=>rw[et] at k;exact k
 | none =>
 rw[et,xD] at k
 exact⟨_,rfl,L.p,dx,_,rfl,ob,Yr _ _ _ _ (by decide +kernel),_,rfl,_,rfl,L,ds,n,day,rfl,F,ho,hi,k⟩
def V7(ds:List Deed)(n he:Str)(day:Int):Option Str:=(eM 0 9999 day).or ((Wd ds n).or ((Wd ds he).or ((Yn ((Zj ds n).getD 0) day).or ((Yn ((Zj ds he).getD 0) day).or ((Up ds n).or (if he=n\/Z0 ds he≠none then some ("NoHeir" : Str) else none))))))
inductive spDiX (C:Addr) (c:Str->Addr) (vs:List V) (H:Hp) (Q:VK) (E:XK):Prop
 | mk (L:FL) (ds:List Deed) (n he:Str) (day:Int) (h0:vs = [.ref L.p,.str n,.int day,.str he]) (h1:FolkAt C H L ds) (h2:n.length<=100) (h3:he.length<=100) (h4:okI day) (h5:due E c H (Q .non H) (V7 ds n he day))
theorem Zz2(Zcd:HasM K C "check_death" "Folk.check_death" Zgx)(Tc:TxC K C)(er:Er K mg c errs)(Y3:FnX P w K mg base "check_day" 1 (spM 0 9999 c))(M_check_known:MtX P w K mg base C "check_known" 1 (spKnownX C c))(M_check_there:MtX P w K mg base C "check_there" 1 (spThereX C c))(M_check_untold:MtX P w K mg base C "check_untold" 1 (spUntoldX C c)):MtX P w K mg base C "check_death" 2 (spDiX C c):=by
 refine Zcd.mx ["self", "name", "day", "heir"] ["self", "name", "day", "heir"] fun H vs Q E hr h=>?_
 obtain⟨L,ds,n,he,day,rfl,F,ho,ho',hi,k⟩:=h
 refine⟨rfl,_,(Zd (Zh (Y7 Zr Y3 (Za (qvN 2) Zb)))
 (Zd (Zh (Z8 Zr (qvN 0) Tc.cl M_check_known (Za (qvN 1) Zb)))
 (Zd (Zh (Z8 Zr (qvN 0) Tc.cl M_check_known (Za (qvN 3) Zb)))
 (Zd (Zh (Z8 Zr (qvN 0) Tc.cl M_check_there (Za (qvN 1) (Za (qvN 2) Zb))))
 (Zd (Zh (Z8 Zr (qvN 0) Tc.cl M_check_there (Za (qvN 3) (Za (qvN 2) Zb))))
 (Zd (Zh (Z8 Zr (qvN 0) Tc.cl M_check_untold (Za (qvN 1) Zb)))
 (Zf (Zp (QW.pt (Zl5 (Zs Wl (qvN 3) (qvN 1) (Z2 _)) (Zk4 (Zs (Zas hr) (qvN 3) (Zn (qvN 0)) rfl)))) (Zf (Ys Yk er (Yz (Yq (qvN 3) (Yc (Yq (qvN 1) Yy)))))) Zo)))))))),?_⟩
 obtain⟨dx,ob⟩:=F.ob
 unfold V7 at k
 refine⟨_,rfl,day,rfl,hi,?_⟩
 cases ed:eM 0 9999 day with
 | some x=>rw[ed] at k;exact k
 | none =>
 rw[ed,xD] at k
 refine⟨_,rfl,L.p,dx,_,rfl,ob,Yr _ _ _ _ (by decide +kernel),_,rfl,L,ds,n,rfl,F,ho,?_⟩
 cases ek:Wd ds n with
 | some x=>rw[ek] at k;exact k
 | none =>
 rw[ek,xD] at k
 obtain⟨d,hc⟩:=Zbo ek
 refine⟨_,rfl,L.p,dx,_,rfl,ob,Yr _ _ _ _ (by decide +kernel),_,rfl,L,ds,he,rfl,F,ho',?_⟩
 cases eh:Wd ds he with
 | some x=>rw[eh] at k;exact k
 | none =>
 rw[eh,xD] at k
 obtain⟨d2,hc2⟩:=Zbo eh
 rw[hc,hc2,Option.getD_some,Option.getD_some] at k
 refine⟨_,rfl,L.p,dx,_,rfl,ob,Yr _ _ _ _ (by decide +kernel),_,rfl,_,rfl,L,ds,n,d,day,rfl,F,hc,ho,hi,?_⟩
 cases et:Yn d day with
 | some x=>rw[et] at k;exact k
 | none =>
 rw[et,xD] at k
 refine⟨_,rfl,L.p,dx,_,rfl,ob,Yr _ _ _ _ (by decide +kernel),_,rfl,_,rfl,L,ds,he,d2,day,rfl,F,hc2,ho',hi,?_⟩
 cases et2:Yn d2 day with
 | some x=>rw[et2] at k;exact k
 | none =>
 rw[et2,xD] at k
 refine⟨_,rfl,L.p,dx,_,rfl,ob,Yr _ _ _ _ (by decide +kernel),_,rfl,L,ds,n,rfl,F,ho,?_⟩
 cases eu:Up ds n with
 | some x=>rw[eu] at k;exact k
 | none =>
 rw[eu,xD] at k
 obtain⟨kvs,c1,c2,c3⟩:=F.d
 have g:=DGet.k (k:=Sum.inr he) c1
 rw[c3] at g
 refine⟨_,rfl,_,rfl,rfl,_,rfl,Z6 (fun z=>?_) (fun z=>?_)⟩
 ·have z':he=n:=by injection z
  rw[if_pos (.inl z')] at k
  exact Ym ⟨_,rfl,.inl ⟨he,rfl,by lia⟩,by decide +kernel,_,rfl,.inl ⟨n,rfl,by lia⟩,fun _=>k⟩
 ·have z':he≠n:=fun y=>z (by rw[y])
  refine⟨_,rfl,_,rfl,L.p,C,dx,_,_,rfl,ob,Tc.cl,Tc.nd,Zbj _ _ _ _,L.dd,_,rfl,g,_,rfl,?_⟩
  cases hh:Z0 ds he with
  | none =>
   rw[if_neg (by rw[hh];exact fun y=>y.elim z' fun w=>w rfl)] at k
   exact Yj k
  | some x =>
   rw[if_pos (.inr (by rw[hh];intro w;cases w))] at k
   exact Ym ⟨_,rfl,.inl ⟨he,rfl,by lia⟩,by decide +kernel,_,rfl,.inl ⟨n,rfl,by lia⟩,fun _=>k⟩
abbrev inB(i:Int)(n:Nat):Prop:=0<=i/\i < n
def Vr(m:Mo)(i:Int):Option Str:=if inB i m.brs.length then none else some "NoThing"
inductive spThingX (C CM:Addr) (c:Str->Addr) (vs:List V) (H:Hp) (Q:VK) (E:XK):Prop
 | mk (M:ML) (ds:List Deed) (wa:Str->Addr) (xs:List Addr) (m:Mo) (qs:List Addr) (i:Int) (h0:vs = [.ref M.p,.int i]) (h1:MootAt C CM H M ds wa xs m qs) (h2:okI i) (h3:due E c H (Q .non H) (Vr m i))
abbrev Zmu:Stmt:=Ye (top 61) 41
theorem Zoj(Zha:HasM K CM "check_thing" "Moot.check_thing" Zmu)(T:Txt mg)(Tm:TxCMoot K CM)(er:Er K mg c errs):MtX P w K mg base CM "check_thing" 1 (spThingX C CM c):=by
 refine Zha.mx ["self", "thing"] ["self", "thing"] fun H vs Q E hr h=>?_
 obtain⟨M,ds,wa,xs,m,qs,i,rfl,W,hs,k⟩:=h
 refine⟨rfl,_,(Zf (Zp (V0 (Ut Wf Uk Ze (qvN 1) (Z1 Wm T.len Y1 (Za (Zn (qvN 0)) Zb)))) (Zf (Ys Yk er (Yz (Yc (Yq (qvN 1) Yy))))) Zo)),?_⟩
 obtain⟨dx,ob⟩:=W.ob
 obtain⟨vs,b1,_,hl⟩:=(W.ls (M.lb,m.brs) (by simp[Mo.at_])).get
 dsimp only at b1 hl
 unfold Vr at k
 rw[← hl] at k
 refine⟨_,rfl,_,_,rfl,rfl,_,rfl,Z6 (fun h0=>?_) (fun z=>?_)⟩
 ·refine⟨_,rfl,M.p,CM,dx,_,_,rfl,ob,Tm.cl,Tm.nb,Zcl _,M.lb,vs,rfl,.inl (SqL.of b1),_,_,rfl,rfl,_,rfl,Vk (fun z=>?_) (fun h1=>?_)⟩
  ·rw[if_neg (fun y=>z y.2)] at k
   exact⟨by decide +kernel,_,rfl,.inr ⟨i,rfl,Wc hs⟩,fun _=>k⟩
  ·rw[if_pos ⟨h0,h1⟩] at k;exact k
 ·rw[if_neg (fun y=>z y.1)] at k
  exact⟨false,rfl,Ym ⟨by decide +kernel,_,rfl,.inr ⟨i,rfl,Wc hs⟩,fun _=>k⟩⟩
inductive spCaseX (c:Str->Addr) (vs:List V) (H:Hp) (Q:VK) (E:XK):Prop
 | mk (l:Addr) (us:List V) (i:Int) (h0:vs = [.ref l,.int i]) (h1:H l=some (.lst us)) (h2:okI i) (h3:due E c H (Q .non H) (if inB i us.length then none else some "NoCase"))
abbrev Zmv:Stmt:=top 52
theorem Zz3(Zhb:Has K mg "check_case" Zmv)(T:Txt mg)(er:Er K mg c errs):FnX P w K mg base "check_case" 1 (spCaseX c):=by
 refine Zhb.fx ["suits", "case"] ["suits", "case"] fun H vs Q E hr h=>?_
 obtain⟨l,us,i,rfl,hl,hs,k⟩:=h
 refine⟨rfl,_,(Zf (Zp (V0 (Ut Wf Uk Ze (qvN 1) (Z1 Wm T.len Y1 (Za (qvN 0) Zb)))) (Zf (Ys Yk er (Yz (Yc (Yq (qvN 1) Yy))))) Zo)),?_⟩
 refine⟨_,rfl,_,_,rfl,rfl,_,rfl,Z6 (fun h0=>?_) (fun z=>?_)⟩
 ·refine⟨_,rfl,l,us,rfl,.inl (SqL.of hl),_,_,rfl,rfl,_,rfl,Vk (fun z=>?_) (fun h1=>?_)⟩
  ·rw[if_neg (fun y=>z y.2)] at k
   exact⟨by decide +kernel,_,rfl,.inr ⟨i,rfl,Wc hs⟩,fun _=>k⟩
  ·rw[if_pos ⟨h0,h1⟩] at k;exact k
 ·rw[if_neg (fun y=>z y.1)] at k
  exact⟨false,rfl,Ym ⟨by decide +kernel,_,rfl,.inr ⟨i,rfl,Wc hs⟩,fun _=>k⟩⟩
def Yh(m:Mo):Option Str:=if m.deeds.length < 400 then none else some "TooMany"
inductive spMomX (C CM:Addr) (c:Str->Addr) (vs:List V) (H:Hp) (Q:VK) (E:XK):Prop
 | mk (M:ML) (ds:List Deed) (wa:Str->Addr) (xs:List Addr) (m:Mo) (qs:List Addr) (h0:vs = [.ref M.p]) (h1:MootAt C CM H M ds wa xs m qs) (h2:due E c H (Q .non H) (Yh m))
abbrev Zmw:Stmt:=Ye (top 61) 43
theorem Zoe(Zhc:HasM K CM "check_moments" "Moot.check_moments" Zmw)(T:Txt mg)(Tm:TxCMoot K CM)(er:Er K mg c errs)(C0:∃t,mg "MOST_MOMENTS" = some (.int 400 t)):MtX P w K mg base CM "check_moments" 1 (spMomX C CM c):=by
 obtain⟨t0,c_MOST_MOMENTS⟩:=C0
 have r_MOST_MOMENTS:RelV (.int 400) (.int 400 t0):=⟨t0,rfl⟩
 refine Zhc.mx ["self"] ["self"] fun H vs Q E hr h=>?_
 obtain⟨M,ds,wa,xs,m,qs,rfl,W,k⟩:=h
 refine⟨rfl,_,(Zf (Zp (Zs Zaq (Z1 Wm T.len Y1 (Za (Zn (qvN 0)) Zb)) (Z4 c_MOST_MOMENTS r_MOST_MOMENTS) (Z2 _)) (Zf (Ys Yk er (Yz (Yc (Yq (Z4 c_MOST_MOMENTS r_MOST_MOMENTS) (Yc Yy)))))) Zo)),?_⟩
 obtain⟨dx,ob⟩:=W.ob
 obtain⟨vs,d1,_,d2⟩:=(W.ls (M.ld,m.deeds) (by simp[Mo.at_])).get
 dsimp only at d1 d2
 unfold Yh at k
 refine⟨_,rfl,M.p,CM,dx,_,_,rfl,ob,Tm.cl,Tm.nd,Vy _,M.ld,vs,rfl,.inl (SqL.of d1),_,_,rfl,rfl,_,rfl,Z6 (fun z=>?_) (fun z=>?_)⟩
 ·rw[if_neg (by lia)] at k
  exact⟨by decide +kernel,.inr ⟨400,rfl,by decide +kernel⟩,by decide +kernel,fun _=>k⟩
 ·rw[if_pos (by lia)] at k;exact k
end
section
variable{P:Program}{w:World}{K:uFg}{mg:Str->Option Value}{base:Heap}{c:Str->Addr}
def Wa(ss:List Suit)(i:Int)(n:Str):Option Str:=match ss[i.toNat]? with
 | some t=>if inB i ss.length then (if n∈(t.ones++t.others).map (·.1) then none else some "NoOath") else some "NoCase"
 | none=>some "NoCase"
inductive spOathX (c:Str->Addr) (vs:List V) (H:Hp) (Q:VK) (E:XK):Prop
 | mk (l:Addr) (ss:List Suit) (i:Int) (n:Str) (h0:vs = [.ref l,.int i,.str n]) (h1:SuitsAt H ss l) (h2:(∀t∈ss,Uo t)) (h3:okI i) (h4:n.length<=100) (h5:∀H',Same H H'->due E c H' (Q .non H') (Wa ss i n))
abbrev Zmx:Stmt:=top 53
theorem Zz4(Zhd:Has K mg "check_oath" Zmx)(T:Txt mg)(C0:∃t,mg "ONES" = some (.int 0 t))(C1:∃t,mg "OTHERS" = some (.int 1 t))(er:Er K mg c errs)(Zz5:FnX P w K mg base "check_case" 1 (spCaseX c)) :
  FnX P w K mg base "check_oath" 2 (spOathX c):=by
 obtain⟨t0,c_ONES⟩:=C0
 obtain⟨t1,c_OTHERS⟩:=C1
 have r_ONES:RelV (.int 0) (.int 0 t0):=⟨t0,rfl⟩
 have r_OTHERS:RelV (.int 1) (.int 1 t1):=⟨t1,rfl⟩
 refine Zhd.fx ["suits", "case", "name"] ["suits", "case", "name"] fun H vs Q E hr h=>?_
 obtain⟨l,ss,i,n,rfl,hsu,hok,hi,hn,k⟩:=h
 refine⟨rfl,_,(Zd (Zh (Y7 Zr Zz5 (Za (qvN 0) (Za (qvN 1) Zb))))
 (Zf (Zp (Zs Ziv (qvN 2) (Uu (locs:=["swearer", "weight"]) (fr:=[]) ⟨rfl,by decide +kernel,by decide +kernel,by decide +kernel,by decide +kernel,by decide +kernel⟩ .nil rfl (Vu (Zu Wk (Zk Zx (Zk Yx (qvN 0) (qvN 1) (fun _ _=>rfl)) (Z4 c_ONES r_ONES) (fun _ _=>rfl)) (Zk Zx (Zk Yx (qvN 0) (qvN 1) (fun _ _=>rfl)) (Z4 c_OTHERS r_OTHERS) (fun _ _=>rfl)))) ⟨fun _ _ _ _ _ _=>by
  have cnd:(inN ["swearer", "weight"] []).Nodup:=by decide +kernel
  exact⟨(Zdm 2 (by rfl) (Vb (Vv 0 cnd) (Vb (Vv 1 cnd) Zbu))),Zbw,(V5 0)⟩⟩) rfl) (Zf (Ys Yk er (Yz (Yq (qvN 2) (Yc (Yq (qvN 1) Yy)))))) Zo))),?_⟩
 have hz:(5000:Nat)<=sizeLine:=by decide
 obtain⟨us,hl,hrep⟩:=id hsu
 have hul:us.length=ss.length:=by have:=hrep.length;rw[xA] at this;exact this
 refine⟨_,rfl,_,rfl,l,us,i,rfl,hl,hi,?_⟩
 by_cases hb:inB i ss.length
 ·unfold Wa at k
  rw[if_pos (by rw[hul];exact hb)]
  obtain⟨j,rfl⟩:=yO hb.1
  have hj:j < ss.length:=by have:=hb.2;lia
  have ht:ss[j]? = some ss[j]:=xB hj
  generalize ss[j]=t at ht
  rw[yR,ht] at k
  dsimp only at k
  rw[if_pos hb] at k
  obtain⟨ta,u1,u2,u4,hu,hta,⟨b1,w1,rfl,hb1,hr1⟩,⟨b2,w2,rfl,hb2,hr2⟩,h4⟩:=SuitsAt.get (l:=l) hrep ht
  obtain⟨L1,L2',_,_⟩:=hok t (xO ht)
  have z1:=hr1.len
  have z2:=hr2.len
  have y1:=L1.2
  have y2:=L2'.2
  refine⟨_,rfl,_,rfl,_,rfl,l,us,j,.ref ta,rfl,rfl,SqL.of hl,Va hu,ta,_,0,.ref b1,rfl,rfl,SqT.of hta,rfl,?_⟩
  refine⟨_,rfl,_,rfl,l,us,j,.ref ta,rfl,rfl,SqL.of hl,Va hu,ta,_,1,.ref b2,rfl,rfl,SqT.of hta,rfl,?_⟩
  refine⟨b1,b2,w1,w2,rfl,rfl,hb1,hb2,by lia,fun q hq=>?_⟩
  have Sc:=Same.new (o:=.lst (w1++w2)) hq
  have kc:(upd H q (.lst (w1++w2))) q=some (.lst (w1++w2)):=Zg
  generalize (upd H q (.lst (w1++w2)))=H2 at Sc kc ⊢
  have hrs:RepS H2 (t.ones++t.others) (w1++w2):=RepS.mono (Same.t Sc) (RepS.app hr2 hr1)
  refine⟨q,rfl,⟨_,SqL.of kc⟩,?_⟩
  refine Ztn kc hrs (by rw[xJ];lia) fun l2 hl2=>?_
  refine⟨l2,_,rfl,.inl (SqL.of Zg),rfl,Zjq _,_,rfl,?_⟩
  rw[Zkj]
  refine Vk (fun z=>?_) (fun z=>?_)
  ·rw[if_neg z] at k
   exact⟨_,rfl,.inl ⟨n,rfl,by lia⟩,by decide +kernel,_,rfl,.inr ⟨_,rfl,Wc hi⟩,fun _=>k _ (Sc.trans (Same.new hl2))⟩
  ·rw[if_pos z] at k;exact k _ (Sc.trans (Same.new hl2))
 ·rw[if_neg (by rw[hul];exact hb)]
  have e:Wa ss i n=some "NoCase" := by
   unfold Wa
   cases ss[i.toNat]? with
   | none=>rfl
   | some t=>exact if_neg hb
  have k:=k H (Same.refl H)
  rw[e] at k
  exact k
inductive spBreakers (vs:List V) (H:Hp) (Q:VK) (z3:XK):Prop
 | mk (l:Addr) (ss:List Suit) (i:Nat) (n:Str) (h0:vs = [.ref l,.int i,.str n]) (h1:SuitsAt H ss l) (h2:(∀t∈ss,Uo t)) (h3:ss.length<=1000) (h4:n.length<=100) (h5:Wa ss i n=none) (h6:∀(l2:Addr)(H':Hp),H l2=none->H' l2=some (.lst (Wt (Zbl ss i n)))->Same H H'->Q (.ref l2) H')
abbrev Zmy:Stmt:=top 48
theorem Zz6(Zhe:Has K mg "breakers" Zmy)(T:Txt mg)(Zhf:FnX P w K mg base "check_oath" 2 (spOathX c))(Zz7:Fn P w K mg base "breaking" ["suits"] 5 spBreaking) :
  Fn P w K mg base "breakers" ["suits", "case", "name"] 6 spBreakers:=by
 refine Zhe.fq ["suits", "case", "name"] fun H vs Q E hr h=>?_
 obtain⟨l,ss,i,n,rfl,hsu,hok,hlen,hn,ho,k⟩:=h
 refine⟨rfl,_,(Zd (Zh (Y7 Xq.never Zhf (Za (qvN 0) (Za (qvN 1) (Za (qvN 2) Zb)))))
 (Zf (Z5 (Zj0 hr (Yg Zz7 (Za (qvN 0) Zb)) (Z9 (Za (qvN 1) (Za (qvN 2) Zb))) (Zz Zb))))),?_⟩
 have hi:i < ss.length:=by
  unfold Wa at ho
  cases e:ss[(i:Int).toNat]? with
  | none=>rw[e] at ho;cases ho
  | some t=>rw[yR] at e;exact(xG.mp e).1
 refine⟨_,rfl,_,rfl,_,rfl,l,ss,i,n,rfl,hsu,hok,by unfold okI;lia,hn,fun H1 sm1=>?_⟩
 rw[ho]
 refine⟨_,rfl,l,ss,rfl,hsu.mono sm1,hok,hlen,fun g H2 hg ⟨kvs,a1,a2,a3,a4⟩ hfr sm2=>⟨g,rfl,.inr ⟨kvs,.inl a1⟩,?_⟩⟩
 refine⟨_,rfl,_,rfl,by show 2<=sizeLine;decide,fun q hq=>?_⟩
 have Sq:=Same.new (o:=.tup [.int i,.str n]) hq
 have kq:(upd H2 q (.tup [.int i,.str n])) q=some (.tup [.int i,.str n]):=Zg
 generalize (upd H2 q (.tup [.int i,.str n]))=H3 at Sq kq ⊢
 refine⟨by show 0<=sizeLine;decide,fun e he=>?_⟩
 have Se:=Same.new (o:=.lst []) he
 have ke:(upd H3 e (.lst [])) e=some (.lst []):=Zg
 generalize (upd H3 e (.lst []))=H4 at Se ke ⊢
 have S24:=Sq.trans Se
 have S:=(sm1.trans sm2).trans S24
 refine⟨_,DGet.t (S24 _ _ a1) (k:=Yd i n) (Se _ _ kq),?_⟩
 rcases a4 i n with⟨e1,e2⟩ | ⟨a,e1,e2⟩
 ·rw[e1]
  refine k e H4 (((sm1.trans sm2).trans Sq).free he) ?_ S
  unfold Zbl
  rw[e2]
  exact ke
 ·rw[e1]
  exact k a H4 (sm1.free (hfr kvs i n a a1 e1)) (S24 _ _ e2) S
end
section
variable{P:Program}{w:World}{K:uFg}{mg:Str->Option Value}{base:Heap}{C CM:Addr}{c:Str->Addr}
theorem Zd2{t u:TS}{D:_}{σ:St}{H:Hp}(Rk:Hp->Prop)(h:(∀H',Rk H'->u D σ H')->Vs t u D σ H)(k:∀H',Rk H'->u D σ H'):Vs t u D σ H:=h k
theorem Zcp{f:Str->Option Str}:∀{ps:List Str}{i:Nat}{n x:Str},ps[i]? = some n->(∀j < i,∀y,ps[j]? = some y->f y=none)->f n=some x->ps.findSome? f=some x
 | [],i,n,x,h,_,_=>by cases h
 | p::ps,0,n,x,h,_,e=>by cases h;rw[List.findSome?_cons,e]
 | p::ps,i+1,n,x,h,a,e=>by rw[List.findSome?_cons,a 0 (by lia) p rfl];exact Zcp (i:=i) h (fun j hj y hy=>a (j+1) (by lia) y hy) e
theorem Zdp{f:Str->Option Str}{ps:List Str}(a:∀j < ps.length,∀y,ps[j]? = some y->f y=none):ps.findSome? f=none:=by
 rw[List.findSome?_eq_none_iff]
 intro x hx
 obtain⟨j,hj,e⟩:=List.getElem_of_mem hx
 exact a j hj x (by rw[xB hj,e])
theorem Zdq{f:Str->Option Str}{ps:List Str}{i:Nat}{n:Str}(h:ps[i]? = some n)(a:∀j < i,∀y,ps[j]? = some y->f y=none)(e:f n=none):∀j < i+1,∀y,ps[j]? = some y->f y=none:=fun j hj y hy=>by
 by_cases z:j=i
 ·subst z;rw[h] at hy;cases hy;exact e
 ·exact a j (by lia) y hy
structure MoK (m:Mo):Prop where
 ok:∀t∈m.trials,Uo t
 dl:m.days.length=m.trials.length
 br:∀(i:Nat)(e:D),m.brs[i]? = some e->∃(x:Str)(d:Int),e = .tup [.str x,.int d]
 le:m.trials.length<=60
 vl:m.verd.length=m.trials.length
 hb:m.haps.length=m.brs.length
 hl:∀q∈m.haps,q.length<=m.deeds.length
 ql:m.debts.length<=m.deeds.length
def brD(m:Mo)(i:Int):Int:=match m.brs[i.toNat]? with
 | some (.tup [_,.int d])=>d
 | _=>0
def Yt(ds:List Deed)(m:Mo)(day:Int)(ps:List Str)(th:Option Int)(oa:Option (Int×Str)):Option Str :=
 (ps.findSome? (Wd ds)).or ((th.bind (Vr m)).or ((oa.bind fun p=>Wa m.trials p.1 p.2).or ((ps.findSome? fun n=>Yn ((Zj ds n).getD 0) day).or ((th.bind fun i=>Yn (brD m i) day).or
  ((oa.bind fun p=>Yn (m.days.getD p.1.toNat 0) day).or (ps.findSome? fun n=>Vg ds n day))))))
def thV:Option Int->V
 | none=>.non
 | some i=>.int i
def oaV(H:Hp):Option (Int×Str)->V->Prop
 | none,v=>v = .non
 | some (i,n),v=>okI i/\n.length<=100/\∃a,v = .ref a/\H a=some (.tup [.int i,.str n])
inductive spNamedX (C CM:Addr) (c:Str->Addr) (vs:List V) (H:Hp) (Q:VK) (E:XK):Prop
 | mk (M:ML) (ds:List Deed) (wa:Str->Addr) (xs:List Addr) (m:Mo) (qs:List Addr) (day:Int) (pl:Addr) (ps:List Str) (th:Option Int) (oa:Option (Int×Str)) (v2:V) (h0:vs = [.ref M.p,.int day,.ref pl,thV th,v2]) (h1:MootAt C CM H M ds wa xs m qs) (h2:MoK m) (h3:H pl=some (.lst (ps.map V.str))) (h4:(∀n∈ps,n.length<=100)) (h5:okI day) (h6:(∀i,th=some i->okI i)) (h7:oaV H oa v2) (h8:∀H',Same H H'->due E c H' (Q .non H') (Yt ds m day ps th oa))
abbrev Zmz:Stmt:=Ye (top 61) 40
theorem Zok(Zhg:HasM K CM "check_named" "Moot.check_named" Zmz)(Tc:TxC K C)(Tm:TxCMoot K CM)(er:Er K mg c errs)(M_check_known:MtX P w K mg base C "check_known" 1 (spKnownX C c))(M_check_there:MtX P w K mg base C "check_there" 1 (spThereX C c))(M_check_living:MtX P w K mg base C "check_living" 2 (spLivingX C c))(MM_check_thing:MtX P w K mg base CM "check_thing" 1 (spThingX C CM c))(Zhf:FnX P w K mg base "check_oath" 2 (spOathX c)):MtX P w K mg base CM "check_named" 3 (spNamedX C CM c):=by
 refine Zhg.mx ["self", "day", "people", "thing", "oath", "name"] ["self", "day", "people", "thing", "oath"] fun H vs Q E hr h=>?_
 obtain⟨M,ds,wa,xs,m,qs,day,pl,ps,th,oa,v2,rfl,W,ok,hpl,hps,hd,hth,hoa,k⟩:=h
 refine⟨rfl,_,(Zd (Zco Zc7 Yk (by rfl) (Vu (qvN 2)) (Wq 5)
 (fun hxq hxp=>(Zf (Zh (Z8 hxq (Zn (qvN 0)) Tc.cl M_check_known (Za (qvN 5) Zb))))))
 (Zd (Zp (Zs Zbf (qvN 3) We (Z2 _)) (Zf (Zh (Z8 Zr (qvN 0) Tm.cl MM_check_thing (Za (qvN 3) Zb)))) Zo)
 (Zd (Zp (Zs Zbf (qvN 4) We (Z2 _)) (Zf (Zh (Y7 Zr Zhf (Za (Zn (qvN 0)) (Za (Zk Zx (qvN 4) Ze (fun _ _=>rfl)) (Za (Zk Zx (qvN 4) Ze (fun _ _=>rfl)) Zb)))))) Zo)
 (Zd (Zco Zc7 Yk (by rfl) (Vu (qvN 2)) (Wq 5)
 (fun hxq hxp=>(Zf (Zh (Z8 hxq (Zn (qvN 0)) Tc.cl M_check_there (Za (qvN 5) (Za (qvN 1) Zb)))))))
 (Zd (Zp (QW.pt (Zcq (Zs Zbf (qvN 3) We (Z2 _)) (Zdk (Zs Uk (qvN 1) (Zk Zx (Zk Yx (Zn (qvN 0)) (qvN 3) (fun _ _=>rfl)) Ze (fun _ _=>rfl)) (Z2 _))))) (Zf (Ys Yk er (Yz (Yc (Yq (qvN 3) (Yc (Yq (qvN 1) Yy))))))) Zo)
 (Zd (Zp (QW.pt (Zcq (Zs Zbf (qvN 4) We (Z2 _)) (Zdk (Zs Uk (qvN 1) (Zk Yx (Zn (qvN 0)) (Zk Zx (qvN 4) Ze (fun _ _=>rfl)) (fun _ _=>rfl)) (Z2 _))))) (Zf (Ys Yk er (Yz (Yc (Yq (qvN 1) Yy))))) Zo)
 (Zf (Zco Zc7 Yk (by rfl) (Vu (qvN 2)) (Wq 5)
 (fun hxq hxp=>(Zf (Zh (Z8 hxq (Zn (qvN 0)) Tc.cl M_check_living (Za (qvN 5) (Za (qvN 1) Zb)))))))))))))),?_⟩
 obtain⟨dm,obm⟩:=W.ob
 have F:=W.fk.f
 obtain⟨dx,ob⟩:=F.ob
 have hget:∀{i:Nat}{v:V},(ps.map V.str)[i]? = some v->∃n,v = .str n/\ps[i]? = some n/\n.length<=100:=fun {i v} hv=>by
  rw[xP] at hv
  obtain⟨a,h1,h2⟩:=yE.mp hv
  exact⟨a,h2.symm,h1,hps a (xO h1)⟩
 have hlen:(ps.map V.str).length=ps.length:=xA ..
 unfold Yt at k
 refine⟨_,rfl,pl,rfl,⟨_,SqL.of hpl⟩,?_⟩
 refine Zar (ps.map V.str) (fun i σ H'=>∃v5:Option V,σ = [some (.ref M.p),some (.int day),some (.ref pl),some (thV th),some v2,v5]/\H=H'/\∀j < i,∀y,ps[j]? = some y->Wd ds y=none) ⟨none,rfl,rfl,fun j hj=>absurd hj (by lia)⟩ (fun i σ H' _ ⟨_,_,e,_⟩=>by rw[← e];exact SqL.of hpl) ?_ ?_
 ·rintro i v σ H' hv ⟨v5,rfl,rfl,ha⟩
  obtain⟨n,rfl,hn,hl⟩:=hget hv
  refine⟨_,rfl,M.p,CM,dm,_,_,rfl,obm,Tm.cl,Tm.nf,V1 _,M.L.p,dx,_,rfl,ob,Yr _ _ _ _ (by decide +kernel),_,rfl,M.L,ds,n,rfl,F,hl,?_⟩
  cases e:Wd ds n with
  | none=>exact⟨_,rfl,rfl,Zdq hn ha e⟩
  | some x =>
   rw[Zcp hn ha e] at k
   exact k H (Same.refl H)
 rintro σ H' ⟨v5,rfl,rfl,ha⟩
 rw[hlen] at ha
 rw[Zdp ha,xD] at k
 have hcom:∀i n,ps[i]? = some n->∃d,Zj ds n=some d:=fun i n hi=>by
  have:=ha i (xG.mp hi).1 n hi
  unfold Wd at this
  cases e:Zj ds n with
  | none=>rw[if_pos e] at this;cases this
  | some d=>exact⟨d,rfl⟩
 try dsimp only
 refine Zd2 (fun H'=>Same H H'/\th.bind (Vr m)=none) (fun kk=>?_) (fun H1 ⟨S1,e1⟩=>?_)
 ·cases th with
  | none=>exact⟨_,rfl,rfl,_,rfl,Yj (kk H ⟨Same.refl H,rfl⟩)⟩
  | some i =>
   refine⟨_,rfl,rfl,_,rfl,Ym ⟨_,rfl,M.p,dm,_,rfl,obm,Z7 _ (by decide +kernel),_,rfl,M,ds,wa,xs,m,qs,i,rfl,W,hth i rfl,?_⟩⟩
   rw[yU] at k
   cases e:Vr m i with
   | none=>exact kk H ⟨Same.refl H,e⟩
   | some x=>rw[e] at k;exact k H (Same.refl H)
 rw[e1,xD] at k
 have W1:=W.same S1
 try dsimp only
 refine Zd2 (fun H'=>Same H H'/\(oa.bind fun p=>Wa m.trials p.1 p.2)=none) (fun kk=>?_) (fun H2 ⟨S2,e2⟩=>?_)
 ·cases oa with
  | none =>
   obtain rfl:=hoa
   exact⟨_,rfl,rfl,_,rfl,Yj (kk H1 ⟨S1,rfl⟩)⟩
  | some p =>
   obtain⟨hi,hn,a,rfl,ha⟩:=hoa
   obtain⟨ts,t1,t2,_⟩:=(W1.ls (M.lt,m.trials.map Ws) (by simp[Mo.at_])).get
   refine⟨_,rfl,rfl,_,rfl,Ym ⟨_,rfl,M.p,CM,dm,_,_,rfl,S1 _ _ obm,Tm.cl,Tm.nt,Zav _,_,rfl,a,_,0,_,rfl,rfl,SqT.of (S1 _ _ ha),rfl,_,rfl,a,_,1,_,rfl,rfl,SqT.of (S1 _ _ ha),rfl,?_⟩⟩
   refine⟨M.lt,m.trials,p.1,p.2,rfl,⟨ts,t1,t2⟩,ok.ok,hi,hn,fun H' S'=>?_⟩
   rw[yU] at k
   cases e:Wa m.trials p.1 p.2 with
   | none=>exact kk H' ⟨S1.trans S',e⟩
   | some x=>rw[e] at k;exact k H' (S1.trans S')
 rw[e2,xD] at k
 have W2:=W.same S2
 have F2:=W2.fk.f
 refine⟨_,rfl,pl,rfl,⟨_,SqL.of (S2 _ _ hpl)⟩,?_⟩
 refine Zar (ps.map V.str) (fun i σ H'=>∃v5:Option V,σ = [some (.ref M.p),some (.int day),some (.ref pl),some (thV th),some v2,v5]/\H2=H'/\∀j < i,∀y,ps[j]? = some y->Yn ((Zj ds y).getD 0) day=none) ⟨v5,rfl,rfl,fun j hj=>absurd hj (by lia)⟩ (fun i σ H' _ ⟨_,_,e,_⟩=>by rw[← e];exact SqL.of (S2 _ _ hpl)) ?_ ?_
 ·rintro i v σ H' hv ⟨v5,rfl,rfl,ha⟩
  obtain⟨n,rfl,hn,hl⟩:=hget hv
  obtain⟨d,hc⟩:=hcom i n hn
  refine⟨_,rfl,M.p,CM,dm,_,_,rfl,S2 _ _ obm,Tm.cl,Tm.nf,V1 _,M.L.p,dx,_,rfl,S2 _ _ ob,Yr _ _ _ _ (by decide +kernel),_,rfl,_,rfl,M.L,ds,n,d,day,rfl,F2,hc,hl,hd,?_⟩
  have eq:Yn ((Zj ds n).getD 0) day=Yn d day:=by rw[hc];rfl
  cases e:Yn d day with
  | none=>exact⟨_,rfl,rfl,Zdq hn ha (eq.trans e)⟩
  | some x =>
   rw[Zcp hn ha (eq.trans e)] at k
   exact k H2 S2
 rintro σ H' ⟨v5,rfl,rfl,hb⟩
 rw[hlen] at hb
 rw[Zdp hb,xD] at k
 try dsimp only
 refine Zd2 (fun H'=>Same H H'/\(th.bind fun i=>Yn (brD m i) day)=none) (fun kk=>?_) (fun H3 ⟨S3,e3⟩=>?_)
 ·cases th with
  | none=>exact⟨_,rfl,rfl,_,rfl,Yj (Yj (kk H2 ⟨S2,rfl⟩))⟩
  | some i =>
   obtain⟨vs,b1,b2,b3⟩:=(W2.ls (M.lb,m.brs) (by simp[Mo.at_])).get
   dsimp only at b1 b2 b3
   have hin:inB i m.brs.length:=by
    rw[yU] at e1
    unfold Vr at e1
    by_cases z:inB i m.brs.length
    ·exact z
    ·rw[if_neg z] at e1;cases e1
   obtain⟨j,rfl⟩:=yO hin.1
   have hj:j < vs.length:=by have:=hin.2;lia
   obtain⟨e,he,re⟩:=b2.get (xB hj)
   obtain⟨x,d,rfl⟩:=ok.br j e he
   obtain⟨a,us,ea,ha,⟨_,_,rfl,rfl,⟨_,_,rfl,rfl,rfl⟩⟩⟩:=re
   have hbr:brD m (j:Int)=d:=by unfold brD;rw[yR,he]
   rw[yU,hbr] at k
   refine⟨_,rfl,rfl,_,rfl,Ym ⟨_,rfl,_,rfl,M.p,CM,dm,_,_,rfl,S2 _ _ obm,Tm.cl,Tm.nb,Zcl _,_,rfl,M.lb,vs,j,_,rfl,rfl,SqL.of b1,Va (xB hj),a,_,1,_,ea,rfl,SqT.of ha,rfl,_,_,rfl,rfl,_,rfl,Z6 (fun z=>?_) (fun z=>?_)⟩⟩
   ·have e:Yn d day=some "NotYet" := if_pos z
    rw[e] at k
    exact⟨by decide +kernel,_,rfl,.inr ⟨_,rfl,Wc (hth _ rfl)⟩,by decide +kernel,_,rfl,.inr ⟨_,rfl,Wc hd⟩,fun _=>k H2 S2⟩
   ·exact kk H2 ⟨S2,by rw[yU,hbr];exact if_neg z⟩
 rw[e3,xD] at k
 have W3:=W.same S3
 try dsimp only
 refine Zd2 (fun H'=>Same H H'/\(oa.bind fun p=>Yn (m.days.getD p.1.toNat 0) day)=none) (fun kk=>?_) (fun H4 ⟨S4,e4⟩=>?_)
 ·cases oa with
  | none =>
   obtain rfl:=hoa
   exact⟨_,rfl,rfl,_,rfl,Yj (Yj (kk H3 ⟨S3,rfl⟩))⟩
  | some p =>
   obtain⟨i,n⟩:=p
   obtain⟨hi,hn,a,rfl,ha⟩:=hoa
   obtain⟨vs,y1,y2,y3⟩:=(W3.ls (M.ly,m.days.map D.int) (by simp[Mo.at_])).get
   dsimp only at y1 y2 y3
   rw[xA] at y3
   have hin:inB i m.trials.length:=by
    rw[yU] at e2
    unfold Wa at e2
    by_cases z:inB i m.trials.length
    ·exact z
    ·split at e2
     ·rw[if_neg z] at e2;cases e2
     ·cases e2
   obtain⟨j,rfl⟩:=yO hin.1
   have hj:j < vs.length:=by have:=hin.2;have:=ok.dl;lia
   obtain⟨e,he,re⟩:=y2.get (xB hj)
   rw[xP] at he
   obtain⟨d,hd1,rfl⟩:=yE.mp he
   have re:vs[j]= .int d:=re
   have hdd:m.days.getD (j:Int).toNat 0=d:=by rw[yR,xR,hd1];rfl
   rw[yU] at k
   dsimp only at k
   rw[hdd] at k
   refine⟨_,rfl,rfl,_,rfl,Ym ⟨_,rfl,_,rfl,M.p,CM,dm,_,_,rfl,S3 _ _ obm,Tm.cl,Tm.ny,Zkp _,_,rfl,a,_,0,_,rfl,rfl,SqT.of (S3 _ _ ha),rfl,M.ly,vs,j,.int d,rfl,rfl,SqL.of y1,re▸Va (xB hj),_,_,rfl,rfl,_,rfl,Z6 (fun z=>?_) (fun z=>?_)⟩⟩
   ·have e:Yn d day=some "NotYet" := if_pos z
    rw[e] at k
    exact⟨by decide +kernel,_,rfl,.inr ⟨_,rfl,Wc hd⟩,fun _=>k H3 S3⟩
   ·exact kk H3 ⟨S3,by rw[yU];dsimp only;rw[hdd];exact if_neg z⟩
 rw[e4,xD] at k
 have W4:=W.same S4
 have F4:=W4.fk.f
 refine⟨_,rfl,pl,rfl,⟨_,SqL.of (S4 _ _ hpl)⟩,?_⟩
 refine Zar (ps.map V.str) (fun i σ H'=>∃v5:Option V,σ = [some (.ref M.p),some (.int day),some (.ref pl),some (thV th),some v2,v5]/\H4=H'/\∀j < i,∀y,ps[j]? = some y->Vg ds y day=none) ⟨v5,rfl,rfl,fun j hj=>absurd hj (by lia)⟩ (fun i σ H' _ ⟨_,_,e,_⟩=>by rw[← e];exact SqL.of (S4 _ _ hpl)) ?_ ?_
 ·rintro i v σ H' hv ⟨v5,rfl,rfl,ha⟩
  obtain⟨n,rfl,hn,hl⟩:=hget hv
  refine⟨_,rfl,M.p,CM,dm,_,_,rfl,S4 _ _ obm,Tm.cl,Tm.nf,V1 _,M.L.p,dx,_,rfl,S4 _ _ ob,Yr _ _ _ _ (by decide +kernel),_,rfl,_,rfl,M.L,ds,n,day,rfl,F4,hl,hd,?_⟩
  cases e:Vg ds n day with
  | none=>exact⟨_,rfl,rfl,Zdq hn ha e⟩
  | some x =>
   rw[Zcp hn ha e] at k
   exact k H4 S4
 rintro σ H' ⟨v5,rfl,rfl,hg⟩
 rw[hlen] at hg
 rw[Zdp hg] at k
 exact k _ S4
end
section
variable{P:Program}{w:World}{K:uFg}{mg:Str->Option Value}{base:Heap}{C CM:Addr}{c:Str->Addr}
def wOk(ds:List Deed)(day:Int)(f:Str->Int)(n:Str):Prop:=∃d,Zj ds n=some d/\d<=day/\IsW (kw ds n) day (f n)
inductive spWeighed (C CM:Addr) (vs:List V) (H:Hp) (Q:VK) (z3:XK):Prop
 | mk (M:ML) (ds:List Deed) (wa:Str->Addr) (xs:List Addr) (m:Mo) (qs:List Addr) (nl:Addr) (ns:List Str) (day:Int) (f:Str->Int) (h0:vs = [.ref M.p,.ref nl,.int day]) (h1:MootAt C CM H M ds wa xs m qs) (h2:ds.length<=1000) (h3:H nl=some (.lst (ns.map V.str))) (h4:ns.length<=60) (h5 : 0<=day) (h6:day<=9999) (h7:(∀n∈ns,wOk ds day f n)) (h8:∀(l:Addr)(us:List V)(H':Hp),H l=none->Same H H'->H' l=some (.lst us)->RepS H' (ns.map fun n=>(n,f n)) us->Q (.ref l) H')
abbrev Zd3:Stmt:=Ye (top 61) 38
theorem Nq6:Nm (Zm Zd3) "day" .cell:=by decide +kernel
theorem Nq7:Nm (Zm Zd3) "self" .cell:=by decide +kernel
theorem Zpr(Zhh:HasM K CM "weighed" "Moot.weighed" Zd3)(Tc:TxC K C)(Tm:TxCMoot K CM)(M_weight:Mt P w K mg base C "weight" ["self", "name", "day"] 2 (spWeigh C)):Mt P w K mg base CM "weighed" ["self", "names", "day"] 3 (spWeighed C CM):=by
 refine Zhh.mq ["self", "names", "day"] fun H vs Q E hr h=>?_
 obtain⟨M,ds,wa,xs,m,qs,nl,ns,day,f,rfl,W,hds,hnl,hlen,h0,h1,hw,k⟩:=h
 refine⟨rfl,_,(Zf (Z5 (Uu (locs:=["name"]) (fr:=[("self", 0),("day", 2)]) ⟨rfl,by decide +kernel,by decide +kernel,by decide +kernel,by decide +kernel,by decide +kernel⟩ (.consN Nq7 (.consN Nq6 .nil)) rfl (Vu (qvN 1)) ⟨fun _ _ _ _ _ _=>by
  have cnd:(inN ["name"] [("self", 0),("day", 2)]).Nodup:=by decide +kernel
  exact⟨(Vv 0 cnd),Zbw,(Z9 (Za (V5 0) (Za (Y2 (Zvf (Za3 1)) Tc.cl M_weight (Za (V5 0) (Za (Za3 2) Zb))) Zb)))⟩⟩))),?_⟩
 have hz:(60:Nat)<=sizeLine:=by decide
 obtain⟨dm,obm⟩:=W.ob
 obtain⟨dx,ob⟩:=W.fk.f.ob
 refine⟨_,rfl,nl,rfl,⟨_,SqL.of hnl⟩,?_⟩
 refine Zdf (xs:=ns.map V.str) (fun i ys H'=>Same H H'/\RepS H' ((ns.take i).map fun n=>(n,f n)) ys) ⟨Same.refl H,rfl⟩ (by rw[xA];lia) (fun i ys H' _ ⟨e,_⟩=>SqL.of (e _ _ hnl)) ?_ ?_ ?_
 ·rintro i ys H' ⟨_,r⟩
  rw[r.len,xA,xY];lia
 ·rintro i x ys H' hx ⟨S,r⟩ ls hls
  obtain⟨u,rfl⟩:=Zc5 hls
  rw[xP] at hx
  obtain⟨n,hn,rfl⟩:=yE.mp hx
  obtain⟨d,hc,hd,hi⟩:=hw n (xO hn)
  have W1:=W.same S
  refine⟨⟨[_],rfl,rfl⟩,Ym ?_⟩
  refine⟨_,rfl,_,rfl,M.p,CM,dm,_,_,rfl,S _ _ obm,Tm.cl,Tm.nf,V1 _,M.L.p,dx,_,rfl,S _ _ ob,Yr _ _ _ _ (by decide +kernel),_,rfl,_,rfl,M.L,ds,wa,n,day,d,f n,rfl,W1.fk.f,W1.fk.w,hds,h0,h1,hc,hd,hi,fun H2 S2=>?_⟩
  refine⟨by show 2<=sizeLine;decide,fun q hq=>⟨(S.trans S2).trans (Same.new hq),?_⟩⟩
  rw[yP,hn,xQ]
  exact RepS.snoc (p:=(n,f n)) Zg (RepS.mono (Same.t (S2.trans (Same.new hq))) r)
 ·rintro ys H' ⟨S,r⟩ l hl
  rw[xA,yZ] at r
  exact k l ys _ (S.free hl) (S.trans (Same.new hl)) Zg (RepS.mono (Same.t (Same.new hl)) r)
end
section
variable{P:Program}{w:World}{K:uFg}{mg:Str->Option Value}{base:Heap}{C CM:Addr}{c:Str->Addr}
def Zbm(m:Mo)(n:Str)(i:Nat):Bool:=match (m.trials[i]?).bind (·.named) with
 | some p=>decide (p.2=n) && m.verd.getD i false && decide ((m.pen n).getD 0<=(i:Int))
 | none=>false
def Zaw(m:Mo)(k:Nat)(n:Str):Bool:=(List.range k).any (Zbm m n)
def V8(m:Mo)(n:Str):Bool:=Zaw m m.trials.length n
theorem Zdd(m:Mo)(k:Nat)(n:Str):Zaw m (k+1) n=(Zaw m k n || Zbm m n k):=by
 unfold Zaw
 rw[List.range_succ,List.any_append]
 simp
inductive spForsN (C CM:Addr) (vs:List V) (H:Hp) (Q:VK) (z3:XK):Prop
 | mk (M:ML) (ds:List Deed) (wa:Str->Addr) (xs:List Addr) (m:Mo) (qs:List Addr) (h0:vs = [.ref M.p]) (h1:MootAt C CM H M ds wa xs m qs) (h2:m.verd.length=m.trials.length) (h3:m.trials.length<=60) (h4:∀(g:Addr)(kvs:List (Key×V))(H':Hp),H g=none->Same H H'->H' g=some (.dK kvs)->(∀n:Str,(Zt kvs (.inr n)).isSome=V8 m n)->Q (.ref g) H')
abbrev Zm0:Stmt:=Ye (top 61) 37
theorem Zod(Zhi:HasM K CM "forsworn_names" "Moot.forsworn_names" Zm0)(T:Txt mg)(Tm:TxCMoot K CM)(C3:∃t,mg "NAMED" = some (.int 3 t)):Mt P w K mg base CM "forsworn_names" ["self"] 1 (spForsN C CM):=by
 obtain⟨t3,c_NAMED⟩:=C3
 have r_NAMED:RelV (.int 3) (.int 3 t3):=⟨t3,rfl⟩
 refine Zhi.mq ["self", "names", "case", "suit", "oath"] fun H vs Q E hr h=>?_
 obtain⟨M,ds,wa,xs,m,qs,rfl,W,hv,hle,k⟩:=h
 refine⟨rfl,_,(Zd (Zy 1 Zbs)
 (Zd (Uj PassesOwn.never rfl (Zkh T.enumerate (Za (Zn (qvN 0)) Zb)) (Zxi (by rfl) (Vb (Wq 2) (Vb (Wq 3) Zbu)))
 (Zd (Zy 4 (Zk Zx (qvN 3) (Z4 c_NAMED r_NAMED) (fun _ _=>rfl)))
 (Zf (Zp (QW.pt (Zcq (Zs Zbf (qvN 4) We (Z2 _)) (Zcq (Zbe (Zk Yx (Zn (qvN 0)) (qvN 2) (fun _ _=>rfl))) (Zdk (Zs Zaq (qvN 2) (Zj0 hr (Zn (qvN 0)) (Zk Zx (qvN 4) Ze (fun _ _=>rfl)) Ze) (Z2 _)))))) (Zf (Uv hr (qvN 1) (Zk Zx (qvN 4) Ze (fun _ _=>rfl)) Zb3)) Zo))))
 (Zf (Z5 (qvN 1))))),?_⟩
 have hz:(5000:Nat)<=sizeLine:=by decide
 obtain⟨dm,obm⟩:=W.ob
 refine fun g hg=>?_
 have Sg:=Same.new (o:=.dK []) hg
 have kg:(upd H g (.dK [])) g=some (.dK []):=Zg
 generalize (upd H g (.dK []))=H1 at Sg kg ⊢
 refine Y5 ?_
 have W1:=W.same Sg
 obtain⟨ts,t1,t2,t3'⟩:=(W1.ls (M.lt,m.trials.map Ws) (by simp[Mo.at_])).get
 obtain⟨bs,v1,v2,v3⟩:=(W1.ls (M.lv,m.verd.map D.bl) (by simp[Mo.at_])).get
 dsimp only at t1 t2 t3' v1 v2 v3
 rw[xA] at t3' v3
 obtain⟨pk,p1,p2,p3⟩:=W1.pn
 have ngp:∀{o:HO}{b:Addr},H b=some o->b≠g:=fun e z=>by rw[z,hg] at e;cases e
 refine⟨_,rfl,M.p,CM,dm,_,_,rfl,Sg _ _ obm,Tm.cl,Tm.nt,Zav _,M.lt,ts,rfl,SqL.of t1,?_⟩
 refine Zro ts (fun i σ H'=>∃(v2 v3 v4:Option V)(kvs:List (Key×V)),σ = [some (.ref M.p),some (.ref g),v2,v3,v4]/\Same H H'/\H' g=some (.dK kvs)/\(∀b o,b≠g->H1 b=some o->H' b=some o)/\kvs.length<=i/\∀n:Str,(Zt kvs (.inr n)).isSome=Zaw m i n) ⟨none,none,none,[],rfl,Sg,kg,fun _ _ _ e=>e,yL _,fun _=>rfl⟩
  (fun i σ H' _ ⟨_,_,_,_,_,_,_,k1,_⟩=>SqL.of (k1 _ _ (ngp ((W.ls (M.lt,m.trials.map Ws) (by simp[Mo.at_])).get.choose_spec.1)) t1)) ?_ ?_
 ·rintro i x p σ H' hx ⟨v2',v3',v4',kvs,rfl,S,kk,k1,hk,hf⟩ hp
  have Sp:=Same.new (o:=.tup [.int i,x]) hp
  have kp:(upd H' p (.tup [.int i,x])) p=some (.tup [.int i,x]):=Zg
  generalize (upd H' p (.tup [.int i,x]))=H2 at Sp kp ⊢
  have hi:i < ts.length:=(xG.mp hx).1
  obtain⟨t,ht⟩:∃t,m.trials[i]? = some t:=⟨_,xB (by lia)⟩
  obtain⟨vb,hvb⟩:∃vb,m.verd[i]? = some vb:=⟨_,xB (by lia)⟩
  obtain⟨ta,u1,u2,u4,hu,hta,_,_,h4⟩:=SuitsAt.get (l:=M.lt) t2 ht
  rw[hu] at hx
  cases hx
  have k2:∀b o,b≠g->H1 b=some o->H2 b=some o:=fun b o n e=>Sp _ _ (k1 b o n e)
  have kt:∀{b us},H1 b=some (.tup us)->H2 b=some (.tup us):=fun {b us} e=>k2 b _ (fun z=>by rw[z,kg] at e;cases e) e
  have hvd:m.verd.getD i false=vb:=by rw[xR,hvb];rfl
  refine⟨p,_,rfl,SqT.of kp,rfl,_,_,rfl,_,_,rfl,rfl,?_⟩
  refine⟨_,rfl,ta,_,3,u4,rfl,rfl,SqT.of (kt hta),rfl,?_⟩
  have stay:(∀n,Zbm m n i=false)->∃(v2 v3 v4:Option V)(kvs:List (Key×V)),[some (V.ref M.p),some (.ref g),some (.int i),some (.ref ta),some u4]= [some (.ref M.p),some (.ref g),v2,v3,v4]/\Same H H2/\H2 g=some (.dK kvs)/\(∀b o,b≠g->H1 b=some o->H2 b=some o)/\kvs.length<=i+1/\∀n:Str,(Zt kvs (.inr n)).isSome=Zaw m (i+1) n:=fun z =>
   ⟨_,_,_,kvs,rfl,S.trans Sp,Sp _ _ kk,k2,by lia,fun n=>by rw[Zdd,z,Bool.or_false];exact hf n⟩
  cases hn:t.named with
  | none =>
   rw[hn] at h4
   cases h4
   refine⟨_,rfl,rfl,_,rfl,Yj (Yj (stay fun n=>?_))⟩
   unfold Zbm;rw[ht,yU,hn]
  | some o =>
   rw[hn] at h4
   obtain⟨c0,n0⟩:=o
   obtain⟨b,bs',rfl,hb,⟨y1,r1,rfl,e1,⟨y2,r2,rfl,e2,e3⟩⟩⟩:=h4
   cases e1
   cases e2
   cases e3
   have hfb:∀n,Zbm m n i=(decide (n0=n) && vb && decide ((m.pen n).getD 0<=(i:Int))):=fun n=>by unfold Zbm;rw[ht,yU,hn,hvd]
   have ibs:i < bs.length:=by rw[v3];exact(xG.mp hvb).1
   obtain⟨e,he,re⟩:=v2.get (xB ibs)
   rw[xP,hvb] at he
   cases he
   have re:bs[i]= .bl vb:=re
   refine⟨_,rfl,rfl,_,rfl,Ym ?_⟩
   refine⟨_,rfl,M.p,CM,dm,_,_,rfl,k2 _ _ (ngp obm) (Sg _ _ obm),Tm.cl,Tm.nv,Zvq _,_,rfl,M.lv,bs,i,.bl vb,rfl,rfl,SqL.of (k2 _ _ (fun z=>by rw[z,kg] at v1;cases v1) v1),re▸Va (xB ibs),vb,rfl,?_⟩
   cases vb with
   | false=>exact Yj (Yj (stay fun n=>by rw[hfb,Bool.and_false];rfl))
   | true =>
    refine Ym ?_
    have ndp:M.dp≠g:=fun z=>by obtain⟨pk',q1,_⟩:=W.pn;rw[z,hg] at q1;cases q1
    have p1':=k2 _ _ ndp p1
    have gp:=DGet.k (k:=Sum.inr n0) p1'
    rw[p3] at gp
    refine⟨_,rfl,_,rfl,M.p,CM,dm,_,_,rfl,k2 _ _ (ngp obm) (Sg _ _ obm),Tm.cl,Tm.np,Zlh _,M.dp,rfl,.inl ⟨pk,.inl p1'⟩,_,rfl,b,_,1,_,rfl,rfl,SqT.of (kt hb),rfl,_,gp,?_⟩
    have eo:(Option.map V.int (m.pen n0)).getD (.int 0)= .int ((m.pen n0).getD 0):=by cases m.pen n0<;>rfl
    rw[eo]
    refine⟨_,_,rfl,rfl,_,rfl,Z6 (fun z=>?_) (fun z=>stay fun n=>?_)⟩
    ·refine⟨_,rfl,_,rfl,b,_,1,_,rfl,rfl,SqT.of (kt hb),rfl,g,_,rfl,DPut.k (k:=Sum.inr n0) (Sp _ _ kk) (by lia),?_⟩
     refine⟨_,_,_,Zw kvs (.inr n0) (.bl true),rfl,fun b o e=>?_,Zg,fun b o n e=>by rw[Zc n];exact k2 b o n e,xS (Vm _ _ _) (by lia),fun n=>?_⟩
     ·rw[Zc (ngp e)];exact(S.trans Sp) b o e
     ·rw[Uc,Zdd,hfb,← hf n]
      by_cases e:n=n0
      ·subst e;rw[if_pos rfl,yI rfl,yI z];simp
      ·rw[if_neg (fun y=>e (by injection y)),yH (fun y=>e y.symm)];simp
    ·rw[hfb]
     by_cases e:n0=n
     ·subst e;rw[yH z,Bool.and_false]
     ·rw[yH e];rfl
 ·rintro σ H' ⟨v2',v3',v4',kvs,rfl,S,kk,k1,hk,hf⟩
  rw[t3'] at hf
  exact⟨_,rfl,k g kvs H' hg S kk hf⟩
end
section
variable{P:Program}{w:World}{K:uFg}{mg:Str->Option Value}{base:Heap}{C CM:Addr}{c:Str->Addr}
abbrev Zv(f:Str->Int)(ns:List Str):Yv:=ns.map fun n=>(n,f n)
def Wx(m:Mo)(need:Int)(f:Str->Int)(o1 o2:List Str):Option Str :=
 if 60<=m.trials.length then some "TooMany" else if 12 < max o1.length o2.length then some "TooMany" else (Yh m).or (if V6 (o1++o2) < (o1++o2).length then some ("SwornTwice" : Str) else
  ((o1++o2).findSome? fun n=>if V8 m n=true then some ("Forsworn" : Str) else none).or (if (wts (Zv f o1)).sum < need then some ("TooLight" : Str) else none))
inductive spSidesX (C CM:Addr) (c:Str->Addr) (vs:List V) (H:Hp) (Q:VK) (E:XK):Prop
 | mk (M:ML) (ds:List Deed) (wa:Str->Addr) (xs:List Addr) (m:Mo) (qs:List Addr) (day need:Int) (l1 l2:Addr) (o1 o2:List Str) (f:Str->Int) (h0:vs = [.ref M.p,.int day,.int need,.ref l1,.ref l2]) (h1:MootAt C CM H M ds wa xs m qs) (h2:MoK m) (h3:ds.length<=1000) (h4:H l1=some (.lst (o1.map V.str))) (h5:H l2=some (.lst (o2.map V.str))) (h6:o1.length<=60) (h7:o2.length<=60) (h8 : 0<=day) (h9:day<=9999) (h10:okI need) (h11:(∀n∈o1++o2,n.length<=100/\wOk ds day f n/\1<=f n/\f n<=1000)) (h12:∀H',Same H H'->due E c H' (Q .non H') (Wx m need f o1 o2))
abbrev Zm1:Stmt:=Ye (top 61) 42
theorem Zol(Zhj:HasM K CM "check_sides" "Moot.check_sides" Zm1)(T:Txt mg)(Tm:TxCMoot K CM)(er:Er K mg c errs)(C0:∃t,mg "MOST_CASES" = some (.int 60 t))(C1:∃t,mg "MOST_SWEARERS" = some (.int 12 t))(MM_check_moments:MtX P w K mg base CM "check_moments" 1 (spMomX C CM c))(MM_forsworn_names:Mt P w K mg base CM "forsworn_names" ["self"] 1 (spForsN C CM))(MM_weighed:Mt P w K mg base CM "weighed" ["self", "names", "day"] 3 (spWeighed C CM))(Zz8:Fn P w K mg base "total" ["side"] 1 spTotal):MtX P w K mg base CM "check_sides" 4 (spSidesX C CM c):=by
 obtain⟨t0,c_MOST_CASES⟩:=C0
 obtain⟨t1,c_MOST_SWEARERS⟩:=C1
 have r_MOST_CASES:RelV (.int 60) (.int 60 t0):=⟨t0,rfl⟩
 have r_MOST_SWEARERS:RelV (.int 12) (.int 12 t1):=⟨t1,rfl⟩
 refine Zhj.mx ["self", "day", "need", "ones", "others", "barred", "name"] ["self", "day", "need", "ones", "others"] fun H vs Q E hr h=>?_
 obtain⟨M,ds,wa,xs,m,qs,day,need,l1,l2,o1,o2,f,rfl,W,ok,hds,h1,h2,n1,n2,d0,d1,hi,hw,k⟩:=h
 refine⟨rfl,_,(Zd (Zp (Zs Zaq (Z1 Wm T.len Y1 (Za (Zn (qvN 0)) Zb)) (Z4 c_MOST_CASES r_MOST_CASES) (Z2 _)) (Zf (Ys Yk er (Yz (Yc (Yq (Z4 c_MOST_CASES r_MOST_CASES) (Yc Yy)))))) Zo)
 (Zd (Zp (Zs Zk7 (Z1 (Zpj (by rfl)) T.max Zl1 (Za (Z1 Wm T.len Y1 (Za (qvN 3) Zb)) (Za (Z1 Wm T.len Y1 (Za (qvN 4) Zb)) Zb))) (Z4 c_MOST_SWEARERS r_MOST_SWEARERS) (Z2 _)) (Zf (Ys Yk er (Yz (Yc (Yq (Z4 c_MOST_SWEARERS r_MOST_SWEARERS) (Yc Yy)))))) Zo)
 (Zd (Zh (Ul Zr (qvN 0) Tm.cl MM_check_moments))
 (Zd (Zp (Zs Uk (Zrs (by rfl) T.len T.set (Za (Zu Wk (qvN 3) (qvN 4)) Zb)) (Z1 Wm T.len Y1 (Za (Zu Wk (qvN 3) (qvN 4)) Zb)) (Z2 _)) (Zf (Ys Yk er Z3)) Zo)
 (Zd (Zy 5 (Zf2 (qvN 0) Tm.cl MM_forsworn_names))
 (Zd (Zco Zc7 Yk (by rfl) (Vu (Zu Wk (qvN 3) (qvN 4))) (Wq 6)
 (fun hxq hxp=>(Zf (Zp (Zs (Zas hr) (qvN 6) (qvN 5) rfl) (Zf (Ys hxp er (Yz (Yq (qvN 6) (Yc Yy))))) Zo))))
 (Zf (Zp (Zs Uk (Yg Zz8 (Za (Y2 (qvN 0) Tm.cl MM_weighed (Za (qvN 3) (Za (qvN 1) Zb))) Zb)) (qvN 2) (Z2 _)) (Zf (Ys Yk er (Yz (Yc (Yq (qvN 2) Yy))))) Zo)))))))),?_⟩
 have hz:(5000:Nat)<=sizeLine:=by decide
 obtain⟨dm,obm⟩:=W.ob
 obtain⟨ts,t1,_,t3⟩:=(W.ls (M.lt,m.trials.map Ws) (by simp[Mo.at_])).get
 dsimp only at t1 t3
 rw[xA] at t3
 unfold Wx at k
 have e1:(o1.map V.str).length=o1.length:=xA ..
 have e2:(o2.map V.str).length=o2.length:=xA ..
 refine⟨_,rfl,M.p,CM,dm,_,_,rfl,obm,Tm.cl,Tm.nt,Zav _,M.lt,ts,rfl,.inl (SqL.of t1),_,_,rfl,rfl,_,rfl,Z6 (fun z=>?_) (fun z=>?_)⟩
 ·rw[if_pos (by lia)] at k
  exact⟨by decide +kernel,.inr ⟨60,rfl,by decide +kernel⟩,by decide +kernel,fun _=>k H (Same.refl H)⟩
 rw[if_neg (by lia)] at k
 refine⟨_,rfl,l1,_,rfl,.inl (SqL.of h1),_,rfl,l2,_,rfl,.inl (SqL.of h2),_,_,rfl,?_⟩
 have em:(if ((o2.map V.str).length:Int) > (o1.map V.str).length then ((o2.map V.str).length:Int) else (o1.map V.str).length)=((max o1.length o2.length:Nat):Int):=by rw[e1,e2];split<;>lia
 rw[em]
 refine⟨_,_,rfl,rfl,_,rfl,Z6 (fun z=>?_) (fun z=>?_)⟩
 ·rw[if_pos (by lia)] at k
  exact⟨by decide +kernel,.inr ⟨12,rfl,by decide +kernel⟩,by decide +kernel,fun _=>k H (Same.refl H)⟩
 rw[if_neg (by lia)] at k
 refine⟨_,rfl,M.p,dm,_,rfl,obm,Z7 _ (by decide +kernel),M,ds,wa,xs,m,qs,rfl,W,?_⟩
 cases em:Yh m with
 | some x=>rw[em] at k;exact k H (Same.refl H)
 | none =>
 rw[em,xD] at k
 have ec:o1.map V.str++o2.map V.str=(o1++o2).map V.str:=xQ.symm
 refine⟨_,rfl,_,rfl,l1,l2,_,_,rfl,rfl,h1,h2,by rw[e1,e2];lia,fun q hq=>?_⟩
 rw[ec]
 have S1:=Same.new (o:=.lst ((o1++o2).map V.str)) hq
 have k1:(upd H q (.lst ((o1++o2).map V.str))) q=some (.lst ((o1++o2).map V.str)):=Zg
 generalize (upd H q (.lst ((o1++o2).map V.str)))=H1 at S1 k1 ⊢
 refine⟨q,o1++o2,rfl,SqL.of k1,by rw[xJ];lia,?_⟩
 refine⟨_,rfl,_,rfl,l1,l2,_,_,rfl,rfl,S1 _ _ h1,S1 _ _ h2,by rw[e1,e2];lia,fun q2 hq2=>?_⟩
 rw[ec]
 have S2:=S1.trans (Same.new (o:=.lst ((o1++o2).map V.str)) hq2)
 have k2:(upd H1 q2 (.lst ((o1++o2).map V.str))) q2=some (.lst ((o1++o2).map V.str)):=Zg
 generalize (upd H1 q2 (.lst ((o1++o2).map V.str)))=H2 at S2 k2 ⊢
 refine⟨q2,_,rfl,.inl (SqL.of k2),_,_,rfl,rfl,_,rfl,Z6 (fun z=>?_) (fun z=>?_)⟩
 ·rw[if_pos (by rw[xA] at z;lia)] at k
  exact k H2 S2
 rw[if_neg (by rw[xA] at z;lia)] at k
 refine⟨_,rfl,M.p,dm,_,rfl,S2 _ _ obm,Z7 _ (by decide +kernel),M,ds,wa,xs,m,qs,rfl,W.same S2,ok.vl,ok.le,fun g kvs H3 hg S3' kg hf=>?_⟩
 have S3:=S2.trans S3'
 refine Y5 ?_
 refine⟨_,rfl,_,rfl,l1,l2,_,_,rfl,rfl,S3 _ _ h1,S3 _ _ h2,by rw[e1,e2];lia,fun q3 hq3=>?_⟩
 rw[ec]
 have S4':=Same.new (o:=.lst ((o1++o2).map V.str)) hq3
 have S4:=S3.trans S4'
 have kg4:=S4' _ _ kg
 have k4:(upd H3 q3 (.lst ((o1++o2).map V.str))) q3=some (.lst ((o1++o2).map V.str)):=Zg
 generalize (upd H3 q3 (.lst ((o1++o2).map V.str)))=H4 at S4 k4 kg4 ⊢
 refine⟨q3,rfl,⟨_,SqL.of k4⟩,?_⟩
 refine Zar ((o1++o2).map V.str) (fun i σ H'=>∃v6:Option V,σ = [some (.ref M.p),some (.int day),some (.int need),some (.ref l1),some (.ref l2),some (.ref g),v6]/\H4=H'/\∀j < i,∀y,(o1++o2)[j]? = some y->(if V8 m y=true then some ("Forsworn" : Str) else none)=none) ⟨none,rfl,rfl,fun j hj=>absurd hj (by lia)⟩ (fun i σ H' _ ⟨_,_,e,_⟩=>by rw[← e];exact SqL.of k4) ?_ ?_
 ·rintro i v σ H' hv ⟨v6,rfl,rfl,ha⟩
  rw[xP] at hv
  obtain⟨n,hn,rfl⟩:=yE.mp hv
  refine⟨_,rfl,_,rfl,g,_,rfl,DGet.k (k:=Sum.inr n) kg4,_,rfl,?_⟩
  have hfn:=hf n
  cases e:Zt kvs (.inr n) with
  | none =>
   rw[e] at hfn
   exact Yj ⟨_,rfl,rfl,Zdq hn ha (if_neg (by rw[← hfn];decide))⟩
  | some v =>
   rw[e] at hfn
   rw[Zcp (f:=fun n=>if V8 m n=true then some ("Forsworn" : Str) else none) hn ha (if_pos hfn.symm)] at k
   exact Ym ⟨_,rfl,.inl ⟨n,rfl,by have:=(hw n (xO hn)).1;lia⟩,by decide +kernel,fun _=>k H4 S4⟩
 rintro σ H' ⟨v6,rfl,rfl,ha⟩
 rw[xA] at ha
 rw[Zdp (f:=fun n=>if V8 m n=true then some ("Forsworn" : Str) else none) ha,xD] at k
 try dsimp only
 refine⟨_,rfl,M.p,dm,_,rfl,S4 _ _ obm,Z7 _ (by decide +kernel),_,rfl,_,rfl,M,ds,wa,xs,m,qs,l1,o1,day,f,rfl,W.same S4,hds,S4 _ _ h1,n1,d0,d1,fun n hn=>(hw n (yM _ hn)).2.1,fun l us H5 hl S5' kl rs=>?_⟩
 refine⟨.ref l,Zv f o1,rfl,⟨l,us,rfl,kl,rs⟩,⟨fun p hp=>?_,by rw[xA];exact n1⟩,fun H6 S6=>?_⟩
 ·obtain⟨n,hn,rfl⟩:=yS.mp hp
  exact(hw n (yM _ hn)).2.2
 have S:=(S4.trans S5').trans S6
 refine⟨_,rfl,_,_,rfl,rfl,_,rfl,Z6 (fun z=>?_) (fun z=>?_)⟩
 ·rw[if_pos z] at k
  exact⟨by decide +kernel,_,rfl,.inr ⟨_,rfl,Wc hi⟩,fun _=>k H6 S⟩
 ·rw[if_neg z] at k
  exact k H6 S
end
section
variable{P:Program}{w:World}{K:uFg}{mg:Str->Option Value}{base:Heap}{C CM:Addr}
def Ux(M:ML)(ds:List Deed)(wa:Str->Addr)(xs qs:List Addr)(H H':Hp):Prop:=∀b o,H b=some o->¬mo M ds wa xs qs b->H' b=some o
def MFresh(M:ML)(ds:List Deed)(wa:Str->Addr)(xs qs:List Addr)(M':ML)(ds':List Deed)(wa':Str->Addr)(xs' qs':List Addr)(H:Hp):Prop:=∀b,mo M' ds' wa' xs' qs' b->mo M ds wa xs qs b\/H b=none
theorem MFresh.folk{M:ML}{ds ds':List Deed}{wa wa':Str->Addr}{xs qs:List Addr}{H:Hp}(f:Zcy M.L ds wa ds' wa' H):MFresh M ds wa xs qs M ds' wa' xs qs H:=fun b hb=>by
 rcases hb with z | z | z | z | z
 ·exact .inl (.inl z)
 ·exact .inl (.inr (.inl z))
 ·exact .inl (.inr (.inr (.inl z)))
 ·exact .inl (.inr (.inr (.inr (.inl z))))
 ·exact(f b z).imp (fun z=>.inr (.inr (.inr (.inr z)))) id
theorem Zax{M:ML}{ds:List Deed}{wa:Str->Addr}{xs qs:List Addr}:mo M ds wa xs qs M.ld:=.inr (.inr (.inl (by simp[ML.ls])))
end
section
variable{P:Program}{w:World}{K:uFg}{mg:Str->Option Value}{base:Heap}{C CM:Addr}{c:Str->Addr}
theorem Zxs(M:ML):(Y9 M).length < 1000:=show 9 < 1000 by decide
def Mo.tried(m:Mo)(day:Int)(t:Suit):Mo:={m with trials:=m.trials ++ [t],days:=m.days ++ [day],verd:=(Yw [] 0 (m.trials ++ [t])).1 }
theorem oaV.rep{xs:List Addr}{H:Hp}{oa:Option (Int×Str)}{v:V}(h:oaV H oa v):Rep (fz xs H) (Zcr oa) v:=by
 cases oa with
 | none=>exact h
 | some p=>obtain⟨_,_,a,e,ha⟩:=h;exact⟨a,_,e,Y8 ha,⟨_,_,rfl,rfl,⟨_,_,rfl,rfl,rfl⟩⟩⟩
theorem oaV.same{H H':Hp}{oa:Option (Int×Str)}{v:V}(h:oaV H oa v)(k:Same H H'):oaV H' oa v:=by
 cases oa with
 | none=>exact h
 | some p=>obtain⟨a1,a2,a,e,ha⟩:=h;exact⟨a1,a2,a,e,k _ _ ha⟩
theorem RepS.fz{H:Hp}{xs:List Addr}{sd:Yv}{us:List V}(r:RepS H sd us):RepL (fz xs H) (sd.map Zd0) us:=(RepS.mono (fun _ _ e=>Y8 e) r).rep
inductive spTry (C CM:Addr) (vs:List V) (H:Hp) (Q:VK) (z3:XK):Prop
 | mk (M:ML) (ds:List Deed) (wa:Str->Addr) (xs:List Addr) (m:Mo) (qs:List Addr) (day need:Int) (l1 l2:Addr) (o1 o2:List Str) (f:Str->Int) (oa:Option (Int×Str)) (v2:V) (h0:vs = [.ref M.p,.int day,.int need,.ref l1,.ref l2,v2]) (h1:MootAt C CM H M ds wa xs m qs) (h2:MoK m) (h3:m.trials.length < 60) (h4:ds.length<=1000) (h5:H l1=some (.lst (o1.map V.str))) (h6:H l2=some (.lst (o2.map V.str))) (h7:o1.length<=60) (h8:o2.length<=60) (h9 : 0<=day) (h10:day<=9999) (h11 : 1<=need) (h12:need<=12000) (h13:(∀n∈o1++o2,wOk ds day f n/\1<=f n/\f n<=1000)) (h14:oaV H oa v2) (h15:∀(lv s1 s2:Addr)(H':Hp),MootAt C CM H' (M.setv lv) ds wa (s1::s2::xs) (m.tried day ⟨Zv f o1,Zv f o2,need,oa⟩) qs->Ux M ds wa xs qs H H'->MFresh M ds wa xs qs (M.setv lv) ds wa (s1::s2::xs) qs H->Q (.int m.trials.length) H')
abbrev Zm2:Stmt:=Ye (top 61) 39
theorem Zo5(Zhk:HasM K CM "try_case" "Moot.try_case" Zm2)(T:Txt mg)(Tm:TxCMoot K CM)(MM_weighed:Mt P w K mg base CM "weighed" ["self", "names", "day"] 3 (spWeighed C CM))(Zg7:Fn P w K mg base "settled" ["suits"] 4 spSett):Mt P w K mg base CM "try_case" ["self", "day", "need", "ones", "others", "oath"] 5 (spTry C CM):=by
 refine Zhk.mq ["self", "day", "need", "ones", "others", "oath"] fun H vs Q E hr h=>?_
 obtain⟨M,ds,wa,xs,m,qs,day,need,l1,l2,o1,o2,f,oa,v2,rfl,W,ok,hlt,hds,h1,h2,n1,n2,d0,d1,e0,e1,hw,hoa,k⟩:=h
 refine⟨rfl,_,(Zd (Zh (Y4 F.plainAttrs_list F.slot_list_append F.type_list_append Wg (Zn (qvN 0)) (Za (Z9 (Za (Y2 (qvN 0) Tm.cl MM_weighed (Za (qvN 3) (Za (qvN 1) Zb))) (Za (Y2 (qvN 0) Tm.cl MM_weighed (Za (qvN 4) (Za (qvN 1) Zb))) (Za (qvN 2) (Za (qvN 5) Zb))))) Zb)))
 (Zd (Zh (Y4 F.plainAttrs_list F.slot_list_append F.type_list_append Wg (Zn (qvN 0)) (Za (qvN 1) Zb)))
 (Zd (Ww (qvN 0) (Yg Zg7 (Za (Zn (qvN 0)) Zb)))
 (Zf (Z5 (Zu Zcn (Z1 Wm T.len Y1 (Za (Zn (qvN 0)) Zb)) Ze)))))),?_⟩
 have hz:(5000:Nat)<=sizeLine:=by decide
 obtain⟨dm,obm⟩:=W.ob
 obtain⟨ts,t1,_,t3⟩:=(W.ls (M.lt,m.trials.map Ws) (by simp[Mo.at_])).get
 dsimp only at t1 t3
 rw[xA] at t3
 refine⟨_,rfl,M.p,CM,dm,_,_,rfl,obm,Tm.cl,Tm.nt,Zav _,.inl ⟨rfl,_,SqL.of t1⟩,?_⟩
 refine⟨_,rfl,M.p,dm,_,rfl,obm,Z7 _ (by decide +kernel),_,rfl,_,rfl,M,ds,wa,xs,m,qs,l1,o1,day,f,rfl,W,hds,h1,n1,d0,d1,fun n hn=>(hw n (yM _ hn)).1,fun s1 us1 H1 hs1 S1 ks1 rs1=>?_⟩
 refine⟨_,rfl,M.p,dm,_,rfl,S1 _ _ obm,Z7 _ (by decide +kernel),_,rfl,_,rfl,M,ds,wa,xs,m,qs,l2,o2,day,f,rfl,W.same S1,hds,S1 _ _ h2,n2,d0,d1,fun n hn=>(hw n (xK _ hn)).1,fun s2 us2 H2 hs2 S2 ks2 rs2=>?_⟩
 refine⟨_,rfl,_,rfl,by show 4<=sizeLine;lia,fun p hp=>?_⟩
 have S3:=Same.new (o:=.tup [.ref s1,.ref s2,.int need,v2]) hp
 have k3:(upd H2 p (.tup [.ref s1,.ref s2,.int need,v2])) p=some (.tup [.ref s1,.ref s2,.int need,v2]):=Zg
 generalize (upd H2 p (.tup [.ref s1,.ref s2,.int need,v2]))=H3 at S3 k3 ⊢
 have S23:=S2.trans S3
 have S:=S1.trans S23
 have out:∀{b:Addr},H b=none->¬mo M ds wa xs qs b:=fun e z=>by obtain⟨o,e'⟩:=W.there z;rw[e] at e';cases e'
 have hs2':H s2=none:=S1.free hs2
 have W3:=((W.same S).freeze (a:=s2) (S3 _ _ ks2) (fun z=>out hs2' (.inr (.inr (.inl z))))).freeze (a:=s1) (S23 _ _ ks1) (fun z=>out hs1 (.inr (.inr (.inl z))))
 refine⟨M.lt,ts,.ref p,rfl,rfl,S _ _ t1,by lia,?_⟩
 have hd:Rep (fz (s1::s2::xs) H3) (Ws ⟨Zv f o1,Zv f o2,need,oa⟩) (.ref p) :=
  ⟨p,_,rfl,Y8 k3,⟨_,_,rfl,⟨s1,us1,rfl,Uw (by simp) (S23 _ _ ks1),RepS.fz (RepS.mono (Same.t S23) rs1)⟩,⟨_,_,rfl,⟨s2,us2,rfl,Uw (by simp) (S3 _ _ ks2),RepS.fz (RepS.mono (Same.t S3) rs2)⟩,⟨_,_,rfl,rfl,⟨_,_,rfl,(hoa.same S).rep,rfl⟩⟩⟩⟩⟩
 have W4:=W3.trial (S _ _ t1) hd
 have T4:Ux M ds wa xs qs H (upd H3 M.lt (.lst (ts ++ [.ref p]))):=fun b o e nb=>by
  rw[Zc (fun z:b=M.lt=>nb (z ▸ .inr (.inr (.inl (by simp[ML.ls])))))]
  exact S _ _ e
 generalize (upd H3 M.lt (.lst (ts ++ [.ref p])))=H4 at W4 T4 ⊢
 obtain⟨dm4,obm4⟩:=W4.ob
 obtain⟨ys,y1,_,y3⟩:=(W4.ls (M.ly,m.days.map D.int) (by simp[Mo.at_])).get
 dsimp only at y1 y3
 rw[xA] at y3
 have hdl:=ok.dl
 refine⟨_,rfl,M.p,CM,dm4,_,_,rfl,obm4,Tm.cl,Tm.ny,Zkp _,.inl ⟨rfl,_,SqL.of y1⟩,_,rfl,M.ly,ys,.int day,rfl,rfl,y1,by lia,?_⟩
 have W5:=W4.day (d:=day) y1 rfl
 have T5:Ux M ds wa xs qs H (upd H4 M.ly (.lst (ys ++ [.int day]))):=fun b o e nb=>by
  rw[Zc (fun z:b=M.ly=>nb (z ▸ .inr (.inr (.inl (by simp[ML.ls])))))]
  exact T4 b o e nb
 generalize (upd H4 M.ly (.lst (ys ++ [.int day])))=H5 at W5 T5 ⊢
 obtain⟨dm5,obm5⟩:=W5.ob
 obtain⟨ts5,z1,z2,z3⟩:=(W5.ls (M.lt,(m.trials ++ [(⟨Zv f o1,Zv f o2,need,oa⟩:Suit)]).map Ws) (by simp[Mo.at_])).get
 dsimp only at z1 z2 z3
 rw[xA,xJ,zK] at z3
 have hok:∀t∈m.trials ++ [(⟨Zv f o1,Zv f o2,need,oa⟩:Suit)],Uo t:=fun t ht=>by
  rcases xH.mp ht with z | z
  ·exact ok.ok t z
  ·rw[xI.mp z]
   refine⟨⟨fun q hq=>?_,by show (o1.map _).length<=60;rw[xA];exact n1⟩,⟨fun q hq=>?_,by show (o2.map _).length<=60;rw[xA];exact n2⟩,e0,e1⟩
   ·obtain⟨n,hn,rfl⟩:=yS.mp hq
    exact(hw n (yM _ hn)).2
   ·obtain⟨n,hn,rfl⟩:=yS.mp hq
    exact(hw n (xK _ hn)).2
 refine⟨_,rfl,M.p,CM,dm5,_,_,rfl,obm5,Tm.cl,Tm.nt,Zav _,M.lt,_,rfl,⟨ts5,z1,z2⟩,hok,by rw[xJ,zK];lia,fun lv H6 hlv klv S6=>?_⟩
 have W6:=W5.same S6
 obtain⟨dm6,obm6⟩:=W6.ob
 refine⟨_,rfl,M.p,CM,dm6,_,rfl,obm6,Tm.cl,Tm.nv,Zxs _,?_⟩
 rw[Zvr]
 have W7:=W6.setv obm6 klv (fun z=>by obtain⟨o,e⟩:=W5.there z;rw[hlv] at e;cases e)
 have T7:Ux M ds wa xs qs H (upd H6 M.p (.ins CM dm6 (Y9 (M.setv lv)))):=fun b o e nb=>by
  rw[Zc (fun z:b=M.p=>nb (.inl z))]
  exact S6 _ _ (T5 b o e nb)
 generalize (upd H6 M.p (.ins CM dm6 (Y9 (M.setv lv))))=H7 at W7 T7 ⊢
 obtain⟨dm7,obm7⟩:=W7.ob
 obtain⟨ts7,q1,_,q3⟩:=(W7.ls ((M.setv lv).lt,(m.trials ++ [(⟨Zv f o1,Zv f o2,need,oa⟩:Suit)]).map Ws) (by simp[Mo.at_])).get
 dsimp only at q1 q3
 rw[xA,xJ,zK] at q3
 refine⟨_,rfl,M.p,CM,dm7,_,_,rfl,obm7,Tm.cl,Tm.nt,Zav _,M.lt,ts7,rfl,.inl (SqL.of q1),_,_,rfl,rfl,?_⟩
 rw[q3]
 show Q (.int (((m.trials.length+1:Nat):Int) - 1)) H7
 rw[show (((m.trials.length+1:Nat):Int) - 1)=(m.trials.length:Int) by lia]
 refine k lv s1 s2 H7 W7 T7 fun b hb=>?_
 have lvn:H lv=none:=by
  cases e:H lv with
  | none=>rfl
  | some o =>
   by_cases z:mo M ds wa xs qs lv
   ·have z5:mo M ds wa (s1::s2::xs) qs lv:=by
     rcases z with z | z | z | z | z
     ·exact .inl z
     ·exact .inr (.inl z)
     ·exact .inr (.inr (.inl z))
     ·exact .inr (.inr (.inr (.inl (xX _ (xX _ z)))))
     ·exact .inr (.inr (.inr (.inr z)))
    obtain⟨o',e'⟩:=W5.there z5
    rw[hlv] at e';cases e'
   ·rw[T5 lv o e z] at hlv;cases hlv
 rcases hb with z | z | z | z | z
 ·exact .inl (.inl z)
 ·exact .inl (.inr (.inl z))
 ·simp only[ML.ls,ML.setv,xC,xH,yG,or_false] at z
  have old:b∈M.lh::(M.ls++qs)\/b=lv:=by
   simp only[ML.ls,xC,xH,yG,or_false]
   rcases z with z | (z | z | z | z | z | z) | z<;>simp[z]
  exact old.elim (fun z=>.inl (.inr (.inr (.inl z)))) (fun z=>.inr (z▸lvn))
 ·rcases xC.mp z with z | z
  ·exact .inr (z▸hs1)
  ·rcases xC.mp z with z | z
   ·exact .inr (z▸hs2')
   ·exact .inl (.inr (.inr (.inr (.inl z))))
 ·exact .inl (.inr (.inr (.inr (.inr z))))
end
section
variable{P:Program}{w:World}{K:uFg}{mg:Str->Option Value}{base:Heap}{C CM:Addr}{c:Str->Addr}
def Frm(O:Addr->Prop)(H:Hp)(O':Addr->Prop)(H':Hp):Prop:=(∀b o,H b=some o->¬O b->H' b=some o)/\∀b,O' b->O b\/H b=none
theorem Frm.trans{O O1 O2:Addr->Prop}{H H1 H2:Hp}(a:Frm O H O1 H1)(b:Frm O1 H1 O2 H2):Frm O H O2 H2:=by
 refine⟨fun x o e n=>b.1 x o (a.1 x o e n) fun z=>(a.2 x z).elim n (fun y=>by rw[e] at y;cases y),fun x hx=>?_⟩
 rcases b.2 x hx with z | z
 ·exact a.2 x z
 ·by_cases y:O x
  ·exact .inl y
  ·refine .inr ?_
   cases e:H x with
   | none=>rfl
   | some o=>rw[a.1 x o e y] at z;cases z
theorem Frm.same{O:Addr->Prop}{H H':Hp}(s:Same H H'):Frm O H O H':=⟨fun b o e _=>s b o e,fun b hb=>.inl hb⟩
def MSt(C CM:Addr)(H:Hp)(p:Addr)(ds:List Deed)(m:Mo)(O:Addr->Prop):Prop:=∃M wa xs qs,M.p=p/\MootAt C CM H M ds wa xs m qs/\O=mo M ds wa xs qs
theorem MSt.same{H H':Hp}{p:Addr}{ds:List Deed}{m:Mo}{O:Addr->Prop}(h:MSt C CM H p ds m O)(k:Same H H'):MSt C CM H' p ds m O:=let ⟨M,wa,xs,qs,e,W,o⟩:=h;⟨M,wa,xs,qs,e,W.same k,o⟩
def V9(E:XK)(c:Str->Addr)(H:Hp)(k:Prop):Option Str->Prop
 | none=>k
 | some x=>∀H',Same H H'->E (.ref (c x)) none H'
theorem Zdh{ds:List Deed}{m:Mo}{day:Int}{ps:List Str}{th:Option Int}{oa:Option (Int×Str)}(h:Yt ds m day ps th oa=none):(∀n∈ps,∃d,Zj ds n=some d/\d<=day)/\(∀i,th=some i->Vr m i=none)/\∀i n,oa=some (i,n)->Wa m.trials i n=none:=by
 unfold Yt at h
 simp only[zM] at h
 obtain⟨h1,h2,h3,h4,_⟩:=h
 rw[List.findSome?_eq_none_iff] at h1 h4
 refine⟨fun n hn=>?_,fun i e=>by subst e;exact h2,fun i n e=>by subst e;exact h3⟩
 have a:=h1 n hn
 have b:=h4 n hn
 unfold Wd at a
 unfold Yn at b
 cases e:Zj ds n with
 | none=>rw[if_pos e] at a;cases a
 | some d =>
  refine⟨d,rfl,?_⟩
  rw[e,Option.getD_some] at b
  by_cases z:day < d
  ·rw[if_pos z] at b;cases b
  ·lia
theorem Zbi(H:Hp):∀o:List Str,RepL H (o.map D.str) (o.map V.str)
 | []=>rfl
 | x::o=>⟨_,_,rfl,rfl,Zbi H o⟩
structure CsA (ds:List Deed) (m:Mo) (H:Hp) (l1 l2:Addr) (o1 o2:List Str) (day need:Int) (f:Str->Int):Prop where
 ok:MoK m
 hd:ds.length<=1000
 h1:H l1=some (.lst (o1.map V.str))
 h2:H l2=some (.lst (o2.map V.str))
 n1:o1.length<=60
 n2:o2.length<=60
 di:okI day
 ni:okI need
 hw:∀n∈o1++o2,n.length<=100/\∀d,Zj ds n=some d->d<=day->IsW (kw ds n) day (f n)/\1<=f n/\f n<=1000
theorem CsA.all{ds:List Deed}{m:Mo}{H:Hp}{l1 l2:Addr}{o1 o2:List Str}{day need:Int}{f:Str->Int}(a:CsA ds m H l1 l2 o1 o2 day need f)(h:∀n∈o1++o2,∃d,Zj ds n=some d/\d<=day):∀n∈o1++o2,n.length<=100/\wOk ds day f n/\1<=f n/\f n<=1000:=fun n hn=>by
 obtain⟨d,e1,e2⟩:=h n hn
 obtain⟨x,y,z⟩:=(a.hw n hn).2 d e1 e2
 exact⟨(a.hw n hn).1,⟨d,e1,e2,x⟩,y,z⟩
theorem Ud{lo hi d:Int}(h:eM lo hi d=none):lo<=d/\d<=hi:=by
 unfold eM at h
 by_cases z:lo<=d/\d<=hi
 ·exact z
 ·rw[if_neg z] at h;cases h
theorem Zay{m:Mo}(h:Yh m=none):m.deeds.length < 400:=by
 unfold Yh at h
 by_cases z:m.deeds.length < 400
 ·exact z
 ·rw[if_neg z] at h;cases h
theorem Zbq{m:Mo}{need:Int}{f:Str->Int}{o1 o2:List Str}(h:Wx m need f o1 o2=none):m.trials.length < 60/\m.deeds.length < 400:=by
 unfold Wx at h
 by_cases z : 60<=m.trials.length
 ·rw[if_pos z] at h;cases h
 ·rw[if_neg z] at h
  by_cases y : 12 < max o1.length o2.length
  ·rw[if_pos y] at h;cases h
  ·rw[if_neg y,zM] at h
   exact⟨by lia,Zay h.1⟩
variable{M:ML}{ds:List Deed}{wa:Str->Addr}{xs qs:List Addr}{m:Mo}{H H':Hp}
theorem Zvt{a1 a2 b:Addr}(h:mo M ds wa (a1::a2::xs) qs b):mo M ds wa xs qs b\/b=a1\/b=a2:=by
 rcases h with z | z | z | z | z
 ·exact .inl (.inl z)
 ·exact .inl (.inr (.inl z))
 ·exact .inl (.inr (.inr (.inl z)))
 ·rcases xC.mp z with z | z
  ·exact .inr (.inl z)
  ·rcases xC.mp z with z | z
   ·exact .inr (.inr z)
   ·exact .inl (.inr (.inr (.inr (.inl z))))
 ·exact .inl (.inr (.inr (.inr (.inr z))))
theorem MootAt.deed2(W:MootAt C CM H M ds wa xs m qs)(S:Same H H'){a1 a2:Addr}{u1 u2 vs:List V}{d:D}{v:V}(n1:H a1=none)(n2:H a2=none)(k1:H' a1=some (.lst u1))(k2:H' a2=some (.lst u2))(e:H M.ld=some (.lst vs))(hd:Rep (fz (a1::a2::xs) H') d v) :
  MootAt C CM (upd H' M.ld (.lst (vs ++ [v]))) M ds wa (a1::a2::xs) {m with deeds:=m.deeds ++ [d] } qs/\Frm (mo M ds wa xs qs) H (mo M ds wa (a1::a2::xs) qs) (upd H' M.ld (.lst (vs ++ [v]))):=by
 have out:∀{b:Addr},H b=none->b∉M.lh::(M.ls++qs):=fun e z=>by obtain⟨ys,e'⟩:=W.lst z;rw[e] at e';cases e'
 refine⟨(((W.same S).freeze k2 (out n2)).freeze k1 (out n1)).deed (S _ _ e) hd,fun b o eb nb=>?_,fun b hb=>?_⟩
 ·rw[Zc (fun z:b=M.ld=>nb (z▸Zax))];exact S _ _ eb
 ·rcases Zvt hb with z | z | z
  ·exact .inl z
  ·exact .inr (z▸n1)
  ·exact .inr (z▸n2)
end
section
variable{P:Program}{w:World}{K:uFg}{mg:Str->Option Value}{base:Heap}{C CM:Addr}{c:Str->Addr}
def clD(x:Str)(i day need:Int)(o1 o2:List Str):D:=.tup [.str "claim", .str x,.int i,.int day,.int need,.lst (o1.map D.str),.lst (o2.map D.str)]
def Mo.won(m:Mo)(x:Str)(i:Nat)(day need:Int)(f:Str->Int)(o1 o2:List Str):Mo :=
 {m.tried day ⟨Zv f o1,Zv f o2,need,none⟩ with haps:=m.haps.set i (m.haps.getD i [] ++ [.tup [.int m.trials.length,.tup [.int day,.str "won", .non,.str x]]]),deeds:=m.deeds ++ [clD x i day need o1 o2] }
def Zaz(ds:List Deed)(m:Mo)(x:Str)(i day need:Int)(f:Str->Int)(o1 o2:List Str):Option Str:=(eM 0 9999 day).or ((eM 1 12000 need).or ((Yt ds m day ([x]++o1++o2) (some i) none).or (Wx m need f o1 o2)))
inductive spClaimX (C CM:Addr) (c:Str->Addr) (vs:List V) (H:Hp) (Q:VK) (E:XK):Prop
 | mk (p:Addr) (ds:List Deed) (m:Mo) (O:Addr->Prop) (x:Str) (i day need:Int) (l1 l2:Addr) (o1 o2:List Str) (f:Str->Int) (h0:vs = [.ref p,.str x,.int i,.int day,.int need,.ref l1,.ref l2]) (h1:MSt C CM H p ds m O) (h2:CsA ds m H l1 l2 o1 o2 day need f) (h3:¬O l1) (h4:¬O l2) (h5:x.length<=100) (h6:okI i) (h7:V9 E c H (∀O' H',MSt C CM H' p ds (m.won x i.toNat day need f o1 o2) O'->Frm O H O' H'->Q (.int m.trials.length) H') (Zaz ds m x i day need f o1 o2))
abbrev Zm3:Stmt:=Ye (top 61) 8
theorem Ztq(Zhl:HasM K CM "claim" "Moot.claim" Zm3)(T:Txt mg)(Tm:TxCMoot K CM)(Y3:FnX P w K mg base "check_day" 1 (spM 0 9999 c))(Zc0:FnX P w K mg base "check_need" 1 (spM 1 12000 c))(MM_check_named:MtX P w K mg base CM "check_named" 3 (spNamedX C CM c))(MM_check_sides:MtX P w K mg base CM "check_sides" 4 (spSidesX C CM c))(MM_try_case:Mt P w K mg base CM "try_case" ["self", "day", "need", "ones", "others", "oath"] 5 (spTry C CM)):MtX P w K mg base CM "claim" 6 (spClaimX C CM c):=by
 refine Zhl.mx ["self", "claimer", "thing", "day", "need", "ones", "others", "case"] ["self", "claimer", "thing", "day", "need", "ones", "others"] fun H vs Q E hr h=>?_
 obtain⟨_,ds,m,_,x,i,day,need,l1,l2,o1,o2,f,rfl,⟨M,wa,xs,qs,rfl,W,rfl⟩,a,w1,w2,hx,hi,k⟩:=h
 refine⟨rfl,_,(Zd (Zh (Y7 Zr Y3 (Za (qvN 3) Zb)))
 (Zd (Zh (Y7 Zr Zc0 (Za (qvN 4) Zb)))
 (Zd (Zh (Z8 Zr (qvN 0) Tm.cl MM_check_named (Za (qvN 3) (Za (Zu Wk (Zu Wk (Zz (Za (qvN 1) Zb)) (qvN 5)) (qvN 6)) (Za (qvN 2) (Za We Zb))))))
 (Zd (Zh (Z8 Zr (qvN 0) Tm.cl MM_check_sides (Za (qvN 3) (Za (qvN 4) (Za (qvN 5) (Za (qvN 6) Zb))))))
 (Zd (Zy 7 (Y2 (qvN 0) Tm.cl MM_try_case (Za (qvN 3) (Za (qvN 4) (Za (qvN 5) (Za (qvN 6) (Za We Zb)))))))
 (Zd (Zh (Y4 F.plainAttrs_list F.slot_list_append F.type_list_append Wg (Zk Yx (Zn (qvN 0)) (qvN 2) (fun _ _=>rfl)) (Za (Z9 (Za (qvN 7) (Za (Z9 (Za (qvN 3) (Za Z3 (Za We (Za (qvN 1) Zb))))) Zb))) Zb)))
 (Zd (Zh (Y4 F.plainAttrs_list F.slot_list_append F.type_list_append Wg (Zn (qvN 0)) (Za (Z9 (Za Z3 (Za (qvN 1) (Za (qvN 2) (Za (qvN 3) (Za (qvN 4) (Za (Zap Za2 T.list Zal (Za (qvN 5) Zb)) (Za (Zap Za2 T.list Zal (Za (qvN 6) Zb)) Zb)))))))) Zb)))
 (Zf (Z5 (qvN 7)))))))))),?_⟩
 have hz:(5000:Nat)<=sizeLine:=by decide
 obtain⟨dm,obm⟩:=W.ob
 have ⟨ok,hds,h1,h2,n1,n2,dI,ni,hw⟩:=a
 have e1:(o1.map V.str).length=o1.length:=xA ..
 have e2:(o2.map V.str).length=o2.length:=xA ..
 unfold Zaz at k
 refine⟨_,rfl,day,rfl,dI,?_⟩
 cases ed:eM 0 9999 day with
 | some z=>rw[ed] at k;exact k H (Same.refl H)
 | none =>
 rw[ed,xD] at k
 obtain⟨d0,d1⟩:=Ud ed
 refine⟨_,rfl,need,rfl,ni,?_⟩
 cases en:eM 1 12000 need with
 | some z=>rw[en] at k;exact k H (Same.refl H)
 | none =>
 rw[en,xD] at k
 refine⟨_,rfl,M.p,dm,_,rfl,obm,Z7 _ (by decide +kernel),_,rfl,_,rfl,by show 1<=sizeLine;lia,fun q1 hq1=>?_⟩
 have S1:=Same.new (o:=.lst [.str x]) hq1
 have k1:(upd H q1 (.lst [.str x])) q1=some (.lst [.str x]):=Zg
 generalize (upd H q1 (.lst [.str x]))=H1 at S1 k1 ⊢
 refine⟨_,rfl,q1,l1,_,_,rfl,rfl,k1,S1 _ _ h1,by rw[e1];show 1+_<=_;lia,fun q2 hq2=>?_⟩
 have S2:=S1.trans (Same.new (o:=.lst ([.str x]++o1.map V.str)) hq2)
 have k2:(upd H1 q2 (.lst ([.str x]++o1.map V.str))) q2=some (.lst ([.str x]++o1.map V.str)):=Zg
 generalize (upd H1 q2 (.lst ([.str x]++o1.map V.str)))=H2 at S2 k2 ⊢
 refine⟨_,rfl,q2,l2,_,_,rfl,rfl,k2,S2 _ _ h2,by rw[xJ,e1,e2];show 1+_+_<=_;lia,fun q3 hq3=>?_⟩
 have S3:=S2.trans (Same.new (o:=.lst ([.str x]++o1.map V.str++o2.map V.str)) hq3)
 have k3:(upd H2 q3 (.lst ([.str x]++o1.map V.str++o2.map V.str))) q3=some (.lst (([x]++o1++o2).map V.str)):=by rw[Zg,xQ,xQ];rfl
 generalize (upd H2 q3 (.lst ([.str x]++o1.map V.str++o2.map V.str)))=H3 at S3 k3 ⊢
 refine⟨_,rfl,M,ds,wa,xs,m,qs,day,q3,[x]++o1++o2,some i,none,.non,rfl,W.same S3,ok,k3,fun n hn=>?_,dI,fun j e=>by cases e;exact hi,rfl,fun H4 S4'=>?_⟩
 ·rw[yW] at hn
  rcases xH.mp hn with z | z
  ·rw[xI.mp z];exact hx
  ·exact(hw n z).1
 have S4:=S3.trans S4'
 cases ea:Yt ds m day ([x]++o1++o2) (some i) none with
 | some z=>rw[ea] at k;exact k H4 S4
 | none =>
 rw[ea,xD] at k
 obtain⟨p1,p2,_⟩:=Zdh ea
 have hall:=a.all fun n hn=>p1 n (by rw[yW];exact xK _ hn)
 refine⟨_,rfl,M.p,dm,_,rfl,S4 _ _ obm,Z7 _ (by decide +kernel),_,rfl,_,rfl,_,rfl,_,rfl,M,ds,wa,xs,m,qs,day,need,l1,l2,o1,o2,f,rfl,W.same S4,ok,hds,S4 _ _ h1,S4 _ _ h2,n1,n2,d0,d1,ni,hall,fun H5 S5'=>?_⟩
 have S5:=S4.trans S5'
 cases es:Wx m need f o1 o2 with
 | some z=>rw[es] at k;exact k H5 S5
 | none =>
 rw[es] at k
 obtain⟨g0,g1⟩:=Ud en
 have h4:=(Zbq es).2
 refine⟨_,rfl,M.p,dm,_,rfl,S5 _ _ obm,Z7 _ (by decide +kernel),_,rfl,_,rfl,_,rfl,_,rfl,M,ds,wa,xs,m,qs,day,need,l1,l2,o1,o2,f,none,.non,rfl,W.same S5,ok,(Zbq es).1,hds,S5 _ _ h1,S5 _ _ h2,n1,n2,d0,d1,g0,g1,fun n hn=>(hall n hn).2,rfl,fun lv s1 s2 H6 W6 T6 F6=>?_⟩
 have R6:Frm (mo M ds wa xs qs) H (mo (M.setv lv) ds wa (s1::s2::xs) qs) H6:=(Frm.same S5).trans ⟨T6,F6⟩
 refine Y5 ?_
 have hin:inB i m.brs.length:=by
  have:=p2 i rfl
  unfold Vr at this
  by_cases z:inB i m.brs.length
  ·exact z
  ·rw[if_neg z] at this;cases this
 obtain⟨j,rfl⟩:=yO hin.1
 have hj:j < m.haps.length:=by rw[ok.hb];have:=hin.2;lia
 have hjq:j < qs.length:=by rw[W6.hn];exact hj
 have hq:qs[j]? = some qs[j]:=xB hjq
 have hcl:m.haps[j]? = some (m.haps.getD j []):=by rw[xR,xB hj];rfl
 have hcn:=ok.hl _ (xO hcl)
 rw[yR] at k
 unfold Mo.won at k
 generalize m.haps.getD j []=cl at hcl hcn k
 have mz:(qs[j],cl)∈qs.zip m.haps:=xO (i:=j) (by rw[yY];exact⟨hq,hcl⟩)
 obtain⟨us,u1,_,hul⟩:=(W6.ls (qs[j],cl) (by simp[Mo.at_,Mo.tried,mz])).get
 dsimp only at u1 hul
 obtain⟨dm6,obm6⟩:=W6.ob
 refine⟨_,rfl,M.p,CM,dm6,_,_,rfl,obm6,Tm.cl,Tm.nh,Zft _,_,rfl,M.lh,_,j,.ref qs[j],rfl,rfl,SqL.of W6.hl,Va (by rw[xP,hq];rfl),.inl ⟨rfl,_,SqL.of u1⟩,_,rfl,_,rfl,_,rfl,by show 4<=sizeLine;lia,fun b hb=>?_⟩
 have S7:=Same.new (o:=.tup [.int day,.str "won", .non,.str x]) hb
 have k7:(upd H6 b (.tup [.int day,.str "won", .non,.str x])) b=some (.tup [.int day,.str "won", .non,.str x]):=Zg
 generalize (upd H6 b (.tup [.int day,.str "won", .non,.str x]))=H7 at S7 k7 ⊢
 refine⟨by show 2<=sizeLine;lia,fun a' ha=>?_⟩
 have S8:=Same.new (o:=.tup [.int m.trials.length,.ref b]) ha
 have k8:(upd H7 a' (.tup [.int m.trials.length,.ref b])) a'=some (.tup [.int m.trials.length,.ref b]):=Zg
 generalize (upd H7 a' (.tup [.int m.trials.length,.ref b]))=H8 at S8 k8 ⊢
 have W8:=W6.same (S7.trans S8)
 have u8:=S8 _ _ (S7 _ _ u1)
 refine⟨qs[j],us,.ref a',rfl,rfl,u8,by lia,?_⟩
 have W9:=W8.hap hq hcl (d:=.tup [.int m.trials.length,.tup [.int day,.str "won", .non,.str x]]) (v:=.ref a') u8 ⟨a',_,rfl,Y8 k8,⟨_,_,rfl,rfl,⟨_,_,rfl,⟨b,_,rfl,Y8 (S8 _ _ k7),⟨_,_,rfl,rfl,⟨_,_,rfl,rfl,⟨_,_,rfl,rfl,⟨_,_,rfl,rfl,rfl⟩⟩⟩⟩⟩,rfl⟩⟩⟩
 have R9:Frm (mo M ds wa xs qs) H (mo (M.setv lv) ds wa (s1::s2::xs) qs) (upd H8 qs[j] (.lst (us ++ [.ref a']))):=(R6.trans (Frm.same (S7.trans S8))).trans ⟨fun b o e nb=>by
  rw[Zc (fun z:b=qs[j]=>nb (z ▸ .inr (.inr (.inl (xX _ (xK _ (zT hjq)))))))];exact e,fun _ hb=>.inl hb⟩
 generalize (upd H8 qs[j] (.lst (us ++ [.ref a'])))=H9 at W9 R9 ⊢
 obtain⟨dm9,obm9⟩:=W9.ob
 obtain⟨vs,f1,_,f2⟩:=(W9.ls (M.ld,m.deeds) (by simp[Mo.at_,Mo.tried,ML.setv])).get
 dsimp only at f1 f2
 have r1:=R9.1 l1 _ h1 w1
 have r2:=R9.1 l2 _ h2 w2
 refine⟨_,rfl,M.p,CM,dm9,_,_,rfl,obm9,Tm.cl,Tm.nd,Vy _,.inl ⟨rfl,_,SqL.of f1⟩,_,rfl,_,rfl,_,rfl,_,rfl,_,rfl,l1,_,rfl,.inl (SqL.of r1),fun a1 ha1=>?_⟩
 have Sa:=Same.new (o:=.lst (o1.map V.str)) ha1
 have ka:(upd H9 a1 (.lst (o1.map V.str))) a1=some (.lst (o1.map V.str)):=Zg
 generalize (upd H9 a1 (.lst (o1.map V.str)))=Ha at Sa ka ⊢
 refine⟨_,rfl,l2,_,rfl,.inl (SqL.of (Sa _ _ r2)),fun a2 ha2=>?_⟩
 have Sb:=Same.new (o:=.lst (o2.map V.str)) ha2
 have kb:(upd Ha a2 (.lst (o2.map V.str))) a2=some (.lst (o2.map V.str)):=Zg
 generalize (upd Ha a2 (.lst (o2.map V.str)))=Hb at Sb kb ⊢
 refine⟨by show 7<=sizeLine;lia,fun q hq'=>?_⟩
 have Sc:=Same.new (o:=.tup [.str "claim", .str x,.int j,.int day,.int need,.ref a1,.ref a2]) hq'
 have kc:(upd Hb q (.tup [.str "claim", .str x,.int j,.int day,.int need,.ref a1,.ref a2])) q=some (.tup [.str "claim", .str x,.int j,.int day,.int need,.ref a1,.ref a2]):=Zg
 generalize (upd Hb q (.tup [.str "claim", .str x,.int j,.int day,.int need,.ref a1,.ref a2]))=Hc at Sc kc ⊢
 have Sac:=(Sa.trans Sb).trans Sc
 refine⟨M.ld,vs,.ref q,rfl,rfl,Sac _ _ f1,by lia,?_⟩
 have ka':=Sc _ _ (Sb _ _ ka)
 have kb':=Sc _ _ kb
 obtain⟨W10,R10⟩:=W9.deed2 Sac ha1 (Sa.free ha2) ka' kb' f1 (d:=clD x j day need o1 o2) (v:=.ref q)
  ⟨q,_,rfl,Y8 kc,⟨_,_,rfl,rfl,⟨_,_,rfl,rfl,⟨_,_,rfl,rfl,⟨_,_,rfl,rfl,⟨_,_,rfl,rfl,⟨_,_,rfl,⟨a1,_,rfl,Uw (by simp) ka',Zbi _ _⟩,⟨_,_,rfl,⟨a2,_,rfl,Uw (by simp) kb',Zbi _ _⟩,rfl⟩⟩⟩⟩⟩⟩⟩⟩
 exact⟨_,rfl,k _ _ ⟨M.setv lv,wa,_,qs,rfl,W10,rfl⟩ (R9.trans R10)⟩
end
section
variable{P:Program}{w:World}{K:uFg}{mg:Str->Option Value}{base:Heap}{C CM:Addr}{c:Str->Addr}
def weD(x y:Str)(many day need:Int)(o1 o2:List Str):D:=.tup [.str "wergild", .str x,.str y,.int many,.int day,.int need,.lst (o1.map D.str),.lst (o2.map D.str)]
def Mo.owes(m:Mo)(x y:Str)(many day need:Int)(f:Str->Int)(o1 o2:List Str):Mo :=
 {m.tried day ⟨Zv f o1,Zv f o2,need,none⟩ with debts:=m.debts ++ [.tup [.int m.trials.length,.tup [.int day,.str y,.str x,.int many]]],deeds:=m.deeds ++ [weD x y many day need o1 o2] }
def Zag(ds:List Deed)(m:Mo)(x y:Str)(many day need:Int)(f:Str->Int)(o1 o2:List Str):Option Str:=(eM 1 1000000 many).or ((eM 0 9999 day).or ((eM 1 12000 need).or ((Yt ds m day ([x,y]++o1++o2) none none).or (Wx m need f o1 o2))))
inductive spWerX (C CM:Addr) (c:Str->Addr) (vs:List V) (H:Hp) (Q:VK) (E:XK):Prop
 | mk (p:Addr) (ds:List Deed) (m:Mo) (O:Addr->Prop) (x y:Str) (many day need:Int) (l1 l2:Addr) (o1 o2:List Str) (f:Str->Int) (h0:vs = [.ref p,.str x,.str y,.int many,.int day,.int need,.ref l1,.ref l2]) (h1:MSt C CM H p ds m O) (h2:CsA ds m H l1 l2 o1 o2 day need f) (h3:¬O l1) (h4:¬O l2) (h5:x.length<=100) (h6:y.length<=100) (h7:okI many) (h8:V9 E c H (∀O' H',MSt C CM H' p ds (m.owes x y many day need f o1 o2) O'->Frm O H O' H'->Q (.int m.trials.length) H') (Zag ds m x y many day need f o1 o2))
abbrev Zm4:Stmt:=Ye (top 61) 9
theorem Zps(Zhm:HasM K CM "wergild" "Moot.wergild" Zm4)(T:Txt mg)(Tm:TxCMoot K CM)(Zhn:FnX P w K mg base "check_money" 1 (spM 1 1000000 c))(Y3:FnX P w K mg base "check_day" 1 (spM 0 9999 c))(Zc0:FnX P w K mg base "check_need" 1 (spM 1 12000 c))(MM_check_named:MtX P w K mg base CM "check_named" 3 (spNamedX C CM c))(MM_check_sides:MtX P w K mg base CM "check_sides" 4 (spSidesX C CM c))(MM_try_case:Mt P w K mg base CM "try_case" ["self", "day", "need", "ones", "others", "oath"] 5 (spTry C CM)):MtX P w K mg base CM "wergild" 6 (spWerX C CM c):=by
 refine Zhm.mx ["self", "claimer", "answerer", "many", "day", "need", "ones", "others", "case"] ["self", "claimer", "answerer", "many", "day", "need", "ones", "others"] fun H vs Q E hr h=>?_
 obtain⟨_,ds,m,_,x,y,many,day,need,l1,l2,o1,o2,f,rfl,⟨M,wa,xs,qs,rfl,W,rfl⟩,a,w1,w2,hx,hy,hmi,k⟩:=h
 refine⟨rfl,_,(Zd (Zh (Y7 Zr Zhn (Za (qvN 3) Zb)))
 (Zd (Zh (Y7 Zr Y3 (Za (qvN 4) Zb)))
 (Zd (Zh (Y7 Zr Zc0 (Za (qvN 5) Zb)))
 (Zd (Zh (Z8 Zr (qvN 0) Tm.cl MM_check_named (Za (qvN 4) (Za (Zu Wk (Zu Wk (Zz (Za (qvN 1) (Za (qvN 2) Zb))) (qvN 6)) (qvN 7)) (Za We (Za We Zb))))))
 (Zd (Zh (Z8 Zr (qvN 0) Tm.cl MM_check_sides (Za (qvN 4) (Za (qvN 5) (Za (qvN 6) (Za (qvN 7) Zb))))))
 (Zd (Zy 8 (Y2 (qvN 0) Tm.cl MM_try_case (Za (qvN 4) (Za (qvN 5) (Za (qvN 6) (Za (qvN 7) (Za We Zb)))))))
 (Zd (Zh (Y4 F.plainAttrs_list F.slot_list_append F.type_list_append Wg (Zn (qvN 0)) (Za (Z9 (Za (qvN 8) (Za (Z9 (Za (qvN 4) (Za (qvN 2) (Za (qvN 1) (Za (qvN 3) Zb))))) Zb))) Zb)))
 (Zd (Zh (Y4 F.plainAttrs_list F.slot_list_append F.type_list_append Wg (Zn (qvN 0)) (Za (Z9 (Za Z3 (Za (qvN 1) (Za (qvN 2) (Za (qvN 3) (Za (qvN 4) (Za (qvN 5) (Za (Zap Za2 T.list Zal (Za (qvN 6) Zb)) (Za (Zap Za2 T.list Zal (Za (qvN 7) Zb)) Zb))))))))) Zb)))
 (Zf (Z5 (qvN 8))))))))))),?_⟩
 have hz:(5000:Nat)<=sizeLine:=by decide
 obtain⟨dm,obm⟩:=W.ob
 have ⟨ok,hds,h1,h2,n1,n2,dI,ni,hw⟩:=a
 have e1:(o1.map V.str).length=o1.length:=xA ..
 have e2:(o2.map V.str).length=o2.length:=xA ..
 unfold Zag at k
 refine⟨_,rfl,many,rfl,hmi,?_⟩
 cases ey:eM 1 1000000 many with
 | some z=>rw[ey] at k;exact k H (Same.refl H)
 | none =>
 rw[ey,xD] at k
 refine⟨_,rfl,day,rfl,dI,?_⟩
 cases ed:eM 0 9999 day with
 | some z=>rw[ed] at k;exact k H (Same.refl H)
 | none =>
 rw[ed,xD] at k
 obtain⟨d0,d1⟩:=Ud ed
 refine⟨_,rfl,need,rfl,ni,?_⟩
 cases en:eM 1 12000 need with
 | some z=>rw[en] at k;exact k H (Same.refl H)
 | none =>
 rw[en,xD] at k
 refine⟨_,rfl,M.p,dm,_,rfl,obm,Z7 _ (by decide +kernel),_,rfl,_,rfl,_,rfl,by show 2<=sizeLine;lia,fun q1 hq1=>?_⟩
 have S1:=Same.new (o:=.lst [.str x,.str y]) hq1
 have k1:(upd H q1 (.lst [.str x,.str y])) q1=some (.lst [.str x,.str y]):=Zg
 generalize (upd H q1 (.lst [.str x,.str y]))=H1 at S1 k1 ⊢
 refine⟨_,rfl,q1,l1,_,_,rfl,rfl,k1,S1 _ _ h1,by rw[e1];show 2+_<=_;lia,fun q2 hq2=>?_⟩
 have S2:=S1.trans (Same.new (o:=.lst ([.str x,.str y]++o1.map V.str)) hq2)
 have k2:(upd H1 q2 (.lst ([.str x,.str y]++o1.map V.str))) q2=some (.lst ([.str x,.str y]++o1.map V.str)):=Zg
 generalize (upd H1 q2 (.lst ([.str x,.str y]++o1.map V.str)))=H2 at S2 k2 ⊢
 refine⟨_,rfl,q2,l2,_,_,rfl,rfl,k2,S2 _ _ h2,by rw[xJ,e1,e2];show 2+_+_<=_;lia,fun q3 hq3=>?_⟩
 have S3:=S2.trans (Same.new (o:=.lst ([.str x,.str y]++o1.map V.str++o2.map V.str)) hq3)
 have k3:(upd H2 q3 (.lst ([.str x,.str y]++o1.map V.str++o2.map V.str))) q3=some (.lst (([x,y]++o1++o2).map V.str)):=by rw[Zg,xQ,xQ];rfl
 generalize (upd H2 q3 (.lst ([.str x,.str y]++o1.map V.str++o2.map V.str)))=H3 at S3 k3 ⊢
 refine⟨M,ds,wa,xs,m,qs,day,q3,[x,y]++o1++o2,none,none,.non,rfl,W.same S3,ok,k3,fun n hn=>?_,dI,(fun j e=>nomatch e),rfl,fun H4 S4'=>?_⟩
 ·rw[yW] at hn
  rcases xH.mp hn with z | z
  ·rcases xC.mp z with z | z
   ·rw[z];exact hx
   ·rw[xI.mp z];exact hy
  ·exact(hw n z).1
 have S4:=S3.trans S4'
 cases ea:Yt ds m day ([x,y]++o1++o2) none none with
 | some z=>rw[ea] at k;exact k H4 S4
 | none =>
 rw[ea,xD] at k
 obtain⟨p1,_⟩:=Zdh ea
 have hall:=a.all fun n hn=>p1 n (by rw[yW];exact xK _ hn)
 refine⟨_,rfl,M.p,dm,_,rfl,S4 _ _ obm,Z7 _ (by decide +kernel),_,rfl,_,rfl,_,rfl,_,rfl,M,ds,wa,xs,m,qs,day,need,l1,l2,o1,o2,f,rfl,W.same S4,ok,hds,S4 _ _ h1,S4 _ _ h2,n1,n2,d0,d1,ni,hall,fun H5 S5'=>?_⟩
 have S5:=S4.trans S5'
 cases es:Wx m need f o1 o2 with
 | some z=>rw[es] at k;exact k H5 S5
 | none =>
 rw[es] at k
 obtain⟨g0,g1⟩:=Ud en
 have h4:=(Zbq es).2
 refine⟨_,rfl,M.p,dm,_,rfl,S5 _ _ obm,Z7 _ (by decide +kernel),_,rfl,_,rfl,_,rfl,_,rfl,M,ds,wa,xs,m,qs,day,need,l1,l2,o1,o2,f,none,.non,rfl,W.same S5,ok,(Zbq es).1,hds,S5 _ _ h1,S5 _ _ h2,n1,n2,d0,d1,g0,g1,fun n hn=>(hall n hn).2,rfl,fun lv s1 s2 H6 W6 T6 F6=>?_⟩
 have R6:Frm (mo M ds wa xs qs) H (mo (M.setv lv) ds wa (s1::s2::xs) qs) H6:=(Frm.same S5).trans ⟨T6,F6⟩
 refine Y5 ?_
 unfold Mo.owes at k
 obtain⟨us,u1,_,hul⟩:=(W6.ls (M.lq,m.debts) (by simp[Mo.at_,Mo.tried,ML.setv])).get
 dsimp only at u1 hul
 have hql:=ok.ql
 obtain⟨dm6,obm6⟩:=W6.ob
 refine⟨_,rfl,M.p,CM,dm6,_,_,rfl,obm6,Tm.cl,Tm.nq,Zj8 _,.inl ⟨rfl,_,SqL.of u1⟩,_,rfl,_,rfl,_,rfl,_,rfl,_,rfl,by show 4<=sizeLine;lia,fun b hb=>?_⟩
 have S7:=Same.new (o:=.tup [.int day,.str y,.str x,.int many]) hb
 have k7:(upd H6 b (.tup [.int day,.str y,.str x,.int many])) b=some (.tup [.int day,.str y,.str x,.int many]):=Zg
 generalize (upd H6 b (.tup [.int day,.str y,.str x,.int many]))=H7 at S7 k7 ⊢
 refine⟨by show 2<=sizeLine;lia,fun a' ha=>?_⟩
 have S8:=Same.new (o:=.tup [.int m.trials.length,.ref b]) ha
 have k8:(upd H7 a' (.tup [.int m.trials.length,.ref b])) a'=some (.tup [.int m.trials.length,.ref b]):=Zg
 generalize (upd H7 a' (.tup [.int m.trials.length,.ref b]))=H8 at S8 k8 ⊢
 have W8:=W6.same (S7.trans S8)
 have u8:=S8 _ _ (S7 _ _ u1)
 refine⟨M.lq,us,.ref a',rfl,rfl,u8,by lia,?_⟩
 have W9:MootAt C CM (upd H8 M.lq (.lst (us ++ [.ref a']))) (M.setv lv) ds wa (s1::s2::xs) _ qs:=W8.debt (d:=.tup [.int m.trials.length,.tup [.int day,.str y,.str x,.int many]]) (v:=.ref a') u8 ⟨a',_,rfl,Y8 k8,⟨_,_,rfl,rfl,⟨_,_,rfl,⟨b,_,rfl,Y8 (S8 _ _ k7),⟨_,_,rfl,rfl,⟨_,_,rfl,rfl,⟨_,_,rfl,rfl,⟨_,_,rfl,rfl,rfl⟩⟩⟩⟩⟩,rfl⟩⟩⟩
 have R9:Frm (mo M ds wa xs qs) H (mo (M.setv lv) ds wa (s1::s2::xs) qs) (upd H8 M.lq (.lst (us ++ [.ref a']))):=(R6.trans (Frm.same (S7.trans S8))).trans ⟨fun b o e nb=>by
  rw[Zc (fun z:b=M.lq=>nb (z ▸ .inr (.inr (.inl (by simp[ML.ls,ML.setv])))))];exact e,fun _ hb=>.inl hb⟩
 generalize (upd H8 M.lq (.lst (us ++ [.ref a'])))=H9 at W9 R9 ⊢
 obtain⟨dm9,obm9⟩:=W9.ob
 obtain⟨vs,f1,_,f2⟩:=(W9.ls (M.ld,m.deeds) (by simp[Mo.at_,Mo.tried,ML.setv])).get
 dsimp only at f1 f2
 have r1:=R9.1 l1 _ h1 w1
 have r2:=R9.1 l2 _ h2 w2
 refine⟨_,rfl,M.p,CM,dm9,_,_,rfl,obm9,Tm.cl,Tm.nd,Vy _,.inl ⟨rfl,_,SqL.of f1⟩,_,rfl,_,rfl,_,rfl,_,rfl,_,rfl,_,rfl,l1,_,rfl,.inl (SqL.of r1),fun a1 ha1=>?_⟩
 have Sa:=Same.new (o:=.lst (o1.map V.str)) ha1
 have ka:(upd H9 a1 (.lst (o1.map V.str))) a1=some (.lst (o1.map V.str)):=Zg
 generalize (upd H9 a1 (.lst (o1.map V.str)))=Ha at Sa ka ⊢
 refine⟨_,rfl,l2,_,rfl,.inl (SqL.of (Sa _ _ r2)),fun a2 ha2=>?_⟩
 have Sb:=Same.new (o:=.lst (o2.map V.str)) ha2
 have kb:(upd Ha a2 (.lst (o2.map V.str))) a2=some (.lst (o2.map V.str)):=Zg
 generalize (upd Ha a2 (.lst (o2.map V.str)))=Hb at Sb kb ⊢
 refine⟨by show 8<=sizeLine;lia,fun q hq'=>?_⟩
 have Sc:=Same.new (o:=.tup [.str "wergild", .str x,.str y,.int many,.int day,.int need,.ref a1,.ref a2]) hq'
 have kc:(upd Hb q (.tup [.str "wergild", .str x,.str y,.int many,.int day,.int need,.ref a1,.ref a2])) q=some (.tup [.str "wergild", .str x,.str y,.int many,.int day,.int need,.ref a1,.ref a2]):=Zg
 generalize (upd Hb q (.tup [.str "wergild", .str x,.str y,.int many,.int day,.int need,.ref a1,.ref a2]))=Hc at Sc kc ⊢
 have Sac:=(Sa.trans Sb).trans Sc
 refine⟨M.ld,vs,.ref q,rfl,rfl,Sac _ _ f1,by lia,?_⟩
 have ka':=Sc _ _ (Sb _ _ ka)
 have kb':=Sc _ _ kb
 obtain⟨W10,R10⟩:=W9.deed2 Sac ha1 (Sa.free ha2) ka' kb' f1 (d:=weD x y many day need o1 o2) (v:=.ref q)
  ⟨q,_,rfl,Y8 kc,⟨_,_,rfl,rfl,⟨_,_,rfl,rfl,⟨_,_,rfl,rfl,⟨_,_,rfl,rfl,⟨_,_,rfl,rfl,⟨_,_,rfl,rfl,⟨_,_,rfl,⟨a1,_,rfl,Uw (by simp) ka',Zbi _ _⟩,⟨_,_,rfl,⟨a2,_,rfl,Uw (by simp) kb',Zbi _ _⟩,rfl⟩⟩⟩⟩⟩⟩⟩⟩⟩
 exact⟨_,rfl,k _ _ ⟨M.setv lv,wa,_,qs,rfl,W10,rfl⟩ (R9.trans R10)⟩
end
section
variable{P:Program}{w:World}{K:uFg}{mg:Str->Option Value}{base:Heap}{C CM:Addr}{c:Str->Addr}
theorem Fn.alias{x y:Str}{ps:List Str}{k:Nat}{sp:Sp}(F:Fn P w K mg base y ps k sp)(e:mg x=mg y):Fn P w K mg base x ps k sp:=let ⟨f,fd,a,b⟩:=F;⟨f,fd,e.trans a,b⟩
def acD(i:Int)(n:Str)(day need:Int)(o1 o2:List Str):D:=.tup [.str "accuse", .int i,.str n,.int day,.int need,.lst (o1.map D.str),.lst (o2.map D.str)]
def Mo.told(m:Mo)(d:D):Mo:={m with deeds:=m.deeds ++ [d] }
theorem MoK.told{m:Mo}(k:MoK m)(d:D):MoK (m.told d):=⟨k.ok,k.dl,k.br,k.le,k.vl,k.hb,fun q hq=>xS (k.hl q hq) (by show _<=(m.deeds ++ [d]).length;rw[xJ];lia),xS k.ql (by show _<=(m.deeds ++ [d]).length;rw[xJ];lia)⟩
def Mo.acc(m:Mo)(i:Int)(n:Str)(day need:Int)(f:Str->Int)(o1 o2:List Str):Mo:=(m.told (acD i n day need o1 o2)).tried day ⟨Zv f o1,Zv f o2,need,some (i,n)⟩
def Ua(ds:List Deed)(m:Mo)(i:Int)(n:Str)(day need:Int)(f:Str->Int)(o1 o2:List Str):Option Str:=(eM 0 9999 day).or ((eM 1 12000 need).or ((Yt ds m day (o1++o2) none (some (i,n))).or ((Wx m need f o1 o2).or (if Zbl m.trials i n = [] then none else some ("Broken" : Str)))))
inductive spAccX (C CM:Addr) (c:Str->Addr) (vs:List V) (H:Hp) (Q:VK) (E:XK):Prop
 | mk (p:Addr) (ds:List Deed) (m:Mo) (O:Addr->Prop) (i:Int) (n:Str) (day need:Int) (l1 l2:Addr) (o1 o2:List Str) (f:Str->Int) (h0:vs = [.ref p,.int i,.str n,.int day,.int need,.ref l1,.ref l2]) (h1:MSt C CM H p ds m O) (h2:CsA ds m H l1 l2 o1 o2 day need f) (h3:¬O l1) (h4:¬O l2) (h5:n.length<=100) (h6:okI i) (h7:V9 E c H (∀O' H',MSt C CM H' p ds (m.acc i n day need f o1 o2) O'->Frm O H O' H'->Q (.int m.trials.length) H') (Ua ds m i n day need f o1 o2))
abbrev Zm5:Stmt:=Ye (top 61) 10
theorem Zr3(Zho:HasM K CM "accuse" "Moot.accuse" Zm5)(T:Txt mg)(Tm:TxCMoot K CM)(er:Er K mg c errs)(Y3:FnX P w K mg base "check_day" 1 (spM 0 9999 c))(Zc0:FnX P w K mg base "check_need" 1 (spM 1 12000 c))(MM_check_named:MtX P w K mg base CM "check_named" 3 (spNamedX C CM c))(MM_check_sides:MtX P w K mg base CM "check_sides" 4 (spSidesX C CM c))(Zz9:Fn P w K mg base "breakers_stands" ["suits", "case", "name"] 6 spBreakers)(MM_try_case:Mt P w K mg base CM "try_case" ["self", "day", "need", "ones", "others", "oath"] 5 (spTry C CM)):MtX P w K mg base CM "accuse" 7 (spAccX C CM c):=by
 refine Zho.mx ["self", "case", "name", "day", "need", "ones", "others"] ["self", "case", "name", "day", "need", "ones", "others"] fun H vs Q E hr h=>?_
 obtain⟨_,ds,m,_,i,n,day,need,l1,l2,o1,o2,f,rfl,⟨M,wa,xs,qs,rfl,W,rfl⟩,a,w1,w2,hx,hi,k⟩:=h
 refine⟨rfl,_,(Zd (Zh (Y7 Zr Y3 (Za (qvN 3) Zb)))
 (Zd (Zh (Y7 Zr Zc0 (Za (qvN 4) Zb)))
 (Zd (Zh (Z8 Zr (qvN 0) Tm.cl MM_check_named (Za (qvN 3) (Za (Zu Wk (qvN 5) (qvN 6)) (Za We (Za (Z9 (Za (qvN 1) (Za (qvN 2) Zb))) Zb))))))
 (Zd (Zh (Z8 Zr (qvN 0) Tm.cl MM_check_sides (Za (qvN 3) (Za (qvN 4) (Za (qvN 5) (Za (qvN 6) Zb))))))
 (Zd (Zp (Zj5 (Yg Zz9 (Za (Zn (qvN 0)) (Za (qvN 1) (Za (qvN 2) Zb)))) (fun _=>rfl)) (Zf (Ys Yk er (Yz (Yc (Yq (qvN 2) (Yc (Yq (qvN 1) (Yc Yy)))))))) Zo)
 (Zd (Zh (Y4 F.plainAttrs_list F.slot_list_append F.type_list_append Wg (Zn (qvN 0)) (Za (Z9 (Za Z3 (Za (qvN 1) (Za (qvN 2) (Za (qvN 3) (Za (qvN 4) (Za (Zap Za2 T.list Zal (Za (qvN 5) Zb)) (Za (Zap Za2 T.list Zal (Za (qvN 6) Zb)) Zb)))))))) Zb)))
 (Zf (Z5 (Y2 (qvN 0) Tm.cl MM_try_case (Za (qvN 3) (Za (qvN 4) (Za (qvN 5) (Za (qvN 6) (Za (Z9 (Za (qvN 1) (Za (qvN 2) Zb))) Zb)))))))))))))),?_⟩
 have hz:(5000:Nat)<=sizeLine:=by decide
 obtain⟨dm,obm⟩:=W.ob
 have ⟨ok,hds,h1,h2,n1,n2,dI,ni,hw⟩:=a
 have e1:(o1.map V.str).length=o1.length:=xA ..
 have e2:(o2.map V.str).length=o2.length:=xA ..
 unfold Ua at k
 refine⟨_,rfl,day,rfl,dI,?_⟩
 cases ed:eM 0 9999 day with
 | some z=>rw[ed] at k;exact k H (Same.refl H)
 | none =>
 rw[ed,xD] at k
 obtain⟨d0,d1⟩:=Ud ed
 refine⟨_,rfl,need,rfl,ni,?_⟩
 cases en:eM 1 12000 need with
 | some z=>rw[en] at k;exact k H (Same.refl H)
 | none =>
 rw[en,xD] at k
 refine⟨_,rfl,M.p,dm,_,rfl,obm,Z7 _ (by decide +kernel),_,rfl,_,rfl,_,rfl,l1,l2,_,_,rfl,rfl,h1,h2,by rw[e1,e2];lia,fun q hq=>?_⟩
 have S1:=Same.new (o:=.lst (o1.map V.str++o2.map V.str)) hq
 have k1:(upd H q (.lst (o1.map V.str++o2.map V.str))) q=some (.lst ((o1++o2).map V.str)):=by rw[Zg,xQ]
 generalize (upd H q (.lst (o1.map V.str++o2.map V.str)))=H1 at S1 k1 ⊢
 refine⟨_,rfl,_,rfl,by show 2<=sizeLine;lia,fun t ht=>?_⟩
 have S2':=Same.new (o:=.tup [.int i,.str n]) ht
 have S2:=S1.trans S2'
 have k2:(upd H1 t (.tup [.int i,.str n])) t=some (.tup [.int i,.str n]):=Zg
 have k2q:=S2' _ _ k1
 generalize (upd H1 t (.tup [.int i,.str n]))=H2 at S2 k2 k2q ⊢
 refine⟨M,ds,wa,xs,m,qs,day,q,o1++o2,none,some (i,n),.ref t,rfl,W.same S2,ok,k2q,fun n hn=>(hw n hn).1,dI,(fun j e=>nomatch e),⟨hi,hx,t,rfl,k2⟩,fun H4 S4'=>?_⟩
 have S4:=S2.trans S4'
 cases ea:Yt ds m day (o1++o2) none (some (i,n)) with
 | some z=>rw[ea] at k;exact k H4 S4
 | none =>
 rw[ea,xD] at k
 obtain⟨p1,_,p3⟩:=Zdh ea
 have ho:=p3 i n rfl
 have hall:=a.all p1
 refine⟨_,rfl,M.p,dm,_,rfl,S4 _ _ obm,Z7 _ (by decide +kernel),_,rfl,_,rfl,_,rfl,_,rfl,M,ds,wa,xs,m,qs,day,need,l1,l2,o1,o2,f,rfl,W.same S4,ok,hds,S4 _ _ h1,S4 _ _ h2,n1,n2,d0,d1,ni,hall,fun H5 S5'=>?_⟩
 have S5:=S4.trans S5'
 cases es:Wx m need f o1 o2 with
 | some z=>rw[es] at k;exact k H5 S5
 | none =>
 rw[es,xD] at k
 obtain⟨g0,g1⟩:=Ud en
 have h4:=(Zbq es).2
 have hin:inB i m.trials.length:=by
  unfold Wa at ho
  by_cases z:inB i m.trials.length
  ·exact z
  ·split at ho
   ·rw[if_neg z] at ho;cases ho
   ·cases ho
 obtain⟨j,rfl⟩:=yO hin.1
 obtain⟨ts,t1,t2,_⟩:=((W.same S5).ls (M.lt,m.trials.map Ws) (by simp[Mo.at_])).get
 have hle:=ok.le
 refine⟨_,rfl,M.p,CM,dm,_,_,rfl,S5 _ _ obm,Tm.cl,Tm.nt,Zav _,_,rfl,_,rfl,M.lt,m.trials,j,n,rfl,⟨ts,t1,t2⟩,ok.ok,by lia,hx,ho,fun lb H6 hlb klb S6'=>?_⟩
 have S6:=S5.trans S6'
 refine⟨_,.inl ⟨_,SqL.of klb,rfl⟩,?_⟩
 cases eb:Zbl m.trials j n with
 | cons z r =>
  rw[eb,if_neg (by intro y;cases y)] at k
  exact Ym ⟨by decide +kernel,_,rfl,.inl ⟨n,rfl,by lia⟩,by decide +kernel,_,rfl,.inr ⟨_,rfl,Wc hi⟩,by decide +kernel,fun _=>k H6 S6⟩
 | nil =>
 rw[eb,if_pos rfl] at k
 refine Yj ?_
 have W6:=W.same S6
 obtain⟨vs,f1,_,f2⟩:=(W6.ls (M.ld,m.deeds) (by simp[Mo.at_])).get
 dsimp only at f1 f2
 refine⟨_,rfl,M.p,CM,dm,_,_,rfl,S6 _ _ obm,Tm.cl,Tm.nd,Vy _,.inl ⟨rfl,_,SqL.of f1⟩,_,rfl,_,rfl,_,rfl,_,rfl,_,rfl,l1,_,rfl,.inl (SqL.of (S6 _ _ h1)),fun a1 ha1=>?_⟩
 have Sa:=Same.new (o:=.lst (o1.map V.str)) ha1
 have ka:(upd H6 a1 (.lst (o1.map V.str))) a1=some (.lst (o1.map V.str)):=Zg
 generalize (upd H6 a1 (.lst (o1.map V.str)))=Ha at Sa ka ⊢
 refine⟨_,rfl,l2,_,rfl,.inl (SqL.of (Sa _ _ (S6 _ _ h2))),fun a2 ha2=>?_⟩
 have Sb:=Same.new (o:=.lst (o2.map V.str)) ha2
 have kb:(upd Ha a2 (.lst (o2.map V.str))) a2=some (.lst (o2.map V.str)):=Zg
 generalize (upd Ha a2 (.lst (o2.map V.str)))=Hb at Sb kb ⊢
 refine⟨by show 7<=sizeLine;lia,fun q' hq'=>?_⟩
 have Sc:=Same.new (o:=.tup [.str "accuse", .int j,.str n,.int day,.int need,.ref a1,.ref a2]) hq'
 have kc:(upd Hb q' (.tup [.str "accuse", .int j,.str n,.int day,.int need,.ref a1,.ref a2])) q'=some (.tup [.str "accuse", .int j,.str n,.int day,.int need,.ref a1,.ref a2]):=Zg
 generalize (upd Hb q' (.tup [.str "accuse", .int j,.str n,.int day,.int need,.ref a1,.ref a2]))=Hc at Sc kc ⊢
 have Sac:=(Sa.trans Sb).trans Sc
 refine⟨M.ld,vs,.ref q',rfl,rfl,Sac _ _ f1,by lia,?_⟩
 have ka':=Sc _ _ (Sb _ _ ka)
 have kb':=Sc _ _ kb
 obtain⟨W7,R7⟩:=W6.deed2 Sac ha1 (Sa.free ha2) ka' kb' f1 (d:=acD j n day need o1 o2) (v:=.ref q')
  ⟨q',_,rfl,Y8 kc,⟨_,_,rfl,rfl,⟨_,_,rfl,rfl,⟨_,_,rfl,rfl,⟨_,_,rfl,rfl,⟨_,_,rfl,rfl,⟨_,_,rfl,⟨a1,_,rfl,Uw (by simp) ka',Zbi _ _⟩,⟨_,_,rfl,⟨a2,_,rfl,Uw (by simp) kb',Zbi _ _⟩,rfl⟩⟩⟩⟩⟩⟩⟩⟩
 replace R7:=(Frm.same S6).trans R7
 generalize (upd Hc M.ld (.lst (vs ++ [.ref q'])))=H7 at W7 R7 ⊢
 obtain⟨dm7,obm7⟩:=W7.ob
 refine⟨_,rfl,M.p,dm7,_,rfl,obm7,Z7 _ (by decide +kernel),_,rfl,_,rfl,_,rfl,_,rfl,_,rfl,_,rfl,by show 2<=sizeLine;lia,fun t2 ht2=>?_⟩
 have S8:=Same.new (o:=.tup [.int j,.str n]) ht2
 have k8:(upd H7 t2 (.tup [.int j,.str n])) t2=some (.tup [.int j,.str n]):=Zg
 generalize (upd H7 t2 (.tup [.int j,.str n]))=H8 at S8 k8 ⊢
 have R8:=R7.trans (Frm.same S8)
 refine⟨M,ds,wa,_,m.told (acD j n day need o1 o2),qs,day,need,l1,l2,o1,o2,f,some ((j:Int),n),.ref t2,rfl,W7.same S8,ok.told _,(Zbq es).1,hds,R8.1 l1 _ h1 w1,R8.1 l2 _ h2 w2,n1,n2,d0,d1,g0,g1,fun n hn=>(hall n hn).2,⟨hi,hx,t2,rfl,k8⟩,fun lv s1 s2 H9 W9 T9 F9=>?_⟩
 exact k _ _ ⟨M.setv lv,wa,_,qs,rfl,W9,rfl⟩ (R8.trans ⟨T9,F9⟩)
end
section
variable{P:Program}{w:World}{K:uFg}{mg:Str->Option Value}{base:Heap}{C CM:Addr}{c:Str->Addr}
def Mo.pena(m:Mo)(n:Str):Mo:={m with pen:=fun x=>if x=n then some (m.trials.length:Int) else m.pen x,npen:=m.npen+1,deeds:=m.deeds ++ [.tup [.str "penance", .str n]] }
inductive spPenX (C CM:Addr) (c:Str->Addr) (vs:List V) (H:Hp) (Q:VK) (E:XK):Prop
 | mk (p:Addr) (ds:List Deed) (m:Mo) (O:Addr->Prop) (n:Str) (h0:vs = [.ref p,.str n]) (h1:MSt C CM H p ds m O) (h2:n.length<=100) (h3:m.npen<=1000) (h4:m.trials.length<=1000) (h5:V9 E c H (∀O' H',MSt C CM H' p ds (m.pena n) O'->Frm O H O' H'->Q .non H') ((Wd ds n).or ((Up ds n).or (Yh m))))
abbrev Zm6:Stmt:=Ye (top 61) 4
theorem Zpt(Zhp:HasM K CM "penance" "Moot.penance" Zm6)(T:Txt mg)(Tc:TxC K C)(Tm:TxCMoot K CM)(M_check_known:MtX P w K mg base C "check_known" 1 (spKnownX C c))(M_check_untold:MtX P w K mg base C "check_untold" 1 (spUntoldX C c))(MM_check_moments:MtX P w K mg base CM "check_moments" 1 (spMomX C CM c)):MtX P w K mg base CM "penance" 2 (spPenX C CM c):=by
 refine Zhp.mx ["self", "name"] ["self", "name"] fun H vs Q E hr h=>?_
 obtain⟨_,ds,m,_,n,rfl,⟨M,wa,xs,qs,rfl,W,rfl⟩,ho,hp4,ht4,k⟩:=h
 refine⟨rfl,_,(Zd (Zh (Z8 Zr (Zn (qvN 0)) Tc.cl M_check_known (Za (qvN 1) Zb)))
 (Zd (Zh (Z8 Zr (Zn (qvN 0)) Tc.cl M_check_untold (Za (qvN 1) Zb)))
 (Zd (Zh (Ul Zr (qvN 0) Tm.cl MM_check_moments))
 (Zd (Uv hr (Zn (qvN 0)) (qvN 1) (Z1 Wm T.len Y1 (Za (Zn (qvN 0)) Zb)))
 (Zf (Zh (Y4 F.plainAttrs_list F.slot_list_append F.type_list_append Wg (Zn (qvN 0)) (Za (Z9 (Za Z3 (Za (qvN 1) Zb))) Zb)))))))),?_⟩
 have hz:(5000:Nat)<=sizeLine:=by decide
 obtain⟨dm,obm⟩:=W.ob
 obtain⟨dx,ob⟩:=W.fk.f.ob
 refine⟨_,rfl,M.p,CM,dm,_,_,rfl,obm,Tm.cl,Tm.nf,V1 _,M.L.p,dx,_,rfl,ob,Yr _ _ _ _ (by decide +kernel),_,rfl,M.L,ds,n,rfl,W.fk.f,ho,?_⟩
 cases ek:Wd ds n with
 | some z=>rw[ek] at k;exact k H (Same.refl H)
 | none =>
 rw[ek,xD] at k
 refine⟨_,rfl,M.p,CM,dm,_,_,rfl,obm,Tm.cl,Tm.nf,V1 _,M.L.p,dx,_,rfl,ob,Yr _ _ _ _ (by decide +kernel),_,rfl,M.L,ds,n,rfl,W.fk.f,ho,?_⟩
 cases eu:Up ds n with
 | some z=>rw[eu] at k;exact k H (Same.refl H)
 | none =>
 rw[eu,xD] at k
 refine⟨_,rfl,M.p,dm,_,rfl,obm,Z7 _ (by decide +kernel),M,ds,wa,xs,m,qs,rfl,W,?_⟩
 cases em:Yh m with
 | some z=>rw[em] at k;exact k H (Same.refl H)
 | none =>
 rw[em] at k
 have hn4:=Zay em
 obtain⟨ts,t1,_,t2⟩:=(W.ls (M.lt,m.trials.map Ws) (by simp[Mo.at_])).get
 dsimp only at t1 t2
 rw[xA] at t2
 obtain⟨kvs,p1,p2,p3⟩:=W.pn
 refine⟨_,rfl,M.p,CM,dm,_,_,rfl,obm,Tm.cl,Tm.nt,Zav _,M.lt,ts,rfl,.inl (SqL.of t1),?_⟩
 refine⟨_,rfl,M.p,CM,dm,_,_,rfl,obm,Tm.cl,Tm.np,Zlh _,_,rfl,M.dp,_,rfl,DPut.k (k:=Sum.inr n) p1 (by lia),?_⟩
 rw[t2]
 have W1:=W.pena (n:=n) (c:=(m.trials.length:Int)) p1
 have g0:∀b o,b≠M.dp->H b=some o->(upd H M.dp (.dK (Zw kvs (.inr n) (.int m.trials.length)))) b=some o:=fun b o nb e=>by rw[Zc nb];exact e
 generalize (upd H M.dp (.dK (Zw kvs (.inr n) (.int m.trials.length))))=H1 at W1 g0 ⊢
 obtain⟨dm2,obm2⟩:=W1.ob
 obtain⟨vs,e1,_,e2⟩:=(W1.ls (M.ld,m.deeds) (by simp[Mo.at_])).get
 dsimp only at e1 e2
 refine⟨_,rfl,M.p,CM,dm2,_,_,rfl,obm2,Tm.cl,Tm.nd,Vy _,.inl ⟨rfl,_,SqL.of e1⟩,_,rfl,by show 2<=sizeLine;lia,fun p hp=>?_⟩
 have S3:=Same.new (o:=.tup [.str "penance", .str n]) hp
 have kp:(upd H1 p (.tup [.str "penance", .str n])) p=some (.tup [.str "penance", .str n]):=Zg
 generalize (upd H1 p (.tup [.str "penance", .str n]))=H3 at S3 kp ⊢
 have W3:=W1.same S3
 refine⟨M.ld,vs,.ref p,rfl,rfl,S3 _ _ e1,by lia,?_⟩
 refine k _ _ ⟨M,wa,xs,qs,rfl,W3.deed (S3 _ _ e1) ⟨p,_,rfl,Y8 kp,⟨_,_,rfl,rfl,⟨_,_,rfl,rfl,rfl⟩⟩⟩,rfl⟩ ⟨fun b o e nb=>?_,fun _ hb=>.inl hb⟩
 rw[Zc (fun z:b=M.ld=>nb (z▸Zax))]
 exact S3 _ _ (g0 b o (fun z=>nb (.inr (.inl z))) e)
end
section
variable{P:Program}{w:World}{K:uFg}{mg:Str->Option Value}{base:Heap}{C CM:Addr}{c:Str->Addr}
theorem Zr4{x:Str}(h:Vf x=true):Y6 x:=by
 unfold Vf at h
 simp only[yJ,decide_eq_true_eq,zE] at h
 exact⟨fun c hc=>by have:=h.2 c hc;unfold okc at this;simpa using this,h.1.1,h.1.2⟩
theorem Zr5{ds:List Deed}{n:Str}{day wt:Int}(h:Vz ds n day wt=none):Y6 n/\(0<=day/\day<=9999)/\(1<=wt/\wt<=1000)/\Zj ds n=none/\(Wz ds).length < 40:=by
 unfold Vz at h
 by_cases z:Vf n=false
 ·rw[if_pos z] at h;cases h
 ·rw[if_neg z] at h
  simp only[zM] at h
  refine⟨Zr4 (by simpa using z),Ud h.1,Ud h.2.1,?_⟩
  obtain⟨a,b⟩:=h.2.2
  refine⟨Classical.byContradiction fun y=>?_,Classical.byContradiction fun y=>?_⟩
  ·rw[if_neg y] at a;cases a
  ·rw[if_neg y] at b;cases b
def coD(n:Str)(day wt:Int):D:=.tup [.str "come", .str n,.int day,.int wt]
inductive spComeX (C CM:Addr) (c:Str->Addr) (vs:List V) (H:Hp) (Q:VK) (E:XK):Prop
 | mk (p:Addr) (ds:List Deed) (m:Mo) (O:Addr->Prop) (n:Str) (day wt:Int) (h0:vs = [.ref p,.str n,.int day,.int wt]) (h1:MSt C CM H p ds m O) (h2:ds.length<=1000) (h3:okN n) (h4:okI day) (h5:okI wt) (h6:V9 E c H (∀O' H',MSt C CM H' p (ds ++ [.come n day wt]) (m.told (coD n day wt)) O'->Frm O H O' H'->Q .non H') ((Vz ds n day wt).or (Yh m)))
abbrev Zm7:Stmt:=Ye (top 61) 1
theorem Zvu(Zhq:HasM K CM "come" "Moot.come" Zm7)(Tc:TxC K C)(Tm:TxCMoot K CM)(M_check_coming:MtX P w K mg base C "check_coming" 2 (spComingX C c))(M_come:Mt P w K mg base C "come" ["self", "name", "day", "weight"] 3 (spComeW C))(MM_check_moments:MtX P w K mg base CM "check_moments" 1 (spMomX C CM c)):MtX P w K mg base CM "come" 4 (spComeX C CM c):=by
 refine Zhq.mx ["self", "name", "day", "weight"] ["self", "name", "day", "weight"] fun H vs Q E hr h=>?_
 obtain⟨_,ds,m,_,n,day,wt,rfl,⟨M,wa,xs,qs,rfl,W0,rfl⟩,hl,ho,hi,hw,k⟩:=h
 refine⟨rfl,_,(Zd (Zh (Z8 Zr (Zn (qvN 0)) Tc.cl M_check_coming (Za (qvN 1) (Za (qvN 2) (Za (qvN 3) Zb)))))
 (Zd (Zh (Ul Zr (qvN 0) Tm.cl MM_check_moments))
 (Zd (Zh (Y2 (Zn (qvN 0)) Tc.cl M_come (Za (qvN 1) (Za (qvN 2) (Za (qvN 3) Zb)))))
 (Zf (Zh (Y4 F.plainAttrs_list F.slot_list_append F.type_list_append Wg (Zn (qvN 0)) (Za (Z9 (Za Z3 (Za (qvN 1) (Za (qvN 2) (Za (qvN 3) Zb))))) Zb))))))),?_⟩
 have hz:(5000:Nat)<=sizeLine:=by decide
 obtain⟨dm,obm⟩:=W0.ob
 obtain⟨dx,ob⟩:=W0.fk.f.ob
 refine⟨_,rfl,M.p,CM,dm,_,_,rfl,obm,Tm.cl,Tm.nf,V1 _,M.L.p,dx,_,rfl,ob,Yr _ _ _ _ (by decide +kernel),_,rfl,_,rfl,_,rfl,M.L,ds,wa,n,day,wt,rfl,W0.fk,hl,ho,hi,hw,fun H1 S1=>?_⟩
 cases ec:Vz ds n day wt with
 | some z=>rw[ec] at k;exact k H1 S1
 | none =>
 rw[ec,xD] at k
 have W1:=W0.same S1
 refine⟨_,rfl,M.p,dm,_,rfl,S1 _ _ obm,Z7 _ (by decide +kernel),M,ds,wa,xs,m,qs,rfl,W1,?_⟩
 cases em:Yh m with
 | some z=>rw[em] at k;exact k H1 S1
 | none =>
 rw[em] at k
 have hn4:=Zay em
 obtain⟨hnm,⟨d0,d1⟩,⟨w0,w1⟩,hc,hcm⟩:=Zr5 ec
 refine⟨_,rfl,M.p,CM,dm,_,_,rfl,S1 _ _ obm,Tm.cl,Tm.nf,V1 _,M.L.p,dx,_,rfl,S1 _ _ ob,Yr _ _ _ _ (by decide +kernel),_,rfl,_,rfl,_,rfl,M.L,ds,wa,n,day,wt,rfl,W1.fk,hcm,hl,hnm,d0,d1,w0,w1,hc,fun wa' H2 F2 T2 R2=>?_⟩
 have W2:=W1.folk F2 T2 R2
 obtain⟨dm2,obm2⟩:=W2.ob
 obtain⟨vs,e1,_,e2⟩:=(W2.ls (M.ld,m.deeds) (by simp[Mo.at_])).get
 dsimp only at e1 e2
 refine⟨_,rfl,M.p,CM,dm2,_,_,rfl,obm2,Tm.cl,Tm.nd,Vy _,.inl ⟨rfl,_,SqL.of e1⟩,_,rfl,_,rfl,_,rfl,by show 4<=sizeLine;lia,fun p hp=>?_⟩
 have S3:=Same.new (o:=.tup [.str "come", .str n,.int day,.int wt]) hp
 have kp:(upd H2 p (.tup [.str "come", .str n,.int day,.int wt])) p=some (.tup [.str "come", .str n,.int day,.int wt]):=Zg
 generalize (upd H2 p (.tup [.str "come", .str n,.int day,.int wt]))=H3 at S3 kp ⊢
 have W3:=W2.same S3
 refine⟨M.ld,vs,.ref p,rfl,rfl,S3 _ _ e1,by lia,?_⟩
 refine k _ _ ⟨M,wa',xs,qs,rfl,W3.deed (S3 _ _ e1) ⟨p,_,rfl,Y8 kp,⟨_,_,rfl,rfl,⟨_,_,rfl,rfl,⟨_,_,rfl,rfl,⟨_,_,rfl,rfl,rfl⟩⟩⟩⟩⟩,rfl⟩ ⟨fun b o e nb=>?_,fun b hb=>?_⟩
 ·rw[Zc (fun z:b=M.ld=>nb (z▸Zax))]
  exact S3 _ _ (T2 b o (S1 _ _ e) fun z=>nb (.inr (.inr (.inr (.inr z)))))
 ·exact(MFresh.folk (xs:=xs) (qs:=qs) R2 b hb).imp id S1.free
end
section
variable{P:Program}{w:World}{K:uFg}{mg:Str->Option Value}{base:Heap}{C CM:Addr}{c:Str->Addr}
def Z1i(n:Str)(day:Int):D:=.tup [.str "bring", .str n,.int day]
def Mo.brg(m:Mo)(n:Str)(day:Int):Mo:={m with brs:=m.brs ++ [.tup [.str n,.int day]],haps:=m.haps ++ [[]],deeds:=m.deeds ++ [Z1i n day] }
def Zbn(m:Mo):Option Str:=if m.brs.length < 40 then none else some "TooMany"
inductive spBringX (C CM:Addr) (c:Str->Addr) (vs:List V) (H:Hp) (Q:VK) (E:XK):Prop
 | mk (p:Addr) (ds:List Deed) (m:Mo) (O:Addr->Prop) (n:Str) (day:Int) (h0:vs = [.ref p,.str n,.int day]) (h1:MSt C CM H p ds m O) (h2:MoK m) (h3:n.length<=100) (h4:okI day) (h5:V9 E c H (∀O' H',MSt C CM H' p ds (m.brg n day) O'->Frm O H O' H'->Q (.int m.brs.length) H') ((eM 0 9999 day).or ((Yt ds m day [n] none none).or ((Zbn m).or (Yh m)))))
abbrev Zm8:Stmt:=Ye (top 61) 5
theorem Ztr(Zhr:HasM K CM "bring" "Moot.bring" Zm8)(T:Txt mg)(Tm:TxCMoot K CM)(C0:∃t,mg "MOST_THINGS" = some (.int 40 t))(er:Er K mg c errs)(Y3:FnX P w K mg base "check_day" 1 (spM 0 9999 c))(MM_check_named:MtX P w K mg base CM "check_named" 3 (spNamedX C CM c))(MM_check_moments:MtX P w K mg base CM "check_moments" 1 (spMomX C CM c)):MtX P w K mg base CM "bring" 4 (spBringX C CM c):=by
 obtain⟨t0,c_MOST_THINGS⟩:=C0
 have r_MOST_THINGS:RelV (.int 40) (.int 40 t0):=⟨t0,rfl⟩
 refine Zhr.mx ["self", "name", "day"] ["self", "name", "day"] fun H vs Q E hr h=>?_
 obtain⟨_,ds,m,_,n,day,rfl,⟨M,wa,xs,qs,rfl,W0,rfl⟩,ok,ho,dI,k⟩:=h
 refine⟨rfl,_,(Zd (Zh (Y7 Zr Y3 (Za (qvN 2) Zb)))
 (Zd (Zh (Z8 Zr (qvN 0) Tm.cl MM_check_named (Za (qvN 2) (Za (Zz (Za (qvN 1) Zb)) (Za We (Za We Zb))))))
 (Zd (Zp (Zs Zaq (Z1 Wm T.len Y1 (Za (Zn (qvN 0)) Zb)) (Z4 c_MOST_THINGS r_MOST_THINGS) (Z2 _)) (Zf (Ys Yk er (Yz (Yc (Yq (Z4 c_MOST_THINGS r_MOST_THINGS) (Yc Yy)))))) Zo)
 (Zd (Zh (Ul Zr (qvN 0) Tm.cl MM_check_moments))
 (Zd (Zh (Y4 F.plainAttrs_list F.slot_list_append F.type_list_append Wg (Zn (qvN 0)) (Za (Z9 (Za (qvN 1) (Za (qvN 2) Zb))) Zb)))
 (Zd (Zh (Y4 F.plainAttrs_list F.slot_list_append F.type_list_append Wg (Zn (qvN 0)) (Za (Zz Zb) Zb)))
 (Zd (Zh (Y4 F.plainAttrs_list F.slot_list_append F.type_list_append Wg (Zn (qvN 0)) (Za (Z9 (Za Z3 (Za (qvN 1) (Za (qvN 2) Zb)))) Zb)))
 (Zf (Z5 (Zu Zcn (Z1 Wm T.len Y1 (Za (Zn (qvN 0)) Zb)) Ze)))))))))),?_⟩
 have hz:(5000:Nat)<=sizeLine:=by decide
 have hhb:=ok.hb
 refine⟨_,rfl,day,rfl,dI,?_⟩
 cases ed:eM 0 9999 day with
 | some z=>rw[ed] at k;exact k H (Same.refl H)
 | none =>
 rw[ed,xD] at k
 obtain⟨dm,obm⟩:=W0.ob
 refine⟨_,rfl,M.p,dm,_,rfl,obm,Z7 _ (by decide +kernel),_,rfl,_,rfl,by show 1<=sizeLine;lia,fun pl hpl=>?_⟩
 have S1:=Same.new (o:=.lst [.str n]) hpl
 have k1:(upd H pl (.lst [.str n])) pl=some (.lst ([n].map V.str)):=Zg
 generalize (upd H pl (.lst [.str n]))=H1 at S1 k1 ⊢
 have W1:=W0.same S1
 refine⟨M,ds,wa,xs,m,qs,day,pl,[n],none,none,.non,rfl,W1,ok,k1,fun m hm=>by rw[xI.mp hm];exact ho,dI,(fun j e=>nomatch e),rfl,fun H1' S1'=>?_⟩
 replace S1:=S1.trans S1'
 replace W1:=W1.same S1'
 cases en:Yt ds m day [n] none none with
 | some z=>rw[en] at k;exact k H1' S1
 | none =>
 rw[en,xD] at k
 have obm1:=S1 _ _ obm
 obtain⟨us,e1,_,hul⟩:=(W1.ls (M.lb,m.brs) (by simp[Mo.at_])).get
 dsimp only at e1 hul
 refine⟨_,rfl,M.p,CM,dm,_,_,rfl,obm1,Tm.cl,Tm.nb,Zcl _,M.lb,us,rfl,.inl (SqL.of e1),_,_,rfl,rfl,_,rfl,Z6 (fun z=>?_) (fun z=>?_)⟩
 ·have:Zbn m=some "TooMany" := if_neg (by lia)
  rw[this] at k
  exact⟨by decide +kernel,.inr ⟨40,rfl,by decide +kernel⟩,by decide +kernel,fun _=>k H1' S1⟩
 have hl:m.brs.length < 40:=by lia
 have:Zbn m=none:=if_pos hl
 rw[this,xD] at k
 refine⟨_,rfl,M.p,dm,_,rfl,obm1,Z7 _ (by decide +kernel),M,ds,wa,xs,m,qs,rfl,W1,?_⟩
 cases em:Yh m with
 | some z=>rw[em] at k;exact k H1' S1
 | none =>
 rw[em] at k
 have hn4:=Zay em
 refine⟨_,rfl,M.p,CM,dm,_,_,rfl,obm1,Tm.cl,Tm.nb,Zcl _,.inl ⟨rfl,_,SqL.of e1⟩,_,rfl,_,rfl,by show 2<=sizeLine;lia,fun a ha=>?_⟩
 have S2:=Same.new (o:=.tup [.str n,.int day]) ha
 have k2:(upd H1' a (.tup [.str n,.int day])) a=some (.tup [.str n,.int day]):=Zg
 generalize (upd H1' a (.tup [.str n,.int day]))=H2 at S2 k2 ⊢
 have W2:=W1.same S2
 refine⟨M.lb,us,.ref a,rfl,rfl,S2 _ _ e1,by lia,?_⟩
 have W3:=W2.brg (S2 _ _ e1) (d:=.tup [.str n,.int day]) (v:=.ref a) ⟨a,_,rfl,Y8 k2,⟨_,_,rfl,rfl,⟨_,_,rfl,rfl,rfl⟩⟩⟩
 have T3:Ux M ds wa xs qs H (upd H2 M.lb (.lst (us ++ [.ref a]))):=fun b o e nb=>by
  rw[Zc (fun z:b=M.lb=>nb (z ▸ .inr (.inr (.inl (by simp[ML.ls])))))]
  exact S2 _ _ (S1 _ _ e)
 generalize (upd H2 M.lb (.lst (us ++ [.ref a])))=H3 at W3 T3 ⊢
 obtain⟨dm2,obm2⟩:=W3.ob
 have e3:=W3.hl
 refine⟨_,rfl,M.p,CM,dm2,_,_,rfl,obm2,Tm.cl,Tm.nh,Zft _,.inl ⟨rfl,_,SqL.of e3⟩,by show 0<=sizeLine;lia,fun q hq=>?_⟩
 have S4:=Same.new (o:=.lst []) hq
 have k4:(upd H3 q (.lst [])) q=some (.lst []):=Zg
 have nq:¬mo M ds wa xs qs q:=fun z=>by obtain⟨o,e⟩:=W3.there z;rw[hq] at e;cases e
 have hqf:H q=none:=by
  cases e:H q with
  | none=>rfl
  | some o=>rw[T3 q o e nq] at hq;cases hq
 generalize (upd H3 q (.lst []))=H4 at S4 k4 ⊢
 refine⟨M.lh,qs.map V.ref,.ref q,rfl,rfl,S4 _ _ e3,by rw[xA];have:=W0.hn;lia,?_⟩
 have W5:=(W3.same S4).newq k4 nq
 have T5:Ux M ds wa xs qs H (upd H4 M.lh (.lst (qs.map V.ref ++ [.ref q]))):=fun b o e nb=>by
  rw[Zc (fun z:b=M.lh=>nb (z ▸ .inr (.inr (.inl yD))))]
  exact S4 _ _ (T3 b o e nb)
 have em:(qs ++ [q]).map V.ref=qs.map V.ref ++ [.ref q]:=by rw[xQ];rfl
 rw[em] at W5
 generalize (upd H4 M.lh (.lst (qs.map V.ref ++ [.ref q])))=H5 at W5 T5 ⊢
 obtain⟨dm4,obm4⟩:=W5.ob
 obtain⟨vs,f1,_,f2⟩:=(W5.ls (M.ld,m.deeds) (by simp[Mo.at_])).get
 dsimp only at f1 f2
 refine⟨_,rfl,M.p,CM,dm4,_,_,rfl,obm4,Tm.cl,Tm.nd,Vy _,.inl ⟨rfl,_,SqL.of f1⟩,_,rfl,_,rfl,by show 3<=sizeLine;lia,fun p hp=>?_⟩
 have S6:=Same.new (o:=.tup [.str "bring", .str n,.int day]) hp
 have k6:(upd H5 p (.tup [.str "bring", .str n,.int day])) p=some (.tup [.str "bring", .str n,.int day]):=Zg
 generalize (upd H5 p (.tup [.str "bring", .str n,.int day]))=H6 at S6 k6 ⊢
 have W6:=W5.same S6
 refine⟨M.ld,vs,.ref p,rfl,rfl,S6 _ _ f1,by lia,?_⟩
 have W7:=W6.deed (v:=.ref p) (S6 _ _ f1) (d:=.tup [.str "bring", .str n,.int day]) ⟨p,_,rfl,Y8 k6,⟨_,_,rfl,rfl,⟨_,_,rfl,rfl,⟨_,_,rfl,rfl,rfl⟩⟩⟩⟩
 have T7:Ux M ds wa xs qs H (upd H6 M.ld (.lst (vs ++ [.ref p]))):=fun b o e nb=>by
  rw[Zc (fun z:b=M.ld=>nb (z▸Zax))]
  exact S6 _ _ (T5 b o e nb)
 generalize (upd H6 M.ld (.lst (vs ++ [.ref p])))=H7 at W7 T7 ⊢
 obtain⟨dm6,obm6⟩:=W7.ob
 obtain⟨us6,g1,_,g2⟩:=(W7.ls (M.lb,m.brs ++ [.tup [.str n,.int day]]) (by simp[Mo.at_])).get
 dsimp only at g1 g2
 rw[xJ] at g2
 refine⟨_,rfl,M.p,CM,dm6,_,_,rfl,obm6,Tm.cl,Tm.nb,Zcl _,M.lb,us6,rfl,.inl (SqL.of g1),_,_,rfl,rfl,?_⟩
 have ei:((us6.length:Int) - 1)=(m.brs.length:Int):=by rw[g2];simp
 show Q (.int ((us6.length:Int) - 1)) H7
 rw[ei]
 refine k _ H7 ⟨M,wa,xs,_,rfl,W7,rfl⟩ ⟨T7,fun b hb=>?_⟩
 rcases hb with z | z | z | z | z
 ·exact .inl (.inl z)
 ·exact .inl (.inr (.inl z))
 ·rw[← yW,← xT] at z
  rcases xH.mp z with z | z
  ·exact .inl (.inr (.inr (.inl z)))
  ·rw[xI.mp z];exact .inr hqf
 ·exact .inl (.inr (.inr (.inr (.inl z))))
 ·exact .inl (.inr (.inr (.inr (.inr z))))
end
section
variable{P:Program}{w:World}{K:uFg}{mg:Str->Option Value}{base:Heap}{C CM:Addr}{c:Str->Addr}
def gvD(i:Int)(x y:Str)(day:Int):D:=.tup [.str "give", .int i,.str x,.str y,.int day]
def Mo.give(m:Mo)(i:Nat)(x y:Str)(day:Int):Mo:={m with haps:=m.haps.set i (m.haps.getD i [] ++ [.tup [.non,.tup [.int day,.str "given", .str x,.str y]]]),deeds:=m.deeds ++ [gvD i x y day] }
inductive spGiveX (C CM:Addr) (c:Str->Addr) (vs:List V) (H:Hp) (Q:VK) (E:XK):Prop
 | mk (p:Addr) (ds:List Deed) (m:Mo) (O:Addr->Prop) (i:Int) (x y:Str) (day:Int) (h0:vs = [.ref p,.int i,.str x,.str y,.int day]) (h1:MSt C CM H p ds m O) (h2:MoK m) (h3:x.length<=100) (h4:y.length<=100) (h5:okI i) (h6:okI day) (h7:V9 E c H (∀O' H',MSt C CM H' p ds (m.give i.toNat x y day) O'->Frm O H O' H'->Q .non H') ((eM 0 9999 day).or ((Yt ds m day [x,y] (some i) none).or (Yh m))))
abbrev Zm9:Stmt:=Ye (top 61) 6
theorem Zvv(Zhs:HasM K CM "give" "Moot.give" Zm9)(Tm:TxCMoot K CM)(Y3:FnX P w K mg base "check_day" 1 (spM 0 9999 c))(MM_check_named:MtX P w K mg base CM "check_named" 3 (spNamedX C CM c))(MM_check_moments:MtX P w K mg base CM "check_moments" 1 (spMomX C CM c)):MtX P w K mg base CM "give" 4 (spGiveX C CM c):=by
 refine Zhs.mx ["self", "thing", "giver", "taker", "day"] ["self", "thing", "giver", "taker", "day"] fun H vs Q E hr h=>?_
 obtain⟨_,ds,m,_,i,x,y,day,rfl,⟨M,wa,xs,qs,rfl,W0,rfl⟩,ok,hx,hy,hi,dI,k⟩:=h
 refine⟨rfl,_,(Zd (Zh (Y7 Zr Y3 (Za (qvN 4) Zb)))
 (Zd (Zh (Z8 Zr (qvN 0) Tm.cl MM_check_named (Za (qvN 4) (Za (Zz (Za (qvN 2) (Za (qvN 3) Zb))) (Za (qvN 1) (Za We Zb))))))
 (Zd (Zh (Ul Zr (qvN 0) Tm.cl MM_check_moments))
 (Zd (Zh (Y4 F.plainAttrs_list F.slot_list_append F.type_list_append Wg (Zk Yx (Zn (qvN 0)) (qvN 1) (fun _ _=>rfl)) (Za (Z9 (Za We (Za (Z9 (Za (qvN 4) (Za Z3 (Za (qvN 2) (Za (qvN 3) Zb))))) Zb))) Zb)))
 (Zf (Zh (Y4 F.plainAttrs_list F.slot_list_append F.type_list_append Wg (Zn (qvN 0)) (Za (Z9 (Za Z3 (Za (qvN 1) (Za (qvN 2) (Za (qvN 3) (Za (qvN 4) Zb)))))) Zb)))))))),?_⟩
 have hz:(5000:Nat)<=sizeLine:=by decide
 refine⟨_,rfl,day,rfl,dI,?_⟩
 cases ed:eM 0 9999 day with
 | some z=>rw[ed] at k;exact k H (Same.refl H)
 | none =>
 rw[ed,xD] at k
 obtain⟨dm,obm⟩:=W0.ob
 refine⟨_,rfl,M.p,dm,_,rfl,obm,Z7 _ (by decide +kernel),_,rfl,_,rfl,_,rfl,by show 2<=sizeLine;lia,fun pl hpl=>?_⟩
 have S1:=Same.new (o:=.lst [.str x,.str y]) hpl
 have k1:(upd H pl (.lst [.str x,.str y])) pl=some (.lst ([x,y].map V.str)):=Zg
 generalize (upd H pl (.lst [.str x,.str y]))=H1 at S1 k1 ⊢
 refine⟨_,rfl,M,ds,wa,xs,m,qs,day,pl,[x,y],some i,none,.non,rfl,W0.same S1,ok,k1,fun n hn=>?_,dI,(fun j e=>by cases e;exact hi),rfl,fun H1' S1'=>?_⟩
 ·rcases xC.mp hn with z | z
  ·rw[z];exact hx
  ·rw[xI.mp z];exact hy
 replace S1:=S1.trans S1'
 cases en:Yt ds m day [x,y] (some i) none with
 | some z=>rw[en] at k;exact k H1' S1
 | none =>
 rw[en,xD] at k
 have W1:=W0.same S1
 have obm1:=S1 _ _ obm
 refine⟨_,rfl,M.p,dm,_,rfl,obm1,Z7 _ (by decide +kernel),M,ds,wa,xs,m,qs,rfl,W1,?_⟩
 cases em:Yh m with
 | some z=>rw[em] at k;exact k H1' S1
 | none =>
 rw[em] at k
 have hn4:=Zay em
 obtain⟨_,p2,_⟩:=Zdh en
 have hin:inB i m.brs.length:=by
  have:=p2 i rfl
  unfold Vr at this
  by_cases z:inB i m.brs.length
  ·exact z
  ·rw[if_neg z] at this;cases this
 obtain⟨i,rfl⟩:=yO hin.1
 have hj:i < m.haps.length:=by rw[ok.hb];have:=hin.2;lia
 have hcl:m.haps[i]? = some (m.haps.getD i []):=by rw[xR,xB hj];rfl
 have hcn:=ok.hl _ (xO hcl)
 rw[yR] at k
 unfold Mo.give at k
 generalize m.haps.getD i []=cl at hcl hcn k
 have hi:i < qs.length:=by rw[W1.hn];exact(xG.mp hcl).1
 have hq:qs[i]? = some qs[i]:=xB hi
 have mz:(qs[i],cl)∈qs.zip m.haps:=xO (i:=i) (by rw[yY];exact⟨hq,hcl⟩)
 obtain⟨us,e1,_,hul⟩:=(W1.ls (qs[i],cl) (by simp[Mo.at_,mz])).get
 dsimp only at e1 hul
 refine⟨_,rfl,M.p,CM,dm,_,_,rfl,obm1,Tm.cl,Tm.nh,Zft _,_,rfl,M.lh,_,i,.ref qs[i],rfl,rfl,SqL.of W1.hl,Va (by rw[xP,hq];rfl),.inl ⟨rfl,_,SqL.of e1⟩,_,rfl,_,rfl,_,rfl,by show 4<=sizeLine;lia,fun b hb=>?_⟩
 have S2:=Same.new (o:=.tup [.int day,.str "given", .str x,.str y]) hb
 have k2:(upd H1' b (.tup [.int day,.str "given", .str x,.str y])) b=some (.tup [.int day,.str "given", .str x,.str y]):=Zg
 generalize (upd H1' b (.tup [.int day,.str "given", .str x,.str y]))=H2 at S2 k2 ⊢
 refine⟨by show 2<=sizeLine;lia,fun a ha=>?_⟩
 have S3:=Same.new (o:=.tup [.non,.ref b]) ha
 have k3:(upd H2 a (.tup [.non,.ref b])) a=some (.tup [.non,.ref b]):=Zg
 generalize (upd H2 a (.tup [.non,.ref b]))=H3 at S3 k3 ⊢
 have W3:=(W1.same S2).same S3
 have e3:=S3 _ _ (S2 _ _ e1)
 refine⟨qs[i],us,.ref a,rfl,rfl,e3,by lia,?_⟩
 have W4:=W3.hap hq hcl (d:=.tup [.non,.tup [.int day,.str "given", .str x,.str y]]) (v:=.ref a) e3 ⟨a,_,rfl,Y8 k3,⟨_,_,rfl,rfl,⟨_,_,rfl,⟨b,_,rfl,Y8 (S3 _ _ k2),⟨_,_,rfl,rfl,⟨_,_,rfl,rfl,⟨_,_,rfl,rfl,⟨_,_,rfl,rfl,rfl⟩⟩⟩⟩⟩,rfl⟩⟩⟩
 have T4:Ux M ds wa xs qs H (upd H3 qs[i] (.lst (us ++ [.ref a]))):=fun c o e nb=>by
  rw[Zc (fun z:c=qs[i]=>nb (z ▸ .inr (.inr (.inl (xX _ (xK _ (zT hi)))))))]
  exact S3 _ _ (S2 _ _ (S1 _ _ e))
 generalize (upd H3 qs[i] (.lst (us ++ [.ref a])))=H4 at W4 T4 ⊢
 obtain⟨dm4,obm4⟩:=W4.ob
 obtain⟨vs,f1,_,f2⟩:=(W4.ls (M.ld,m.deeds) (by simp[Mo.at_])).get
 dsimp only at f1 f2
 refine⟨_,rfl,M.p,CM,dm4,_,_,rfl,obm4,Tm.cl,Tm.nd,Vy _,.inl ⟨rfl,_,SqL.of f1⟩,_,rfl,_,rfl,_,rfl,_,rfl,by show 5<=sizeLine;lia,fun p hp=>?_⟩
 have S5:=Same.new (o:=.tup [.str "give", .int i,.str x,.str y,.int day]) hp
 have kp:(upd H4 p (.tup [.str "give", .int i,.str x,.str y,.int day])) p=some (.tup [.str "give", .int i,.str x,.str y,.int day]):=Zg
 generalize (upd H4 p (.tup [.str "give", .int i,.str x,.str y,.int day]))=H5 at S5 kp ⊢
 refine⟨M.ld,vs,.ref p,rfl,rfl,S5 _ _ f1,by lia,?_⟩
 refine k _ _ ⟨M,wa,xs,qs,rfl,(W4.same S5).deed (S5 _ _ f1) ⟨p,_,rfl,Y8 kp,⟨_,_,rfl,rfl,⟨_,_,rfl,rfl,⟨_,_,rfl,rfl,⟨_,_,rfl,rfl,⟨_,_,rfl,rfl,rfl⟩⟩⟩⟩⟩⟩,rfl⟩ ⟨fun c o e nb=>?_,fun _ hb=>.inl hb⟩
 rw[Zc (fun z:c=M.ld=>nb (z▸Zax))]
 exact S5 _ _ (T4 c o e nb)
end
section
variable{P:Program}{w:World}{K:uFg}{mg:Str->Option Value}{base:Heap}{C CM:Addr}{c:Str->Addr}
def pyD(x y:Str)(many day:Int):D:=.tup [.str "pay", .str x,.str y,.int many,.int day]
def Mo.pay(m:Mo)(x y:Str)(many day:Int):Mo:={m with debts:=m.debts ++ [.tup [.non,.tup [.int day,.str y,.str x,.int many]]],deeds:=m.deeds ++ [pyD x y many day] }
inductive spPayX (C CM:Addr) (c:Str->Addr) (vs:List V) (H:Hp) (Q:VK) (E:XK):Prop
 | mk (p:Addr) (ds:List Deed) (m:Mo) (O:Addr->Prop) (x y:Str) (many day:Int) (h0:vs = [.ref p,.str x,.str y,.int many,.int day]) (h1:MSt C CM H p ds m O) (h2:MoK m) (h3:x.length<=100) (h4:y.length<=100) (h5:okI many) (h6:okI day) (h7:V9 E c H (∀O' H',MSt C CM H' p ds (m.pay x y many day) O'->Frm O H O' H'->Q .non H') ((eM 1 1000000 many).or ((eM 0 9999 day).or ((Yt ds m day [x,y] none none).or (Yh m)))))
abbrev Zna:Stmt:=Ye (top 61) 7
theorem Zxt(Zht:HasM K CM "pay" "Moot.pay" Zna)(Tm:TxCMoot K CM)(Zhn:FnX P w K mg base "check_money" 1 (spM 1 1000000 c))(Y3:FnX P w K mg base "check_day" 1 (spM 0 9999 c))(MM_check_named:MtX P w K mg base CM "check_named" 3 (spNamedX C CM c))(MM_check_moments:MtX P w K mg base CM "check_moments" 1 (spMomX C CM c)):MtX P w K mg base CM "pay" 4 (spPayX C CM c):=by
 refine Zht.mx ["self", "payer", "taker", "many", "day"] ["self", "payer", "taker", "many", "day"] fun H vs Q E hr h=>?_
 obtain⟨_,ds,m,_,x,y,many,day,rfl,⟨M,wa,xs,qs,rfl,W0,rfl⟩,ok,hx,hy,hmi,dI,k⟩:=h
 refine⟨rfl,_,(Zd (Zh (Y7 Zr Zhn (Za (qvN 3) Zb)))
 (Zd (Zh (Y7 Zr Y3 (Za (qvN 4) Zb)))
 (Zd (Zh (Z8 Zr (qvN 0) Tm.cl MM_check_named (Za (qvN 4) (Za (Zz (Za (qvN 1) (Za (qvN 2) Zb))) (Za We (Za We Zb))))))
 (Zd (Zh (Ul Zr (qvN 0) Tm.cl MM_check_moments))
 (Zd (Zh (Y4 F.plainAttrs_list F.slot_list_append F.type_list_append Wg (Zn (qvN 0)) (Za (Z9 (Za We (Za (Z9 (Za (qvN 4) (Za (qvN 2) (Za (qvN 1) (Za (qvN 3) Zb))))) Zb))) Zb)))
 (Zf (Zh (Y4 F.plainAttrs_list F.slot_list_append F.type_list_append Wg (Zn (qvN 0)) (Za (Z9 (Za Z3 (Za (qvN 1) (Za (qvN 2) (Za (qvN 3) (Za (qvN 4) Zb)))))) Zb))))))))),?_⟩
 have hz:(5000:Nat)<=sizeLine:=by decide
 have hql:=ok.ql
 refine⟨_,rfl,many,rfl,hmi,?_⟩
 cases ey:eM 1 1000000 many with
 | some z=>rw[ey] at k;exact k H (Same.refl H)
 | none =>
 rw[ey,xD] at k
 refine⟨_,rfl,day,rfl,dI,?_⟩
 cases ed:eM 0 9999 day with
 | some z=>rw[ed] at k;exact k H (Same.refl H)
 | none =>
 rw[ed,xD] at k
 obtain⟨dm,obm⟩:=W0.ob
 refine⟨_,rfl,M.p,dm,_,rfl,obm,Z7 _ (by decide +kernel),_,rfl,_,rfl,_,rfl,by show 2<=sizeLine;lia,fun pl hpl=>?_⟩
 have S1:=Same.new (o:=.lst [.str x,.str y]) hpl
 have k1:(upd H pl (.lst [.str x,.str y])) pl=some (.lst ([x,y].map V.str)):=Zg
 generalize (upd H pl (.lst [.str x,.str y]))=H1 at S1 k1 ⊢
 refine⟨M,ds,wa,xs,m,qs,day,pl,[x,y],none,none,.non,rfl,W0.same S1,ok,k1,fun n hn=>?_,dI,(fun j e=>nomatch e),rfl,fun H1' S1'=>?_⟩
 ·rcases xC.mp hn with z | z
  ·rw[z];exact hx
  ·rw[xI.mp z];exact hy
 replace S1:=S1.trans S1'
 cases en:Yt ds m day [x,y] none none with
 | some z=>rw[en] at k;exact k H1' S1
 | none =>
 rw[en,xD] at k
 have W1:=W0.same S1
 have obm1:=S1 _ _ obm
 refine⟨_,rfl,M.p,dm,_,rfl,obm1,Z7 _ (by decide +kernel),M,ds,wa,xs,m,qs,rfl,W1,?_⟩
 cases em:Yh m with
 | some z=>rw[em] at k;exact k H1' S1
 | none =>
 rw[em] at k
 have hn4:=Zay em
 obtain⟨us,e1,_,hul⟩:=(W1.ls (M.lq,m.debts) (by simp[Mo.at_])).get
 dsimp only at e1 hul
 refine⟨_,rfl,M.p,CM,dm,_,_,rfl,obm1,Tm.cl,Tm.nq,Zj8 _,.inl ⟨rfl,_,SqL.of e1⟩,_,rfl,_,rfl,_,rfl,_,rfl,by show 4<=sizeLine;lia,fun b hb=>?_⟩
 have S2:=Same.new (o:=.tup [.int day,.str y,.str x,.int many]) hb
 have k2:(upd H1' b (.tup [.int day,.str y,.str x,.int many])) b=some (.tup [.int day,.str y,.str x,.int many]):=Zg
 generalize (upd H1' b (.tup [.int day,.str y,.str x,.int many]))=H2 at S2 k2 ⊢
 refine⟨by show 2<=sizeLine;lia,fun a ha=>?_⟩
 have S3:=Same.new (o:=.tup [.non,.ref b]) ha
 have k3:(upd H2 a (.tup [.non,.ref b])) a=some (.tup [.non,.ref b]):=Zg
 generalize (upd H2 a (.tup [.non,.ref b]))=H3 at S3 k3 ⊢
 have W3:=(W1.same S2).same S3
 have e3:=S3 _ _ (S2 _ _ e1)
 refine⟨M.lq,us,.ref a,rfl,rfl,e3,by lia,?_⟩
 have W4:=W3.debt (d:=.tup [.non,.tup [.int day,.str y,.str x,.int many]]) (v:=.ref a) e3 ⟨a,_,rfl,Y8 k3,⟨_,_,rfl,rfl,⟨_,_,rfl,⟨b,_,rfl,Y8 (S3 _ _ k2),⟨_,_,rfl,rfl,⟨_,_,rfl,rfl,⟨_,_,rfl,rfl,⟨_,_,rfl,rfl,rfl⟩⟩⟩⟩⟩,rfl⟩⟩⟩
 have T4:Ux M ds wa xs qs H (upd H3 M.lq (.lst (us ++ [.ref a]))):=fun c o e nb=>by
  rw[Zc (fun z:c=M.lq=>nb (z ▸ .inr (.inr (.inl (by simp[ML.ls])))))]
  exact S3 _ _ (S2 _ _ (S1 _ _ e))
 generalize (upd H3 M.lq (.lst (us ++ [.ref a])))=H4 at W4 T4 ⊢
 obtain⟨dm4,obm4⟩:=W4.ob
 obtain⟨vs,f1,_,f2⟩:=(W4.ls (M.ld,m.deeds) (by simp[Mo.at_])).get
 dsimp only at f1 f2
 refine⟨_,rfl,M.p,CM,dm4,_,_,rfl,obm4,Tm.cl,Tm.nd,Vy _,.inl ⟨rfl,_,SqL.of f1⟩,_,rfl,_,rfl,_,rfl,_,rfl,by show 5<=sizeLine;lia,fun p hp=>?_⟩
 have S5:=Same.new (o:=.tup [.str "pay", .str x,.str y,.int many,.int day]) hp
 have kp:(upd H4 p (.tup [.str "pay", .str x,.str y,.int many,.int day])) p=some (.tup [.str "pay", .str x,.str y,.int many,.int day]):=Zg
 generalize (upd H4 p (.tup [.str "pay", .str x,.str y,.int many,.int day]))=H5 at S5 kp ⊢
 refine⟨M.ld,vs,.ref p,rfl,rfl,S5 _ _ f1,by lia,?_⟩
 refine k _ _ ⟨M,wa,xs,qs,rfl,(W4.same S5).deed (S5 _ _ f1) ⟨p,_,rfl,Y8 kp,⟨_,_,rfl,rfl,⟨_,_,rfl,rfl,⟨_,_,rfl,rfl,⟨_,_,rfl,rfl,⟨_,_,rfl,rfl,rfl⟩⟩⟩⟩⟩⟩,rfl⟩ ⟨fun c o e nb=>?_,fun _ hb=>.inl hb⟩
 rw[Zc (fun z:c=M.ld=>nb (z▸Zax))]
 exact S5 _ _ (T4 c o e nb)
end
section
variable{P:Program}{w:World}{K:uFg}{mg:Str->Option Value}{base:Heap}{C CM:Addr}{c:Str->Addr}
theorem Zfj{d day:Int}(h:Yn d day=none):d<=day:=by
 unfold Yn at h
 by_cases z:day < d
 ·rw[if_pos z] at h;cases h
 ·lia
theorem Zvw{ds:List Deed}{n:Str}{day wt:Int}(h:Vq ds n day wt=none):(0<=day/\day<=9999)/\(1<=wt/\wt<=1000)/\(∃d,Zj ds n=some d/\d<=day)/\Vo ds n day=false:=by
 unfold Vq at h
 simp only[zM] at h
 obtain⟨h1,h2,h3,h4,h5⟩:=h
 obtain⟨d,hd⟩:=Zbo h3
 rw[hd] at h4
 refine⟨Ud h1,Ud h2,⟨d,hd,Zfj h4⟩,?_⟩
 unfold Vg at h5
 cases z:Vo ds n day with
 | false=>rfl
 | true=>rw[if_pos z] at h5;cases h5
theorem Zxu{ds:List Deed}{n he:Str}{day:Int}(h:V7 ds n he day=none):(0<=day/\day<=9999)/\(∃d,Zj ds n=some d/\d<=day)/\(∃d,Zj ds he=some d/\d<=day)/\Z0 ds n=none/\Z0 ds he=none/\he≠n:=by
 unfold V7 at h
 simp only[zM] at h
 obtain⟨h1,h2,h3,h4,h5,h6,h7⟩:=h
 obtain⟨d,hd⟩:=Zbo h2
 obtain⟨e,he'⟩:=Zbo h3
 rw[hd] at h4
 rw[he'] at h5
 have h6':Z0 ds n=none:=by
  unfold Up at h6
  by_cases z:Z0 ds n=none
  ·exact z
  ·rw[if_neg z] at h6;cases h6
 by_cases z:he=n\/Z0 ds he≠none
 ·rw[if_pos z] at h7;cases h7
 ·refine⟨Ud h1,⟨d,hd,Zfj h4⟩,⟨e,he',Zfj h5⟩,h6',?_,fun y=>z (.inl y)⟩
  by_cases y:Z0 ds he=none
  ·exact y
  ·exact absurd (.inr y) z
def riD(n:Str)(day wt:Int):D:=.tup [.str "rise", .str n,.int day,.int wt]
inductive spRiseX (C CM:Addr) (c:Str->Addr) (vs:List V) (H:Hp) (Q:VK) (E:XK):Prop
 | mk (p:Addr) (ds:List Deed) (m:Mo) (O:Addr->Prop) (n:Str) (day wt:Int) (h0:vs = [.ref p,.str n,.int day,.int wt]) (h1:MSt C CM H p ds m O) (h2:ds.length<=1000) (h3:n.length<=100) (h4:okI day) (h5:okI wt) (h6:V9 E c H (∀O' H',MSt C CM H' p (ds ++ [.rise n day wt]) (m.told (riD n day wt)) O'->Frm O H O' H'->Q .non H') ((Vq ds n day wt).or (Yh m)))
abbrev Znb:Stmt:=Ye (top 61) 2
theorem Zvx(Zhu:HasM K CM "rise" "Moot.rise" Znb)(Tc:TxC K C)(Tm:TxCMoot K CM)(M_check_rise:MtX P w K mg base C "check_rise" 3 (spRisX C c))(M_rise:Mt P w K mg base C "rise" ["self", "name", "day", "weight"] 4 (spRise C))(MM_check_moments:MtX P w K mg base CM "check_moments" 1 (spMomX C CM c)):MtX P w K mg base CM "rise" 5 (spRiseX C CM c):=by
 refine Zhu.mx ["self", "name", "day", "weight"] ["self", "name", "day", "weight"] fun H vs Q E hr h=>?_
 obtain⟨_,ds,m,_,n,day,wt,rfl,⟨M,wa,xs,qs,rfl,W0,rfl⟩,hl,ho,hi,hw,k⟩:=h
 refine⟨rfl,_,(Zd (Zh (Z8 Zr (Zn (qvN 0)) Tc.cl M_check_rise (Za (qvN 1) (Za (qvN 2) (Za (qvN 3) Zb)))))
 (Zd (Zh (Ul Zr (qvN 0) Tm.cl MM_check_moments))
 (Zd (Zh (Y2 (Zn (qvN 0)) Tc.cl M_rise (Za (qvN 1) (Za (qvN 2) (Za (qvN 3) Zb)))))
 (Zf (Zh (Y4 F.plainAttrs_list F.slot_list_append F.type_list_append Wg (Zn (qvN 0)) (Za (Z9 (Za Z3 (Za (qvN 1) (Za (qvN 2) (Za (qvN 3) Zb))))) Zb))))))),?_⟩
 have hz:(5000:Nat)<=sizeLine:=by decide
 obtain⟨dm,obm⟩:=W0.ob
 obtain⟨dx,ob⟩:=W0.fk.f.ob
 refine⟨_,rfl,M.p,CM,dm,_,_,rfl,obm,Tm.cl,Tm.nf,V1 _,M.L.p,dx,_,rfl,ob,Yr _ _ _ _ (by decide +kernel),_,rfl,_,rfl,_,rfl,M.L,ds,n,day,wt,rfl,W0.fk.f,ho,hi,hw,?_⟩
 cases ec:Vq ds n day wt with
 | some z=>rw[ec] at k;exact k H (Same.refl H)
 | none =>
 rw[ec,xD] at k
 refine⟨_,rfl,M.p,dm,_,rfl,obm,Z7 _ (by decide +kernel),M,ds,wa,xs,m,qs,rfl,W0,?_⟩
 cases em:Yh m with
 | some z=>rw[em] at k;exact k H (Same.refl H)
 | none =>
 rw[em] at k
 have hn4:=Zay em
 obtain⟨⟨d0,d1⟩,⟨w0,w1⟩,⟨d,hd,hdd⟩,hv⟩:=Zvw ec
 refine⟨_,rfl,M.p,CM,dm,_,_,rfl,obm,Tm.cl,Tm.nf,V1 _,M.L.p,dx,_,rfl,ob,Yr _ _ _ _ (by decide +kernel),_,rfl,_,rfl,_,rfl,M.L,ds,wa,n,day,wt,d,rfl,W0.fk,hl,d0,d1,w0,w1,hd,hdd,hv,fun H2 F2 T2 R2=>?_⟩
 have W2:=W0.folk F2 T2 R2
 obtain⟨dm2,obm2⟩:=W2.ob
 obtain⟨vs,e1,_,e2⟩:=(W2.ls (M.ld,m.deeds) (by simp[Mo.at_])).get
 dsimp only at e1 e2
 refine⟨_,rfl,M.p,CM,dm2,_,_,rfl,obm2,Tm.cl,Tm.nd,Vy _,.inl ⟨rfl,_,SqL.of e1⟩,_,rfl,_,rfl,_,rfl,by show 4<=sizeLine;lia,fun p hp=>?_⟩
 have S3:=Same.new (o:=.tup [.str "rise", .str n,.int day,.int wt]) hp
 have kp:(upd H2 p (.tup [.str "rise", .str n,.int day,.int wt])) p=some (.tup [.str "rise", .str n,.int day,.int wt]):=Zg
 generalize (upd H2 p (.tup [.str "rise", .str n,.int day,.int wt]))=H3 at S3 kp ⊢
 have W3:=W2.same S3
 refine⟨M.ld,vs,.ref p,rfl,rfl,S3 _ _ e1,by lia,?_⟩
 refine k _ _ ⟨M,wa,xs,qs,rfl,W3.deed (S3 _ _ e1) ⟨p,_,rfl,Y8 kp,⟨_,_,rfl,rfl,⟨_,_,rfl,rfl,⟨_,_,rfl,rfl,⟨_,_,rfl,rfl,rfl⟩⟩⟩⟩⟩,rfl⟩ ⟨fun b o e nb=>?_,fun b hb=>?_⟩
 ·rw[Zc (fun z:b=M.ld=>nb (z▸Zax))]
  exact S3 _ _ (T2 b o e fun z=>nb (.inr (.inr (.inr (.inr z)))))
 ·exact MFresh.folk (xs:=xs) (qs:=qs) R2 b hb
def diD(n he:Str)(day:Int):D:=.tup [.str "die", .str n,.int day,.str he]
inductive spDieX (C CM:Addr) (c:Str->Addr) (vs:List V) (H:Hp) (Q:VK) (E:XK):Prop
 | mk (p:Addr) (ds:List Deed) (m:Mo) (O:Addr->Prop) (n he:Str) (day:Int) (h0:vs = [.ref p,.str n,.int day,.str he]) (h1:MSt C CM H p ds m O) (h2:ds.length<=1000) (h3:n.length<=100) (h4:he.length<=100) (h5:okI day) (h6:V9 E c H (∀O' H',MSt C CM H' p (ds ++ [.die n day he]) (m.told (diD n he day)) O'->Frm O H O' H'->Q .non H') ((V7 ds n he day).or (Yh m)))
abbrev Znc:Stmt:=Ye (top 61) 3
theorem Zxv(Zhv:HasM K CM "die" "Moot.die" Znc)(Tc:TxC K C)(Tm:TxCMoot K CM)(M_check_death:MtX P w K mg base C "check_death" 2 (spDiX C c))(M_die:Mt P w K mg base C "die" ["self", "name", "day", "heir"] 3 (spDie C))(MM_check_moments:MtX P w K mg base CM "check_moments" 1 (spMomX C CM c)):MtX P w K mg base CM "die" 4 (spDieX C CM c):=by
 refine Zhv.mx ["self", "name", "day", "heir"] ["self", "name", "day", "heir"] fun H vs Q E hr h=>?_
 obtain⟨_,ds,m,_,n,he,day,rfl,⟨M,wa,xs,qs,rfl,W0,rfl⟩,hl,ho,ho2,hi,k⟩:=h
 refine⟨rfl,_,(Zd (Zh (Z8 Zr (Zn (qvN 0)) Tc.cl M_check_death (Za (qvN 1) (Za (qvN 2) (Za (qvN 3) Zb)))))
 (Zd (Zh (Ul Zr (qvN 0) Tm.cl MM_check_moments))
 (Zd (Zh (Y2 (Zn (qvN 0)) Tc.cl M_die (Za (qvN 1) (Za (qvN 2) (Za (qvN 3) Zb)))))
 (Zf (Zh (Y4 F.plainAttrs_list F.slot_list_append F.type_list_append Wg (Zn (qvN 0)) (Za (Z9 (Za Z3 (Za (qvN 1) (Za (qvN 2) (Za (qvN 3) Zb))))) Zb))))))),?_⟩
 have hz:(5000:Nat)<=sizeLine:=by decide
 obtain⟨dm,obm⟩:=W0.ob
 obtain⟨dx,ob⟩:=W0.fk.f.ob
 refine⟨_,rfl,M.p,CM,dm,_,_,rfl,obm,Tm.cl,Tm.nf,V1 _,M.L.p,dx,_,rfl,ob,Yr _ _ _ _ (by decide +kernel),_,rfl,_,rfl,_,rfl,M.L,ds,n,he,day,rfl,W0.fk.f,ho,ho2,hi,?_⟩
 cases ec:V7 ds n he day with
 | some z=>rw[ec] at k;exact k H (Same.refl H)
 | none =>
 rw[ec,xD] at k
 refine⟨_,rfl,M.p,dm,_,rfl,obm,Z7 _ (by decide +kernel),M,ds,wa,xs,m,qs,rfl,W0,?_⟩
 cases em:Yh m with
 | some z=>rw[em] at k;exact k H (Same.refl H)
 | none =>
 rw[em] at k
 have hn4:=Zay em
 obtain⟨⟨d0,d1⟩,⟨d,hd,hdd⟩,⟨d2,hd2,hdd2⟩,hv,hv2,hne⟩:=Zxu ec
 refine⟨_,rfl,M.p,CM,dm,_,_,rfl,obm,Tm.cl,Tm.nf,V1 _,M.L.p,dx,_,rfl,ob,Yr _ _ _ _ (by decide +kernel),_,rfl,_,rfl,_,rfl,M.L,ds,wa,n,he,day,d,d2,rfl,W0.fk,hl,d0,d1,hd,hdd,hd2,hdd2,hv,hv2,hne,fun H2 F2 T2 R2=>?_⟩
 have W2:=W0.folk F2 T2 R2
 obtain⟨dm2,obm2⟩:=W2.ob
 obtain⟨vs,e1,_,e2⟩:=(W2.ls (M.ld,m.deeds) (by simp[Mo.at_])).get
 dsimp only at e1 e2
 refine⟨_,rfl,M.p,CM,dm2,_,_,rfl,obm2,Tm.cl,Tm.nd,Vy _,.inl ⟨rfl,_,SqL.of e1⟩,_,rfl,_,rfl,_,rfl,by show 4<=sizeLine;lia,fun p hp=>?_⟩
 have S3:=Same.new (o:=.tup [.str "die", .str n,.int day,.str he]) hp
 have kp:(upd H2 p (.tup [.str "die", .str n,.int day,.str he])) p=some (.tup [.str "die", .str n,.int day,.str he]):=Zg
 generalize (upd H2 p (.tup [.str "die", .str n,.int day,.str he]))=H3 at S3 kp ⊢
 have W3:=W2.same S3
 refine⟨M.ld,vs,.ref p,rfl,rfl,S3 _ _ e1,by lia,?_⟩
 refine k _ _ ⟨M,wa,xs,qs,rfl,W3.deed (S3 _ _ e1) ⟨p,_,rfl,Y8 kp,⟨_,_,rfl,rfl,⟨_,_,rfl,rfl,⟨_,_,rfl,rfl,⟨_,_,rfl,rfl,rfl⟩⟩⟩⟩⟩,rfl⟩ ⟨fun b o e nb=>?_,fun b hb=>?_⟩
 ·rw[Zc (fun z:b=M.ld=>nb (z▸Zax))]
  exact S3 _ _ (T2 b o e fun z=>nb (.inr (.inr (.inr (.inr z)))))
 ·exact MFresh.folk (xs:=xs) (qs:=qs) R2 b hb
end
section
variable{P:Program}{w:World}{K:uFg}{mg:Str->Option Value}{base:Heap}{C CM:Addr}{c:Str->Addr}
theorem Yb{i:Nat}{k:Int}{tr:TA}{σ:St}{H:Hp}{Q:List V->Hp->Prop}{a:Addr}{us:List V}{v:V}(h1 : σ[i]? = some (some (.ref a)))(h2:H a=some (.tup us))(h3:atI us k=some v)(h:tr σ H fun vs H2=>Q (v::vs) H2):Wy (tOp (rIxT K) (tVar i) (tC (.int k))) tr σ H Q:=⟨_,h1,a,us,k,v,rfl,rfl,SqT.of h2,h3,h⟩
theorem Uy{i:Nat}{w v:Str}{t u:TS}{D:Ends}{σ:St}{H:Hp}(h1 : σ[i]? = some (some (.str v)))(h2:v≠w)(h:u D σ H):Vs (Zc2 (Za6 (tOp rEq (tVar i) (tC (.str w)))) t Zah) u D σ H:=⟨_,h1,rfl,_,rfl,Z6 (fun z=>absurd (by injection z) h2) (fun _=>h)⟩
theorem Uq{i:Nat}{w:Str}{t u:TS}{D:Ends}{σ:St}{H:Hp}(h1 : σ[i]? = some (some (.str w)))(h:t {D with nx:=u D } σ H):Vs (Zc2 (Za6 (tOp rEq (tVar i) (tC (.str w)))) t Zah) u D σ H:=⟨_,h1,rfl,_,rfl,Z6 (fun _=>h) (fun z=>absurd rfl z)⟩
inductive CD where
 | wer (x y:Str) (many:Int) | clm (x:Str) (i:Int) | acc (i:Int) (n:Str)
def cdV(day need:Int)(l1 l2:Addr):CD->List V
 | .wer x y many=>[.str "wergild", .str x,.str y,.int many,.int day,.int need,.ref l1,.ref l2]
 | .clm x i=>[.str "claim", .str x,.int i,.int day,.int need,.ref l1,.ref l2]
 | .acc i n=>[.str "accuse", .int i,.str n,.int day,.int need,.ref l1,.ref l2]
def Zik:CD->Prop
 | .wer x y many=>x.length<=100/\y.length<=100/\okI many
 | .clm x i=>x.length<=100/\okI i
 | .acc i n=>n.length<=100/\okI i
def eCD(ds:List Deed)(m:Mo)(day need:Int)(f:Str->Int)(o1 o2:List Str):CD->Option Str
 | .wer x y many=>Zag ds m x y many day need f o1 o2
 | .clm x i=>Zaz ds m x i day need f o1 o2
 | .acc i n=>Ua ds m i n day need f o1 o2
def Mo.does(m:Mo)(day need:Int)(f:Str->Int)(o1 o2:List Str):CD->Mo
 | .wer x y many=>m.owes x y many day need f o1 o2
 | .clm x i=>m.won x i.toNat day need f o1 o2
 | .acc i n=>m.acc i n day need f o1 o2
inductive SD where
 | come (n:Str) (day wt:Int) | rise (n:Str) (day wt:Int) | die (n he:Str) (day:Int) | pen (n:Str) | bring (n:Str) (day:Int) | give (i:Int) (x y:Str) (day:Int) | pay (x y:Str) (many day:Int)
def sdV:SD->List V
 | .come n day wt=>[.str "come", .str n,.int day,.int wt]
 | .rise n day wt=>[.str "rise", .str n,.int day,.int wt]
 | .die n he day=>[.str "die", .str n,.int day,.str he]
 | .pen n=>[.str "penance", .str n]
 | .bring n day=>[.str "bring", .str n,.int day]
 | .give i x y day=>[.str "give", .int i,.str x,.str y,.int day]
 | .pay x y many day=>[.str "pay", .str x,.str y,.int many,.int day]
def Zil(ds:List Deed)(m:Mo):SD->Prop
 | .come n day wt=>ds.length<=1000/\okN n/\okI day/\okI wt
 | .rise n day wt=>ds.length<=1000/\n.length<=100/\okI day/\okI wt
 | .die n he day=>ds.length<=1000/\n.length<=100/\he.length<=100/\okI day
 | .pen n=>n.length<=100/\m.npen<=1000/\m.trials.length<=1000
 | .bring n day=>MoK m/\n.length<=100/\okI day
 | .give i x y day=>MoK m/\x.length<=100/\y.length<=100/\okI i/\okI day
 | .pay x y many day=>MoK m/\x.length<=100/\y.length<=100/\okI many/\okI day
def eSD(ds:List Deed)(m:Mo):SD->Option Str
 | .come n day wt=>(Vz ds n day wt).or (Yh m)
 | .rise n day wt=>(Vq ds n day wt).or (Yh m)
 | .die n he day=>(V7 ds n he day).or (Yh m)
 | .pen n=>(Wd ds n).or ((Up ds n).or (Yh m))
 | .bring n day=>(eM 0 9999 day).or ((Yt ds m day [n] none none).or ((Zbn m).or (Yh m)))
 | .give i x y day=>(eM 0 9999 day).or ((Yt ds m day [x,y] (some i) none).or (Yh m))
 | .pay x y many day=>(eM 1 1000000 many).or ((eM 0 9999 day).or ((Yt ds m day [x,y] none none).or (Yh m)))
def sdF(ds:List Deed):SD->List Deed
 | .come n day wt=>ds ++ [.come n day wt]
 | .rise n day wt=>ds ++ [.rise n day wt]
 | .die n he day=>ds ++ [.die n day he]
 | _=>ds
def Mo.sd(m:Mo):SD->Mo
 | .come n day wt=>m.told (coD n day wt)
 | .rise n day wt=>m.told (riD n day wt)
 | .die n he day=>m.told (diD n he day)
 | .pen n=>m.pena n
 | .bring n day=>m.brg n day
 | .give i x y day=>m.give i.toNat x y day
 | .pay x y many day=>m.pay x y many day
def sdR(m:Mo):SD->V
 | .bring _ _=>.int m.brs.length
 | _=>.non
inductive spDoneS (C CM:Addr) (c:Str->Addr) (vs:List V) (H:Hp) (Q:VK) (E:XK):Prop
 | mk (p:Addr) (ds:List Deed) (m:Mo) (O:Addr->Prop) (a:Addr) (d:SD) (h0:vs = [.ref p,.ref a]) (h1:MSt C CM H p ds m O) (h2:H a=some (.tup (sdV d))) (h3:Zil ds m d) (h4:V9 E c H (∀O' H',MSt C CM H' p (sdF ds d) (m.sd d) O'->Frm O H O' H'->Q (sdR m d) H') (eSD ds m d))
inductive spDoneX (C CM:Addr) (c:Str->Addr) (vs:List V) (H:Hp) (Q:VK) (E:XK):Prop
 | mk (p:Addr) (ds:List Deed) (m:Mo) (O:Addr->Prop) (a:Addr) (d:CD) (day need:Int) (l1 l2:Addr) (o1 o2:List Str) (f:Str->Int) (h0:vs = [.ref p,.ref a]) (h1:MSt C CM H p ds m O) (h2:H a=some (.tup (cdV day need l1 l2 d))) (h3:CsA ds m H l1 l2 o1 o2 day need f) (h4:¬O l1) (h5:¬O l2) (h6:Zik d) (h7:V9 E c H (∀O' H',MSt C CM H' p ds (m.does day need f o1 o2 d) O'->Frm O H O' H'->Q (.int m.trials.length) H') (eCD ds m day need f o1 o2 d))
abbrev Zhw:Stmt:=top 23
theorem Z0a:FnScope ["moot", "deed", "word"] ["moot", "deed"] (Zm Zhw):=fsc
theorem Z0b(Zhx:Has K mg "done" Zhw)(Tm:TxCMoot K CM)(er:Er K mg c errs)(MM_come:MtX P w K mg base CM "come" 4 (spComeX C CM c))(MM_rise:MtX P w K mg base CM "rise" 5 (spRiseX C CM c))(MM_die:MtX P w K mg base CM "die" 4 (spDieX C CM c))(MM_penance:MtX P w K mg base CM "penance" 2 (spPenX C CM c))(MM_bring:MtX P w K mg base CM "bring" 4 (spBringX C CM c))(MM_give:MtX P w K mg base CM "give" 4 (spGiveX C CM c))(MM_pay:MtX P w K mg base CM "pay" 4 (spPayX C CM c))(MM_claim:MtX P w K mg base CM "claim" 6 (spClaimX C CM c))(MM_wergild:MtX P w K mg base CM "wergild" 6 (spWerX C CM c))(MM_accuse:MtX P w K mg base CM "accuse" 7 (spAccX C CM c)):FnX P w K mg base "done" 8 (Sp.or (spDoneS C CM c) (spDoneX C CM c)):=by
 refine Zhx.fnX Z0a (fun _ _ _ _ _ _=>al2 fun _ _=>rfl) (fun vs H Q E h=>?_) (fun f cdv A outer s H vs Q E hr h=>?_)
 ·rcases h with⟨p,ds,m,O,a,d,rfl,_⟩ | ⟨p,ds,m,O,a,d,day,need,l1,l2,o1,o2,f,rfl,_⟩<;>rfl
 ·refine⟨_,(Zd (Zy 2 (Zk Zx (qvN 1) Ze (fun _ _=>rfl)))
 (Zd (Zp (Zs Wl (qvN 2) Z3 (Z2 _)) (Zf (Z5 (Z8 Zr (qvN 0) Tm.cl MM_come (Za (Zk Zx (qvN 1) Ze (fun _ _=>rfl)) (Za (Zk Zx (qvN 1) Ze (fun _ _=>rfl)) (Za (Zk Zx (qvN 1) Ze (fun _ _=>rfl)) Zb)))))) Zo)
 (Zd (Zp (Zs Wl (qvN 2) Z3 (Z2 _)) (Zf (Z5 (Z8 Zr (qvN 0) Tm.cl MM_rise (Za (Zk Zx (qvN 1) Ze (fun _ _=>rfl)) (Za (Zk Zx (qvN 1) Ze (fun _ _=>rfl)) (Za (Zk Zx (qvN 1) Ze (fun _ _=>rfl)) Zb)))))) Zo)
 (Zd (Zp (Zs Wl (qvN 2) Z3 (Z2 _)) (Zf (Z5 (Z8 Zr (qvN 0) Tm.cl MM_die (Za (Zk Zx (qvN 1) Ze (fun _ _=>rfl)) (Za (Zk Zx (qvN 1) Ze (fun _ _=>rfl)) (Za (Zk Zx (qvN 1) Ze (fun _ _=>rfl)) Zb)))))) Zo)
 (Zd (Zp (Zs Wl (qvN 2) Z3 (Z2 _)) (Zf (Z5 (Z8 Zr (qvN 0) Tm.cl MM_penance (Za (Zk Zx (qvN 1) Ze (fun _ _=>rfl)) Zb)))) Zo)
 (Zd (Zp (Zs Wl (qvN 2) Z3 (Z2 _)) (Zf (Z5 (Z8 Zr (qvN 0) Tm.cl MM_bring (Za (Zk Zx (qvN 1) Ze (fun _ _=>rfl)) (Za (Zk Zx (qvN 1) Ze (fun _ _=>rfl)) Zb))))) Zo)
 (Zd (Zp (Zs Wl (qvN 2) Z3 (Z2 _)) (Zf (Z5 (Z8 Zr (qvN 0) Tm.cl MM_give (Za (Zk Zx (qvN 1) Ze (fun _ _=>rfl)) (Za (Zk Zx (qvN 1) Ze (fun _ _=>rfl)) (Za (Zk Zx (qvN 1) Ze (fun _ _=>rfl)) (Za (Zk Zx (qvN 1) Ze (fun _ _=>rfl)) Zb))))))) Zo)
 (Zd (Zp (Zs Wl (qvN 2) Z3 (Z2 _)) (Zf (Z5 (Z8 Zr (qvN 0) Tm.cl MM_pay (Za (Zk Zx (qvN 1) Ze (fun _ _=>rfl)) (Za (Zk Zx (qvN 1) Ze (fun _ _=>rfl)) (Za (Zk Zx (qvN 1) Ze (fun _ _=>rfl)) (Za (Zk Zx (qvN 1) Ze (fun _ _=>rfl)) Zb))))))) Zo)
 (Zd (Zp (Zs Wl (qvN 2) Z3 (Z2 _)) (Zf (Z5 (Z8 Zr (qvN 0) Tm.cl MM_claim (Za (Zk Zx (qvN 1) Ze (fun _ _=>rfl)) (Za (Zk Zx (qvN 1) Ze (fun _ _=>rfl)) (Za (Zk Zx (qvN 1) Ze (fun _ _=>rfl)) (Za (Zk Zx (qvN 1) Ze (fun _ _=>rfl)) (Za (Zk Zx (qvN 1) Ze (fun _ _=>rfl)) (Za (Zk Zx (qvN 1) Ze (fun _ _=>rfl)) Zb))))))))) Zo)
 (Zd (Zp (Zs Wl (qvN 2) Z3 (Z2 _)) (Zf (Z5 (Z8 Zr (qvN 0) Tm.cl MM_wergild (Za (Zk Zx (qvN 1) Ze (fun _ _=>rfl)) (Za (Zk Zx (qvN 1) Ze (fun _ _=>rfl)) (Za (Zk Zx (qvN 1) Ze (fun _ _=>rfl)) (Za (Zk Zx (qvN 1) Ze (fun _ _=>rfl)) (Za (Zk Zx (qvN 1) Ze (fun _ _=>rfl)) (Za (Zk Zx (qvN 1) Ze (fun _ _=>rfl)) (Za (Zk Zx (qvN 1) Ze (fun _ _=>rfl)) Zb)))))))))) Zo)
 (Zd (Zp (Zs Wl (qvN 2) Z3 (Z2 _)) (Zf (Z5 (Z8 Zr (qvN 0) Tm.cl MM_accuse (Za (Zk Zx (qvN 1) Ze (fun _ _=>rfl)) (Za (Zk Zx (qvN 1) Ze (fun _ _=>rfl)) (Za (Zk Zx (qvN 1) Ze (fun _ _=>rfl)) (Za (Zk Zx (qvN 1) Ze (fun _ _=>rfl)) (Za (Zk Zx (qvN 1) Ze (fun _ _=>rfl)) (Za (Zk Zx (qvN 1) Ze (fun _ _=>rfl)) Zb))))))))) Zo)
 (Zf (Ys Yk er (Yz (Yq (qvN 2) (Yc Yy)))))))))))))))),?_⟩
  rcases h with⟨_,ds,m,_,a,d,rfl,⟨M,wa,xs,qs,rfl,W,rfl⟩,ha,hd,k⟩ | ⟨_,ds,m,_,a,d,day,need,l1,l2,o1,o2,f,rfl,⟨M,wa,xs,qs,rfl,W,rfl⟩,ha,cs,y1,y2,hd,k⟩
  ·obtain⟨dm,obm⟩:=W.ob
   have mst:MSt C CM H M.p ds m (mo M ds wa xs qs):=⟨M,wa,xs,qs,rfl,W,rfl⟩
   cases d with
   | come n day wt =>
    refine⟨_,rfl,a,_,0,_,rfl,rfl,SqT.of ha,rfl,?_⟩
    refine Y5 ?_
    refine Uq rfl ?_
    exact⟨_,rfl,M.p,dm,_,rfl,obm,Z7 _ (by decide +kernel),Yb rfl ha rfl (Yb rfl ha rfl (Yb rfl ha rfl ⟨M.p,ds,m,_,n,day,wt,rfl,mst,hd.1,hd.2.1,hd.2.2.1,hd.2.2.2,k⟩))⟩
   | rise n day wt =>
    refine⟨_,rfl,a,_,0,_,rfl,rfl,SqT.of ha,rfl,?_⟩
    refine Y5 ?_
    iterate 1 refine Uy rfl (by decide +kernel) ?_
    refine Uq rfl ?_
    exact⟨_,rfl,M.p,dm,_,rfl,obm,Z7 _ (by decide +kernel),Yb rfl ha rfl (Yb rfl ha rfl (Yb rfl ha rfl ⟨M.p,ds,m,_,n,day,wt,rfl,mst,hd.1,hd.2.1,hd.2.2.1,hd.2.2.2,k⟩))⟩
   | die n he day =>
    refine⟨_,rfl,a,_,0,_,rfl,rfl,SqT.of ha,rfl,?_⟩
    refine Y5 ?_
    iterate 2 refine Uy rfl (by decide +kernel) ?_
    refine Uq rfl ?_
    exact⟨_,rfl,M.p,dm,_,rfl,obm,Z7 _ (by decide +kernel),Yb rfl ha rfl (Yb rfl ha rfl (Yb rfl ha rfl ⟨M.p,ds,m,_,n,he,day,rfl,mst,hd.1,hd.2.1,hd.2.2.1,hd.2.2.2,k⟩))⟩
   | pen n =>
    refine⟨_,rfl,a,_,0,_,rfl,rfl,SqT.of ha,rfl,?_⟩
    refine Y5 ?_
    iterate 3 refine Uy rfl (by decide +kernel) ?_
    refine Uq rfl ?_
    exact⟨_,rfl,M.p,dm,_,rfl,obm,Z7 _ (by decide +kernel),Yb rfl ha rfl ⟨M.p,ds,m,_,n,rfl,mst,hd.1,hd.2.1,hd.2.2,k⟩⟩
   | bring n day =>
    refine⟨_,rfl,a,_,0,_,rfl,rfl,SqT.of ha,rfl,?_⟩
    refine Y5 ?_
    iterate 4 refine Uy rfl (by decide +kernel) ?_
    refine Uq rfl ?_
    exact⟨_,rfl,M.p,dm,_,rfl,obm,Z7 _ (by decide +kernel),Yb rfl ha rfl (Yb rfl ha rfl ⟨M.p,ds,m,_,n,day,rfl,mst,hd.1,hd.2.1,hd.2.2,k⟩)⟩
   | give i x y day =>
    refine⟨_,rfl,a,_,0,_,rfl,rfl,SqT.of ha,rfl,?_⟩
    refine Y5 ?_
    iterate 5 refine Uy rfl (by decide +kernel) ?_
    refine Uq rfl ?_
    exact⟨_,rfl,M.p,dm,_,rfl,obm,Z7 _ (by decide +kernel),Yb rfl ha rfl (Yb rfl ha rfl (Yb rfl ha rfl (Yb rfl ha rfl ⟨M.p,ds,m,_,i,x,y,day,rfl,mst,hd.1,hd.2.1,hd.2.2.1,hd.2.2.2.1,hd.2.2.2.2,k⟩)))⟩
   | pay x y many day =>
    refine⟨_,rfl,a,_,0,_,rfl,rfl,SqT.of ha,rfl,?_⟩
    refine Y5 ?_
    iterate 6 refine Uy rfl (by decide +kernel) ?_
    refine Uq rfl ?_
    exact⟨_,rfl,M.p,dm,_,rfl,obm,Z7 _ (by decide +kernel),Yb rfl ha rfl (Yb rfl ha rfl (Yb rfl ha rfl (Yb rfl ha rfl ⟨M.p,ds,m,_,x,y,many,day,rfl,mst,hd.1,hd.2.1,hd.2.2.1,hd.2.2.2.1,hd.2.2.2.2,k⟩)))⟩
  ·obtain⟨dm,obm⟩:=W.ob
   have mst:MSt C CM H M.p ds m (mo M ds wa xs qs):=⟨M,wa,xs,qs,rfl,W,rfl⟩
   cases d with
   | clm x i =>
    refine⟨_,rfl,a,_,0,_,rfl,rfl,SqT.of ha,rfl,?_⟩
    refine Y5 ?_
    iterate 7 refine Uy rfl (by decide +kernel) ?_
    refine Uq rfl ?_
    exact⟨_,rfl,M.p,dm,_,rfl,obm,Z7 _ (by decide +kernel),Yb rfl ha rfl (Yb rfl ha rfl (Yb rfl ha rfl (Yb rfl ha rfl (Yb rfl ha rfl (Yb rfl ha rfl ⟨M.p,ds,m,_,x,i,day,need,l1,l2,o1,o2,f,rfl,mst,cs,y1,y2,hd.1,hd.2,k⟩)))))⟩
   | wer x y many =>
    refine⟨_,rfl,a,_,0,_,rfl,rfl,SqT.of ha,rfl,?_⟩
    refine Y5 ?_
    iterate 8 refine Uy rfl (by decide +kernel) ?_
    refine Uq rfl ?_
    exact⟨_,rfl,M.p,dm,_,rfl,obm,Z7 _ (by decide +kernel),Yb rfl ha rfl (Yb rfl ha rfl (Yb rfl ha rfl (Yb rfl ha rfl (Yb rfl ha rfl (Yb rfl ha rfl (Yb rfl ha rfl ⟨M.p,ds,m,_,x,y,many,day,need,l1,l2,o1,o2,f,rfl,mst,cs,y1,y2,hd.1,hd.2.1,hd.2.2,k⟩))))))⟩
   | acc i n =>
    refine⟨_,rfl,a,_,0,_,rfl,rfl,SqT.of ha,rfl,?_⟩
    refine Y5 ?_
    iterate 9 refine Uy rfl (by decide +kernel) ?_
    refine Uq rfl ?_
    exact⟨_,rfl,M.p,dm,_,rfl,obm,Z7 _ (by decide +kernel),Yb rfl ha rfl (Yb rfl ha rfl (Yb rfl ha rfl (Yb rfl ha rfl (Yb rfl ha rfl (Yb rfl ha rfl ⟨M.p,ds,m,_,i,n,day,need,l1,l2,o1,o2,f,rfl,mst,cs,y1,y2,hd.1,hd.2,k⟩)))))⟩
end
section
variable{P:Program}{w:World}{K:uFg}{mg:Str->Option Value}{base:Heap}{C CM:Addr}{c:Str->Addr}
theorem MSt.there{H:Hp}{p:Addr}{ds:List Deed}{m:Mo}{O:Addr->Prop}(h:MSt C CM H p ds m O){b:Addr}(hb:O b):∃o,H b=some o:=by
 obtain⟨M,wa,xs,qs,_,W,rfl⟩:=h
 exact W.there hb
theorem MSt.out{H:Hp}{p:Addr}{ds:List Deed}{m:Mo}{O:Addr->Prop}(h:MSt C CM H p ds m O){b:Addr}(e:H b=none):¬O b:=fun z=>by
 obtain⟨o,e'⟩:=h.there z
 rw[e] at e';cases e'
end
section
variable{P:Program}{w:World}{K:uFg}{mg:Str->Option Value}{base:Heap}{C CM:Addr}
theorem Yl{t u:TS}{D:Ends}{σ:St}{H:Hp}(h:∀D':Ends,(∀ σ' H',u D σ' H'->D'.nx σ' H')->t D' σ H):Vs t u D σ H:=h {D with nx:=u D } fun _ _ h=>h
theorem ini{H:Hp}{p l dx:Addr}{fs fs':List (Str×V)}{y:HO}(hp:H p=some (.ins CM dx fs))(hl:H l=none):(upd (upd H l y) p (.ins CM dx fs')) p=some (.ins CM dx fs')/\(upd (upd H l y) p (.ins CM dx fs')) l=some y/\(∀b o,H b=some o->b≠p->(upd (upd H l y) p (.ins CM dx fs')) b=some o)/\p≠l:=by
 have n:p≠l:=Zl hp hl
 exact⟨Zg,by rw[Zc n.symm,Zg],fun b o e nb=>by rw[Zc nb,Zc (Zl e hl)];exact e,n⟩
theorem Za0{N:Hp->Prop}{H:Hp}{p l dx:Addr}{fs:List (Str×V)}{nm:Str}{y:HO}{k:Nat}(hp:H p=some (.ins CM dx fs))(hl:H l=none)(hb:fs.length<=k)(h:∀ (H1:Hp) (f1:List (Str×V)),Zi nm (.ref l) fs=f1->f1.length<=k+1->H1 p=some (.ins CM dx f1)->H1 l=some y->(∀b o,H b=some o->b≠p->H1 b=some o)->N H1):N (upd (upd H l y) p (.ins CM dx (Zi nm (.ref l) fs))) :=
 have i:=ini (fs':=Zi nm (.ref l) fs) (y:=y) hp hl
 h _ _ rfl (xS (Za8 ..) (by lia)) i.1 i.2.1 i.2.2.1
def mo0:Mo:=⟨[],[],[],[],[],[],[],fun _=>none,0⟩
inductive spMInit (C CM:Addr) (vs:List V) (H:Hp) (Q:VK) (z3:XK):Prop
 | mk (p dx:Addr) (h0:vs = [.ref p]) (h1:H p=some (.ins CM dx [])) (h2:∀(M:ML)(H':Hp),M.p=p->MootAt C CM H' M [] (fun _=>0) [] mo0 []->(∀b o,H b=some o->b≠p->H' b=some o)->(∀b,mo M [] (fun _=>0) [] [] b->b=p\/H b=none)->Q .non H')
abbrev Znd:Stmt:=Ye (top 61) 0
theorem Zvy(Zhy:HasM K CM "__init__" "Moot.__init__" Znd)(Tm:TxCMoot K CM)(M_Folk:Mks P w K mg base C "Folk" 1 (spInit C)):Mt P w K mg base CM "__init__" ["self"] 3 (spMInit C CM):=by
 refine Zhy.mq ["self"] fun H vs Q E hr h=>?_
 obtain⟨p,dx,rfl,hp,k⟩:=h
 refine⟨rfl,_,(Zd (Ww (qvN 0) (Zz Zb))
 (Zd (Ww (qvN 0) (Zbz M_Folk))
 (Zd (Ww (qvN 0) (Zz Zb))
 (Zd (Ww (qvN 0) (Zz Zb))
 (Zd (Ww (qvN 0) (Zz Zb))
 (Zd (Ww (qvN 0) (Zz Zb))
 (Zd (Ww (qvN 0) (Zz Zb))
 (Zd (Ww (qvN 0) (Zz Zb))
 (Zf (Ww (qvN 0) Zbs)))))))))),?_⟩
 have hz:(5000:Nat)<=sizeLine:=by decide
 refine Yl fun D1 hn1=>?_
 refine⟨by show 0<=sizeLine;lia,fun ld hld=>?_⟩
 have pld:p≠ld:=Zl hp hld
 refine⟨_,rfl,p,CM,dx,[],rfl,(by rw[Zc pld];exact hp),Tm.cl,Tm.nd,(yT (xE 0) (by decide)),Za0 (k:=0) hp hld (xE 0) fun H1 f1 g1 l1 i1p i1l i1k=>hn1 _ _ ?_⟩
 refine Yl fun D2 hn2=>?_
 intro x dx2 nx ndx nex
 have px:p≠x:=Zl i1p nx
 have pdx:p≠dx2:=Zl i1p ndx
 refine⟨x,dx2,rfl,Zg,fun L H2a eL F2 kp fr=>⟨rfl,?_⟩⟩
 subst eL
 have sm2:Same H1 H2a:=fun b o e=>kp b o (by rw[Zc (Zl e nx),Zc (Zl e ndx)];exact e) (Zl e nx)
 have fr2:∀b,b=L.dc\/b=L.dw\/b=L.dd\/b=L.dh->H1 b=none:=fun b hb=>by
  have:=fr b hb
  by_cases c:b=L.p
  ·rw[c];exact nx
  ·rw[Zc c] at this
   by_cases c2:b=dx2
   ·rw[c2];exact ndx
   ·rw[Zc c2] at this;exact this
 have i2p0:=sm2 _ _ i1p
 have K2:Fk C H2a L [] (fun _=>0):=by
  obtain⟨kv,w1,w2⟩:=F2.w
  exact⟨F2,WtsAt.start F2,kv,w1,fun p hp=>by rw[List.eq_nil_of_length_eq_zero (Nat.le_zero.mp w2)] at hp;cases hp⟩
 refine⟨_,rfl,p,CM,dx,f1,rfl,i2p0,Tm.cl,Tm.nf,(yT l1 (by decide)),hn2 _ _ ?_⟩
 have l2:(Zi "folk" (V.ref L.p) f1).length<=2:=xS (Za8 ..) (by lia)
 generalize g2:Zi "folk" (V.ref L.p) f1=f2 at l2 ⊢
 have i2p:(upd H2a p (.ins CM dx f2)) p=some (.ins CM dx f2):=Zg
 have i2k:∀b o,H2a b=some o->b≠p->(upd H2a p (.ins CM dx f2)) b=some o:=fun b o e nb=>by rw[Zc nb];exact e
 generalize (upd H2a p (.ins CM dx f2))=H2 at i2p i2k ⊢
 refine Yl fun D3 hn3=>?_
 refine⟨by show 0<=sizeLine;lia,fun lb hlb=>?_⟩
 have plb:p≠lb:=Zl i2p hlb
 refine⟨_,rfl,p,CM,dx,f2,rfl,(by rw[Zc plb];exact i2p),Tm.cl,Tm.nb,(yT l2 (by decide)),Za0 (k:=2) i2p hlb l2 fun H3 f3 g3 l3 i3p i3l i3k=>hn3 _ _ ?_⟩
 refine Yl fun D4 hn4=>?_
 refine⟨by show 0<=sizeLine;lia,fun lh hlh=>?_⟩
 have plh:p≠lh:=Zl i3p hlh
 refine⟨_,rfl,p,CM,dx,f3,rfl,(by rw[Zc plh];exact i3p),Tm.cl,Tm.nh,(yT l3 (by decide)),Za0 (k:=3) i3p hlh l3 fun H4 f4 g4 l4 i4p i4l i4k=>hn4 _ _ ?_⟩
 refine Yl fun D5 hn5=>?_
 refine⟨by show 0<=sizeLine;lia,fun lq hlq=>?_⟩
 have plq:p≠lq:=Zl i4p hlq
 refine⟨_,rfl,p,CM,dx,f4,rfl,(by rw[Zc plq];exact i4p),Tm.cl,Tm.nq,(yT l4 (by decide)),Za0 (k:=4) i4p hlq l4 fun H5 f5 g5 l5 i5p i5l i5k=>hn5 _ _ ?_⟩
 refine Yl fun D6 hn6=>?_
 refine⟨by show 0<=sizeLine;lia,fun lt hlt=>?_⟩
 have plt:p≠lt:=Zl i5p hlt
 refine⟨_,rfl,p,CM,dx,f5,rfl,(by rw[Zc plt];exact i5p),Tm.cl,Tm.nt,(yT l5 (by decide)),Za0 (k:=5) i5p hlt l5 fun H6 f6 g6 l6 i6p i6l i6k=>hn6 _ _ ?_⟩
 refine Yl fun D7 hn7=>?_
 refine⟨by show 0<=sizeLine;lia,fun ly hly=>?_⟩
 have ply:p≠ly:=Zl i6p hly
 refine⟨_,rfl,p,CM,dx,f6,rfl,(by rw[Zc ply];exact i6p),Tm.cl,Tm.ny,(yT l6 (by decide)),Za0 (k:=6) i6p hly l6 fun H7 f7 g7 l7 i7p i7l i7k=>hn7 _ _ ?_⟩
 refine Yl fun D8 hn8=>?_
 refine⟨by show 0<=sizeLine;lia,fun lv hlv=>?_⟩
 have plv:p≠lv:=Zl i7p hlv
 refine⟨_,rfl,p,CM,dx,f7,rfl,(by rw[Zc plv];exact i7p),Tm.cl,Tm.nv,(yT l7 (by decide)),Za0 (k:=7) i7p hlv l7 fun H8 f8 g8 l8 i8p i8l i8k=>hn8 _ _ ?_⟩
 intro dp hdp
 have pdp:p≠dp:=Zl i8p hdp
 refine⟨_,rfl,p,CM,dx,f8,rfl,(by rw[Zc pdp];exact i8p),Tm.cl,Tm.np,(yT l8 (by decide)),Za0 (k:=8) i8p hdp l8 fun H9 f9 g9 l9 i9p i9l i9k=>?_⟩
 have k1:=i1k
 have k2:∀b o,H b=some o->b≠p->H2 b=some o:=fun b o e n=>i2k b o (sm2 b o (k1 b o e n)) n
 have k3:∀b o,H b=some o->b≠p->H3 b=some o:=fun b o e n=>i3k b o (k2 b o e n) n
 have k4:∀b o,H b=some o->b≠p->H4 b=some o:=fun b o e n=>i4k b o (k3 b o e n) n
 have k5:∀b o,H b=some o->b≠p->H5 b=some o:=fun b o e n=>i5k b o (k4 b o e n) n
 have k6:∀b o,H b=some o->b≠p->H6 b=some o:=fun b o e n=>i6k b o (k5 b o e n) n
 have k7:∀b o,H b=some o->b≠p->H7 b=some o:=fun b o e n=>i7k b o (k6 b o e n) n
 have k8:∀b o,H b=some o->b≠p->H8 b=some o:=fun b o e n=>i8k b o (k7 b o e n) n
 have k9:∀b o,H b=some o->b≠p->H9 b=some o:=fun b o e n=>i9k b o (k8 b o e n) n
 have q2:=i2k
 have q3:∀b o,H2a b=some o->b≠p->H3 b=some o:=fun b o e n=>i3k b o (q2 b o e n) n
 have q4:∀b o,H2a b=some o->b≠p->H4 b=some o:=fun b o e n=>i4k b o (q3 b o e n) n
 have q5:∀b o,H2a b=some o->b≠p->H5 b=some o:=fun b o e n=>i5k b o (q4 b o e n) n
 have q6:∀b o,H2a b=some o->b≠p->H6 b=some o:=fun b o e n=>i6k b o (q5 b o e n) n
 have q7:∀b o,H2a b=some o->b≠p->H7 b=some o:=fun b o e n=>i7k b o (q6 b o e n) n
 have q8:∀b o,H2a b=some o->b≠p->H8 b=some o:=fun b o e n=>i8k b o (q7 b o e n) n
 have q9:∀b o,H2a b=some o->b≠p->H9 b=some o:=fun b o e n=>i9k b o (q8 b o e n) n
 have eld:H9 ld=some (.lst []):=(i9k _ _ (i8k _ _ (i7k _ _ (i6k _ _ (i5k _ _ (i4k _ _ (i3k _ _ (i2k _ _ (sm2 _ _ i1l) pld.symm) pld.symm) pld.symm) pld.symm) pld.symm) pld.symm) pld.symm) pld.symm)
 have zld:H ld=none:=hld
 have elb:H9 lb=some (.lst []):=(i9k _ _ (i8k _ _ (i7k _ _ (i6k _ _ (i5k _ _ (i4k _ _ i3l plb.symm) plb.symm) plb.symm) plb.symm) plb.symm) plb.symm)
 have zlb:H lb=none:=by
  cases eb:H lb with
  | none=>rfl
  | some o=>have:=k2 _ _ eb plb.symm;rw[hlb] at this;cases this
 have elh:H9 lh=some (.lst []):=(i9k _ _ (i8k _ _ (i7k _ _ (i6k _ _ (i5k _ _ i4l plh.symm) plh.symm) plh.symm) plh.symm) plh.symm)
 have zlh:H lh=none:=by
  cases eb:H lh with
  | none=>rfl
  | some o=>have:=k3 _ _ eb plh.symm;rw[hlh] at this;cases this
 have elq:H9 lq=some (.lst []):=(i9k _ _ (i8k _ _ (i7k _ _ (i6k _ _ i5l plq.symm) plq.symm) plq.symm) plq.symm)
 have zlq:H lq=none:=by
  cases eb:H lq with
  | none=>rfl
  | some o=>have:=k4 _ _ eb plq.symm;rw[hlq] at this;cases this
 have elt:H9 lt=some (.lst []):=(i9k _ _ (i8k _ _ (i7k _ _ i6l plt.symm) plt.symm) plt.symm)
 have zlt:H lt=none:=by
  cases eb:H lt with
  | none=>rfl
  | some o=>have:=k5 _ _ eb plt.symm;rw[hlt] at this;cases this
 have ely:H9 ly=some (.lst []):=(i9k _ _ (i8k _ _ i7l ply.symm) ply.symm)
 have zly:H ly=none:=by
  cases eb:H ly with
  | none=>rfl
  | some o=>have:=k6 _ _ eb ply.symm;rw[hly] at this;cases this
 have elv:H9 lv=some (.lst []):=(i9k _ _ i8l plv.symm)
 have zlv:H lv=none:=by
  cases eb:H lv with
  | none=>rfl
  | some o=>have:=k7 _ _ eb plv.symm;rw[hlv] at this;cases this
 have edp:H9 dp=some (.dK []):=i9l
 have zdp:H dp=none:=by
  cases eb:H dp with
  | none=>rfl
  | some o=>have:=k8 _ _ eb pdp.symm;rw[hdp] at this;cases this
 have nldlb:ld≠lb:=Zl (i2k _ _ (sm2 _ _ i1l) pld.symm) hlb
 have nldlh:ld≠lh:=Zl (i3k _ _ (i2k _ _ (sm2 _ _ i1l) pld.symm) pld.symm) hlh
 have nldlq:ld≠lq:=Zl (i4k _ _ (i3k _ _ (i2k _ _ (sm2 _ _ i1l) pld.symm) pld.symm) pld.symm) hlq
 have nldlt:ld≠lt:=Zl (i5k _ _ (i4k _ _ (i3k _ _ (i2k _ _ (sm2 _ _ i1l) pld.symm) pld.symm) pld.symm) pld.symm) hlt
 have nldly:ld≠ly:=Zl (i6k _ _ (i5k _ _ (i4k _ _ (i3k _ _ (i2k _ _ (sm2 _ _ i1l) pld.symm) pld.symm) pld.symm) pld.symm) pld.symm) hly
 have nldlv:ld≠lv:=Zl (i7k _ _ (i6k _ _ (i5k _ _ (i4k _ _ (i3k _ _ (i2k _ _ (sm2 _ _ i1l) pld.symm) pld.symm) pld.symm) pld.symm) pld.symm) pld.symm) hlv
 have nlblh:lb≠lh:=Zl i3l hlh
 have nlblq:lb≠lq:=Zl (i4k _ _ i3l plb.symm) hlq
 have nlblt:lb≠lt:=Zl (i5k _ _ (i4k _ _ i3l plb.symm) plb.symm) hlt
 have nlbly:lb≠ly:=Zl (i6k _ _ (i5k _ _ (i4k _ _ i3l plb.symm) plb.symm) plb.symm) hly
 have nlblv:lb≠lv:=Zl (i7k _ _ (i6k _ _ (i5k _ _ (i4k _ _ i3l plb.symm) plb.symm) plb.symm) plb.symm) hlv
 have nlhlq:lh≠lq:=Zl i4l hlq
 have nlhlt:lh≠lt:=Zl (i5k _ _ i4l plh.symm) hlt
 have nlhly:lh≠ly:=Zl (i6k _ _ (i5k _ _ i4l plh.symm) plh.symm) hly
 have nlhlv:lh≠lv:=Zl (i7k _ _ (i6k _ _ (i5k _ _ i4l plh.symm) plh.symm) plh.symm) hlv
 have nlqlt:lq≠lt:=Zl i5l hlt
 have nlqly:lq≠ly:=Zl (i6k _ _ i5l plq.symm) hly
 have nlqlv:lq≠lv:=Zl (i7k _ _ (i6k _ _ i5l plq.symm) plq.symm) hlv
 have nltly:lt≠ly:=Zl i6l hly
 have nltlv:lt≠lv:=Zl (i7k _ _ i6l plt.symm) hlv
 have nlylv:ly≠lv:=Zl i7l hlv
 have pl:¬own L [] (fun _=>0) p:=fun z=>by
  rcases z with z | z | z | z | z | ⟨n,l,e,z⟩
  ·exact px z
  ·have:=fr2 p (.inl z);rw[i1p] at this;cases this
  ·have:=fr2 p (.inr (.inl z));rw[i1p] at this;cases this
  ·have:=fr2 p (.inr (.inr (.inl z)));rw[i1p] at this;cases this
  ·have:=fr2 p (.inr (.inr (.inr z)));rw[i1p] at this;cases this
  ·cases e
 have K9:Fk C H9 L [] (fun _=>0):=K2.at fun b o hb e=>q9 b o e fun z=>pl (z▸hb)
 have h1n:∀b,H1 b=none->b≠p->H b=none:=fun b hb n=>by
  cases eb:H b with
  | none=>rfl
  | some o=>have:=k1 _ _ eb n;rw[hb] at this;cases this
 have i9p:H9 p=some (.ins CM dx _):=i9p.trans (congrArg (fun f=>some (HO.ins CM dx f)) (g9.symm.trans (congrArg (Zi _ _) (g8.symm.trans (congrArg (Zi _ _) (g7.symm.trans (congrArg (Zi _ _) (g6.symm.trans (congrArg (Zi _ _) (g5.symm.trans (congrArg (Zi _ _) (g4.symm.trans (congrArg (Zi _ _) (g3.symm.trans (congrArg (Zi _ _) (g2.symm.trans (congrArg (Zi _ _) g1.symm)))))))))))))))))
 have ndp:¬own L [] (fun _=>0) dp:=fun z=>by
  obtain⟨o,e,_⟩:=K2.there z
  have:=q8 _ _ e pdp.symm
  rw[hdp] at this;cases this
 refine k ⟨p,L,ld,lb,lh,lq,lt,ly,lv,dp⟩ H9 rfl ⟨⟨dx,i9p⟩,K9,fun q hq=>?_,elh,rfl,⟨[],edp,xE _,fun _=>rfl⟩,?_,(fun _ z=>nomatch z),(fun _ z=>nomatch z),px,ndp⟩ k9 (fun b hb=>?_)
 ·simp only[Mo.at_,mo0,xC,List.zip_nil_left,yG,or_false] at hq
  rcases hq with rfl | rfl | rfl | rfl | rfl | rfl
  ·exact⟨[],eld,rfl⟩
  ·exact⟨[],elb,rfl⟩
  ·exact⟨[],elq,rfl⟩
  ·exact⟨[],elt,rfl⟩
  ·exact⟨[],ely,rfl⟩
  ·exact⟨[],elv,rfl⟩
 ·simp only[ML.ls,yN,yF,xC,yG,or_false,not_or,not_false_eq_true,List.nodup_nil,and_true]
  exact⟨⟨Ne.symm nldlh,Ne.symm nlblh,nlhlq,nlhlt,nlhly,nlhlv⟩,⟨nldlb,nldlq,nldlt,nldly,nldlv⟩,⟨nlblq,nlblt,nlbly,nlblv⟩,⟨nlqlt,nlqly,nlqlv⟩,⟨nltly,nltlv⟩,nlylv⟩
 ·rcases hb with z | z | z | z | z
  ·exact .inl z
  ·rw[z];exact .inr zdp
  ·simp only[ML.ls,yN,xC,yG,or_false] at z
   rcases z with rfl | rfl | rfl | rfl | rfl | rfl | rfl<;>exact .inr (by assumption)
  ·cases z
  ·have ne:b≠p:=fun y=>pl (y▸z)
   refine .inr ?_
   rcases z with z | z | z | z | z | ⟨n,l,e,z⟩
   ·exact h1n b (by rw[z];exact nx) ne
   ·exact h1n b (fr2 b (.inl z)) ne
   ·exact h1n b (fr2 b (.inr (.inl z))) ne
   ·exact h1n b (fr2 b (.inr (.inr (.inl z)))) ne
   ·exact h1n b (fr2 b (.inr (.inr (.inr z)))) ne
   ·cases e
end
section
inductive AD where
 | s (d:SD) | c (d:CD) (day need:Int) (o1 o2:List Str) (f:Str->Int)
abbrev Zee:=List Deed×Mo
def Zd4(s:Zee):AD->Zee
 | .s d=>(sdF s.1 d,s.2.sd d)
 | .c d day need o1 o2 f=>(s.1,s.2.does day need f o1 o2 d)
def Za1(as:List AD):Zee:=as.foldl Zd4 ([],mo0)
theorem Zde(as:List AD)(a:AD):Za1 (as ++ [a])=Zd4 (Za1 as) a:=by unfold Za1;rw[List.foldl_append];rfl
end
section
variable{P:Program}{w:World}{K:uFg}{mg:Str->Option Value}{base:Heap}{C CM:Addr}{c:Str->Addr}
end
section
variable{P:Program}{w:World}{K:uFg}{mg:Str->Option Value}{base:Heap}{C CM CP:Addr}{c:Str->Addr}
theorem Zjt{X:Cx}{sts:List Stmt}:QSs X sts (fun _ _ _=>False):=⟨fun _ _ _ _ _ _ h=>h.elim⟩
structure TxCPast (K:uFg) (C:Addr):Prop where
 cl:Cls K C
 nm:NoAttr K C "moot"
 nu:NoAttr K C "undone"
def V2(mp lu:Addr):List (Str×V):=Zi "undone" (.ref lu) (Zi "moot" (.ref mp) [])
theorem Zvz(mp lu:Addr):(V2 mp lu).lookup ("moot" : Str)=some (.ref mp):=by unfold V2;rw[Yp,if_neg (by decide +kernel),Yp,if_pos (by decide +kernel)]
theorem Zxw(mp lu:Addr):(V2 mp lu).lookup ("undone" : Str)=some (.ref lu):=by unfold V2;rw[Yp,if_pos (by decide +kernel)]
theorem Zne{mp lu:Addr}{m:Str}(h:¬m = "undone" /\ ¬m = "moot"):(V2 mp lu).lookup m=none:=by unfold V2;rw[Yp,if_neg h.1,Yp,if_neg h.2];rfl
structure Pst0 (C CM CP:Addr) (H:Hp) (p lu:Addr) (M:ML):Prop where
 ob:∃dx,H p=some (.ins CP dx (V2 M.p lu))
 m:MootAt C CM H M [] (fun _=>0) [] mo0 []
 l:H lu=some (.lst [])
inductive spPInit (C CM CP:Addr) (vs:List V) (H:Hp) (Q:VK) (z3:XK):Prop
 | mk (p dx:Addr) (h0:vs = [.ref p]) (h1:H p=some (.ins CP dx [])) (h2:∀(M:ML)(lu:Addr)(H':Hp),Pst0 C CM CP H' p lu M->(∀b o,H b=some o->b≠p->H' b=some o)->Q .non H')
abbrev Znf:Stmt:=Ye (top 63) 0
theorem Zv0(Zhz:HasM K CP "__init__" "Past.__init__" Znf)(Tp:TxCPast K CP)(M_Moot:Mks P w K mg base CM "Moot" 3 (spMInit C CM)):Mt P w K mg base CP "__init__" ["self"] 5 (spPInit C CM CP):=by
 refine Zhz.mq ["self"] fun H vs Q E hr h=>?_
 obtain⟨p,dx,rfl,hp,k⟩:=h
 refine⟨rfl,_,(Zd (Ww (qvN 0) (Zbz M_Moot))
 (Zf (Ww (qvN 0) (Zz Zb)))),?_⟩
 intro x dx2 nx ndx nex
 refine⟨x,dx2,rfl,Zg,fun M2 H2 eM W2 kp fr=>⟨rfl,?_⟩⟩
 subst eM
 have S2:Same H H2:=fun b o e=>kp b o (by rw[Zc (Zl e nx),Zc (Zl e ndx)];exact e) (Zl e nx)
 have fr2:∀b,mo M2 [] (fun _=>0) [] [] b->H b=none:=fun b hb=>by
  rcases fr b hb with z | z
  ·rw[z];exact nx
  ·by_cases c1:b=M2.p
   ·rw[c1];exact nx
   ·rw[Zc c1] at z
    by_cases c2:b=dx2
    ·rw[c2];exact ndx
    ·rw[Zc c2] at z;exact z
 have nmp:¬mo M2 [] (fun _=>0) [] [] p:=fun z=>by have:=fr2 p z;rw[hp] at this;cases this
 refine⟨_,rfl,p,CP,dx,[],rfl,S2 _ _ hp,Tp.cl,Tp.nm,(by show 0 < 1000;decide),?_⟩
 have g:∀b o,b≠p->H2 b=some o->(upd H2 p (.ins CP dx (Zi "moot" (.ref M2.p) []))) b=some o:=fun b o nb e=>by rw[Zc nb];exact e
 have kp3:(upd H2 p (.ins CP dx (Zi "moot" (.ref M2.p) []))) p=some (.ins CP dx (Zi "moot" (.ref M2.p) [])):=Zg
 have fr3:∀b,(upd H2 p (.ins CP dx (Zi "moot" (.ref M2.p) []))) b=none->H2 b=none:=fun b e=>by
  by_cases z:b=p
  ·rw[z,Zg] at e;cases e
  ·rwa [Zc z] at e
 generalize (upd H2 p (.ins CP dx (Zi "moot" (.ref M2.p) [])))=H3 at g kp3 fr3 ⊢
 refine⟨by show 0<=sizeLine;decide,fun l hl=>?_⟩
 have pl:p≠l:=Zl kp3 hl
 have S4:=Same.new (o:=.lst []) hl
 have kl:(upd H3 l (.lst [])) l=some (.lst []):=Zg
 generalize (upd H3 l (.lst []))=H4 at S4 kl ⊢
 refine⟨_,rfl,p,CP,dx,_,rfl,S4 _ _ kp3,Tp.cl,Tp.nu,(show 1 < 1000 by decide),?_⟩
 change Q .non (upd H4 p (.ins CP dx (V2 M2.p l)))
 have g5:∀b o,b≠p->H4 b=some o->(upd H4 p (.ins CP dx (V2 M2.p l))) b=some o:=fun b o nb e=>by rw[Zc nb];exact e
 have kp5:(upd H4 p (.ins CP dx (V2 M2.p l))) p=some (.ins CP dx (V2 M2.p l)):=Zg
 generalize (upd H4 p (.ins CP dx (V2 M2.p l)))=H5 at g5 kp5 ⊢
 have all:∀b o,b≠p->H2 b=some o->H5 b=some o:=fun b o nb e=>g5 b o nb (S4 _ _ (g b o nb e))
 exact k M2 l H5 ⟨⟨dx,kp5⟩,W2.keep (fun b o hb e=>all b o (fun z=>nmp (z▸hb)) e) (fun b u e=>all b _ (fun z=>by rw[z,S2 _ _ hp] at e;cases e) e),g5 _ _ (Ne.symm pl) kl⟩ fun b o e nb=>all b o nb (S2 _ _ e)
inductive spNow (C CM:Addr) (vs:List V) (H:Hp) (Q:VK) (z3:XK):Prop
 | mk (M:ML) (ds:List Deed) (wa:Str->Addr) (xs:List Addr) (m:Mo) (qs:List Addr) (h0:vs = [.ref M.p]) (h1:MootAt C CM H M ds wa xs m qs) (h2:Q (.int m.deeds.length) H)
abbrev Zng:Stmt:=Ye (top 61) 11
theorem Zxx(Zh0:HasM K CM "now" "Moot.now" Zng)(T:Txt mg)(Tm:TxCMoot K CM):Mt P w K mg base CM "now" ["self"] 1 (spNow C CM):=by
 refine Zh0.mq ["self"] fun H vs Q E hr h=>?_
 obtain⟨M,ds,wa,xs,m,qs,rfl,W,k⟩:=h
 refine⟨rfl,_,(Zf (Z5 (Z1 Wm T.len Y1 (Za (Zn (qvN 0)) Zb)))),?_⟩
 obtain⟨dx,ob⟩:=W.ob
 obtain⟨vs,d1,_,d2⟩:=(W.ls (M.ld,m.deeds) (by simp[Mo.at_])).get
 dsimp only at d1 d2
 refine⟨_,rfl,M.p,CM,dx,_,_,rfl,ob,Tm.cl,Tm.nd,Vy _,M.ld,vs,rfl,.inl (SqL.of d1),?_⟩
 rw[d2]
 exact k
inductive spUndo0 (C CM CP:Addr) (c:Str->Addr) (vs:List V) (H:Hp) (z2:VK) (E:XK):Prop
 | mk (p lu:Addr) (M:ML) (h0:vs = [.ref p]) (h1:Pst0 C CM CP H p lu M) (h2:E (.ref (c "NothingBack")) none H)
abbrev Znh:Stmt:=Ye (top 63) 2
theorem Zv1(Zh1:HasM K CP "undo" "Past.undo" Znh)(Tp:TxCPast K CP)(Tm:TxCMoot K CM)(er:Er K mg c errs)(MM_now:Mt P w K mg base CM "now" ["self"] 1 (spNow C CM)):MtX P w K mg base CP "undo" 3 (spUndo0 C CM CP c):=by
 refine Zh1.mx ["self", "moment"] ["self"] fun H vs Q E hr h=>?_
 obtain⟨p,lu,M,rfl,W,k⟩:=h
 refine⟨rfl,_,(Zd (Zy 1 (Zf2 (Zn (qvN 0)) Tm.cl MM_now))
 (Zd (Zp (Zs Wl (qvN 1) Ze (Z2 _)) (Zf (Ys Yk er Z3)) Zo)
 Zjt)),?_⟩
 obtain⟨dx,ob⟩:=W.ob
 obtain⟨dm,obm⟩:=W.m.ob
 refine⟨_,rfl,p,CP,dx,_,_,rfl,ob,Tp.cl,Tp.nm,Zvz _ _,M.p,dm,_,rfl,obm,Z7 _ (by decide +kernel),M,_,_,_,_,_,rfl,W.m,?_⟩
 exact⟨_,rfl,rfl,_,rfl,Z6 (fun _=>k) (fun z=>absurd rfl z)⟩
inductive spRedo0 (C CM CP:Addr) (c:Str->Addr) (vs:List V) (H:Hp) (z2:VK) (E:XK):Prop
 | mk (p lu:Addr) (M:ML) (h0:vs = [.ref p]) (h1:Pst0 C CM CP H p lu M) (h2:E (.ref (c "NothingForth")) none H)
abbrev Zni:Stmt:=Ye (top 63) 3
theorem Zv2(Zh2:HasM K CP "redo" "Past.redo" Zni)(Tp:TxCPast K CP)(er:Er K mg c errs):MtX P w K mg base CP "redo" 3 (spRedo0 C CM CP c):=by
 refine Zh2.mx ["self"] ["self"] fun H vs Q E hr h=>?_
 obtain⟨p,lu,M,rfl,W,k⟩:=h
 refine⟨rfl,_,(Zd (Zp (V0 (Zj5 (Zn (qvN 0)) (fun _=>rfl))) (Zf (Ys Yk er Z3)) Zo)
 Zjt),?_⟩
 obtain⟨dx,ob⟩:=W.ob
 exact⟨_,rfl,p,CP,dx,_,_,rfl,ob,Tp.cl,Tp.nu,Zxw _ _,false,.inl ⟨[],SqL.of W.l,rfl⟩,Ym k⟩
end
section
variable{P:Program}{w:World}{K:uFg}{mg:Str->Option Value}{base:Heap}{c:Str->Addr}{dP dS:Addr}{kP kS:List (Str×Tok×Addr)}
structure Tbl (K:uFg) (mg:Str->Option Value) (pr:Params) (dP dS:Addr) (kP kS:List (Str×Tok×Addr)):Prop where
 cP:mg "PLAIN" = some (.ref dP)
 cS:mg "SWORN" = some (.ref dS)
 P:Zec K pr dP kP
 S:Zec K pr dS kS
def Zkq(c:Str->Addr):Sp:=fun vs H _ E=>vs = [.str "moment"]/\∀H',Same H H'->E (.ref (c "NoDeed")) none H'
abbrev Znj:Stmt:=top 68
theorem Z0c(Zh3:Has K mg "read_deed" Znj)(T:Txt mg)(er:Er K mg c errs)(tb:Tbl K mg w.params dP dS kP kS)(n1:Zc6 kP "moment" = none)(n2:Zc6 kS "moment" = none):FnX P w K mg base "read_deed" 4 (Zkq c):=by
 have c_PLAIN:=tb.cP
 have c_SWORN:=tb.cS
 have r_PLAIN:RelV (.ref dP) (.ref dP):=rfl
 have r_SWORN:RelV (.ref dS) (.ref dS):=rfl
 refine Zh3.fx ["text", "words", "word", "plus", "minus", "values"] ["text"] fun H vs Q E hr h=>?_
 obtain⟨rfl,ke⟩:=h
 refine⟨rfl,_,(Zd (Zy 1 (Y4 F.plainAttrs_str F.slot_str_split F.type_str_split Zru (qvN 0) (Za Z3 Zb)))
 (Zd (Zy 2 (Zk Yx (qvN 1) Ze (fun _ _=>rfl)))
 (Zd (Zp (Zs Zj4 (qvN 2) (Z4 c_PLAIN r_PLAIN) rfl) (Zf Vd) Zo)
 (Zd (Zp (Zs Zj4 (qvN 2) (Z4 c_SWORN r_SWORN) rfl) (Zd Vd
 (Zd Vd
 (Zd Vd
 (Zf Vd)))) Zo)
 (Zf (Ys Yk er (Yz (Yc (Zlb (qvN 2) Yy))))))))),?_⟩
 have es:Txt.split ("moment" : Str) " " = (["moment"]:List Str):=by decide +kernel
 refine⟨_,rfl,rfl, "moment", " ", rfl,rfl,by decide +kernel,by decide +kernel,fun l hl=>?_⟩
 rw[es]
 have S1:=Same.new (o:=.lst ((["moment"]:List Str).map V.str)) hl
 have k1:(upd H l (.lst ((["moment"]:List Str).map V.str))) l=some (.lst ((["moment"]:List Str).map V.str)):=Zg
 generalize (upd H l (.lst ((["moment"]:List Str).map V.str)))=H1 at S1 k1 ⊢
 refine Y5 ?_
 dsimp only [Zah]
 refine⟨_,rfl,l,_,0,.str "moment", rfl,rfl,SqL.of k1,rfl,?_⟩
 refine Y5 ?_
 dsimp only [Zah]
 refine⟨_,rfl, "moment", dP,kP,rfl,rfl,tb.P,_,rfl,?_⟩
 rw[n1]
 refine Yj ?_
 refine⟨_,rfl, "moment", dS,kS,rfl,rfl,tb.S,_,rfl,?_⟩
 rw[n2]
 refine Yj ?_
 exact⟨by decide +kernel,_,rfl,⟨"moment", rfl,by decide +kernel,by decide +kernel⟩,fun _=>ke H1 S1⟩
end
section
variable{P:Program}{w:World}{K:uFg}{mg:Str->Option Value}{base:Heap}{C CM:Addr}{c:Str->Addr}
inductive spThenX (C CM:Addr) (c:Str->Addr) (vs:List V) (H:Hp) (z2:VK) (E:XK):Prop
 | mk (p:Addr) (ds:List Deed) (m:Mo) (O:Addr->Prop) (n:Int) (h0:vs = [.ref p,.int n]) (h1:MSt C CM H p ds m O) (h2:okI n) (h3:(n < 0\/(m.deeds.length:Int) < n)) (h4:E (.ref (c "NoMoment")) none H)
abbrev Znk:Stmt:=Ye (top 61) 35
theorem Zts(Zh4:HasM K CM "then" "Moot.then" Znk)(T:Txt mg)(Tm:TxCMoot K CM)(er:Er K mg c errs)(M_Moot:Mks P w K mg base CM "Moot" 3 (spMInit C CM))(Zh5:FnX P w K mg base "done" 8 (Sp.or (spDoneS C CM c) (spDoneX C CM c))):MtX P w K mg base CM "then" 9 (spThenX C CM c):=by
 refine Zh4.mx ["self", "moment", "other", "deed"] ["self", "moment"] fun H vs Q E hr h=>?_
 obtain⟨_,ds,m,_,n,rfl,⟨M,wa,xs,qs,rfl,W,rfl⟩,hi,hn,k⟩:=h
 refine⟨rfl,_,(Zd (Zp (V0 (Ut Wf Wf Ze (qvN 1) (Z1 Wm T.len Y1 (Za (Zn (qvN 0)) Zb)))) (Zf (Ys Yk er (Yz (Yc (Yq (qvN 1) Yy))))) Zo)
 (Zd (Zy 2 (Zbz M_Moot))
 (Zd (Zco Zc7 Yk (by rfl) (Vu (Zao Zdg (Zn (qvN 0)) Zam (Zan (qvN 1)))) (Wq 3)
 (fun hxq hxp=>(Zf (Zh (Y7 hxq Zh5 (Za (qvN 2) (Za (qvN 3) Zb)))))))
 (Zf (Z5 (qvN 2)))))),?_⟩
 obtain⟨dm,obm⟩:=W.ob
 obtain⟨vs,d1,d2,d3⟩:=(W.ls (M.ld,m.deeds) (by simp[Mo.at_])).get
 dsimp only at d1 d2 d3
 refine⟨_,rfl,_,_,rfl,rfl,_,rfl,Z6 (fun h0=>?_) (fun z=>?_)⟩
 ·refine⟨_,rfl,M.p,CM,dm,_,_,rfl,obm,Tm.cl,Tm.nd,Vy _,M.ld,vs,rfl,.inl (SqL.of d1),_,_,rfl,rfl,_,rfl,Vk (fun z=>?_) (fun h1=>absurd h1 (by lia))⟩
  exact⟨by decide +kernel,_,rfl,.inr ⟨n,rfl,Wc hi⟩,fun _=>k⟩
 ·exact⟨false,rfl,Ym ⟨by decide +kernel,_,rfl,.inr ⟨n,rfl,Wc hi⟩,fun _=>k⟩⟩
end
section
variable{P:Program}{w:World}{K:uFg}{mg:Str->Option Value}{base:Heap}{C CM CP:Addr}{c:Str->Addr}
abbrev cls:List Str:=["NoName", "NoMeasure", "Unknown", "Taken", "NoThing", "NoCase", "NoOath", "NotYet", "Dead", "NoHeir", "TooMany", "SwornTwice", "Forsworn", "TooLight", "Broken", "NoMoment", "NothingBack", "NothingForth", "NoDeed"]
def RfAt(H:Hp)(ds:List Deed)(m:Mo)(O:Addr->Prop)(a:Addr)(x:Str):Prop :=
 (∃d,H a=some (.tup (sdV d))/\Zil ds m d/\eSD ds m d=some x)\/
 ∃(d:CD)(day need:Int)(l1 l2:Addr)(o1 o2:List Str)(f:Str->Int),H a=some (.tup (cdV day need l1 l2 d))/\CsA ds m H l1 l2 o1 o2 day need f/\¬O l1/\¬O l2/\Zik d/\eCD ds m day need f o1 o2 d=some x
inductive spLDoes (C CM:Addr) (c:Str->Addr) (vs:List V) (H:Hp) (z2:VK) (E:XK):Prop
 | mk (k:Nat) (p dl:Addr) (ds:List Deed) (m:Mo) (O:Addr->Prop) (us:List V) (x:Str) (h0:vs = [.int k,.ref p,.ref dl]) (h1:MSt C CM H p ds m O) (h2:H dl=some (.lst us)) (h3:us.length=15) (h4:(∀(i:Nat)(v:V),us[i]? = some v->∃a y,v=V.ref a/\cls[i]? = some y/\RfAt H ds m O a y)) (h5:cls[k]? = some x) (h6:∀H',Same H H'->E (.ref (c x)) none H')
abbrev Znl:Stmt:=top 81
theorem Z0d(Zh6:Has K mg "_law_does" Znl)(T:Txt mg)(Tm:TxCMoot K CM)(Tp:TxCPast K CP)(Zh5:FnX P w K mg base "done" 8 (Sp.or (spDoneS C CM c) (spDoneX C CM c)))(MM_then:MtX P w K mg base CM "then" 9 (spThenX C CM c))(M_Past:Mks P w K mg base CP "Past" 5 (spPInit C CM CP))(MP_undo:MtX P w K mg base CP "undo" 3 (spUndo0 C CM CP c))(MP_redo:MtX P w K mg base CP "redo" 3 (spRedo0 C CM CP c))(Z0e:FnX P w K mg base "read_deed" 4 (Zkq c)):FnX P w K mg base "_law_does" 10 (spLDoes C CM c):=by
 refine Zh6.fx ["_law_k", "_law_moot", "_law_deeds"] ["_law_k", "_law_moot", "_law_deeds"] fun H vs Q E hr h=>?_
 obtain⟨j,p,dl,ds,m,O,us,x,rfl,W,hdl,h15,hr0,hx,k⟩:=h
 refine⟨rfl,_,(Zd (Zp (Zs Uk (qvN 0) (Z1 Wm T.len Y1 (Za (qvN 2) Zb)) (Z2 _)) (Zf (Z5 (Y7 Zr Zh5 (Za (qvN 1) (Za (Zk Yx (qvN 2) (qvN 0) (fun _ _=>rfl)) Zb))))) Zo)
 (Zd (Zp (Zs Wl (qvN 0) Ze (Z2 _)) (Zf (Z5 (Z8 Zr (qvN 1) Tm.cl MM_then (Za (Zf7 Zfp Ze) Zb)))) Zo)
 (Zd (Zp (Zs Wl (qvN 0) Ze (Z2 _)) (Zf (Z5 (Ul Zr (Zbz M_Past) Tp.cl MP_undo))) Zo)
 (Zd (Zp (Zs Wl (qvN 0) Ze (Z2 _)) (Zf (Z5 (Ul Zr (Zbz M_Past) Tp.cl MP_redo))) Zo)
 (Zf (Z5 (Y7 Zr Z0e (Za Z3 Zb)))))))),?_⟩
 have mk:∀{H':Hp}{q:Addr}{dx:Addr},H q=none->H dx=none->dx≠q->(∀b o,(upd (upd H dx (.own q)) q (.ins CP dx [])) b=some o->b≠q->H' b=some o)->Same H H':=fun nx ndx nex g b o e=>g b o (by rw[Zc (Zl e nx),Zc (Zl e ndx)];exact e) (Zl e nx)
 refine⟨_,rfl,_,rfl,dl,us,rfl,.inl (SqL.of hdl),_,_,rfl,rfl,_,rfl,Z6 (fun z=>?_) (fun z=>?_)⟩
 ·have hj:j < us.length:=by lia
  obtain⟨v,hv⟩:∃v,us[j]? = some v:=⟨_,xB hj⟩
  obtain⟨a,y,rfl,hy,rf⟩:=hr0 j v hv
  rw[hx] at hy
  cases hy
  refine⟨_,rfl,_,rfl,_,rfl,dl,us,j,_,rfl,rfl,SqL.of hdl,Va hv,?_⟩
  rcases rf with⟨d,ha,hd,he⟩ | ⟨d,day,need,l1,l2,o1,o2,f,ha,cs,y1,y2,hd,he⟩
  ·refine .inl ⟨p,ds,m,O,a,d,rfl,W,ha,hd,?_⟩
   rw[he];exact fun H' S'=>k H' S'
  ·refine .inr ⟨p,ds,m,O,a,d,day,need,l1,l2,o1,o2,f,rfl,W,ha,cs,y1,y2,hd,?_⟩
   rw[he];exact fun H' S'=>k H' S'
 dsimp only [Zah]
 have hjl:=(xG.mp hx).1
 have hj2:j=15\/j=16\/j=17\/j=18:=by
  have:cls.length=19:=rfl
  lia
 obtain⟨M,wa,xs,qs,hM,WM,_⟩:=id W
 obtain⟨dm,obm⟩:=WM.ob
 rw[hM] at obm
 rcases hj2 with rfl | rfl | rfl | rfl
 ·cases hx
  refine⟨_,rfl,rfl,_,rfl,Z6 (fun _=>?_) (fun z=>absurd rfl z)⟩
  exact⟨_,rfl,p,dm,_,rfl,obm,Z7 _ (by decide +kernel),1,rfl,p,ds,m,O,-1,rfl,W,by unfold okI;decide,.inl (by decide),k H (Same.refl _)⟩
 ·cases hx
  refine⟨_,rfl,rfl,_,rfl,Z6 (fun z=>absurd z (by decide)) (fun _=>?_)⟩
  refine⟨_,rfl,rfl,_,rfl,Z6 (fun _=>?_) (fun z=>absurd rfl z)⟩
  intro q dx nx ndx nex
  refine⟨q,dx,rfl,Zg,fun M2 lu H2 W2 g=>⟨rfl,?_⟩⟩
  obtain⟨dx2,ob2⟩:=W2.ob
  exact⟨q,dx2,_,rfl,ob2,Zne (by decide +kernel),q,lu,M2,rfl,W2,k H2 (mk nx ndx nex g)⟩
 ·cases hx
  refine⟨_,rfl,rfl,_,rfl,Z6 (fun z=>absurd z (by decide)) (fun _=>?_)⟩
  refine⟨_,rfl,rfl,_,rfl,Z6 (fun z=>absurd z (by decide)) (fun _=>?_)⟩
  refine⟨_,rfl,rfl,_,rfl,Z6 (fun _=>?_) (fun z=>absurd rfl z)⟩
  intro q dx nx ndx nex
  refine⟨q,dx,rfl,Zg,fun M2 lu H2 W2 g=>⟨rfl,?_⟩⟩
  obtain⟨dx2,ob2⟩:=W2.ob
  exact⟨q,dx2,_,rfl,ob2,Zne (by decide +kernel),q,lu,M2,rfl,W2,k H2 (mk nx ndx nex g)⟩
 ·cases hx
  refine⟨_,rfl,rfl,_,rfl,Z6 (fun z=>absurd z (by decide)) (fun _=>?_)⟩
  refine⟨_,rfl,rfl,_,rfl,Z6 (fun z=>absurd z (by decide)) (fun _=>?_)⟩
  refine⟨_,rfl,rfl,_,rfl,Z6 (fun z=>absurd z (by decide)) (fun _=>?_)⟩
  exact⟨rfl,k⟩
end
section
variable{P:Program}{w:World}{K:uFg}{mg:Str->Option Value}{base:Heap}{C CM CP:Addr}{c:Str->Addr}
theorem Zo0:bootBuiltins "ValueError" = some (.type "ValueError"):=by decide +kernel
abbrev Zef(x:Str):List Bool:=(cls.map fun y=>decide (x=y))++[true]
inductive spFlg (C CM:Addr) (vs:List V) (H:Hp) (Q:VK) (z3:XK):Prop
 | mk (k:Nat) (p dl:Addr) (ds:List Deed) (m:Mo) (O:Addr->Prop) (us:List V) (x:Str) (h0:vs = [.int k,.ref p,.ref dl]) (h1:MSt C CM H p ds m O) (h2:H dl=some (.lst us)) (h3:us.length=15) (h4:(∀(i:Nat)(v:V),us[i]? = some v->∃a y,v=V.ref a/\cls[i]? = some y/\RfAt H ds m O a y)) (h5:cls[k]? = some x) (h6:∀H' l,Same H H'->H' l=some (.lst ((Zef x).map V.bl))->Q (.ref l) H')
theorem CsA.same{ds:List Deed}{m:Mo}{H H':Hp}{l1 l2:Addr}{o1 o2:List Str}{day need:Int}{f:Str->Int}(h:CsA ds m H l1 l2 o1 o2 day need f)(k:Same H H'):CsA ds m H' l1 l2 o1 o2 day need f:={h with h1:=k _ _ h.h1,h2:=k _ _ h.h2 }
theorem RfAt.same{H H':Hp}{ds:List Deed}{m:Mo}{O:Addr->Prop}{a:Addr}{x:Str}(h:RfAt H ds m O a x)(k:Same H H'):RfAt H' ds m O a x:=by
 rcases h with⟨d,ha,hd,he⟩ | ⟨d,day,need,l1,l2,o1,o2,f,ha,cs,y⟩
 ·exact .inl ⟨d,k _ _ ha,hd,he⟩
 ·exact .inr ⟨d,day,need,l1,l2,o1,o2,f,k _ _ ha,cs.same k,y⟩
abbrev fl(x:Str)(ys:List Str):List V:=ys.map fun y=>V.bl (decide (x=y))
theorem Zli{t:TA}{σ:St}{H:Hp}{Q:VK}{vs:List V}(he:∀R:List V->Hp->Prop,R vs H->t σ H R)(hl:vs.length<=60)(k:∀l H',Same H H'->H' l=some (.lst vs)->Q (.ref l) H'):Zc4 t σ H Q:=he _ ⟨xS hl (by decide),fun l e=>k l _ (Same.new e) Zg⟩
theorem Zcs{t:TA}{σ:St}{H:Hp}{Q:VK}{b:Addr}{us vs:List V}(hb:H b=some (.lst us))(he:∀R:List V->Hp->Prop,R vs H->t σ H R)(hl:us.length+vs.length<=60)(k:∀l H',Same H H'->H' l=some (.lst (us++vs))->Q (.ref l) H'):Zc4 t σ H fun y H1=>rCat (.ref b) y H1 Q:=Zli he (by lia) fun l H' S e=>⟨b,l,us,vs,rfl,rfl,S _ _ hb,e,xS hl (by decide),fun l2 e2=>k l2 _ (S.trans (Same.new e2)) Zg⟩
theorem ble{n m:Nat}(h:Nat.ble n m=true):n<=m:=Nat.le_of_ble_eq_true h
abbrev Znm:Stmt:=top 82
theorem Z0f(Zh7:Has K mg "_law_flags" Znm)(T:Txt mg)(er:Er K mg c errs)(Z0g:FnX P w K mg base "_law_does" 10 (spLDoes C CM c)):Fn P w K mg base "_law_flags" ["_law_k", "_law_moot", "_law_deeds"] 11 (spFlg C CM):=by
 refine Zh7.f0 ["_law_k", "_law_moot", "_law_deeds", "_law_flags_here", "e"] fun H vs Q E hr h=>?_
 obtain⟨j,p,dl,ds,m,O,us,x,rfl,W,hdl,h15,hr0,hx,k⟩:=h
 refine⟨rfl,_,(Zfc (QS.q0 (Zy 3 (Zz Zb)))
 (Zfc (Zxm Zlc (fun _ _ hx=>(Zf (Zh (Y7 hx Z0g (Za (qvN 0) (Za (qvN 1) (Za (qvN 2) Zb)))))))
 (Zyr 4 Zlc (er.m) (fun a C o hc=>(Zd (Zy 3 (Zz (Za (Z1 (Wn hc) T.isinstance Wi (Za (qvN 4) (Za (Z4 (v:=.ref (c "NoName")) (er.g "NoName" (by decide +kernel)) rfl) Zb))) (Za (Z1 (Wn hc) T.isinstance Wi (Za (qvN 4) (Za (Z4 (v:=.ref (c "NoMeasure")) (er.g "NoMeasure" (by decide +kernel)) rfl) Zb))) (Za (Z1 (Wn hc) T.isinstance Wi (Za (qvN 4) (Za (Z4 (v:=.ref (c "Unknown")) (er.g "Unknown" (by decide +kernel)) rfl) Zb))) (Za (Z1 (Wn hc) T.isinstance Wi (Za (qvN 4) (Za (Z4 (v:=.ref (c "Taken")) (er.g "Taken" (by decide +kernel)) rfl) Zb))) Zb))))))
 (Zd (Zy 3 (Zu Wk (qvN 3) (Zz (Za (Z1 (Wn hc) T.isinstance Wi (Za (qvN 4) (Za (Z4 (v:=.ref (c "NoThing")) (er.g "NoThing" (by decide +kernel)) rfl) Zb))) (Za (Z1 (Wn hc) T.isinstance Wi (Za (qvN 4) (Za (Z4 (v:=.ref (c "NoCase")) (er.g "NoCase" (by decide +kernel)) rfl) Zb))) (Za (Z1 (Wn hc) T.isinstance Wi (Za (qvN 4) (Za (Z4 (v:=.ref (c "NoOath")) (er.g "NoOath" (by decide +kernel)) rfl) Zb))) Zb))))))
 (Zd (Zy 3 (Zu Wk (qvN 3) (Zz (Za (Z1 (Wn hc) T.isinstance Wi (Za (qvN 4) (Za (Z4 (v:=.ref (c "NotYet")) (er.g "NotYet" (by decide +kernel)) rfl) Zb))) (Za (Z1 (Wn hc) T.isinstance Wi (Za (qvN 4) (Za (Z4 (v:=.ref (c "Dead")) (er.g "Dead" (by decide +kernel)) rfl) Zb))) (Za (Z1 (Wn hc) T.isinstance Wi (Za (qvN 4) (Za (Z4 (v:=.ref (c "NoHeir")) (er.g "NoHeir" (by decide +kernel)) rfl) Zb))) (Za (Z1 (Wn hc) T.isinstance Wi (Za (qvN 4) (Za (Z4 (v:=.ref (c "TooMany")) (er.g "TooMany" (by decide +kernel)) rfl) Zb))) Zb)))))))
 (Zd (Zy 3 (Zu Wk (qvN 3) (Zz (Za (Z1 (Wn hc) T.isinstance Wi (Za (qvN 4) (Za (Z4 (v:=.ref (c "SwornTwice")) (er.g "SwornTwice" (by decide +kernel)) rfl) Zb))) (Za (Z1 (Wn hc) T.isinstance Wi (Za (qvN 4) (Za (Z4 (v:=.ref (c "Forsworn")) (er.g "Forsworn" (by decide +kernel)) rfl) Zb))) (Za (Z1 (Wn hc) T.isinstance Wi (Za (qvN 4) (Za (Z4 (v:=.ref (c "TooLight")) (er.g "TooLight" (by decide +kernel)) rfl) Zb))) Zb))))))
 (Zd (Zy 3 (Zu Wk (qvN 3) (Zz (Za (Z1 (Wn hc) T.isinstance Wi (Za (qvN 4) (Za (Z4 (v:=.ref (c "Broken")) (er.g "Broken" (by decide +kernel)) rfl) Zb))) (Za (Z1 (Wn hc) T.isinstance Wi (Za (qvN 4) (Za (Z4 (v:=.ref (c "NoMoment")) (er.g "NoMoment" (by decide +kernel)) rfl) Zb))) (Za (Z1 (Wn hc) T.isinstance Wi (Za (qvN 4) (Za (Z4 (v:=.ref (c "NothingBack")) (er.g "NothingBack" (by decide +kernel)) rfl) Zb))) Zb))))))
 (Zf (Zy 3 (Zu Wk (qvN 3) (Zz (Za (Z1 (Wn hc) T.isinstance Wi (Za (qvN 4) (Za (Z4 (v:=.ref (c "NothingForth")) (er.g "NothingForth" (by decide +kernel)) rfl) Zb))) (Za (Z1 (Wn hc) T.isinstance Wi (Za (qvN 4) (Za (Z4 (v:=.ref (c "NoDeed")) (er.g "NoDeed" (by decide +kernel)) rfl) Zb))) (Za (Z1 (Wn hc) T.isinstance Wi (Za (qvN 4) (Za (Zs8 (v:=.ty "ValueError") T.ValueError Zo0 rfl) Zb))) Zb))))))))))))) Zxl))
 (Zfc (QS.q0 (Z5 (qvN 3)))
 (QSs.q0 Zo)))),?_⟩
 have hz:(30:Nat)<=sizeLine:=by decide
 have hm:x∈errs:=by
  have:=xO hx
  revert this
  exact(by decide +kernel:∀y∈cls,y∈errs) x
 refine Yl fun D0 hn0=>?_
 refine⟨by show 0<=sizeLine;lia,fun l hl=>hn0 _ _ ?_⟩
 have s0:=Same.new (o:=.lst []) hl
 generalize (upd H l (.lst []))=H1 at s0 ⊢
 refine⟨_,rfl,_,rfl,_,rfl,j,p,dl,ds,m,O,us,x,rfl,W.same s0,s0 _ _ hdl,h15,fun i v hv=>?_,hx,fun H2 S2=>⟨_,rfl,true,er.e _ hm,Ym fun ae=>?_⟩⟩
 ·obtain⟨a,y,e1,e2,e3⟩:=hr0 i v hv
  exact⟨a,y,e1,e2,e3.same s0⟩
 have S02:=s0.trans S2
 refine Yl fun D1 hn1=>Zli (vs:=fl x ["NoName", "NoMeasure", "Unknown", "Taken"]) (fun R h=>⟨_,rfl,er.k _ hm,_,.inl ⟨_,rfl,er.i _ hm _ (by decide +kernel)⟩,_,rfl,er.k _ hm,_,.inl ⟨_,rfl,er.i _ hm _ (by decide +kernel)⟩,_,rfl,er.k _ hm,_,.inl ⟨_,rfl,er.i _ hm _ (by decide +kernel)⟩,_,rfl,er.k _ hm,_,.inl ⟨_,rfl,er.i _ hm _ (by decide +kernel)⟩,h⟩) (ble rfl) fun b0 F0 U0 m0=>hn1 _ _ ?_
 refine Yl fun D2 hn2=>⟨_,rfl,Zcs m0 (vs:=fl x ["NoThing", "NoCase", "NoOath"]) (fun R h=>⟨_,rfl,er.k _ hm,_,.inl ⟨_,rfl,er.i _ hm _ (by decide +kernel)⟩,_,rfl,er.k _ hm,_,.inl ⟨_,rfl,er.i _ hm _ (by decide +kernel)⟩,_,rfl,er.k _ hm,_,.inl ⟨_,rfl,er.i _ hm _ (by decide +kernel)⟩,h⟩) (ble rfl) fun b1 F1 U1 m1=>hn2 _ _ ?_⟩
 refine Yl fun D3 hn3=>⟨_,rfl,Zcs m1 (vs:=fl x ["NotYet", "Dead", "NoHeir", "TooMany"]) (fun R h=>⟨_,rfl,er.k _ hm,_,.inl ⟨_,rfl,er.i _ hm _ (by decide +kernel)⟩,_,rfl,er.k _ hm,_,.inl ⟨_,rfl,er.i _ hm _ (by decide +kernel)⟩,_,rfl,er.k _ hm,_,.inl ⟨_,rfl,er.i _ hm _ (by decide +kernel)⟩,_,rfl,er.k _ hm,_,.inl ⟨_,rfl,er.i _ hm _ (by decide +kernel)⟩,h⟩) (ble rfl) fun b2 F2 U2 m2=>hn3 _ _ ?_⟩
 refine Yl fun D4 hn4=>⟨_,rfl,Zcs m2 (vs:=fl x ["SwornTwice", "Forsworn", "TooLight"]) (fun R h=>⟨_,rfl,er.k _ hm,_,.inl ⟨_,rfl,er.i _ hm _ (by decide +kernel)⟩,_,rfl,er.k _ hm,_,.inl ⟨_,rfl,er.i _ hm _ (by decide +kernel)⟩,_,rfl,er.k _ hm,_,.inl ⟨_,rfl,er.i _ hm _ (by decide +kernel)⟩,h⟩) (ble rfl) fun b3 F3 U3 m3=>hn4 _ _ ?_⟩
 refine Yl fun D5 hn5=>⟨_,rfl,Zcs m3 (vs:=fl x ["Broken", "NoMoment", "NothingBack"]) (fun R h=>⟨_,rfl,er.k _ hm,_,.inl ⟨_,rfl,er.i _ hm _ (by decide +kernel)⟩,_,rfl,er.k _ hm,_,.inl ⟨_,rfl,er.i _ hm _ (by decide +kernel)⟩,_,rfl,er.k _ hm,_,.inl ⟨_,rfl,er.i _ hm _ (by decide +kernel)⟩,h⟩) (ble rfl) fun b4 F4 U4 m4=>hn5 _ _ ?_⟩
 refine⟨_,rfl,Zcs m4 (vs:=[.bl (decide (x = "NothingForth")),.bl (decide (x = "NoDeed")),.bl true]) (fun R h=>⟨_,rfl,er.k _ hm,_,.inl ⟨_,rfl,er.i _ hm _ (by decide +kernel)⟩,_,rfl,er.k _ hm,_,.inl ⟨_,rfl,er.i _ hm _ (by decide +kernel)⟩,_,rfl,er.k _ hm,_,.inr ⟨_,rfl,er.v _ hm⟩,h⟩) (ble rfl) fun b5 F5 U5 m5=>⟨_,rfl,k _ _ (S02.trans (U0.trans (U1.trans (U2.trans (U3.trans (U4.trans U5)))))) m5⟩⟩
end
section
variable{P:Program}{w:World}{K:uFg}{mg:Str->Option Value}{base:Heap}
theorem Zpu{left:List V}{j:Nat}(hj:j < left.length):([left[j]]++left.eraseIdx j).Perm left:=by
 rw[List.eraseIdx_eq_take_drop_succ]
 have e:left.take j++left[j]::left.drop (j+1)=left:=by rw[← List.drop_eq_getElem_cons hj,List.take_append_drop]
 have h:=(List.perm_middle (a:=left[j]) (l₁:=left.take j) (l₂:=left.drop (j+1))).symm
 exact h.trans (by rw[e])
inductive spPick (vs:List V) (H:Hp) (Q:VK) (z3:XK):Prop
 | mk (s la a:Addr) (ts:List V) (n:Int) (h0:vs = [.ref s,.ref a,.int n]) (h1:SrcAt H s la) (h2:H a=some (.lst ts)) (h3:a≠s) (h4 : 0<=n) (h5:ts.length<=1000) (h6:∀(l:Addr)(out:List V)(H':Hp),(∃left,(out++left).Perm ts)->out.length=(min n ts.length).toNat->H l=none->H' l=some (.lst out)->SrcAt H' s la->SameX s H H'->Q (.ref l) H')
abbrev Znn:Stmt:=top 80
theorem Z0h(Zh8:Has K mg "_law_pick" Znn)(T:Txt mg)(Vw:Fn P w K mg base "_law_next" ["_law_src_here", "_law_base"] 1 spNext) :
  Fn P w K mg base "_law_pick" ["_law_src_here", "_law_things", "_law_many"] 2 spPick:=by
 refine Zh8.fq ["_law_src_here", "_law_things", "_law_many", "_law_left", "_law_found", "_law_k"] fun H vs Q E hr h=>?_
 obtain⟨s,la,a,ts,n,rfl,hsrc,ha,has,hn0,hnl,k⟩:=h
 refine⟨rfl,_,(Zd (Zy 3 (Zap Za2 T.list Zal (Za (qvN 1) Zb)))
 (Zd (Zy 4 (Zz Zb))
 (Zd (Uj PassesOwn.never rfl (Zch T.range (Za (Z1 (Zpk (by rfl)) T.min Zyh (Za (qvN 2) (Za (Z1 Wm T.len Y1 (Za (qvN 1) Zb)) Zb))) Zb)) (Wq 5)
 (Zf (Zh (Y4 F.plainAttrs_list F.slot_list_append F.type_list_append Wg (qvN 4) (Za (Y4 F.plainAttrs_list F.slot_list_pop F.type_list_pop Zrg (qvN 3) (Za (Yg Vw (Za (qvN 0) (Za (Z1 Wm T.len Y1 (Za (qvN 3) Zb)) Zb))) Zb)) Zb)))))
 (Zf (Z5 (qvN 4)))))),?_⟩
 have hz:(2000:Nat)<=sizeLine:=by decide
 refine⟨_,rfl,a,_,rfl,.inl (SqL.of ha),fun lf hlf=>?_⟩
 refine⟨by show 0<=sizeLine;lia,fun l hl=>?_⟩
 have nfl:lf≠l:=fun z=>by rw[← z,Zg] at hl;cases hl
 have sm0:Same H (upd (upd H lf (.lst ts)) l (.lst [])):=(Same.new hlf).trans (Same.new hl)
 have hlH:H l=none:=(Same.new hlf).free hl
 obtain⟨n1,n2⟩:=hsrc.ne hlf
 obtain⟨n3,n4⟩:=hsrc.ne hlH
 have ea:(upd (upd H lf (.lst ts)) l (.lst [])) a=some (.lst ts):=sm0 _ _ ha
 refine⟨_,rfl,_,rfl,a,_,rfl,.inl (SqL.of ea),n,_,rfl,_,rfl,?_,?_,?_⟩
 ·split<;>lia
 ·split<;>lia
 have em:(if (ts.length:Int) < n then (ts.length:Int) else n)=min n ts.length:=by split<;>lia
 refine Zer (min n ts.length).toNat (by rw[em]) (fun i σ H'=>∃(out left:List V)(v:Option V),σ = [some (.ref s),some (.ref a),some (.int n),some (.ref lf),some (.ref l),v]/\out.length=i/\left.length+i=ts.length/\(∀x∈out,x∈ts)/\(∀x∈left,x∈ts)/\(out++left).Perm ts /\
   H' l=some (.lst out)/\H' lf=some (.lst left)/\SrcAt H' s la/\SameX s H H')
  ⟨[],ts,none,rfl,rfl,rfl,(fun _ z=>nomatch z),(fun _ z=>z),.refl _,Zg,by rw[Zc nfl,Zg],hsrc.keep sm0,sm0.x⟩ ?_ ?_
 ·rintro i σ H' hi ⟨out,left,v,rfl,hol,hleft,ho,hle,hpm,hl',hlf',hs',sx'⟩
  have hll : 0 < left.length:=by lia
  refine⟨_,rfl,.inl ⟨rfl,_,SqL.of hl'⟩,_,rfl,.inl ⟨rfl,_,SqL.of hlf'⟩,_,rfl,_,rfl,lf,_,rfl,.inl (SqL.of hlf'),s,la,_,rfl,hs',by lia,by lia,fun d H1 d0 d1 hs1 sx1=>?_⟩
  obtain⟨j,rfl⟩:=yO d0
  have hj:j < left.length:=by lia
  have hlf1:=sx1 lf _ n1 hlf'
  have hl1:=sx1 l _ n3 hl'
  refine⟨lf,_,_,j,left[j],rfl,rfl,hlf1,by lia,by lia,seqIndex_of (by lia) (by lia),xB hj,?_⟩
  have hs2:SrcAt (upd H1 lf (.lst (left.eraseIdx j))) s la:=hs1.keepX SameX.upd n1 n2
  have hl2:upd H1 lf (.lst (left.eraseIdx j)) l=some (.lst out):=by rw[Zc nfl.symm];exact hl1
  refine⟨l,out,left[j],rfl,rfl,hl2,by lia,?_⟩
  refine⟨out ++ [left[j]],left.eraseIdx j,_,rfl,by rw[xJ,hol];rfl,?_,fun x hx=>?_,fun x hx=>?_,?_,Zg,?_,?_,?_⟩
  ·rw[List.length_eraseIdx_of_lt hj];lia
  ·rcases xH.mp hx with z | z
   ·exact ho x z
   ·rw[xI.mp z];exact hle _ (zT hj)
  ·exact hle x (List.mem_of_mem_eraseIdx hx)
  ·refine List.Perm.trans ?_ hpm
   rw[yW]
   exact List.Perm.append_left _ (Zpu hj)
  ·rw[Zc nfl,Zg]
  ·exact hs2.keepX SameX.upd n3 n4
  ·intro b o hb e
   have b1:b≠lf:=fun z=>by rw[z,hlf] at e;cases e
   have b2:b≠l:=fun z=>by rw[z,hlH] at e;cases e
   rw[Zc b2,Zc b1]
   exact sx1 b o hb (sx' b o hb e)
 ·rintro σ H' ⟨out,left,v,rfl,hol,hleft,ho,hle,hpm,hl',hlf',hs',sx'⟩
  exact⟨_,rfl,k l out H' ⟨left,hpm⟩ hol hlH hl' hs' sx'⟩
end
section
theorem Zju:∀(ns:List Str)(s:Zee),(ns.map fun n=>AD.s (.come n 2 5)).foldl Zd4 s=(s.1++ns.map fun n=>Deed.come n 2 5,{s.2 with deeds:=s.2.deeds++ns.map fun n=>coD n 2 5 })
 | [],s=>by simp
 | n::ns,s=>by
  rw[xV,List.foldl_cons,Zju ns]
  simp[Zd4,sdF,Mo.sd,Mo.told]
theorem Zxy(ns:List Str):Za1 (ns.map fun n=>AD.s (.come n 2 5))=(ns.map fun n=>Deed.come n 2 5,{mo0 with deeds:=ns.map fun n=>coD n 2 5 }):=by
 unfold Za1;rw[Zju];rfl
theorem Zd5:∀{ns:List Str}{n:Str},Zj (ns.map fun n=>Deed.come n 2 5) n=if n∈ns then some 2 else none:=by
 intro ns n
 induction ns with
 | nil=>rfl
 | cons m ns ih =>
  rw[xV,← List.singleton_append,Zci,ih]
  by_cases z:m=n
  ·subst z
   have:Zj [Deed.come m 2 5] m=some 2:=by rw[show [Deed.come m 2 5]= [] ++ [Deed.come m 2 5] from rfl,Zev rfl,if_pos rfl]
   rw[this,if_pos yD];rfl
  ·have:Zj [Deed.come m 2 5] n=none:=by rw[show [Deed.come m 2 5]= [] ++ [Deed.come m 2 5] from rfl,Zev rfl,if_neg (fun y=>z y.symm)];rfl
   rw[this,xD]
   by_cases y:n∈ns
   ·rw[if_pos y,if_pos (xX _ y)]
   ·rw[if_neg y,if_neg (fun e=>(xC.mp e).elim (fun e=>z e.symm) y)]
theorem Zd6:∀{ns:List Str}{n:Str},Z0 (ns.map fun n=>Deed.come n 2 5) n=none:=by
 intro ns n
 induction ns with
 | nil=>rfl
 | cons m ns ih =>
  rw[xV,← List.singleton_append,Zcj,ih,show [Deed.come m 2 5]= [] ++ [Deed.come m 2 5] from rfl,Zew];rfl
def Zeg(ns:List Str)(a b c d f:Str)(w:Str->Int):List AD:=(ns.map fun n=>AD.s (.come n 2 5))++[.s (.bring a 3)] ++ [.c (.clm a 0) 5 1 [b] [c] w] ++ [.c (.acc 0 c) 5 1 [d] [] w] ++ [.s (.die f a 7)]
variable{ns:List Str}{a b c d f:Str}{w:Str->Int}
theorem Zn6:Za1 (Zeg ns a b c d f w)=((ns.map fun n=>Deed.come n 2 5)++[.die f 7 a],(((({mo0 with deeds:=ns.map fun n=>coD n 2 5 }:Mo).brg a 3).does 5 1 w [b] [c] (.clm a 0)).does 5 1 w [d] [] (.acc 0 c)).sd (.die f a 7)):=by
 unfold Zeg
 rw[Zde,Zde,Zde,Zde,Zxy];rfl
structure M58 (ns:List Str) (a b c d f:Str) (w:Str->Int) (ds:List Deed) (m:Mo):Prop where
 com:∀n,Zj ds n=if n∈ns then some 2 else none
 die:∀n,Z0 ds n=if n=f then some (7,a) else none
 br:m.brs = [.tup [.str a,.int 3]]
 tr:m.trials = [⟨Zv w [b],Zv w [c],1,none⟩,⟨Zv w [d],Zv w [],1,some (0,c)⟩]
 dy:m.days = [5,5]
 vd:m.verd=(Yw [] 0 [⟨Zv w [b],Zv w [c],1,none⟩,⟨Zv w [d],Zv w [],1,some (0,c)⟩]).1
 pe:∀n,m.pen n=none
 dl:m.deeds.length=ns.length+4
theorem m58:M58 ns a b c d f w (Za1 (Zeg ns a b c d f w)).1 (Za1 (Zeg ns a b c d f w)).2:=by
 rw[Zn6]
 refine⟨fun n=>?_,fun n=>?_,rfl,rfl,rfl,rfl,fun _=>rfl,?_⟩
 ·exact(Zjr n).trans Zd5
 ·show Z0 (_++_) n=_
  rw[Zcj,Zd6,xD]
  by_cases z:n=f
  ·subst z;rw[if_pos rfl];simp[Z0]
  ·rw[if_neg z];simp[Z0];exact fun e=>z e.symm
 ·show (((((ns.map fun n=>coD n 2 5)++[_])++[_])++[_])++[_]).length=_
  simp
theorem Wu{α β:Type}{f : α->Option β}{l:List α}(h:∀n∈l,f n=none):l.findSome? f=none:=List.findSome?_eq_none_iff.mpr h
structure N58 (ns:List Str) (a b c d f s:Str):Prop where
 nn:∀n∈ns,Y6 n
 ma:a∈ns
 mb:b∈ns
 mc:c∈ns
 md:d∈ns
 mf:f∈ns
 ms:s∉ns
 af:a≠f
 bf:b≠f
 cf:c≠f
 df:d≠f
 ab:a≠b
 ac:a≠c
 ad:a≠d
 bc:b≠c
 bd:b≠d
 cd:c≠d
variable{s:Str}{ds:List Deed}{m:Mo}{day many far:Int}
theorem M58.kn(h:M58 ns a b c d f w ds m){n:Str}(hn:n∈ns):Wd ds n=none:=if_neg (by rw[h.com,if_pos hn];exact fun z=>by cases z)
theorem M58.th(h:M58 ns a b c d f w ds m){n:Str}(hn:n∈ns)(hd : 2<=day):Yn ((Zj ds n).getD 0) day=none:=if_neg (by rw[h.com,if_pos hn];show ¬day < 2;lia)
theorem M58.lv(h:M58 ns a b c d f w ds m){n:Str}(hn:n≠f):Vg ds n day=none:=if_neg (by unfold Vo;rw[h.die,if_neg hn];exact xM)
theorem M58.lf(h:M58 ns a b c d f w ds m)(hd:day < 7):Vg ds f day=none:=if_neg (by unfold Vo;rw[h.die,if_pos rfl];simp;lia)
theorem M58.df(h:M58 ns a b c d f w ds m)(hd : 7<=day):Vg ds f day=some ("Dead" : Str):=if_pos (by unfold Vo;rw[h.die,if_pos rfl];simp;lia)
theorem M58.un(h:M58 ns a b c d f w ds m){n:Str}(hn:n≠f):Up ds n=none:=if_pos (by rw[h.die,if_neg hn])
theorem Yo{lo hi x:Int}(h:lo<=x)(k:x<=hi):eM lo hi x=none:=if_pos ⟨h,k⟩
theorem r1(h:M58 ns a b c d f w ds m)(h0 : 0<=far):eSD ds m (.rise a (10000+far) 5)=some ("NoMeasure" : Str):=by
 show (Vq _ _ _ _).or _=_
 unfold Vq
 rw[show eM 0 9999 (10000+far)=some ("NoMeasure" : Str) from if_neg (by lia)];rfl
theorem r2(h:M58 ns a b c d f w ds m)(N:N58 ns a b c d f s):eSD ds m (.pen s)=some ("Unknown" : Str):=by
 show (Wd _ _).or _=_
 rw[show Wd ds s=some ("Unknown" : Str) from if_pos (by rw[h.com,if_neg N.ms])];rfl
theorem r3(h:M58 ns a b c d f w ds m)(N:N58 ns a b c d f s)(d0 : 9<=day)(d1:day<=909):eSD ds m (.come a day 5)=some ("Taken" : Str):=by
 show (Vz _ _ _ _).or _=_
 unfold Vz
 rw[if_neg (by rw[Zeu (N.nn a N.ma)];decide),Yo (by lia) (by lia),Yo (by decide) (by decide),if_neg (by rw[h.com,if_pos N.ma];exact fun z=>by cases z)];rfl
theorem r4(h:M58 ns a b c d f w ds m)(N:N58 ns a b c d f s)(h0 : 0<=far)(d0 : 9<=day)(d1:day<=909):eSD ds m (.give (1+far) a b day)=some ("NoThing" : Str):=by
 show (eM 0 9999 day).or ((Yt _ _ _ _ _ _).or _)=_
 unfold Yt
 rw[Yo (by lia) (by lia),Wu (l:=[a,b]) (by
  intro n hn
  simp only[xC,yG,or_false] at hn
  rcases hn with rfl | rfl
  ·exact h.kn N.ma
  ·exact h.kn N.mb)]
 show ((Vr m (1+far)).or _).or _=_
 rw[show Vr m (1+far)=some ("NoThing" : Str) from if_neg (by rw[h.br];intro z;have:=z.2;simp only[xU,List.length_nil] at this;lia)];rfl
theorem r7(h:M58 ns a b c d f w ds m)(N:N58 ns a b c d f s)(m0 : 1<=many)(m1:many<=1000):eSD ds m (.rise a 1 many)=some ("NotYet" : Str):=by
 show (Vq _ _ _ _).or _=_
 unfold Vq
 rw[Yo (by decide) (by decide),Yo m0 m1,h.kn N.ma,show Yn ((Zj ds a).getD 0) 1=some ("NotYet" : Str) from if_pos (by rw[h.com,if_pos N.ma];decide)];rfl
theorem r8(h:M58 ns a b c d f w ds m)(N:N58 ns a b c d f s)(m0 : 1<=many)(m1:many<=1000)(d0 : 9<=day)(d1:day<=909):eSD ds m (.rise f day many)=some ("Dead" : Str):=by
 show (Vq _ _ _ _).or _=_
 unfold Vq
 rw[Yo (by lia) (by lia),Yo m0 m1,h.kn N.mf,h.th N.mf (by lia),h.df (by lia)];rfl
theorem r9(h:M58 ns a b c d f w ds m)(N:N58 ns a b c d f s)(d0 : 9<=day)(d1:day<=909):eSD ds m (.die a f day)=some ("NoHeir" : Str):=by
 show (V7 _ _ _ _).or _=_
 unfold V7
 rw[Yo (by lia) (by lia),h.kn N.ma,h.kn N.mf,h.th N.ma (by lia),h.th N.mf (by lia),h.un N.af,if_pos (.inr (by rw[h.die,if_pos rfl];exact fun z=>by cases z))];rfl
theorem v58(wb:w b=5)(wc:w c=5)(wd:w d=5)(bc:b≠c):Yw [] 0 [⟨Zv w [b],Zv w [c],1,none⟩,⟨Zv w [d],Zv w [],1,some (0,c)⟩]=([true,true],[(0,c)]):=by
 have e1:Yw [] 1 [⟨Zv w [d],Zv w [],1,some (0,c)⟩]=([true],[(0,c)]):=by
  simp[Yw,Zaf,Zcz,keep,wts,Zv,wd]
 rw[Yw,e1]
 simp[Zaf,Zcz,keep,wts,Zv,wb,wc,bc]
theorem r5(h:M58 ns a b c d f w ds m)(N:N58 ns a b c d f s)(h0 : 0<=far)(d0 : 9<=day)(d1:day<=909){g:Str->Int}:eCD ds m day 1 g [a] [] (.acc (2+far) c)=some ("NoCase" : Str):=by
 show Ua _ _ _ _ _ _ _ _ _=_
 unfold Ua Yt
 rw[Yo (by lia) (by lia),Yo (by decide) (by decide),Wu (l:=[a] ++ []) (by
  intro n hn
  rw[xI.mp hn];exact h.kn N.ma)]
 show (((Wa m.trials (2+far) c).or _).or _)=_
 have:Wa m.trials (2+far) c=some ("NoCase" : Str):=by
  unfold Wa
  rw[h.tr,List.getElem?_eq_none (by simp only[xU,List.length_nil];lia)]
 rw[this];rfl
theorem r6(h:M58 ns a b c d f w ds m)(N:N58 ns a b c d f s)(d0 : 9<=day)(d1:day<=909){g:Str->Int}:eCD ds m day 1 g [a] [] (.acc 0 f)=some ("NoOath" : Str):=by
 show Ua _ _ _ _ _ _ _ _ _=_
 unfold Ua Yt
 rw[Yo (by lia) (by lia),Yo (by decide) (by decide),Wu (l:=[a] ++ []) (by
  intro n hn
  rw[xI.mp hn];exact h.kn N.ma)]
 show (((Wa m.trials 0 f).or _).or _)=_
 have:Wa m.trials 0 f=some ("NoOath" : Str):=by
  unfold Wa
  rw[h.tr]
  show (if inB 0 2 then (if f ∈ [b,c] then _ else _) else _)=_
  rw[if_pos (by decide),if_neg]
  intro z
  simp only[xC,yG,or_false] at z
  rcases z with z | z
  ·exact N.bf z.symm
  ·exact N.cf z.symm
 rw[this];rfl
theorem Zim(h:M58 ns a b c d f w ds m)(wb:w b=5)(wc:w c=5)(wd:w d=5)(bc:b≠c)(n:Str):V8 m n=decide (c=n):=by
 unfold V8
 rw[h.tr]
 show Zaw m 2 n=_
 rw[Zdd,Zdd]
 unfold Zaw Zbm
 rw[h.tr,h.vd,v58 wb wc wd bc,h.pe]
 simp
theorem Zno{g:Str->Int}(ga:g a=5)(gb:g b=5):(wts (Zv g [a])).sum=5/\(wts (Zv g [a,b])).sum=10:=by
 simp[wts,Zv,ga,gb]
theorem M58.mom(h:M58 ns a b c d f w ds m)(hn:ns.length=15):Yh m=none:=if_pos (by rw[h.dl,hn];decide)
theorem M58.named(h:M58 ns a b c d f w ds m){ps:List Str}{th:Option Int}{oa:Option (Int×Str)}(hp:∀n∈ps,n∈ns/\(n=f->day < 7))(d2 : 2<=day)(h1:th=none\/th=some 0/\3<=day)(h2:oa=none\/oa=some (0,c)/\5<=day):Yt ds m day ps th oa=none:=by
 unfold Yt
 rw[Wu fun n hn=>h.kn (hp n hn).1,Wu fun n hn=>h.th (hp n hn).1 d2,Wu (l:=ps) (f:=fun n=>Vg ds n day) fun n hn=>by
  by_cases z:n=f
  ·rw[z];exact h.lf ((hp n hn).2 z)
  ·exact h.lv z]
 have e1:(th.bind (Vr m))=none/\(th.bind fun i=>Yn (brD m i) day)=none:=by
  rcases h1 with rfl | ⟨rfl,h3⟩
  ·exact⟨rfl,rfl⟩
  ·refine⟨if_pos (by rw[h.br];exact(by decide:inB 0 1)),if_neg ?_⟩
   unfold brD;rw[h.br]
   show ¬day < 3;lia
 have e2:(oa.bind fun p=>Wa m.trials p.1 p.2)=none/\(oa.bind fun p=>Yn (m.days.getD p.1.toNat 0) day)=none:=by
  rcases h2 with rfl | ⟨rfl,h3⟩
  ·exact⟨rfl,rfl⟩
  ·refine⟨?_,if_neg ?_⟩
   ·show Wa m.trials 0 c=none
    unfold Wa
    rw[h.tr]
    show (if inB 0 2 then (if c ∈ [b,c] then _ else _) else _)=_
    rw[if_pos (by decide),if_pos (by simp)]
   ·rw[h.dy];show ¬day < 5;lia
 rw[e1.1,e1.2,e2.1,e2.2];rfl
theorem r10(h:M58 ns a b c d f w ds m)(N:N58 ns a b c d f s)(hn:ns.length=15)(m0 : 1<=many)(m1:many<=1000){g:Str->Int}:eCD ds m 6 1 g (ns.take 13) [] (.wer a b many)=some ("TooMany" : Str):=by
 show Zag _ _ _ _ _ _ _ _ _ _=_
 unfold Zag
 rw[Yo m0 (by lia),Yo (by decide) (by decide),Yo (by decide) (by decide),h.named (day:=6) (fun n hm=>⟨(by
  rcases xH.mp hm with z | z
  ·rcases xH.mp z with z | z
   ·simp only[xC,yG,or_false] at z
    rcases z with rfl | rfl
    ·exact N.ma
    ·exact N.mb
   ·exact zF z
  ·cases z),fun _=>by decide⟩) (by decide) (.inl rfl) (.inl rfl)]
 show Wx _ _ _ _ _=_
 unfold Wx
 rw[if_neg (by rw[h.tr];exact(by decide:¬ 60<=2)),if_pos (by rw[xY,hn];decide)]
theorem Zeh(h:M58 ns a b c d f w ds m)(hn:ns.length=15){need:Int}{g:Str->Int}{o1 o2:List Str}(h1:o1.length<=12)(h2:o2.length<=12):Wx m need g o1 o2=(if V6 (o1++o2) < (o1++o2).length then some ("SwornTwice" : Str) else ((o1++o2).findSome? fun n=>if V8 m n=true then some ("Forsworn" : Str) else none).or (if (wts (Zv g o1)).sum < need then some ("TooLight" : Str) else none)):=by
 unfold Wx
 rw[if_neg (by rw[h.tr];exact(by decide:¬ 60<=2)),if_neg (by lia),h.mom hn,xD]
theorem Zei(N:N58 ns a b c d f s){ps:List Str}(hp:∀n∈ps,n=a\/n=b\/n=c\/n=d){day:Int}:∀n∈ps,n∈ns/\(n=f->day < 7):=fun n hn=>by
 rcases hp n hn with rfl | rfl | rfl | rfl
 ·exact⟨N.ma,fun z=>absurd z N.af⟩
 ·exact⟨N.mb,fun z=>absurd z N.bf⟩
 ·exact⟨N.mc,fun z=>absurd z N.cf⟩
 ·exact⟨N.md,fun z=>absurd z N.df⟩
theorem r11(h:M58 ns a b c d f w ds m)(N:N58 ns a b c d f s)(hn:ns.length=15)(m0 : 1<=many)(m1:many<=1000)(d0 : 9<=day)(d1:day<=909){g:Str->Int}:eCD ds m day 1 g [a,b] [d,a] (.wer a b many)=some ("SwornTwice" : Str):=by
 show Zag _ _ _ _ _ _ _ _ _ _=_
 unfold Zag
 rw[Yo m0 (by lia),Yo (by lia) (by lia),Yo (by decide) (by decide),h.named (Zei N (by simp)) (by lia) (.inl rfl) (.inl rfl),Zeh h hn (by simp) (by simp),if_pos]
 ·rfl
 ·simp[V6,stS,N.ab,N.ad,N.bd]
theorem r12(h:M58 ns a b c d f w ds m)(N:N58 ns a b c d f s)(hn:ns.length=15)(wb:w b=5)(wc:w c=5)(wd:w d=5)(m0 : 1<=many)(m1:many<=1000)(d0 : 9<=day)(d1:day<=909){g:Str->Int}:eCD ds m day 1 g [c] [] (.wer a b many)=some ("Forsworn" : Str):=by
 show Zag _ _ _ _ _ _ _ _ _ _=_
 unfold Zag
 rw[Yo m0 (by lia),Yo (by lia) (by lia),Yo (by decide) (by decide),h.named (Zei N (by simp)) (by lia) (.inl rfl) (.inl rfl),Zeh h hn (by simp) (by simp),if_neg (by simp[V6,stS])]
 simp[Zim h wb wc wd N.bc]
theorem r13(h:M58 ns a b c d f w ds m)(N:N58 ns a b c d f s)(hn:ns.length=15)(wb:w b=5)(wc:w c=5)(wd:w d=5)(h0 : 0<=far)(h1:far<=100)(d0 : 9<=day)(d1:day<=909){g:Str->Int}(ga:g a=5)(gb:g b=5):eCD ds m day (11+far) g [a,b] [d] (.clm b 0)=some ("TooLight" : Str):=by
 show Zaz _ _ _ _ _ _ _ _ _=_
 unfold Zaz
 rw[Yo (by lia) (by lia),Yo (by lia) (by lia),h.named (Zei N (by simp)) (by lia) (.inr ⟨rfl,by lia⟩) (.inl rfl),Zeh h hn (by simp) (by simp),if_neg (by simp[V6,stS,N.ab,N.ad,N.bd])]
 rw[(Zno ga gb).2,if_pos (by lia:(10:Int) < 11+far)]
 simp[Zim h wb wc wd N.bc,N.ac.symm,N.bc.symm,N.cd]
theorem r14(h:M58 ns a b c d f w ds m)(N:N58 ns a b c d f s)(hn:ns.length=15)(wb:w b=5)(wc:w c=5)(wd:w d=5)(d0 : 9<=day)(d1:day<=909){g:Str->Int}(ga:g a=5):eCD ds m day 1 g [a] [] (.acc 0 c)=some ("Broken" : Str):=by
 show Ua _ _ _ _ _ _ _ _ _=_
 unfold Ua
 rw[Yo (by lia) (by lia),Yo (by decide) (by decide),h.named (Zei N (by simp)) (by lia) (.inl rfl) (.inr ⟨rfl,by lia⟩),Zeh h hn (by simp) (by simp),if_neg (by simp[V6,stS])]
 rw[(Zno ga ga).1,if_neg (by decide:¬(5:Int) < 1),if_neg]
 ·simp[Zim h wb wc wd N.bc,N.ac.symm]
 ·refine brk9_ne.mpr ?_
  rw[h.tr]
  refine⟨1,_,rfl,?_,rfl⟩
  show (Yw [] 0 _).1[1]? = _
  rw[v58 wb wc wd N.bc];rfl
theorem r0:eSD ds m (.come ("A" ++ a) 3 1)=some ("NoName" : Str):=by
 show (Vz _ _ _ _).or _=_
 unfold Vz
 rw[if_pos]
 ·rfl
 ·unfold Vf
  have:(cs (("A" : Str)++a)).all okc=false:=by
   rw[Zbc,List.all_append]
   rw[show (cs ("A" : Str)).all okc=false by decide +kernel,zH]
  rw[this,Bool.and_false]
theorem Zxz{k:Nat}{x:Str}(h:cls[k]? = some x):Zef x=((List.range 19).map fun i=>decide (i=k))++[true]:=by
 have hk:k < 19:=(xG.mp h).1
 have key:∀k:Fin 19,Zef (cls.getD k.1 "")=((List.range 19).map fun i=>decide (i=k.1))++[true]:=by decide +kernel
 have:=key ⟨k,hk⟩
 rwa [xR,h] at this
theorem Zj9:∀ns:List Str,Wz (ns.map fun n=>Deed.come n 2 5)=ns
 | []=>rfl
 | n::ns=>by
  rw[xV,← List.singleton_append,Zdc,Zj9 ns];rfl
theorem Z1j{i:Nat}{n:Str}(hn:ns[i]? = some n)(nd:ns.Nodup)(nm:Y6 n)(hl:ns.length<=20):Vz ((ns.take i).map fun n=>Deed.come n 2 5) n 2 5=none:=by
 have et:ns.take (i+1)=ns.take i ++ [n]:=by rw[yP,hn];rfl
 have ni:n∉ns.take i:=fun z=>by
  have:=nd.sublist (List.take_sublist (i+1) ns)
  rw[et] at this
  exact(zR.mp this).2.2 n z n (by simp) rfl
 unfold Vz
 rw[if_neg (by rw[Zeu nm];decide),Yo (by decide) (by decide),Yo (by decide) (by decide),if_pos (by rw[Zd5,if_neg ni]),if_pos (by rw[Zj9,xY];lia)];rfl
end
section
variable{ns:List Str}{a b c d f s:Str}{w:Str->Int}
abbrev d58(ns:List Str):List Deed:=ns.map fun n=>Deed.come n 2 5
abbrev Wo(ns:List Str):Mo:={mo0 with deeds:=ns.map fun n=>coD n 2 5 }
theorem Zc8{n:Str}(hn:n∈ns):Wd (d58 ns) n=none:=if_neg (by rw[Zd5,if_pos hn];exact fun z=>by cases z)
theorem Zc9{n:Str}{day:Int}(hn:n∈ns)(hd : 2<=day):Yn ((Zj (d58 ns) n).getD 0) day=none:=if_neg (by rw[Zd5,if_pos hn];show ¬day < 2;lia)
theorem Zin{n:Str}{day:Int}:Vg (d58 ns) n day=none:=if_neg (by unfold Vo;rw[Zd6];exact xM)
theorem g1(ha:a∈ns)(hl:ns.length=15):eSD (d58 ns) (Wo ns) (.bring a 3)=none:=by
 show (eM 0 9999 3).or ((Yt _ _ _ _ _ _).or ((Zbn _).or (Yh _)))=_
 unfold Yt
 rw[Yo (by decide) (by decide),Wu (l:=[a]) (fun n hn=>by rw[xI.mp hn];exact Zc8 ha),Wu (l:=[a]) (f:=fun n=>Yn ((Zj (d58 ns) n).getD 0) 3) (fun n hn=>by rw[xI.mp hn];exact Zc9 ha (by decide)),Wu (l:=[a]) (f:=fun n=>Vg (d58 ns) n 3) (fun n hn=>Zin)]
 rw[show Zbn (Wo ns)=none from if_pos (show (0:Nat) < 40 by decide),show Yh (Wo ns)=none from if_pos (by show (ns.map _).length < 400;rw[xA,hl];decide)]
 rfl
theorem g4{m:Mo}(ha:a∈ns)(hf:f∈ns)(af:a≠f)(hm:m.deeds.length < 400):eSD (d58 ns) m (.die f a 7)=none:=by
 show (V7 _ _ _ _).or _=_
 unfold V7
 rw[Yo (by decide) (by decide),Zc8 hf,Zc8 ha,Zc9 hf (by decide),Zc9 ha (by decide),show Up (d58 ns) f=none from if_pos Zd6,if_neg (fun z=>z.elim af fun z=>z Zd6),show Yh m=none from if_pos hm];rfl
theorem g2(ha:a∈ns)(hb:b∈ns)(hc:c∈ns)(bc:b≠c)(hl:ns.length=15)(wb:w b=5):eCD (d58 ns) ((Wo ns).brg a 3) 5 1 w [b] [c] (.clm a 0)=none:=by
 show Zaz _ _ _ _ _ _ _ _ _=_
 have hp:∀n ∈ [a] ++ [b] ++ [c],n∈ns:=fun n hn=>by
  simp only[xT,zC,xC,yG,or_false] at hn
  rcases hn with rfl | rfl | rfl<;>assumption
 unfold Zaz Yt Wx
 rw[Yo (by decide) (by decide),Yo (by decide) (by decide),Wu fun n hn=>Zc8 (hp n hn),Wu (f:=fun n=>Yn ((Zj (d58 ns) n).getD 0) 5) fun n hn=>Zc9 (hp n hn) (by decide),Wu (f:=fun n=>Vg (d58 ns) n 5) fun n hn=>Zin]
 rw[show ((some (0:Int)).bind (Vr ((Wo ns).brg a 3)))=none from(if_pos (by decide):(if inB 0 1 then none else some ("NoThing" : Str))=none),show ((some (0:Int)).bind fun i=>Yn (brD ((Wo ns).brg a 3) i) 5)=none from(if_neg (by decide):(if (5:Int) < 3 then some ("NotYet" : Str) else none)=none)]
 rw[if_neg (show ¬ 60<=((Wo ns).brg a 3).trials.length from(by decide:¬ 60<=0)),if_neg (show ¬ 12 < max [b].length [c].length from(by decide:¬ 12 < max 1 1)),show Yh ((Wo ns).brg a 3)=none from if_pos (by show ((ns.map _)++[_]).length < 400;rw[xJ,xA,hl];exact(by decide : 15+1 < 400)),if_neg (show ¬V6 ([b] ++ [c]) < ([b] ++ [c]).length by simp[V6,stS,bc]),Wu (f:=fun n=>if V8 ((Wo ns).brg a 3) n=true then some ("Forsworn" : Str) else none) (fun n _=>if_neg (show ¬V8 ((Wo ns).brg a 3) n=true from xM)),if_neg (show ¬(wts (Zv w [b])).sum < 1 by simp[wts,Zv,wb])]
 rfl
abbrev Vh(ns:List Str)(a b c:Str)(w:Str->Int):Mo:=((Wo ns).brg a 3).does 5 1 w [b] [c] (.clm a 0)
theorem g3(hc:c∈ns)(hd:d∈ns)(hl:ns.length=15)(wd:w d=5):eCD (d58 ns) (Vh ns a b c w) 5 1 w [d] [] (.acc 0 c)=none:=by
 show Ua _ _ _ _ _ _ _ _ _=_
 have hp:∀n ∈ [d] ++ [],n∈ns:=fun n hn=>by rw[xI.mp hn];exact hd
 have tr:(Vh ns a b c w).trials = [⟨Zv w [b],Zv w [c],1,none⟩]:=rfl
 have nf:∀n,V8 (Vh ns a b c w) n=false:=fun n=>rfl
 unfold Ua Yt Wx
 rw[Yo (by decide) (by decide),Yo (by decide) (by decide),Wu fun n hn=>Zc8 (hp n hn),Wu (f:=fun n=>Yn ((Zj (d58 ns) n).getD 0) 5) fun n hn=>Zc9 (hp n hn) (by decide),Wu (f:=fun n=>Vg (d58 ns) n 5) fun n hn=>Zin]
 have e1:Wa (Vh ns a b c w).trials 0 c=none:=by
  rw[tr]
  show (if inB 0 1 then (if c ∈ [b,c] then none else some ("NoOath" : Str)) else some ("NoCase" : Str))=none
  rw[if_pos (by decide),if_pos (by simp)]
 have e2:Yn ((Vh ns a b c w).days.getD (0:Int).toNat 0) 5=none:=(if_neg (by decide):(if (5:Int) < 5 then some ("NotYet" : Str) else none)=none)
 rw[show ((some ((0:Int),c)).bind fun p=>Wa (Vh ns a b c w).trials p.1 p.2)=none from e1,show ((some ((0:Int),c)).bind fun p=>Yn ((Vh ns a b c w).days.getD p.1.toNat 0) 5)=none from e2]
 have eb:Zbl (Vh ns a b c w).trials 0 c = []:=Classical.byContradiction fun z=>by
  obtain⟨j,u,h1,_,h3⟩:=brk9_ne.mp z
  rw[tr] at h1
  cases j with
  | zero=>cases h1;cases h3
  | succ j=>cases h1
 rw[if_pos eb]
 rw[if_neg (show ¬ 60<=(Vh ns a b c w).trials.length from(by decide:¬ 60<=1)),if_neg (show ¬ 12 < max [d].length ([]:List Str).length from(by decide:¬ 12 < max 1 0)),show Yh (Vh ns a b c w)=none from if_pos (by show (((ns.map _)++[_])++[_]).length < 400;rw[xJ,xJ,xA,hl];exact(by decide : 15+1+1 < 400)),if_neg (show ¬V6 ([d] ++ []) < ([d]++([]:List Str)).length by simp[V6,stS]),Wu (f:=fun n=>if V8 (Vh ns a b c w) n=true then some ("Forsworn" : Str) else none) (fun n _=>by rw[nf];rfl),if_neg (show ¬(wts (Zv w [d])).sum < 1 by simp[wts,Zv,wd])]
 rfl
end
section
variable{P:Program}{w:World}{K:uFg}{mg:Str->Option Value}{base:Heap}{C CM:Addr}{c:Str->Addr}
def Zio(N:Addr->Prop)(H:Hp):AD->V->Prop
 | .s d,v=>∃a,v = .ref a/\H a=some (.tup (sdV d))
 | .c d day need o1 o2 _,v=>∃a l1 l2,v = .ref a/\H a=some (.tup (cdV day need l1 l2 d))/\N l1/\N l2/\H l1=some (.lst (o1.map V.str))/\H l2=some (.lst (o2.map V.str))
def DdL(N:Addr->Prop)(H:Hp):List AD->List V->Prop
 | [],vs=>vs = []
 | x::xs,vs=>∃v r,vs=v::r/\Zio N H x v/\DdL N H xs r
variable{N N':Addr->Prop}
theorem DdL.mono{H H':Hp}(kt:Um H H')(kl:∀b u,N b->H b=some (.lst u)->N' b/\H' b=some (.lst u)):∀{xs:List AD}{vs:List V},DdL N H xs vs->DdL N' H' xs vs
 | [],_,h=>h
 | .s _::_,_,⟨v,r,e,⟨a,e',h⟩,h'⟩=>⟨v,r,e,⟨a,e',kt _ _ h⟩,h'.mono kt kl⟩
 | .c .. :: _,_,⟨v,r,e,⟨a,l1,l2,e',h,n1,n2,h1,h2⟩,h'⟩=>⟨v,r,e,⟨a,l1,l2,e',kt _ _ h,(kl _ _ n1 h1).1,(kl _ _ n2 h2).1,(kl _ _ n1 h1).2,(kl _ _ n2 h2).2⟩,h'.mono kt kl⟩
theorem DdL.same{H H':Hp}{xs:List AD}{vs:List V}(h:DdL N H xs vs)(k:Same H H'):DdL N H' xs vs:=h.mono (fun _ _ e=>k _ _ e) (fun _ _ n e=>⟨n,k _ _ e⟩)
theorem DdL.app{H:Hp}:∀{xs ys:List AD}{us vs:List V},DdL N H xs us->DdL N H ys vs->DdL N H (xs++ys) (us++vs)
 | [],_,_,_,h,k=>by cases h;exact k
 | _::_,_,_,_,⟨v,r,e,h,h'⟩,k=>by subst e;exact⟨v,_,rfl,h,h'.app k⟩
theorem DdL.get{H:Hp}:∀{xs:List AD}{vs:List V}{i:Nat}{v:V},DdL N H xs vs->vs[i]? = some v->∃x,xs[i]? = some x/\Zio N H x v
 | [],_,i,v,h,e=>by have h:_ = []:=h;subst h;cases e
 | x::xs,_,0,v,⟨u,r,rfl,b,_⟩,e=>by cases e;exact⟨x,rfl,b⟩
 | x::xs,_,i+1,v,⟨u,r,rfl,_,b⟩,e=>DdL.get (i:=i) b e
theorem DdL.len{H:Hp}:∀{xs:List AD}{vs:List V},DdL N H xs vs->vs.length=xs.length
 | [],_,h=>by cases h;rfl
 | _::_,_,⟨v,r,e,_,h'⟩=>by rw[e,xU,xU,h'.len]
def EvL(G:Hp)(t:TA)(σ:St)(xs:List AD):Prop:=∀(N:Addr->Prop)(H:Hp)(Q:List V->Hp->Prop),Same G H->(∀b,H b=none->N b)->(∀us H',Same H H'->DdL N H' xs us->Q us H')->t σ H Q
variable{σ:St}{t1 tr:TA}{xs:List AD}
theorem EvL.nil{G:Hp}:EvL G Vl σ []:=fun _ H _ _ _ h=>h [] H (Same.refl H) rfl
theorem EvL.sd{G:Hp}(d:SD)(h1:∀H (R:List V->Hp->Prop),R (sdV d) H->t1 σ H R)(h2:EvL G tr σ xs):EvL G (Wy (Zea t1) tr) σ (.s d::xs):=fun N H Q g S h=>h1 H _ ⟨xS (show (sdV d).length<=10 by cases d<;>simp[sdV]) (by decide),fun p hp=>by
 have S1:=Same.new (o:=.tup (sdV d)) hp
 refine h2 N _ _ (g.trans S1) (fun b hb=>S b (S1.free hb)) fun us H' S' B=>h _ _ (S1.trans S') ⟨_,_,rfl,⟨p,rfl,S' _ _ Zg⟩,B⟩⟩
theorem EvL.cd{G:Hp}(d:CD)(day need:Int)(o1 o2:List Str)(f:Str->Int)(h1:∀H (R:List V->Hp->Prop),Same G H->(∀l1 l2,H l1=none->(upd H l1 (.lst (o1.map V.str))) l2=none->R (cdV day need l1 l2 d) (upd (upd H l1 (.lst (o1.map V.str))) l2 (.lst (o2.map V.str))))->t1 σ H R)(h2:EvL G tr σ xs):EvL G (Wy (Zea t1) tr) σ (.c d day need o1 o2 f::xs):=fun N H Q g S h=>h1 H _ g fun l1 l2 n1 n2=>⟨xS (show (cdV day need l1 l2 d).length<=10 by cases d<;>simp[cdV]) (by decide),fun p hp=>by
 have S1:=Same.new (o:=.lst (o1.map V.str)) n1
 have S2:=Same.new (o:=.lst (o2.map V.str)) n2
 have S3:=Same.new (o:=.tup (cdV day need l1 l2 d)) hp
 have S12:=S1.trans S2
 have S13:=S12.trans S3
 refine h2 N _ _ (g.trans S13) (fun b hb=>S b (S13.free hb)) fun us H' S' B=>h _ _ (S13.trans S') ⟨_,_,rfl,⟨p,l1,l2,rfl,S' _ _ Zg,S _ n1,S _ (S1.free n2),S' _ _ (S3 _ _ (S2 _ _ Zg)),S' _ _ (S3 _ _ Zg)⟩,B⟩⟩
theorem Zb0{H:Hp}{Q:VK}(E:EvL H t1 σ xs)(hl:xs.length<=400)(hN:∀b,H b=none->N b)(k:∀l us H',H l=none->Same H H'->H' l=some (.lst us)->DdL (fun b=>N b/\b≠l) H' xs us->Q (.ref l) H'):Zc4 t1 σ H Q:=E N H _ (Same.refl H) hN fun us H' S' B=>⟨xS (by rw[B.len];exact hl) (show 400<=sizeLine by decide),fun p hp=>k p us _ (S'.free hp) (S'.trans (Same.new hp)) Zg (B.mono (fun _ _ e=>Same.new hp _ _ e) fun b u n e=>⟨⟨n,Zl e hp⟩,Same.new hp _ _ e⟩)⟩
theorem DdL.fst{H:Hp}{M:Addr->Prop}{vs:List V}(h:DdL (fun b=>N b/\M b) H xs vs):DdL N H xs vs:=h.mono (fun _ _ e=>e) fun _ _ n e=>⟨n.1,e⟩
theorem Zct{H H1:Hp}{l1 l2:Addr}{us vs:List V}{xs ys:List AD}{Q:VK}(hn:xs.length+ys.length<=400)(k1:H l1=some (.lst us))(D1:DdL N H xs us)(S1:Same H H1)(k2:H1 l2=some (.lst vs))(D2:DdL N H1 ys vs)(k:∀l H',H1 l=none->Same H1 H'->H' l=some (.lst (us++vs))->DdL (fun b=>N b/\b≠l) H' (xs++ys) (us++vs)->Q (.ref l) H') :
  rCat (.ref l1) (.ref l2) H1 Q :=
 ⟨l1,l2,us,vs,rfl,rfl,S1 _ _ k1,k2,by rw[D1.len,D2.len];exact xS hn (by decide),fun l hl=>k l _ hl (Same.new hl) Zg (((D1.same S1).app D2).mono (fun _ _ e=>Same.new hl _ _ e) fun b u n e=>⟨⟨n,Zl e hl⟩,Same.new hl _ _ e⟩)⟩
end
section
theorem Vi{α:Type _}(l:List α)(x : α):(l ++ [x]).length=l.length+1:=by rw[xJ];rfl
theorem Zv3{m:Mo}(h:MoK m)(i:Nat):(m.haps.getD i []).length<=m.deeds.length:=by
 rw[xR]
 cases e:m.haps[i]? with
 | none=>exact yL _
 | some c=>exact h.hl c (xO e)
theorem Zlj{m:Mo}(h:MoK m){i:Nat}{x:D}:∀q∈m.haps.set i (m.haps.getD i [] ++ [x]),q.length<=m.deeds.length+1:=fun q hq=>by
 rcases List.mem_or_eq_of_mem_set hq with z | z
 ·exact zY (h.hl q z)
 ·rw[z,Vi];exact Nat.succ_le_succ (Zv3 h i)
theorem Zx0(m:Mo)(d:SD):(m.sd d).deeds.length=m.deeds.length+1:=by cases d<;>exact Vi _ _
theorem MoK.sd{m:Mo}(h:MoK m)(d:SD):MoK (m.sd d):=by
 have hq:∀q∈m.haps,q.length<=m.deeds.length+1:=fun q z=>zY (h.hl q z)
 have ql:=zY h.ql
 have dl:=Zx0 m d
 cases d with
 | bring n day =>
  refine⟨h.ok,h.dl,fun i e he=>?_,h.le,h.vl,?_,?_,dl▸ql⟩
  ·change (m.brs ++ [_])[i]? = some e at he
   rcases Nat.lt_or_ge i m.brs.length with z | z
   ·rw[List.getElem?_append_left z] at he;exact h.br i e he
   ·rw[zO z] at he
    cases xI.mp (xO he)
    exact⟨n,day,rfl⟩
  ·show (m.haps ++ [_]).length=(m.brs ++ [_]).length;rw[Vi,Vi,h.hb]
  ·rw[dl]
   intro q z
   rcases xH.mp z with z | z
   ·exact hq q z
   ·cases xI.mp z;exact yL _
 | give i x y day=>exact⟨h.ok,h.dl,h.br,h.le,h.vl,(List.length_set ..).trans h.hb,dl▸Zlj h,dl▸ql⟩
 | pay x y many day=>exact⟨h.ok,h.dl,h.br,h.le,h.vl,h.hb,dl▸hq,dl▸(Vi m.debts _).symm▸Nat.succ_le_succ h.ql⟩
 | _=>exact⟨h.ok,h.dl,h.br,h.le,h.vl,h.hb,dl▸hq,dl▸ql⟩
theorem MoK.does{m:Mo}(h:MoK m)(hl:m.trials.length < 60){day need:Int}{f:Str->Int}{o1 o2:List Str}(h1:Light (Zv f o1))(h2:Light (Zv f o2))(g0 : 1<=need)(g1:need<=12000)(d:CD):MoK (m.does day need f o1 o2 d):=by
 have hq:∀q∈m.haps,q.length<=m.deeds.length+1:=fun q z=>zY (h.hl q z)
 have ql:=zY h.ql
 have dl:(m.does day need f o1 o2 d).deeds.length=m.deeds.length+1:=by cases d<;>exact Vi _ _
 have key:∀n:Option (Int×Str),(∀t∈m.trials ++ [⟨Zv f o1,Zv f o2,need,n⟩],Uo t)/\(m.days ++ [day]).length=(m.trials ++ [(⟨Zv f o1,Zv f o2,need,n⟩:Suit)]).length/\(m.trials ++ [(⟨Zv f o1,Zv f o2,need,n⟩:Suit)]).length<=60/\(Yw [] 0 (m.trials ++ [⟨Zv f o1,Zv f o2,need,n⟩])).1.length=(m.trials ++ [(⟨Zv f o1,Zv f o2,need,n⟩:Suit)]).length:=fun n =>
  ⟨fun t ht=>(xH.mp ht).elim (h.ok t) (fun z=>by rw[xI.mp z];exact⟨h1,h2,g0,g1⟩),by rw[Vi,Vi,h.dl],by rw[Vi];exact hl,Zfd ..⟩
 cases d with
 | wer x y many=>obtain⟨k1,k2,k3,k4⟩:=key none;exact⟨k1,k2,h.br,k3,k4,h.hb,dl▸hq,dl▸(Vi m.debts _).symm▸Nat.succ_le_succ h.ql⟩
 | clm x i=>obtain⟨k1,k2,k3,k4⟩:=key none;exact⟨k1,k2,h.br,k3,k4,(List.length_set ..).trans h.hb,dl▸Zlj h,dl▸ql⟩
 | acc i n=>obtain⟨k1,k2,k3,k4⟩:=key (some (i,n));exact⟨k1,k2,h.br,k3,k4,h.hb,dl▸hq,dl▸ql⟩
theorem mo0_ok:MoK mo0:=⟨fun t h=>(nomatch h),rfl,fun i e h=>(nomatch h),yL _,rfl,rfl,fun q h=>(nomatch h),yL _⟩
theorem Zf5{n:Str}(h:Y6 n):okN n:=⟨by have:=h.2.2;lia,fun x hx=>by have:=h.1 x hx;lia⟩
end
section
variable{ns:List Str}{a b c d f s:Str}{day many far:Int}
abbrev w5:Str->Int:=fun _=>5
theorem Zn7:∀(ns:List Str)(g:Str->Option (List (Key×V)))(n:Str),(n∈ns\/g n=some [(.inl 2,.int 5)])->(d58 ns).foldl Wr g n=some [(.inl 2,.int 5)]
 | [],g,n,h=>h.elim (fun z=>nomatch z) id
 | x::r,g,n,h=>Zn7 r _ n (by
  by_cases e:n=x
  ·exact .inr (if_pos e)
  ·rcases h with z | z
   ·exact .inl ((xC.mp z).elim (fun y=>absurd y e) id)
   ·exact .inr ((if_neg e).trans z))
theorem Z0i{ds:List Deed}{n:Str}(h:kw ds n=some [(.inl 2,.int 5)]){day:Int}(hd : 2<=day):IsW (kw ds n) day 5 :=
 ⟨_,2,h,by rw[Zn4,if_pos rfl],hd,fun d v e _=>Classical.byContradiction fun z=>by rw[Zn4,if_neg (by lia)] at e;cases e⟩
theorem Zip{ds:List Deed}(h:∀n∈ns,kw ds n=some [(.inl 2,.int 5)])(hn:∀n∈ns,Y6 n){os:List Str}(ho:∀n∈os,n∈ns){day:Int}(hd : 2<=day):∀n∈os,n.length<=100/\∀d,Zj ds n=some d->d<=day->IsW (kw ds n) day (w5 n)/\1<=w5 n/\w5 n<=1000:=fun n m=>⟨by have:=(hn n (ho n m)).2.2;lia,fun _ _ _=>⟨Z0i (h n (ho n m)) hd,(by decide:(1:Int)<=5),(by decide:(5:Int)<=1000)⟩⟩
theorem Zej(os:List Str)(h:os.length<=60):Light (Zv w5 os):=⟨fun p hp=>by obtain⟨x,_,rfl⟩:=yS.mp hp;exact⟨(by decide:(1:Int)<=5),(by decide:(5:Int)<=1000)⟩,by unfold Zv;rw[xA];exact h⟩
theorem Ziq:∀n∈ns,kw (d58 ns) n=some [(.inl 2,.int 5)]:=fun n h=>Zn7 ns _ n (.inl h)
theorem Z1k:∀n∈ns,kw (d58 ns ++ [.die f 7 a]) n=some [(.inl 2,.int 5)]:=fun n h=>by rw[Zau];exact Ziq n h
theorem mk58a:MoK (Wo ns):=⟨mo0_ok.ok,rfl,mo0_ok.br,yL _,rfl,rfl,(fun q h=>nomatch h),yL _⟩
theorem mk58b:MoK ((Wo ns).brg a 3):=mk58a.sd (.bring a 3)
theorem mk58c:MoK (Vh ns a b c w5):=mk58b.does (by decide : 0 < 60) (Zej [b] (by decide : 1<=60)) (Zej [c] (by decide : 1<=60)) (by decide) (by decide) (.clm a 0)
abbrev Zek(ns:List Str)(a b c d:Str):Mo:=(Vh ns a b c w5).does 5 1 w5 [d] [] (.acc 0 c)
theorem mk58d:MoK (Zek ns a b c d):=mk58c.does (by decide : 1 < 60) (Zej [d] (by decide : 1<=60)) (Zej [] (by decide)) (by decide) (by decide) (.acc 0 c)
abbrev Zda(ns:List Str)(a b c d f:Str):Mo:=(Zek ns a b c d).sd (.die f a 7)
theorem Znp:MoK (Zda ns a b c d f):=mk58d.sd _
theorem m58':M58 ns a b c d f w5 (d58 ns ++ [.die f 7 a]) (Zda ns a b c d f):=by
 have h:=m58 (ns:=ns) (a:=a) (b:=b) (c:=c) (d:=d) (f:=f) (w:=w5)
 rw[Zn6] at h
 exact h
def Zn8(ns:List Str)(ds:List Deed)(m:Mo)(x:Str):AD->Prop
 | .s d=>Zil ds m d/\eSD ds m d=some x
 | .c d day need o1 o2 g=>g=w5/\2<=day/\okI day/\okI need/\(∀n∈o1++o2,n∈ns)/\o1.length<=60/\o2.length<=60/\Zik d/\eCD ds m day need w5 o1 o2 d=some x
abbrev rA(a s:Str)(day far:Int):List AD:=[.s (.come ("A" ++ a) 3 1),.s (.rise a (10000+far) 5),.s (.pen s),.s (.come a day 5)]
abbrev rB(a b c:Str)(day far:Int):List AD:=[.s (.give (1+far) a b day),.c (.acc (2+far) c) day 1 [a] [] w5]
abbrev rC(a f:Str)(day many:Int):List AD:=[.c (.acc 0 f) day 1 [a] [] w5,.s (.rise a 1 many),.s (.rise f day many)]
abbrev rD(ns:List Str)(a b f:Str)(day many:Int):List AD:=[.s (.die a f day),.c (.wer a b many) 6 1 (ns.take 13) [] w5]
abbrev rE(a b c d:Str)(day many:Int):List AD:=[.c (.wer a b many) day 1 [a,b] [d,a] w5,.c (.wer a b many) day 1 [c] [] w5]
abbrev rF(a b c d:Str)(day far:Int):List AD:=[.c (.clm b 0) day (11+far) [a,b] [d] w5,.c (.acc 0 c) day 1 [a] [] w5]
abbrev Znq(ns:List Str)(a b c d f s:Str)(day many far:Int):List AD:=((((rA a s day far++rB a b c day far)++rC a f day many)++rD ns a b f day many)++rE a b c d day many)++rF a b c d day far
theorem Z1l(N:N58 ns a b c d f s)(ns_:Y6 s)(hl:ns.length=15)(d0 : 9<=day)(d1:day<=909)(m0 : 1<=many)(m1:many<=1000)(h0 : 0<=far)(h1:far<=100){i:Nat}{x:AD}(hx:(Znq ns a b c d f s day many far)[i]? = some x):∃y,cls[i]? = some y/\Zn8 ns (d58 ns ++ [.die f 7 a]) (Zda ns a b c d f) y x:=by
 have M:=m58' (ns:=ns) (a:=a) (b:=b) (c:=c) (d:=d) (f:=f)
 have K:=Znp (ns:=ns) (a:=a) (b:=b) (c:=c) (d:=d) (f:=f)
 have ln:(d58 ns ++ [Deed.die f 7 a]).length<=1000:=by rw[Vi,xA,hl];decide
 have lc:∀{n:Str},n∈ns->n.length<=100:=fun h=>by have:=(N.nn _ h).2.2;lia
 have ls:s.length<=100:=by have:=ns_.2.2;lia
 have oi:∀{z:Int},-1<=z->z<=1000000->okI z:=fun a b=>by unfold okI;lia
 have al:∀{os:List Str},(∀n∈os,n=a\/n=b\/n=c\/n=d)->∀n∈os,n∈ns:=fun h n m=>by
  rcases h n m with rfl | rfl | rfl | rfl
  ·exact N.ma
  ·exact N.mb
  ·exact N.mc
  ·exact N.md
 have oA:okN ("A" ++ a):=by
  have na:=N.nn a N.ma
  refine⟨by rw[← Wj,Zbc,xJ,Wj,Wj];have:=na.2.2;exact xS (Nat.add_le_add_left this _) (by decide +kernel),fun x hx=>?_⟩
  have hx:x∈cs (("A" : Str)++a):=hx
  rw[Zbc] at hx
  rcases xH.mp hx with z | z
  ·have:∀y∈cs ("A" : Str),y < 16 ^ 8:=by decide +kernel
   exact this x z
  ·exact(Zf5 na).2 x z
 have hi:i < 15:=(xG.mp hx).1
 rcases(show i=0\/i=1\/i=2\/i=3\/i=4\/i=5\/i=6\/i=7\/i=8\/i=9\/i=10\/i=11\/i=12\/i=13\/i=14 by lia) with rfl | rfl | rfl | rfl | rfl | rfl | rfl | rfl | rfl | rfl | rfl | rfl | rfl | rfl | rfl
 ·cases hx;exact⟨_,rfl,⟨⟨ln,oA,oi (by decide) (by decide),oi (by decide) (by decide)⟩,r0⟩⟩
 ·cases hx;exact⟨_,rfl,⟨⟨ln,lc N.ma,oi (by lia) (by lia),oi (by decide) (by decide)⟩,r1 M h0⟩⟩
 ·cases hx;exact⟨_,rfl,⟨⟨ls,(by decide : 0<=1000),(by decide : 2<=1000)⟩,r2 M N⟩⟩
 ·cases hx;exact⟨_,rfl,⟨⟨ln,Zf5 (N.nn a N.ma),oi (by lia) (by lia),oi (by decide) (by decide)⟩,r3 M N d0 d1⟩⟩
 ·cases hx;exact⟨_,rfl,⟨⟨K,lc N.ma,lc N.mb,oi (by lia) (by lia),oi (by lia) (by lia)⟩,r4 M N h0 d0 d1⟩⟩
 ·cases hx;exact⟨_,rfl,⟨rfl,by lia,oi (by lia) (by lia),oi (by decide) (by decide),al (by simp),(by decide : 1<=60),(by decide : 0<=60),⟨lc N.mc,oi (by lia) (by lia)⟩,r5 M N h0 d0 d1⟩⟩
 ·cases hx;exact⟨_,rfl,⟨rfl,by lia,oi (by lia) (by lia),oi (by decide) (by decide),al (by simp),(by decide : 1<=60),(by decide : 0<=60),⟨lc N.mf,oi (by decide) (by decide)⟩,r6 M N d0 d1⟩⟩
 ·cases hx;exact⟨_,rfl,⟨⟨ln,lc N.ma,oi (by decide) (by decide),oi (by lia) (by lia)⟩,r7 M N m0 m1⟩⟩
 ·cases hx;exact⟨_,rfl,⟨⟨ln,lc N.mf,oi (by lia) (by lia),oi (by lia) (by lia)⟩,r8 M N m0 m1 d0 d1⟩⟩
 ·cases hx;exact⟨_,rfl,⟨⟨ln,lc N.ma,lc N.mf,oi (by lia) (by lia)⟩,r9 M N d0 d1⟩⟩
 ·cases hx;exact⟨_,rfl,⟨rfl,by decide,oi (by decide) (by decide),oi (by decide) (by decide),fun n hn=>(xH.mp hn).elim zF (fun z=>nomatch z),by rw[xY];lia,yL _,⟨lc N.ma,lc N.mb,oi (by lia) (by lia)⟩,r10 M N hl m0 m1⟩⟩
 ·cases hx;exact⟨_,rfl,⟨rfl,by lia,oi (by lia) (by lia),oi (by decide) (by decide),al (by simp),(by decide : 2<=60),(by decide : 2<=60),⟨lc N.ma,lc N.mb,oi (by lia) (by lia)⟩,r11 M N hl m0 m1 d0 d1⟩⟩
 ·cases hx;exact⟨_,rfl,⟨rfl,by lia,oi (by lia) (by lia),oi (by decide) (by decide),al (by simp),(by decide : 1<=60),(by decide : 0<=60),⟨lc N.ma,lc N.mb,oi (by lia) (by lia)⟩,r12 M N hl rfl rfl rfl m0 m1 d0 d1⟩⟩
 ·cases hx;exact⟨_,rfl,⟨rfl,by lia,oi (by lia) (by lia),oi (by lia) (by lia),al (by simp),(by decide : 2<=60),(by decide : 1<=60),⟨lc N.mb,oi (by decide) (by decide)⟩,r13 M N hl rfl rfl rfl h0 h1 d0 d1 rfl rfl⟩⟩
 ·cases hx;exact⟨_,rfl,⟨rfl,by lia,oi (by lia) (by lia),oi (by decide) (by decide),al (by simp),(by decide : 1<=60),(by decide : 0<=60),⟨lc N.mc,oi (by decide) (by decide)⟩,r14 M N hl rfl rfl rfl d0 d1 rfl⟩⟩
variable{C CM:Addr}{H:Hp}{O:Addr->Prop}{ds:List Deed}{m:Mo}
theorem Z1m(mk:MoK m)(hd:ds.length<=1000)(hk:∀n∈ns,kw ds n=some [(.inl 2,.int 5)])(hn:∀n∈ns,Y6 n){x:Str}{t:AD}{v:V}(h:Zio (fun b=>¬O b) H t v)(r:Zn8 ns ds m x t):∃q,v=V.ref q/\RfAt H ds m O q x:=by
 cases t with
 | s d =>
  obtain⟨q,rfl,hq⟩:=h
  exact⟨q,rfl,.inl ⟨d,hq,r.1,r.2⟩⟩
 | c d day need o1 o2 g =>
  obtain⟨q,l1,l2,rfl,hq,n1,n2,k1,k2⟩:=h
  obtain⟨rfl,h1,h2,h3,h4,h5,h6,h7,h8⟩:=r
  exact⟨q,rfl,.inr ⟨d,day,need,l1,l2,o1,o2,w5,hq,⟨mk,hd,k1,k2,h5,h6,h2,h3,Zip hk hn h4 h1⟩,n1,n2,h7,h8⟩⟩
end
section
variable{P:Program}{w:World}{K:uFg}{mg:Str->Option Value}{base:Heap}{C CM CP:Addr}{c:Str->Addr}
theorem MSt.x{H H':Hp}{p:Addr}{ds:List Deed}{m:Mo}{O:Addr->Prop}(h:MSt C CM H p ds m O){s:Addr}{ys:List V}(hs:H s=some (.lst ys))(hn:¬O s)(k:SameX s H H'):MSt C CM H' p ds m O:=by
 obtain⟨M,wa,xs,qs,e,W,rfl⟩:=h
 exact⟨M,wa,xs,qs,e,W.x hs hn k,rfl⟩
structure U58 (C CM:Addr) (p s la nl:Addr) (ns:List Str) (H:Hp) (ds:List Deed) (m:Mo) (O:Addr->Prop):Prop where
 w:MSt C CM H p ds m O
 sr:SrcAt H s la
 n1:¬O s
 n2:¬O la
 r:H nl=some (.lst (ns.map V.str))
 nr:¬O nl
 rs:nl≠s
variable{p s la nl:Addr}{ns:List Str}{H H':Hp}{ds ds':List Deed}{m m':Mo}{O O':Addr->Prop}
theorem U58.step(h:U58 C CM p s la nl ns H ds m O)(k:MSt C CM H' p ds' m' O')(f:Frm O H O' H'):U58 C CM p s la nl ns H' ds' m' O':=by
 have no:∀{b:Addr}{o:HO},H b=some o->¬O b->¬O' b:=fun e n z=>(f.2 _ z).elim n (fun y=>by rw[e] at y;cases y)
 obtain⟨ks,i,big,st,cnt,a,b,c,d⟩:=id h.sr
 exact⟨k,⟨ks,i,big,st,cnt,f.1 _ _ a h.n1,f.1 _ _ b h.n2,c,d⟩,no a h.n1,no b h.n2,f.1 _ _ h.r h.nr,no h.r h.nr,h.rs⟩
theorem U58.same(h:U58 C CM p s la nl ns H ds m O)(k:Same H H'):U58 C CM p s la nl ns H' ds m O:=h.step (h.w.same k) (Frm.same k)
theorem U58.x(h:U58 C CM p s la nl ns H ds m O)(hs:SrcAt H' s la)(k:SameX s H H'):U58 C CM p s la nl ns H' ds m O:=by
 obtain⟨_,_,_,_,_,a,_⟩:=id h.sr
 exact⟨h.w.x a h.n1 k,hs,h.n1,h.n2,k _ _ h.rs h.r,h.nr,h.rs⟩
theorem U58.ob(h:U58 C CM p s la nl ns H ds m O):∃M:ML,M.p=p/\∃dx,H p=some (.ins CM dx (Y9 M)):=by
 obtain⟨M,wa,xs,qs,e,W,_⟩:=h.w
 obtain⟨dx,ob⟩:=W.ob
 rw[e] at ob
 exact⟨M,e,dx,ob⟩
theorem Zkr(ns:List Str)(j:Nat)(hj:j<=ns.length):V3 (ns.map V.str) none (some (j:Int))=(ns.take j).map V.str:=by
 unfold V3
 rw[HT.sIx_nat,HT.sIx_none,xA,Nat.min_eq_left hj,List.drop_zero,Nat.sub_zero,List.map_take]
theorem Zx1{te:TE}{tg:TG}{D:Ends}{σ:St}{H:Hp}(h:te σ H fun v H1=>tg v σ H1 D.nx):Zac te tg D σ H:=h
theorem Z0j{α:Type}:∀{l:List α},l.length=16->∃a b c d e r s,l=a::b::c::d::e::r ++ [s]/\r.length=10:=by
 intro l h
 match l,h with
 | a::b::c::d::e::t,h =>
  have ht:t.length=11:=by simpa using h
  have hne:t ≠ []:=fun z=>by rw[z] at ht;cases ht
  refine⟨a,b,c,d,e,t.dropLast,t.getLast hne,?_,by rw[List.length_dropLast,ht]⟩
  rw[xT,xT,xT,xT,xT,List.dropLast_concat_getLast hne]
def Zel(a0 s nl p:Addr)(sn:Str)(x5 a b c d f day many far x14 x15 x16:Option V):List (Option V):=[some (.ref a0),some (.ref s),some (.ref nl),some (.str sn),some (.ref p),x5,a,b,c,d,f,day,many,far,x14,x15,x16]
abbrev Uz:Stmt:=top 83
theorem sc_law:FnScope ["_law_script", "_law_src_here", "_law_names_here", "_law_stranger", "_law_moot", "_law_name", "_law_a", "_law_b", "_law_c", "_law_d", "_law_f", "_law_day", "_law_many", "_law_far", "_law_deeds", "_law_k", "_law_found"] ["_law_script"] (Zm Uz):=fsc
theorem Nq1:Nm (Zm Uz) "_law_k" .cell:=by decide +kernel
theorem Nq8:Nm (Zm Uz) "list" .globalImplicit:=by decide +kernel
theorem Nq9:Nm (Zm Uz) "range" .globalImplicit:=by decide +kernel
theorem Z0k{f:Addr}{fd:FuncData}(F_law:Fun K "law" "law" Uz f fd)(T:Txt mg)(Tm:TxCMoot K CM)(Z0l:Fn P w K mg base "_law_src" ["_law_script"] 1 (spSrc K))(Vw:Fn P w K mg base "_law_next" ["_law_src_here", "_law_base"] 1 spNext)(Z0m:Fn P w K mg base "_law_names" ["_law_src_here", "_law_many"] 3 spNames)(Z0n:Fn P w K mg base "_law_pick" ["_law_src_here", "_law_things", "_law_many"] 2 spPick)(M_Moot:Mks P w K mg base CM "Moot" 3 (spMInit C CM))(MM_now:Mt P w K mg base CM "now" ["self"] 1 (spNow C CM))(MM_come:MtX P w K mg base CM "come" 4 (spComeX C CM c))(MM_bring:MtX P w K mg base CM "bring" 4 (spBringX C CM c))(MM_claim:MtX P w K mg base CM "claim" 6 (spClaimX C CM c))(MM_accuse:MtX P w K mg base CM "accuse" 7 (spAccX C CM c))(MM_die:MtX P w K mg base CM "die" 4 (spDieX C CM c))(Z0o:Fn P w K mg base "_law_flags" ["_law_k", "_law_moot", "_law_deeds"] 11 (spFlg C CM)):FnOk P w K mg base CX0 12 f fd ["_law_script"] (Zdz K):=by
 refine F_law.okQ sc_law (fun vs H Q E h=>?_) (fun cdv A outer s0 H vs Q E hr h=>?_)
 ·obtain⟨a,ns,rfl,_⟩:=h
  rfl
 ·obtain⟨a0,ks,rfl,hS,hlen,k⟩:=h
  refine⟨_,(Zd (Zy 1 (Yg Z0l (Za (qvN 0) Zb)))
 (Zd (Zy 2 (Yg Z0m (Za (qvN 1) (Za Ze Zb))))
 (Zd (Zy 3 (Zxp F.plainAttrs_list F.slot_list_pop F.type_list_pop Zvl (qvN 2)))
 (Zd (Zy 4 (Zbz M_Moot))
 (Zd (Uj PassesOwn.never rfl (Vu (qvN 2)) (Wq 5)
 (Zf (Zh (Z8 Xq.never (qvN 4) Tm.cl MM_come (Za (qvN 5) (Za Ze (Za Ze Zb)))))))
 (Zd (Zbd (Zao Zdg (qvN 2) Zam (Zan Ze)) (Zvm (by rfl) (Vb (Wq 6) (Vb (Wq 7) (Vb (Wq 8) (Vb (Wq 9) (Vb (Wq 10) Zbu)))))))
 (Zd (Zh (Z8 Xq.never (qvN 4) Tm.cl MM_bring (Za (qvN 6) (Za Ze Zb))))
 (Zd (Zh (Z8 Xq.never (qvN 4) Tm.cl MM_claim (Za (qvN 6) (Za Ze (Za Ze (Za Ze (Za (Zz (Za (qvN 7) Zb)) (Za (Zz (Za (qvN 8) Zb)) Zb))))))))
 (Zd (Zh (Z8 Xq.never (qvN 4) Tm.cl MM_accuse (Za Ze (Za (qvN 8) (Za Ze (Za Ze (Za (Zz (Za (qvN 9) Zb)) (Za (Zz Zb) Zb))))))))
 (Zd (Zh (Z8 Xq.never (qvN 4) Tm.cl MM_die (Za (qvN 10) (Za Ze (Za (qvN 6) Zb)))))
 (Zd (Zy 11 (Zu Vc Ze (Yg Vw (Za (qvN 1) (Za Ze Zb)))))
 (Zd (Zy 12 (Zu Vc Ze (Yg Vw (Za (qvN 1) (Za Ze Zb)))))
 (Zd (Zy 13 (Yg Vw (Za (qvN 1) (Za Ze Zb))))
 (Zd (Zy 14 (Zz (Za (Z9 (Za Z3 (Za (Zu Zcf Z3 (qvN 6)) (Za Ze (Za Ze Zb))))) (Za (Z9 (Za Z3 (Za (qvN 6) (Za (Zu Vc Ze (qvN 13)) (Za Ze Zb))))) (Za (Z9 (Za Z3 (Za (qvN 3) Zb))) (Za (Z9 (Za Z3 (Za (qvN 6) (Za (qvN 11) (Za Ze Zb))))) Zb))))))
 (Zd (Zy 14 (Zu Wk (qvN 14) (Zz (Za (Z9 (Za Z3 (Za (Zu Vc Ze (qvN 13)) (Za (qvN 6) (Za (qvN 7) (Za (qvN 11) Zb)))))) (Za (Z9 (Za Z3 (Za (Zu Vc Ze (qvN 13)) (Za (qvN 8) (Za (qvN 11) (Za Ze (Za (Zz (Za (qvN 6) Zb)) (Za (Zz Zb) Zb)))))))) Zb)))))
 (Zd (Zy 14 (Zu Wk (qvN 14) (Zz (Za (Z9 (Za Z3 (Za Ze (Za (qvN 10) (Za (qvN 11) (Za Ze (Za (Zz (Za (qvN 6) Zb)) (Za (Zz Zb) Zb)))))))) (Za (Z9 (Za Z3 (Za (qvN 6) (Za Ze (Za (qvN 12) Zb))))) (Za (Z9 (Za Z3 (Za (qvN 10) (Za (qvN 11) (Za (qvN 12) Zb))))) Zb))))))
 (Zd (Zy 14 (Zu Wk (qvN 14) (Zz (Za (Z9 (Za Z3 (Za (qvN 6) (Za (qvN 11) (Za (qvN 10) Zb))))) (Za (Z9 (Za Z3 (Za (qvN 6) (Za (qvN 7) (Za (qvN 12) (Za Ze (Za Ze (Za (Zao Zdg (qvN 2) Zam (Zan Ze)) (Za (Zz Zb) Zb))))))))) Zb)))))
 (Zd (Zy 14 (Zu Wk (qvN 14) (Zz (Za (Z9 (Za Z3 (Za (qvN 6) (Za (qvN 7) (Za (qvN 12) (Za (qvN 11) (Za Ze (Za (Zz (Za (qvN 6) (Za (qvN 7) Zb))) (Za (Zz (Za (qvN 9) (Za (qvN 6) Zb))) Zb))))))))) (Za (Z9 (Za Z3 (Za (qvN 6) (Za (qvN 7) (Za (qvN 12) (Za (qvN 11) (Za Ze (Za (Zz (Za (qvN 8) Zb)) (Za (Zz Zb) Zb))))))))) Zb)))))
 (Zd (Zy 14 (Zu Wk (qvN 14) (Zz (Za (Z9 (Za Z3 (Za (qvN 7) (Za Ze (Za (qvN 11) (Za (Zu Vc Ze (qvN 13)) (Za (Zz (Za (qvN 6) (Za (qvN 7) Zb))) (Za (Zz (Za (qvN 9) Zb)) Zb)))))))) (Za (Z9 (Za Z3 (Za Ze (Za (qvN 8) (Za (qvN 11) (Za Ze (Za (Zz (Za (qvN 6) Zb)) (Za (Zz Zb) Zb)))))))) Zb)))))
 (Zd (Uj PassesOwn.never rfl (Vu (Yg Z0n (Za (qvN 1) (Za (Zvc (by rfl) Nq8 T.list Nq9.1 T.range (Za Ze Zb)) (Za Ze Zb))))) (Zre (i:=15) sc_law.nd Nq1)
 (Zf (Zp (Zs (Zrt hr) (Yg Z0o (Za (qvC 15 Nq1) (Za (qvN 4) (Za (qvN 14) Zb)))) (Zu Wk (Uu (locs:=["_law_one"]) (fr:=[("_law_k", 15)]) ⟨rfl,by decide +kernel,by decide +kernel,by decide +kernel,by decide +kernel,by decide +kernel⟩ (.consN Nq1 .nil) rfl (Zch T.range (Za Ze Zb)) ⟨fun _ _ _ _ _ _=>by
  have cnd:(inN ["_law_one"] [("_law_k", 15)]).Nodup:=by decide +kernel
  exact⟨(Vv 0 cnd),Zbw,(Zcm Wl (V5 0) (Za3 1) (Z2 _))⟩⟩) (Zz (Za Zb3 Zb))) (Z2 _)) (Zf (Z5 Zb3)) Zo)))
 (Zd (Zy 16 (Zf2 (qvN 4) Tm.cl MM_now))
 (Zf (Z5 (Zcm Wl (qvN 16) Ze (Z2 _))))))))))))))))))))))))),?_⟩
  have hz:(5000:Nat)<=sizeLine:=by decide
  have lz:∀{n:Nat},n<=5->n<=sizeLine:=fun h=>xS h (by decide)
  refine Yl fun D1 hn1=>?_
  refine⟨_,rfl,a0,ks,rfl,hS,fun s la H1 hs hla hs1 sm1=>hn1 _ _ ?_⟩
  refine Yl fun D2 hn2=>?_
  refine⟨_,rfl,s,la,16,rfl,hs1,by decide,by decide,fun nl ns0 H2 hnl hnd hnm fnl knl hs2 sx2=>hn2 _ _ ?_⟩
  obtain⟨a,b,cc,d,f,r,sn,rfl,hr10⟩:=Z0j (show ns0.length=16 by lia)
  obtain⟨ns,hns⟩:∃ns,ns=a::b::cc::d::f::r:=⟨_,rfl⟩
  have h15n:ns.length=15:=by rw[hns];simp[hr10]
  rw[← hns] at hnd hnm knl
  have hnd1:ns.Nodup:=(zR.mp hnd).1
  have N:N58 ns a b cc d f sn:=by
   have ms:sn∉ns:=fun z=>(zR.mp hnd).2.2 sn z sn (by simp) rfl
   have hh:=hnd1
   rw[hns] at hh
   simp only[yF,xC,not_or] at hh
   obtain⟨⟨x1,x2,x3,x4,_⟩,⟨y1,y2,y3,_⟩,⟨z1,z2,_⟩,⟨u1,_⟩,_⟩:=hh
   exact⟨fun n h=>hnm n (yM _ h),by simp[hns],by simp[hns],by simp[hns],by simp[hns],by simp[hns],ms,x4,y3,z2,u1,x1,x2,x3,y1,y2,z1⟩
  have nsn:Y6 sn:=hnm sn (by simp)
  have es:((ns ++ [sn]).map V.str).dropLast=ns.map V.str:=by simp
  obtain⟨_,_,_,_,_,hq1,hq2,_⟩:=id hs1
  have nls:nl≠s:=fun z=>by rw[z,hq1] at fnl;cases fnl
  have nlla:nl≠la:=fun z=>by rw[z,hq2] at fnl;cases fnl
  refine Yl fun D3 hn3=>?_
  refine⟨_,rfl,.inl ⟨rfl,_,SqL.of knl⟩,nl,_,.str sn,rfl,rfl,knl,by simp[h15n],hn3 _ _ ?_⟩
  rw[es]
  have hs3:SrcAt (upd H2 nl (.lst (ns.map V.str))) s la:=hs2.keepX SameX.upd nls nlla
  have k3:(upd H2 nl (.lst (ns.map V.str))) nl=some (.lst (ns.map V.str)):=Zg
  generalize (upd H2 nl (.lst (ns.map V.str)))=H3 at hs3 k3 ⊢
  refine Yl fun D4 hn4=>?_
  intro p dx nx ndx nex
  refine⟨p,dx,rfl,Zg,fun M H4 hM W4 kp fr=>⟨rfl,hn4 _ _ ?_⟩⟩
  have sm4:Same H3 H4:=fun b o e=>kp b o (by rw[Zc (Zl e nx),Zc (Zl e ndx)];exact e) (Zl e nx)
  have no4:∀b o,H3 b=some o->¬mo M [] (fun _=>0) [] [] b:=fun b o e z=>by
   rcases fr b z with y | y
   ·rw[y,nx] at e;cases e
   ·have nb:b≠p:=fun z=>by rw[z,nx] at e;cases e
    rw[Zc nb,Zc (Zl e ndx),e] at y;cases y
  obtain⟨_,_,_,_,_,hq3,hq4,_⟩:=id hs3
  obtain⟨O4,hO4⟩:∃O,O=mo M [] (fun _=>0) [] []:=⟨_,rfl⟩
  have U4:U58 C CM p s la nl ns H4 (d58 (ns.take 0)) (Wo (ns.take 0)) O4:=⟨⟨M,_,[],[],hM,W4,hO4⟩,hs3.keep sm4,by rw[hO4];exact no4 _ _ hq3,by rw[hO4];exact no4 _ _ hq4,sm4 _ _ k3,by rw[hO4];exact no4 _ _ k3,nls⟩
  clear W4 kp fr nex hO4 no4
  refine Yl fun D5 hn5=>?_
  refine⟨_,rfl,nl,rfl,⟨_,SqL.of U4.r⟩,?_⟩
  refine Zar (ns.map V.str) (fun i σ H'=>∃(v5:Option V)(O:Addr->Prop),σ=Zel a0 s nl p sn v5 none none none none none none none none none none none/\U58 C CM p s la nl ns H' (d58 (ns.take i)) (Wo (ns.take i)) O) ⟨none,_,rfl,U4⟩ (fun i σ H' _ ⟨_,_,_,U⟩=>SqL.of U.r) ?_ ?_
  ·rintro i x σ H' hx ⟨v5,O,rfl,U⟩
   rw[xP] at hx
   obtain⟨n,hn,rfl⟩:=yE.mp hx
   have hi:=(xG.mp hn).1
   have et:ns.take (i+1)=ns.take i ++ [n]:=by rw[yP,hn];rfl
   have nn:=N.nn n (xO hn)
   obtain⟨M',eM,dm,obm⟩:=U.ob
   have lt:(ns.take i).length<=15:=by rw[xY];lia
   refine⟨_,rfl,p,dm,_,rfl,obm,Z7 _ (by decide +kernel),_,rfl,p,_,_,O,n,2,5,rfl,U.w,by rw[xA];lia,Zf5 nn,by unfold okI;decide,by unfold okI;decide,?_⟩
   rw[Z1j hn hnd1 nn (by lia),show Yh (Wo (ns.take i))=none from if_pos (by show (List.map _ _).length < 400;rw[xA];lia)]
   refine fun O' H1 W' F'=>⟨_,O',rfl,?_⟩
   have:=U.step W' F'
   rw[et]
   show U58 C CM p s la nl ns H1 ((ns.take i ++ [n]).map _) {mo0 with deeds:=(ns.take i ++ [n]).map fun n=>coD n 2 5 } O'
   rw[xQ,xQ]
   exact this
  rintro σ H5 ⟨v5,O5,rfl,U5⟩
  rw[xA,yZ] at U5
  refine hn5 _ _ ?_
  have et5:V3 (ns.map V.str) none (some 5)= [.str a,.str b,.str cc,.str d,.str f]:=(Zkr ns 5 (by lia)).trans (by rw[hns];rfl)
  refine Yl fun D6 hn6=>?_
  refine⟨_,rfl,5,rfl,nl,_,rfl,SqL.of U5.r,fun q5 hq5=>?_⟩
  rw[et5]
  refine⟨q5,_,rfl,SqL.of Zg,rfl,_,_,rfl,_,_,rfl,_,_,rfl,_,_,rfl,_,_,rfl,rfl,hn6 _ _ ?_⟩
  have U6:=U5.same (Same.new (o:=.lst [.str a,.str b,.str cc,.str d,.str f]) hq5)
  generalize (upd H5 q5 (.lst [.str a,.str b,.str cc,.str d,.str f]))=H6 at U6 ⊢
  have lc:∀{n:Str},n∈ns->n.length<=100:=fun h=>by have:=(N.nn _ h).2.2;lia
  have oi:∀{z:Int},-1<=z->z<=1000000->okI z:=fun a b=>by unfold okI;lia
  refine Yl fun D7 hn7=>?_
  obtain⟨M7,_,dm7,ob7⟩:=U6.ob
  refine⟨_,rfl,p,dm7,_,rfl,ob7,Z7 _ (by decide +kernel),_,rfl,p,_,_,O5,a,3,rfl,U6.w,mk58a,lc N.ma,oi (by decide) (by decide),?_⟩
  rw[show (eM 0 9999 3).or ((Yt (d58 ns) (Wo ns) 3 [a] none none).or ((Zbn (Wo ns)).or (Yh (Wo ns))))=none from g1 N.ma h15n]
  refine fun O7 H7 W7 F7=>hn7 _ _ ?_
  have U7:=U6.step W7 F7
  clear U6 W7 F7 ob7
  refine Yl fun D8 hn8=>?_
  obtain⟨M8,_,dm8,ob8⟩:=U7.ob
  refine⟨_,rfl,p,dm8,_,rfl,ob8,Z7 _ (by decide +kernel),_,rfl,_,rfl,lz (ble rfl),fun l1 e1=>⟨_,rfl,lz (ble rfl),fun l2 e2=>?_⟩⟩
  have S1:=Same.new (o:=.lst [.str b]) e1
  have S2:=Same.new (o:=.lst [.str cc]) e2
  have hd58:(d58 ns).length<=1000:=by rw[xA];lia
  have U8:=U7.same (S1.trans S2)
  refine⟨p,_,_,O7,a,0,5,1,l1,l2,[b],[cc],w5,rfl,U8.w,⟨mk58b,hd58,S2 _ _ Zg,Zg,ble rfl,ble rfl,oi (by decide) (by decide),oi (by decide) (by decide),Zip Ziq N.nn (by simp[N.mb,N.mc]) (by decide)⟩,U7.w.out e1,U7.w.out (S1.free e2),lc N.ma,oi (by decide) (by decide),?_⟩
  rw[show Zaz (d58 ns) ((Wo ns).brg a 3) a 0 5 1 w5 [b] [cc]=none from g2 N.ma N.mb N.mc N.bc h15n rfl]
  refine fun O8 H8 W8 F8=>hn8 _ _ ?_
  replace U8:U58 C CM p s la nl ns H8 (d58 ns) (Vh ns a b cc w5) O8:=U8.step W8 F8
  clear U7 W8 F8 ob8 S1 S2 e1 e2
  refine Yl fun D9 hn9=>?_
  obtain⟨M9,_,dm9,ob9⟩:=U8.ob
  refine⟨_,rfl,p,dm9,_,rfl,ob9,Z7 _ (by decide +kernel),_,rfl,_,rfl,lz (ble rfl),fun l1 e1=>⟨lz (ble rfl),fun l2 e2=>?_⟩⟩
  have S1:=Same.new (o:=.lst [.str d]) e1
  have S2:=Same.new (o:=.lst []) e2
  have U9:=U8.same (S1.trans S2)
  refine⟨p,_,_,O8,0,cc,5,1,l1,l2,[d],[],w5,rfl,U9.w,⟨mk58c,hd58,S2 _ _ Zg,Zg,ble rfl,ble rfl,oi (by decide) (by decide),oi (by decide) (by decide),Zip Ziq N.nn (by simp[N.md]) (by decide)⟩,U8.w.out e1,U8.w.out (S1.free e2),lc N.mc,oi (by decide) (by decide),?_⟩
  rw[show Ua (d58 ns) (Vh ns a b cc w5) 0 cc 5 1 w5 [d] []=none from g3 N.mc N.md h15n rfl]
  refine fun O9 H9 W9 F9=>hn9 _ _ ?_
  replace U9:U58 C CM p s la nl ns H9 (d58 ns) (Zek ns a b cc d) O9:=U9.step W9 F9
  clear U8 W9 F9 ob9 S1 S2 e1 e2
  refine Yl fun D10 hn10=>?_
  obtain⟨M10,_,dm10,ob10⟩:=U9.ob
  refine⟨_,rfl,p,dm10,_,rfl,ob10,Z7 _ (by decide +kernel),_,rfl,_,rfl,p,_,_,O9,f,a,7,rfl,U9.w,hd58,lc N.mf,lc N.ma,oi (by decide) (by decide),?_⟩
  rw[show (V7 (d58 ns) f a 7).or (Yh (Zek ns a b cc d))=none from g4 N.ma N.mf N.af (by show ((((ns.map _)++[_])++[_])++[_]).length < 400;rw[Vi,Vi,Vi,xA,h15n];decide)]
  refine fun O H10 W10 F10=>hn10 _ _ ?_
  have U10:U58 C CM p s la nl ns H10 (d58 ns ++ [.die f 7 a]) (Zda ns a b cc d f) O:=U9.step W10 F10
  clear U9 W10 F10 ob10
  refine Yl fun D11 hn11=>?_
  refine⟨_,rfl,s,la,900,rfl,U10.sr,by decide,by decide,fun x1 H11 x10 x11 hs11 sx11=>⟨_,_,rfl,rfl,Y5 (hn11 _ _ ?_)⟩⟩
  have U11:=U10.x hs11 sx11
  refine Yl fun D12 hn12=>?_
  refine⟨_,rfl,s,la,1000,rfl,U11.sr,by decide,by decide,fun x2 H12 x20 x21 hs12 sx12=>⟨_,_,rfl,rfl,Y5 (hn12 _ _ ?_)⟩⟩
  have U12:=U11.x hs12 sx12
  refine Yl fun D13 hn13=>?_
  refine⟨_,rfl,s,la,100,rfl,U12.sr,by decide,by decide,fun far H13 x30 x31 hs13 sx13=>hn13 _ _ ?_⟩
  have U13:=U12.x hs13 sx13
  obtain⟨day,hday⟩:∃day,day=9+x1:=⟨_,rfl⟩
  obtain⟨many,hmany⟩:∃many,many=1+x2:=⟨_,rfl⟩
  rw[← hday,← hmany]
  change Vs _ _ _ (Zel a0 s nl p sn v5 (some (.str a)) (some (.str b)) (some (.str cc)) (some (.str d)) (some (.str f)) (some (.int day)) (some (.int many)) (some (.int far)) none none none) _
  clear U10 U11 U12
  obtain⟨_,_,_,_,_,hq13,_⟩:=id U13.sr
  have fr:∀{H':Hp}(S:Same H13 H') (b:Addr),H' b=none->¬O b/\b≠s:=fun S b h=>⟨U13.w.out (S.free h),fun z=>by rw[z,S _ _ hq13] at h;cases h⟩
  refine Yl fun D14 hn14=>?_
  have lA:(("A" : Str).length+a.length)<=sizeLine:=xS (Nat.add_le_add_left (N.nn a N.ma).2.2 _) (by decide +kernel)
  refine Zx1 (Zb0 (xs:=rA a sn day far) (by exact .sd (.come ("A" ++ a) 3 1) (fun _ _ h=>⟨_,rfl,_,_,rfl,rfl,lA,h⟩) <| .sd (.rise a (10000+far) 5) (fun _ _ h=>⟨_,rfl,_,rfl,_,_,rfl,rfl,h⟩) <| .sd (.pen sn) (fun _ _ h=>⟨_,rfl,h⟩) <| .sd (.come a day 5) (fun _ _ h=>⟨_,rfl,_,rfl,h⟩) .nil) (by exact ble rfl) (fr (Same.refl H13)) fun r1 us1 H14 n14 S14 c14 B14=>Y5 (hn14 _ _ ?_))
  refine Yl fun D15 hn15=>?_
  refine⟨_,rfl,Zb0 (xs:=rB a b cc day far) (by exact .sd (.give (1+far) a b day) (fun _ _ h=>⟨_,rfl,_,_,rfl,rfl,_,rfl,_,rfl,_,rfl,h⟩) <| .cd (.acc (2+far) cc) day 1 [a] [] w5 (fun _ _ g h=>⟨_,rfl,_,_,rfl,rfl,_,rfl,_,rfl,_,rfl,lz (ble rfl),fun l1 n1=>⟨lz (ble rfl),fun l2 n2=>h l1 l2 n1 n2⟩⟩) .nil) (by exact ble rfl) (fr S14) fun q1 us2 H15 n15 S15 c15 B15=>Zct (by exact ble rfl) c14 B14.fst S15 c15 B15.fst fun r2 I15 m15 T15 k15 A15=>Y5 (hn15 _ _ ?_)⟩
  have Z15:=(S14.trans S15).trans T15
  refine Yl fun D16 hn16=>?_
  refine⟨_,rfl,Zb0 (xs:=rC a f day many) (by exact .cd (.acc 0 f) day 1 [a] [] w5 (fun _ _ g h=>⟨_,rfl,_,rfl,_,rfl,lz (ble rfl),fun l1 n1=>⟨lz (ble rfl),fun l2 n2=>h l1 l2 n1 n2⟩⟩) <| .sd (.rise a 1 many) (fun _ _ h=>⟨_,rfl,_,rfl,h⟩) <| .sd (.rise f day many) (fun _ _ h=>⟨_,rfl,_,rfl,_,rfl,h⟩) .nil) (by exact ble rfl) (fr Z15) fun q2 us3 H16 n16 S16 c16 B16=>Zct (by exact ble rfl) k15 A15.fst S16 c16 B16.fst fun r3 I16 m16 T16 k16 A16=>Y5 (hn16 _ _ ?_)⟩
  have Z16:=(Z15.trans S16).trans T16
  have et13:V3 (ns.map V.str) none (some 13)=(ns.take 13).map V.str:=Zkr ns 13 (by lia)
  refine Yl fun D17 hn17=>?_
  refine⟨_,rfl,Zb0 (xs:=rD ns a b f day many) (by exact .sd (.die a f day) (fun _ _ h=>⟨_,rfl,_,rfl,_,rfl,h⟩) <| .cd (.wer a b many) 6 1 (ns.take 13) [] w5 (fun _ _ g h=>⟨_,rfl,_,rfl,_,rfl,_,rfl,13,rfl,nl,_,rfl,SqL.of (g _ _ (Z16 _ _ U13.r)),fun l1 n1=>⟨lz (ble rfl),fun l2 n2=>by rw[et13] at n2 ⊢;exact h l1 l2 n1 n2⟩⟩) .nil) (by exact ble rfl) (fr Z16) fun q3 us4 H17 n17 S17 c17 B17=>Zct (by exact ble rfl) k16 A16.fst S17 c17 B17.fst fun r4 I17 m17 T17 k17 A17=>Y5 (hn17 _ _ ?_)⟩
  have Z17:=(Z16.trans S17).trans T17
  refine Yl fun D18 hn18=>?_
  refine⟨_,rfl,Zb0 (xs:=rE a b cc d day many) (by exact .cd (.wer a b many) day 1 [a,b] [d,a] w5 (fun _ _ g h=>⟨_,rfl,_,rfl,_,rfl,_,rfl,_,rfl,_,rfl,lz (ble rfl),fun l1 n1=>⟨_,rfl,_,rfl,lz (ble rfl),fun l2 n2=>h l1 l2 n1 n2⟩⟩) <| .cd (.wer a b many) day 1 [cc] [] w5 (fun _ _ g h=>⟨_,rfl,_,rfl,_,rfl,_,rfl,_,rfl,lz (ble rfl),fun l1 n1=>⟨lz (ble rfl),fun l2 n2=>h l1 l2 n1 n2⟩⟩) .nil) (by exact ble rfl) (fr Z17) fun q4 us5 H18 n18 S18 c18 B18=>Zct (by exact ble rfl) k17 A17.fst S18 c18 B18.fst fun r5 I18 m18 T18 k18 A18=>Y5 (hn18 _ _ ?_)⟩
  have Z18:=(Z17.trans S18).trans T18
  refine Yl fun D19 hn19=>?_
  refine⟨_,rfl,Zb0 (xs:=rF a b cc d day far) (by exact .cd (.clm b 0) day (11+far) [a,b] [d] w5 (fun _ _ g h=>⟨_,rfl,_,rfl,_,rfl,_,_,rfl,rfl,_,rfl,_,rfl,lz (ble rfl),fun l1 n1=>⟨_,rfl,lz (ble rfl),fun l2 n2=>h l1 l2 n1 n2⟩⟩) <| .cd (.acc 0 cc) day 1 [a] [] w5 (fun _ _ g h=>⟨_,rfl,_,rfl,_,rfl,lz (ble rfl),fun l1 n1=>⟨lz (ble rfl),fun l2 n2=>h l1 l2 n1 n2⟩⟩) .nil) (by exact ble rfl) (fr Z18) fun q5 us6 H19 n19 S19 c19 B19=>Zct (by exact ble rfl) k18 A18.fst S19 c19 B19.fst fun dl H20 m19 T19 k19 A19=>Y5 (hn19 _ _ ?_)⟩
  have Z19:=(Z18.trans S19).trans T19
  have U20:U58 C CM p s la nl ns H20 (d58 ns ++ [.die f 7 a]) (Zda ns a b cc d f) O:=U13.same Z19
  have hul:((((((us1++us2)++us3)++us4)++us5)++us6)).length=15:=A19.len
  have B20:=A19.fst
  have nds:dl≠s:=fun z=>by rw[z,(Z18.trans S19) _ _ hq13] at m19;cases m19
  clear A19 A18 A17 A16 A15 B14 B15 B16 B17 B18 B19
  change Vs _ _ _ (Zel a0 s nl p sn v5 (some (.str a)) (some (.str b)) (some (.str cc)) (some (.str d)) (some (.str f)) (some (.int day)) (some (.int many)) (some (.int far)) (some (.ref dl)) none none) _
  refine Yl fun D20 hn20=>?_
  refine⟨_,rfl,19,rfl,by decide,fun al hal=>?_⟩
  have S21:=Same.new (o:=.lst (List.map (fun i:Nat=>V.int i) (List.range 19))) hal
  have k21:(upd H20 al (.lst (List.map (fun i:Nat=>V.int i) (List.range 19)))) al=some (.lst (List.map (fun i:Nat=>V.int i) (List.range 19))):=Zg
  have U21:=U20.same S21
  refine⟨s,la,al,_,19,rfl,U21.sr,k21,fun z=>(by rw[z] at hal;obtain⟨_,_,_,_,_,y,_⟩:=id U20.sr;rw[y] at hal;cases hal),by decide,by rw[xA,zA];decide,fun ol out H22 hpm hol fol kol hs22 sx22=>?_⟩
  have U22:=U21.x hs22 sx22
  obtain⟨left,hpm⟩:=hpm
  have hmem:∀x∈out,∃k:Nat,x=V.int k/\k < 19:=fun x hx=>by
   have:=hpm.mem_iff.mp (yM left hx)
   obtain⟨k,hk,rfl⟩:=yS.mp this
   exact⟨k,rfl,wA.mp hk⟩
  have kdl:=sx22 _ _ nds (S21 _ _ k19)
  obtain⟨_,_,_,_,_,hq20,_⟩:=id U20.sr
  have B22:DdL (fun b=>¬O b) H22 (Znq ns a b cc d f sn day many far) (((((us1++us2)++us3)++us4)++us5)++us6):=B20.mono (fun b u e=>sx22 _ _ (fun z=>by rw[z,hq20] at e;cases e) (S21 _ _ e)) fun b u n e=>⟨n.1,sx22 _ _ n.2 (S21 _ _ e)⟩
  refine⟨ol,rfl,⟨_,SqL.of kol⟩,?_⟩
  refine Zar out (fun i σ H'=>∃(v15:Option V),σ=Zel a0 s nl p sn v5 (some (.str a)) (some (.str b)) (some (.str cc)) (some (.str d)) (some (.str f)) (some (.int day)) (some (.int many)) (some (.int far)) (some (.ref dl)) v15 none/\Same H22 H') ⟨none,rfl,Same.refl _⟩ (fun i σ H' _ ⟨_,_,S⟩=>SqL.of (S _ _ kol)) ?_ ?_
  ·rintro i x σ H' hx ⟨v15,rfl,S⟩
   obtain⟨k,rfl,hk⟩:=hmem x (xO hx)
   obtain⟨y,hy⟩:∃y,cls[k]? = some y:=⟨_,xB hk⟩
   refine⟨_,rfl,_,rfl,_,rfl,k,p,dl,_,_,O,_,y,rfl,U22.w.same S,S _ _ kdl,hul,fun j v hv=>?_,hy,fun H1 fl S1 kf=>?_⟩
   ·obtain⟨x,hx,hd⟩:=(B22.same S).get hv
    obtain⟨y,hy,hr⟩:=Z1l N nsn h15n (by lia) (by lia) (by lia) (by lia) x30 (by lia) hx
    obtain⟨q,rfl,hq⟩:=Z1m Znp (by rw[Vi,xA,h15n];decide) Z1k N.nn hd hr
    exact⟨q,y,rfl,hy,hq⟩
   refine⟨19,rfl,by decide,by decide,?_⟩
   refine Zi3 (n:=19) (fun j ys H2=>Same H1 H2/\ys=(List.range j).map fun o=>V.bl (decide (o=k))) ⟨Same.refl _,rfl⟩ (by decide) (fun j ys H2 h=>by rw[h.2,xA,zA];exact xE _) ?_ ?_
   ·rintro j ys H2 hj ⟨S2,rfl⟩ ls hls
    obtain⟨w0,rfl⟩:=Zc5 hls
    refine⟨⟨[_],rfl,rfl⟩,?_⟩
    refine⟨_,rfl,_,rfl,rfl,S2,?_⟩
    rw[List.range_succ,xQ]
    congr 1
    have:(decide (V.int ((0:Int)+(j:Nat))=V.int (k:Int)))=decide (j=k):=by
     have e:((0:Int)+(j:Nat)=(k:Int))↔j=k:=by lia
     rw[zB,decide_eq_true_eq,decide_eq_true_eq,← e]
     exact⟨fun z=>by injection z,fun z=>by rw[z]⟩
    exact congrArg (fun z=>[V.bl z]) this
   rintro ys H2 ⟨S2,rfl⟩ r1 e1
   have S3:=Same.new (o:=.lst ((List.range 19).map fun o=>V.bl (decide (o=k)))) e1
   refine⟨lz (ble rfl),fun r2 e2=>?_⟩
   have S4:=Same.new (o:=.lst [.bl true]) e2
   refine⟨r1,r2,_,_,rfl,rfl,S4 _ _ Zg,Zg,by show (List.map _ (List.range 19)).length+1<=sizeLine;rw[xA,zA];lia,fun r3 e3=>?_⟩
   have S5:=Same.new (o:=.lst (((List.range 19).map fun o=>V.bl (decide (o=k)))++[.bl true])) e3
   have SA:=S2.trans (S3.trans (S4.trans S5))
   refine⟨fl,r3,Zef y,rfl,rfl,SqL.of (SA _ _ kf),SqL.of ?_,?_⟩
   ·rw[Zg,Zxz hy,xQ,List.map_map];rfl
   ·exact⟨_,rfl,Yj ⟨_,rfl,(S.trans S1).trans SA⟩⟩
  rintro σ H23 ⟨v15,rfl,S23⟩
  refine hn20 _ _ ?_
  have U23:=U22.same S23
  obtain⟨M,wa,xs,qs,rfl,W,_⟩:=U23.w
  obtain⟨dm,obm⟩:=W.ob
  refine Yl fun D21 hn21=>?_
  refine⟨_,rfl,M.p,dm,_,rfl,obm,Z7 _ (by decide +kernel),M,_,wa,xs,_,qs,rfl,W,hn21 _ _ ?_⟩
  refine⟨_,rfl,rfl,?_⟩
  rw[m58'.dl,h15n]
  exact k _
end
section
def Z1n:List (Str×Tok×Addr):=[("come", 1524,1035),("rise", 1528,1036),("die", 1532,1037),("penance", 1536,1038),("bring", 1538,1039),("give", 1541,1040),("pay", 1546,1041)]
def Z1o:List (Str×Tok×Addr):=[("claim", 1559,1043),("wergild", 1564,1044),("accuse", 1570,1045)]
end
def cE(x:Str):Addr:=(([("MootError", 38),("NoName", 58),("NoMeasure", 77),("Unknown", 96),("Taken", 115),("NoThing", 134),("NoCase", 153),("NoOath", 172),("NotYet", 191),("Dead", 210),("NoHeir", 229),("TooMany", 248),("SwornTwice", 267),("Forsworn", 286),("TooLight", 305),("Broken", 324),("NoMoment", 343),("NothingBack", 362),("NothingForth", 381),("NoDeed", 400)]:List (Str×Addr)).lookup x).getD 0
local macro_rules | `(tactic| walk_at "k")=>`(tactic| ((repeat' (refine And.intro ?_ ?_))<;>kernel_rfl))
theorem all_mk{Pz:Program}{w:World}{h:Heap}{mg:Str->Option Value}{fa:Addr}(X:(KK w.params).In h)(G:h.Ns mainGlobals mg)(hfa:mg "law" = some (.ref fa)) :
  ∃fd:FuncData,(∀(s:Shared)(v:Value),BindsTo s fd ⟨[v],[]⟩ [("_law_script", v)])/\∀base:Heap,(KK w.params).In base->base.Ns mainGlobals mg->FnOk Pz w (KK w.params) mg base CX0 40 fa fd ["_law_script"] (Zdz (KK w.params)):=by
 have e:some (Value.ref fa)=some (.ref 1140):=hfa.symm.trans (PySem.W.mg_of X G (by kernel_rfl))
 cases e
 have Zhx:=hQ "done" Zhw 409 408 pm0 X G (by walk_at "k")
 have Zb4:=hQ "check_day" Zgh 421 420 pm1 X G (by walk_at "k")
 have Zb6:=hQ "check_weight" Zgi 428 427 pm1 X G (by walk_at "k")
 have Zg8:=hQ "check_need" Zms 435 434 pm1 X G (by walk_at "k")
 have Zg9:=hQ "check_money" Zmt 442 441 pm1 X G (by walk_at "k")
 have Zgf:=hQ "is_name" Zme 447 446 pm2 X G (by walk_at "k")
 have Zg0:=hQ "total" Zmk 452 451 pm2 X G (by walk_at "k")
 have Zg4:=hQ "settled" Zmo 618 617 pm4 X G (by walk_at "k")
 have Zg3:=hQ "settled_with" Zmn 625 624 pm4 X G (by walk_at "k")
 have Zhe:=hQ "breakers" Zmy 632 631 pm4 X G (by walk_at "k")
 have Zg6:=hQ "breaking" Zmq 637 636 pm4 X G (by walk_at "k")
 have Zg5:=hQ "naming" Zmp 644 643 pm4 X G (by walk_at "k")
 have Zhb:=hQ "check_case" Zmv 651 650 pm4 X G (by walk_at "k")
 have Zhd:=hQ "check_oath" Zmx 656 655 pm4 X G (by walk_at "k")
 have Zg2:=hQ "margin_without" Zml 663 662 pm4 X G (by walk_at "k")
 have Zg1:=hQ "kept_weight" Zd1 668 667 pm4 X G (by walk_at "k")
 have Zh3:=hQ "read_deed" Znj 1052 1051 pm7 X G (by walk_at "k")
 have Zf9:=hQ "_law_src" Zma 1088 1087 pm8 X G (by walk_at "k")
 have Zga:=hQ "_law_next" Zmb 1095 1094 pm8 X G (by walk_at "k")
 have Zgc:=hQ "_law_unlike" Zmc 1102 1101 pm8 X G (by walk_at "k")
 have Zgb:=hQ "_law_word" Zcx 1107 1106 pm8 X G (by walk_at "k")
 have Zgd:=hQ "_law_names" Zmd 1114 1113 pm8 X G (by walk_at "k")
 have Zh8:=hQ "_law_pick" Znn 1121 1120 pm8 X G (by walk_at "k")
 have Zh6:=hQ "_law_does" Znl 1128 1127 pm8 X G (by walk_at "k")
 have Zh7:=hQ "_law_flags" Znm 1135 1134 pm8 X G (by walk_at "k")
 have F_law:=Zf1 (K:=KK w.params) (x:="law") (qual:="law") (st:=Uz) (f:=1140) (oc:=.type "function") (od:=none) (an:=none) (osl:=#[]) (kV:=.none) (doc:=.none) (pm:=(.str "law_forsworn_k58_each_refusal_by_itself" 1625)) (cdv:=(.ref 1139)) (ct:=.none) (by kernel_rfl) (by kernel_rfl) (by kernel_rfl)
 have Zgm:=hMQ (K:=KK w.params) 607 "__init__" "Folk.__init__" Zmg 466 465 pm3 (by walk_at "k")
 have Zgq:=hMQ (K:=KK w.params) 607 "come" "Folk.come" Zmh 473 472 pm3 (by walk_at "k")
 have Zgv:=hMQ (K:=KK w.params) 607 "rise" "Folk.rise" Zmi 480 479 pm3 (by walk_at "k")
 have Zgy:=hMQ (K:=KK w.params) 607 "die" "Folk.die" Zmj 487 486 pm3 (by walk_at "k")
 have Zgt:=hMQ (K:=KK w.params) 607 "weight" "Folk.weight" Zgs 506 505 pm3 (by walk_at "k")
 have Zgl:=hMQ (K:=KK w.params) 607 "died_by" "Folk.died_by" Zmf 541 540 pm3 (by walk_at "k")
 have Zb9:=hMQ (K:=KK w.params) 607 "check_coming" "Folk.check_coming" Zgn 562 561 pm3 (by walk_at "k")
 have Zcb:=hMQ (K:=KK w.params) 607 "check_rise" "Folk.check_rise" Zgu 569 568 pm3 (by walk_at "k")
 have Zcd:=hMQ (K:=KK w.params) 607 "check_death" "Folk.check_death" Zgx 576 575 pm3 (by walk_at "k")
 have Zb7:=hMQ (K:=KK w.params) 607 "check_known" "Folk.check_known" Zgj 583 582 pm3 (by walk_at "k")
 have Zb8:=hMQ (K:=KK w.params) 607 "check_there" "Folk.check_there" Zgk 590 589 pm3 (by walk_at "k")
 have Zca:=hMQ (K:=KK w.params) 607 "check_living" "Folk.check_living" Zgr 597 596 pm3 (by walk_at "k")
 have Zcc:=hMQ (K:=KK w.params) 607 "check_untold" "Folk.check_untold" Zgw 604 603 pm3 (by walk_at "k")
 have TcFolk:Zvs (KK w.params) 607:=by
  refine⟨⟨?_,?_,?_,?_⟩,?_,?_,?_,?_⟩<;>(show _=_;kernel_rfl)
 have mkFolk:PySem.W.makesIn (KK w.params) 607=true:=by kernel_rfl
 have kcFolk:PySem.W.keepIn (KK w.params) (.ref 607)=true:=by kernel_rfl
 have gCFolk:mg "Folk" = some (.ref 607):=PySem.W.mg_of X G (by kernel_rfl)
 have Zhy:=hMQ (K:=KK w.params) 980 "__init__" "Moot.__init__" Znd 682 681 pm5 (by walk_at "k")
 have Zhq:=hMQ (K:=KK w.params) 980 "come" "Moot.come" Zm7 689 688 pm5 (by walk_at "k")
 have Zhu:=hMQ (K:=KK w.params) 980 "rise" "Moot.rise" Znb 696 695 pm5 (by walk_at "k")
 have Zhv:=hMQ (K:=KK w.params) 980 "die" "Moot.die" Znc 703 702 pm5 (by walk_at "k")
 have Zhp:=hMQ (K:=KK w.params) 980 "penance" "Moot.penance" Zm6 710 709 pm5 (by walk_at "k")
 have Zhr:=hMQ (K:=KK w.params) 980 "bring" "Moot.bring" Zm8 717 716 pm5 (by walk_at "k")
 have Zhs:=hMQ (K:=KK w.params) 980 "give" "Moot.give" Zm9 724 723 pm5 (by walk_at "k")
 have Zht:=hMQ (K:=KK w.params) 980 "pay" "Moot.pay" Zna 731 730 pm5 (by walk_at "k")
 have Zhl:=hMQ (K:=KK w.params) 980 "claim" "Moot.claim" Zm3 738 737 pm5 (by walk_at "k")
 have Zhm:=hMQ (K:=KK w.params) 980 "wergild" "Moot.wergild" Zm4 745 744 pm5 (by walk_at "k")
 have Zho:=hMQ (K:=KK w.params) 980 "accuse" "Moot.accuse" Zm5 752 751 pm5 (by walk_at "k")
 have Zh0:=hMQ (K:=KK w.params) 980 "now" "Moot.now" Zng 759 758 pm5 (by walk_at "k")
 have Zh4:=hMQ (K:=KK w.params) 980 "then" "Moot.then" Znk 923 922 pm5 (by walk_at "k")
 have Zhi:=hMQ (K:=KK w.params) 980 "forsworn_names" "Moot.forsworn_names" Zm0 937 936 pm5 (by walk_at "k")
 have Zhh:=hMQ (K:=KK w.params) 980 "weighed" "Moot.weighed" Zd3 942 941 pm5 (by walk_at "k")
 have Zhk:=hMQ (K:=KK w.params) 980 "try_case" "Moot.try_case" Zm2 949 948 pm5 (by walk_at "k")
 have Zhg:=hMQ (K:=KK w.params) 980 "check_named" "Moot.check_named" Zmz 956 955 pm5 (by walk_at "k")
 have Zha:=hMQ (K:=KK w.params) 980 "check_thing" "Moot.check_thing" Zmu 963 962 pm5 (by walk_at "k")
 have Zhj:=hMQ (K:=KK w.params) 980 "check_sides" "Moot.check_sides" Zm1 970 969 pm5 (by walk_at "k")
 have Zhc:=hMQ (K:=KK w.params) 980 "check_moments" "Moot.check_moments" Zmw 977 976 pm5 (by walk_at "k")
 have TcMoot:TxCMoot (KK w.params) 980:=by
  refine⟨⟨?_,?_,?_,?_⟩,?_,?_,?_,?_,?_,?_,?_,?_,?_⟩<;>(show _=_;kernel_rfl)
 have mkMoot:PySem.W.makesIn (KK w.params) 980=true:=by kernel_rfl
 have kcMoot:PySem.W.keepIn (KK w.params) (.ref 980)=true:=by kernel_rfl
 have gCMoot:mg "Moot" = some (.ref 980):=PySem.W.mg_of X G (by kernel_rfl)
 have Zhz:=hMQ (K:=KK w.params) 1029 "__init__" "Past.__init__" Znf 998 997 pm6 (by walk_at "k")
 have Zh1:=hMQ (K:=KK w.params) 1029 "undo" "Past.undo" Znh 1012 1011 pm6 (by walk_at "k")
 have Zh2:=hMQ (K:=KK w.params) 1029 "redo" "Past.redo" Zni 1019 1018 pm6 (by walk_at "k")
 have TcPast:TxCPast (KK w.params) 1029:=by
  refine⟨⟨?_,?_,?_,?_⟩,?_,?_⟩<;>(show _=_;kernel_rfl)
 have mkPast:PySem.W.makesIn (KK w.params) 1029=true:=by kernel_rfl
 have kcPast:PySem.W.keepIn (KK w.params) (.ref 1029)=true:=by kernel_rfl
 have gCPast:mg "Past" = some (.ref 1029):=PySem.W.mg_of X G (by kernel_rfl)
 have er:Er (KK w.params) mg cE errs:=Zyt X G (by kernel_rfl)
 have al_breakers_stands:mg "breakers_stands" = mg "breakers" := (PySem.W.mg_of X G (by kernel_rfl):mg "breakers_stands" = some (.ref 632)).trans (PySem.W.mg_of X G (by kernel_rfl):mg "breakers" = some (.ref 632)).symm
 have c_LAST_DAY:mg "LAST_DAY" = some (.int 9999 677):=PySem.W.mg_of X G (by kernel_rfl)
 have c_MOST_WEIGHT:mg "MOST_WEIGHT" = some (.int 1000 679):=PySem.W.mg_of X G (by kernel_rfl)
 have c_MOST_NEED:mg "MOST_NEED" = some (.int 12000 681):=PySem.W.mg_of X G (by kernel_rfl)
 have c_MOST_MONEY:mg "MOST_MONEY" = some (.int 1000000 683):=PySem.W.mg_of X G (by kernel_rfl)
 have c_LONGEST_NAME:mg "LONGEST_NAME" = some (.int 12 715):=PySem.W.mg_of X G (by kernel_rfl)
 have c_MOST_FOLK:mg "MOST_FOLK" = some (.int 40 731):=PySem.W.mg_of X G (by kernel_rfl)
 have c_ONES:mg "ONES" = some (.int 0 940):=PySem.W.mg_of X G (by kernel_rfl)
 have c_OTHERS:mg "OTHERS" = some (.int 1 942):=PySem.W.mg_of X G (by kernel_rfl)
 have c_NEED:mg "NEED" = some (.int 2 944):=PySem.W.mg_of X G (by kernel_rfl)
 have c_NAMED:mg "NAMED" = some (.int 3 946):=PySem.W.mg_of X G (by kernel_rfl)
 have c_MOST_THINGS:mg "MOST_THINGS" = some (.int 40 1026):=PySem.W.mg_of X G (by kernel_rfl)
 have c_MOST_CASES:mg "MOST_CASES" = some (.int 60 1028):=PySem.W.mg_of X G (by kernel_rfl)
 have c_MOST_SWEARERS:mg "MOST_SWEARERS" = some (.int 12 1030):=PySem.W.mg_of X G (by kernel_rfl)
 have c_MOST_MOMENTS:mg "MOST_MOMENTS" = some (.int 400 1032):=PySem.W.mg_of X G (by kernel_rfl)
 have T:Txt mg:=⟨PySem.W.mg_none_of X G (by kernel_rfl),PySem.W.mg_none_of X G (by kernel_rfl),PySem.W.mg_none_of X G (by kernel_rfl),PySem.W.mg_none_of X G (by kernel_rfl),PySem.W.mg_none_of X G (by kernel_rfl),PySem.W.mg_none_of X G (by kernel_rfl),PySem.W.mg_none_of X G (by kernel_rfl),PySem.W.mg_none_of X G (by kernel_rfl),PySem.W.mg_none_of X G (by kernel_rfl),PySem.W.mg_none_of X G (by kernel_rfl),PySem.W.mg_none_of X G (by kernel_rfl),PySem.W.mg_none_of X G (by kernel_rfl),PySem.W.mg_none_of X G (by kernel_rfl),PySem.W.mg_none_of X G (by kernel_rfl),PySem.W.mg_none_of X G (by kernel_rfl),PySem.W.mg_none_of X G (by kernel_rfl)⟩
 exact⟨PySem.W.fnOf "law" "law" (Wh Uz) (Yi Uz) (Zm Uz) .none .none .none (.str "law_forsworn_k58_each_refusal_by_itself" 1625) none (.ref 1139) .none,fun s v=>.of_eq rfl,fun base _ _=>by
  have F1:=Zyu (P:=Pz) (w:=w) (base:=base) Zf9 T
  have F2:=Zyv (P:=Pz) (w:=w) (base:=base) Zga T
  have F3:=Zyx Zgb T F2
  have F4:=Zyy (P:=Pz) (w:=w) (base:=base) Zgc T
  have F5:=Zyz Zgd T F2 F3 F4
  have F9:=Zy1 (P:=Pz) (w:=w) (base:=base) Zgf T ⟨_,c_LONGEST_NAME⟩
  have F10:=Zy2 (P:=Pz) (w:=w) (base:=base) Zb4 ⟨_,c_LAST_DAY⟩
  have F11:=Zy3 (P:=Pz) (w:=w) (base:=base) Zb6 ⟨_,c_MOST_WEIGHT⟩
  have E10:=Zzs (P:=Pz) (w:=w) (base:=base) Zb4 ⟨_,c_LAST_DAY⟩ er
  have E11:=Zzt (P:=Pz) (w:=w) (base:=base) Zb6 ⟨_,c_MOST_WEIGHT⟩ er
  have F12:=Zzv (P:=Pz) (w:=w) (base:=base) Zg9 ⟨_,c_MOST_MONEY⟩ er
  have F13:=Zzu (P:=Pz) (w:=w) (base:=base) Zg8 ⟨_,c_MOST_NEED⟩ er
  have M1:=Zy4 (P:=Pz) (w:=w) (mg:=mg) (base:=base) Zb7 TcFolk
  have M2:=Zy5 (P:=Pz) (w:=w) (mg:=mg) (base:=base) Zb8 TcFolk
  have M3:=Zy6 (P:=Pz) (w:=w) (mg:=mg) (base:=base) Zgl TcFolk
  have M4:=Zza Zca TcFolk M3
  have M5:=Zze (P:=Pz) (w:=w) (mg:=mg) (base:=base) Zcc TcFolk
  have X1:=Zzw (P:=Pz) (w:=w) (base:=base) Zb7 TcFolk er
  have X2:=Zzx (P:=Pz) (w:=w) (base:=base) Zb8 TcFolk er
  have X3:=Zzy Zca TcFolk er M3
  have X4:=Zzz (P:=Pz) (w:=w) (base:=base) Zcc TcFolk er
  have X5:=Zz0 Zb9 T TcFolk ⟨_,c_MOST_FOLK⟩ er F9 E10 E11
  have X6:=Zz1 Zcb TcFolk E10 E11 X1 X2 X3
  have X7:=Zz2 Zcd TcFolk er E10 X1 X2 X4
  have M6:=Zy8 Zb9 T TcFolk ⟨_,c_MOST_FOLK⟩ F9 F10 F11
  have M7:=Zy9 Zgq TcFolk M6
  have M8:=Zzb Zgt T TcFolk F10 M1 M2
  have M9:=Zzd Zgv TcFolk (Zzc Zcb TcFolk F10 F11 M1 M2 M4)
  have M10:=Zzg Zgy TcFolk (Zzf Zcd TcFolk F10 M1 M2 M5)
  have M0:=(Zy7 (P:=Pz) (w:=w) (mg:=mg) (base:=base) Zgm TcFolk).mks mkFolk kcFolk gCFolk
  have G1:=Zzi (P:=Pz) (w:=w) (base:=base) Zg1 T
  have G2:=Zzj Zg2 T ⟨_,c_ONES⟩ ⟨_,c_OTHERS⟩ ⟨_,c_NEED⟩ G1
  have G3:=Zzk Zg3 T ⟨_,c_NAMED⟩ G2
  have G4:=Zzm Zg4 T G3
  have G5:=Zzo (P:=Pz) (w:=w) (base:=base) Zg5 T ⟨_,c_NAMED⟩
  have G6:=Zzp Zg6 T G4 G5
  have G7:=Zz3 (P:=Pz) (w:=w) (base:=base) Zhb T er
  have G8:=Zz4 Zhd T ⟨_,c_ONES⟩ ⟨_,c_OTHERS⟩ er G7
  have G9:=Zz6 Zhe T G8 G6
  have G10:=Zzh (P:=Pz) (w:=w) (base:=base) Zg0 T
  have N1:=fun C=>Zoe (P:=Pz) (w:=w) (base:=base) (C:=C) Zhc T TcMoot er ⟨_,c_MOST_MOMENTS⟩
  have N2:=fun C=>Zoj (P:=Pz) (w:=w) (base:=base) (C:=C) Zha T TcMoot er
  have N3:=Zok Zhg TcFolk TcMoot er X1 X2 X3 (N2 _) G8
  have N0:=(Zvy Zhy TcMoot M0).mks mkMoot kcMoot gCMoot
  have N5:=Zpr Zhh TcFolk TcMoot M8
  have N6:=fun C=>Zod (P:=Pz) (w:=w) (mg:=mg) (base:=base) (C:=C) Zhi T TcMoot ⟨_,c_NAMED⟩
  have N7:=Zol Zhj T TcMoot er ⟨_,c_MOST_CASES⟩ ⟨_,c_MOST_SWEARERS⟩ (N1 _) (N6 _) N5 G10
  have N8:=Zo5 Zhk T TcMoot N5 G4
  have P1:=Ztq Zhl T TcMoot E10 F13 N3 N7 N8
  have P2:=Zps Zhm T TcMoot F12 E10 F13 N3 N7 N8
  have P3:=Zr3 Zho T TcMoot er E10 F13 N3 N7 (Fn.alias G9 al_breakers_stands) N8
  have P4:=Zpt Zhp T TcFolk TcMoot X1 X4 (N1 _)
  have P5:=Zvu Zhq TcFolk TcMoot X5 M7 (N1 _)
  have P6:=Ztr Zhr T TcMoot ⟨_,c_MOST_THINGS⟩ er E10 N3 (N1 _)
  have P7:=Zvv Zhs TcMoot E10 N3 (N1 _)
  have P8:=Zxt Zht TcMoot F12 E10 N3 (N1 _)
  have P9:=Zvx Zhu TcFolk TcMoot X6 M9 (N1 _)
  have P10:=Zxv Zhv TcFolk TcMoot X7 M10 (N1 _)
  have P11:=Z0b Zhx TcMoot er P5 P9 P10 P4 P6 P7 P8 P1 P2 P3
  have R1:=Zts Zh4 T TcMoot er N0 P11
  have R2:=fun C=>Zxx (P:=Pz) (w:=w) (base:=base) (C:=C) Zh0 T TcMoot
  have R3:=(Zv0 Zhz TcPast N0).mks mkPast kcPast gCPast
  have R6:=Z0c (P:=Pz) (w:=w) (base:=base) Zh3 T er (dP:=1034) (dS:=1042) (kP:=Z1n) (kS:=Z1o) ⟨PySem.W.mg_of X G (by kernel_rfl),PySem.W.mg_of X G (by kernel_rfl),⟨⟨7,by kernel_rfl⟩,by decide +kernel,by decide⟩,⟨⟨3,by kernel_rfl⟩,by decide +kernel,by decide⟩⟩ (by decide +kernel) (by decide +kernel)
  have R7:=Z0d Zh6 T TcMoot TcPast P11 R1 R3 (Zv1 Zh1 TcPast TcMoot er (R2 _)) (Zv2 Zh2 TcPast er) R6
  have R8:=Z0f Zh7 T er R7
  have R9:=Z0h Zh8 T F2
  exact(Z0k F_law T TcMoot F1 F2 F5 R9 N0 (R2 _) P5 P6 P1 P3 P10 R8).mono (by decide)⟩
end Law
open PySem PySem.W PyProof.Rows
set_option maxRecDepth 100000 in
set_option maxHeartbeats 0 in
theorem PySem.Challenge.cw_forsworn_k58_each_refusal_by_itself_holds : PySem.Challenge.rw_forsworn_k58_each_refusal_by_itself.Holds := by
 w_on;o_law
 refine holds_open (q:=Law.q) (loose:=["breakers_stands", "PLAIN", "SWORN"]) (Xt:=fun s=>xlAt Law.q [] s && recOk (RowW.records PySem.Challenge.rw_forsworn_k58_each_refusal_by_itself.row.toRowW) s) (XP:=XL Law.q []) (Yf:=Law.HK.obs) (Ya:=Law.HK.val) (YP:=Law.HK.says) (N:=13583) Law.left Law.HK.of Law.HK.keeps (fun s e=>xl_of s (Bool.and_eq_true_iff.mp e).1) XL.keeps (by rfl) (by rfl) (by rfl) (fun s e=>recFacts_of (Bool.and_eq_true_iff.mp e).2) (by rfl) (by first | assumption | decide +kernel) (by decide +kernel) ⟨rfl,rfl,rfl,rfl,rfl,by decide +kernel⟩ ?hw ?hc
 case hw=>w_witness2
 refine L2.walkLaw (l:=PySem.Challenge.rw_forsworn_k58_each_refusal_by_itself) rfl rfl (fun w h Y=>PySem.W.kIn_of (K:=Law.KK) Y) fun w mg fa h KX G hmg=>Law.all_mk KX G hmg
namespace Law
end Law
